/- Contracts of the program's functions, part 7: own work, joined in build order. -/
import Derived.Test.YtdobjanhmllloaaDoorJ6
namespace Go.Proofs.YtdobjanhmllloaaDoor
open Go.RowKit Go.Shelf
set_option maxRecDepth 100000
set_option linter.unusedVariables false
attribute [local go_sem] Oper.semAt_some
theorem sallV_any (sb : Nat) (w : World) : Calls Tryd.prog 7 #[.pointer (some ⟨sb, 0, none⟩)] w fun e w' => e = .returned (.func (.func 28) #[] #[.pointer (some ⟨w.heap.size, 0, none⟩)]) ∧ w' = w.alloc (.cells #[.pointer (some ⟨sb, 0, none⟩)] 24) := by
  have hmf : ∀ (fn : Fn) (first cap : Array Value) (w : World), (Instr.makeFunc fn first cap).run Tryd.prog w = .ok (.func fn first cap) w := fun _ _ _ _ => rfl
  go_enter Tryd.func7, Tryd.ntmps7
  go_wp2_with fail
  go_ret
  exact ⟨rfl, rfl⟩
def tbT (xs : List (Option Int × Int)) (i : Nat) : Int × Bool × Int := ((xs.getD i (none, 0)).2, (xs.getD i (none, 0)).1.isSome, ((xs.getD i (none, 0)).1).getD 0)
theorem allL_pre (T : Nat → Int × Bool × Int) (j d : Nat) : ∃ M, allL T (j + d) = allL T j ++ M := by
  induction d with
  | zero => exact ⟨[], by simp⟩
  | succ d ih =>
    obtain ⟨M, e⟩ := ih
    exact ⟨M ++ if (T (j + d)).2.1 then [(((j + d : Nat) : Int), (T (j + d)).1, (T (j + d)).2.2)] else [], by rw [← Nat.add_assoc, allL, e, List.append_assoc]⟩
theorem allL_at (T : Nat → Int × Bool × Int) {j m : Nat} (hj : j < m) (ht : (T j).2.1 = true) : (allL T m).getD (allL T j).length p60 = ((j : Int), (T j).1, (T j).2.2) ∧ (allL T j).length < (allL T m).length ∧ (allL T (j + 1)).length = (allL T j).length + 1 := by
  obtain ⟨M, e⟩ := allL_pre T (j + 1) (m - (j + 1))
  rw [show j + 1 + (m - (j + 1)) = m by omega] at e
  rw [e, allL, if_pos ht]
  simp [List.getD_eq_getElem?_getD]
theorem allL_skip (T : Nat → Int × Bool × Int) {j : Nat} (ht : (T j).2.1 = false) : (allL T (j + 1)).length = (allL T j).length := by
  rw [allL, ht]
  simp
def encS (L : List Pr6) (k : Nat) : Array Value := #[.agg #[.int .i64 (L.getD k p60).1, .int .i64 (L.getD k p60).2.1], .int .i64 (L.getD k p60).2.2]
structure Isl (xs : List (Option Int × Int)) (ys : List (Option Nat × Int)) (yb l : Nat) (J : Nat → World → Prop) (j : Nat) (W : World) : Prop where
  j : J (allL (tbT xs) j).length W
  cel : ∀ i, i < xs.length → CelV W (ys.getD i (none, 0)).1 (xs.getD i (none, 0)).1
  box : W.heap[yb]? = some (.cells #[.func (.yield l) #[] #[]] 79)
theorem yield_two {e : Ending} {A B K : Prop} (h : (e = .returned (.bool true) ∧ A ∧ K) ∨ (e = .returned (.bool false) ∧ B ∧ K)) : ∃ bb, e = .returned (.bool bb) ∧ ((bb = true ∧ A) ∨ (bb = false ∧ B)) ∧ K := by
  rcases h with ⟨h1, h2, h3⟩ | ⟨h1, h2, h3⟩
  · exact ⟨true, h1, .inl ⟨rfl, h2⟩, h3⟩
  exact ⟨false, h1, .inr ⟨rfl, h2⟩, h3⟩
set_option maxHeartbeats 2000000 in
theorem sall1_at (l Bs C : Nat) {sb lb nn : Nat} {last : Int} {cnt : Nat} {xs : List (Option Int × Int)} {r g N f b L cap : Nat} {G : Nat → Nat} {ys : List (Option Nat × Int)} {S : Nat → Prop} (J : Nat → World → Prop) (Jx : Unit → World → Prop) (W : World) (hJ : ∀ k A B, J k A → Below A.heap.size A B → J k B) (hJp : ∀ k A l o o', J k A → W.heap.size ≤ l → A.heap[l]? = some o → o.isCells = false → o.isWalk = false → J k (A.putObj l o')) (hXp : ∀ A l o o', Jx () A → W.heap.size ≤ l → A.heap[l]? = some o → o.isCells = false → o.isWalk = false → Jx () (A.putObj l o'))
    (hY : ∀ k W, k < (allL (tbT xs) xs.length).length → J k W → YieldAt Fence.wide (9 - 1) Tryd.prog l (encS (allL (tbT xs) xs.length) k) W fun e W' =>
      (e = .returned (.bool true) ∧ J (k + 1) W' ∧ Ksl sb C W W') ∨ (e = .returned (.bool false) ∧ Jx () W' ∧ Ksl sb C W W'))
    (hBs : W.cell? ⟨Bs, 0, none⟩ = some (.pointer (some ⟨sb, 0, none⟩))) (h : SpV W sb lb nn last cnt xs r g N f b L cap G ys S) (hC : C ≤ W.heap.size) (h0 : J 0 W) :
    CallsIn Fence.wide 9 Tryd.prog 28 #[.func (.yield l) #[] #[], .pointer (some ⟨Bs, 0, none⟩)] W fun e W' => (∃ v, e = .returned v) ∧
      (J (allL (tbT xs) xs.length).length W' ∨ Jx () W') := by
  obtain ⟨c0, _, _, _, _, hsl⟩ := h.cells
  have HR : Hid (SpV W sb lb nn last cnt xs r g N f b L cap G ys S ∧ (∀ k A B, J k A → Below A.heap.size A B → J k B) ∧ J 0 W) := ⟨h, hJ, h0⟩
  have HP : Hid ((∀ k A l o o', J k A → W.heap.size ≤ l → A.heap[l]? = some o → o.isCells = false → o.isWalk = false → J k (A.putObj l o')) ∧ (∀ A l o o', Jx () A → W.heap.size ≤ l → A.heap[l]? = some o → o.isCells = false → o.isWalk = false → Jx () (A.putObj l o'))) := ⟨hJp, hXp⟩
  have HYY : Hid _ := hY
  clear h hJ h0 hJp hXp hY
  obtain ⟨z, ez⟩ : ∃ z, z = W.heap.size := ⟨_, rfl⟩
  refine callsIn_of_wp_marks Tryd.func28 rfl trivial ?_ rfl
  simp only [Tryd.ntmps28, List.size_toArray, List.length_cons, List.length_nil, Nat.reduceAdd, Nat.reduceSub, Array.replicate_succ, Array.replicate_zero, List.push_toArray, List.append_toArray, List.nil_append, List.cons_append]
  have hBl : Bs < W.heap.size := World.block_lt_of_cell? _ _ hBs
  gi_wp2_with (refine ⟨trivial, ?_⟩; refine (callsIn_wide.2 (rallV_any r _)).mono ?_; rintro e w5 ⟨rfl, rfl⟩)
  obtain ⟨W0, hW0⟩ : ∃ W0, W0 = (W.alloc (.cells #[.func (.yield l) #[] #[]] 79)).alloc (.cells #[.pointer (some ⟨r, 0, none⟩)] 69) := ⟨_, rfl⟩
  have B0 : Below W.heap.size W W0 := by rw [hW0]; exact ((Below.refl _ _).alloc (Nat.le_refl _) _).alloc (by simp) _
  have sz0 : W0.heap.size = z + 2 := by rw [hW0, ez]; simp
  have yb0 : W0.heap[z]? = some (.cells #[.func (.yield l) #[] #[]] 79) := by
    rw [hW0, ez]
    exact (Below.heap_alloc _ _ _ (by simp)).trans (ax_at _ _)
  have cBs : W0.cell? ⟨z + 1, 0, none⟩ = some (.pointer (some ⟨r, 0, none⟩)) := by rw [hW0, ez]; simp [go_sem]
  rw [← hW0, ← ez]
  have HS0 : Hid (SpV W0 sb lb nn last cnt xs r g N f b L cap G ys S ∧ J 0 W0 ∧ W0.heap.size = z + 2 ∧ z = W.heap.size) := ⟨HR.out.1.mono B0, HR.out.2.1 _ _ _ HR.out.2.2 B0, sz0, ez⟩
  have hzl : W.heap.size ≤ W0.heap.size := B0.size
  have hyl : ys.length = xs.length := HR.out.1.len
  clear hW0 B0 hBs c0 hsl hBl sz0 ez
  refine range_atA (n := 9) (P := Tryd.prog) rfl (by omega) (gf := 41) (lb := #[.pointer (some ⟨z + 1, 0, none⟩)]) rfl trivial (enters_of Tryd.func41 (by kernel_rfl) rfl)
    (rall_at 8 (by omega) (z + 1) (W0.heap.size + 2) W0 cBs HS0.out.1) (fun h k => h.trans k) (fun A o o' h1 h2 => Ksl.put A _ o o' (by omega) h1 h2) (Below.refl _ _) (fun _ => rfl)
    (Isl xs ys z l J) (fun c A => c = .ret ∧ Jx () A)
    (fun k A B hA hB => ⟨HR.out.2.1 _ _ _ hA.j hB, fun i hi => (hA.cel i hi).kept fun k cs e => (hB.block _ (Array.getElem?_eq_some_iff.1 e).1).trans e, (hB.block _ (Array.getElem?_eq_some_iff.1 hA.box).1).trans hA.box⟩)
    (fun k A l o o' hA hl ho hc hw => ⟨HP.out.1 _ _ _ _ _ hA.j (Nat.le_trans hzl hl) ho hc hw, fun i hi => (hA.cel i hi).kept fun k cs e => put_cells ho hc e, put_cells ho hc hA.box⟩)
    (fun c A l o o' hA hl ho hc hw => ⟨hA.1, HP.out.2 _ _ _ _ hA.2 (Nat.le_trans hzl hl) ho hc hw⟩)
    ⟨HS0.out.2.1, fun i hi => (HS0.out.1.things i hi).2, yb0⟩
    (fun A B hB => Ksl.of_below hB)
    (fun k a' A => ∃ q, a' = { tmps := #[.func (.yield l) #[] #[], .pointer (some ⟨Bs, 0, none⟩), .pointer (some ⟨z, 0, none⟩), .int .i64 (k : Int), .pointer (some ⟨q, 0, none⟩), .pointer (some ⟨sb, 0, none⟩), .pointer (some ⟨sb, 0, none⟩), .pointer (some ⟨sb, 0, none⟩), .pointer (some ⟨r, 0, none⟩), .func (.func 41) #[] #[.pointer (some ⟨z + 1, 0, none⟩)], .int .i64 (k : Int), .agg #[pP (ys.getD k (none, 0)).1, .int .i64 (ys.getD k (none, 0)).2], undef, undef, undef, undef, undef, undef, undef, undef, undef, undef, undef, undef, undef, undef, undef], defers := [] } ∧ A.heap[q]? = some (.cells #[pP (ys.getD k (none, 0)).1, .int .i64 (ys.getD k (none, 0)).2] 73))
    (fun k a' A l o o' ⟨q, h1, h2⟩ hl ho hc hw => ⟨q, h1, put_cells ho hc h2⟩) ?assign ?body ?done ?stop
  case assign =>
    intro l' k A K hk hi hK
    obtain ⟨x1, ex1⟩ : ∃ x1, x1 = (ys.getD k (none, 0)).1 := ⟨_, rfl⟩
    obtain ⟨x2, ex2⟩ : ∃ x2, x2 = (ys.getD k (none, 0)).2 := ⟨_, rfl⟩
    obtain ⟨pp, epp⟩ : ∃ pp : Option Addr, pp = x1.map fun b => ⟨b, 0, none⟩ := ⟨_, rfl⟩
    have ep : pP x1 = .pointer pp := by rw [epp]; rfl
    have hK2 := hK _ (A.alloc (.cells #[pP (ys.getD k (none, 0)).1, .int .i64 (ys.getD k (none, 0)).2] 73)) ((Below.refl _ _).alloc (Nat.le_refl _) _) ⟨A.heap.size, rfl, ax_at _ _⟩
    have HK : Hid _ := hK2
    unfold encR
    rw [← ex1, ← ex2, ep] at HK ⊢
    clear hK hK2 ex1 ex2 epp ep hi
    gi_wp2_with fail
    exact HK.out
  case body =>
    rintro l' k a' A hk hl' hlr hi ⟨q, rfl, hq⟩
    obtain ⟨x1, ex1⟩ : ∃ x1, x1 = (ys.getD k (none, 0)).1 := ⟨_, rfl⟩
    obtain ⟨x2, ex2⟩ : ∃ x2, x2 = (ys.getD k (none, 0)).2 := ⟨_, rfl⟩
    have hkx : k < xs.length := by omega
    have e2 := (HS0.out.1.things k hkx).1
    have hcel := hi.cel k hkx
    rw [← ex1] at hcel
    rw [← ex2] at e2
    rw [← ex1, ← ex2] at hq ⊢
    have hql := (Array.getElem?_eq_some_iff.1 hq).1
    have hbl := (Array.getElem?_eq_some_iff.1 hi.box).1
    obtain ⟨tv, etv⟩ : ∃ tv, tv = (xs.getD k (none, 0)).1 := ⟨_, rfl⟩
    rw [← etv] at hcel
    cases x1 with
    | none =>
      have etv2 : tv = none := by
        cases tv with
        | none => rfl
        | some _ => exact absurd hcel (by simp [CelV])
      have q0 : A.cell? ⟨q, 0, none⟩ = some (.pointer none) := by simp [World.cell?, hq, pP]
      have HN : Hid (Isl xs ys z l J (k + 1) A) := ⟨by rw [allL_skip (tbT xs) (by unfold tbT; rw [← etv, etv2]; rfl)]; exact hi.j, hi.cel, hi.box⟩
      clear hi hq hcel etv etv2 e2 ex1 ex2
      simp only [pP, Option.map]
      gi_wp2_with fail
      exact ⟨KeepsL.refl _ _, Ksl.refl _ _ _, HN.out⟩
    | some c =>
      obtain ⟨v, etv2⟩ : ∃ v, tv = some v := by
        cases tv with
        | none => exact absurd hcel (by simp [CelV])
        | some v => exact ⟨v, rfl⟩
      rw [etv2] at hcel
      have hcel2 : A.heap[c]? = some (.cells #[Value.int .i64 v] 84) := hcel
      have q0 : A.cell? ⟨q, 0, none⟩ = some (.pointer (some ⟨c, 0, none⟩)) := by simp [World.cell?, hq, pP]
      have q1 : A.cell? ⟨q, 1, none⟩ = some (.int .i64 x2) := by simp [World.cell?, hq]
      have q2 : A.cell? ⟨z, 0, none⟩ = some (.func (.yield l) #[] #[]) := by simp [World.cell?, hi.box]
      have q3 : A.cell? ⟨c, 0, none⟩ = some (.int .i64 v) := by simp [World.cell?, hcel2]
      have hclt := (Array.getElem?_eq_some_iff.1 hcel2).1
      obtain ⟨p1, p2, p3⟩ := allL_at (tbT xs) hkx (by unfold tbT; rw [← etv, etv2]; rfl)
      have hYk := HYY.out _ A.drew p2 (HR.out.2.1 _ _ _ hi.j (bx_drew (Below.refl _ _) 1))
      unfold encS at hYk
      rw [p1] at hYk
      simp only [tbT, ← etv, etv2, ← e2, Option.getD_some] at hYk
      obtain ⟨fn, tmps, assign, body, hy, hR⟩ := YieldAt.inRound l' (YieldAt.wide (m' := 6) hYk)
      have HI : Hid _ := hi
      have H3 : Hid ((allL (tbT xs) (k + 1)).length = (allL (tbT xs) k).length + 1) := p3
      clear hi hq hcel hcel2 p1 p2 p3 hYk etv etv2 e2 ex1 ex2
      have q0' : A.drew.cell? ⟨q, 0, none⟩ = some (.pointer (some ⟨c, 0, none⟩)) := q0
      have q1' : A.drew.cell? ⟨q, 1, none⟩ = some (.int .i64 x2) := q1
      have q2' : A.drew.cell? ⟨z, 0, none⟩ = some (.func (.yield l) #[] #[]) := q2
      have q3' : A.drew.cell? ⟨c, 0, none⟩ = some (.int .i64 v) := q3
      simp only [pP, Option.map]
      gi_wp2_with fail
      refine wpIn_region_inv (Jy A.drew [.func (.yield l) #[] #[], .int .i64 (k : Int), .pointer (some ⟨q, 1, none⟩), .int .i64 x2, .agg #[.int .i64 (k : Int), .int .i64 x2], .pointer (some ⟨q, 0, none⟩), .pointer (some ⟨c, 0, none⟩), .pointer (some ⟨c, 0, none⟩), .pointer (some ⟨c, 0, none⟩), .int .i64 v] 10 [(3, 2), (4, 1), (4, 3), (6, 5), (7, 6), (8, 7), (9, 8)] (fun bb W3 => ((bb = true ∧ J ((allL (tbT xs) k).length + 1) W3) ∨ (bb = false ∧ Jx () W3)) ∧ Ksl sb C A.drew W3)) 27 (by kernel_rfl) rfl (by kernel_rfl) Jy.start (fun _ _ => ⟨?_, ?_, ?_, ?_, ?_, ?_, ?_, ?_, ?_, ?_, ?_, ?_, trivial⟩) ?_
      · intro L vs a9 w' hJ hF hP hL
        obtain ⟨hm, rfl⟩ := hJ.ahead (j := 0) (by omega) hL
        have q2 : (a9.tmps[2]?).getD undef = .pointer (some ⟨z, 0, none⟩) := hF.old 2 rfl
        exact run_valF (v := .func (.yield l) #[] #[]) rfl (fun c h => by cases h) (by simp [execOp, go_sem, q2, q2']) ⟨_, rfl, hJ.early (by omega) hL rfl (by simp)⟩
      · intro L vs a9 w' hJ hF hP hL
        obtain ⟨hm, rfl⟩ := hJ.ahead (j := 1) (by omega) hL
        have q3 : (a9.tmps[3]?).getD undef = .int .i64 (k : Int) := hF.old 3 rfl
        exact run_valF (v := .int .i64 (k : Int)) rfl (fun c h => by cases h) (by simp [execOp, go_sem, q3]) ⟨_, rfl, hJ.early (by omega) hL rfl (by simp)⟩
      · intro L vs a9 w' hJ hF hP hL
        obtain ⟨hm, rfl⟩ := hJ.ahead (j := 2) (by omega) hL
        have q4 : (a9.tmps[4]?).getD undef = .pointer (some ⟨q, 0, none⟩) := hF.old 4 rfl
        exact run_valF (v := .pointer (some ⟨q, 1, none⟩)) rfl (fun c h => by cases h) (by simp [execOp, go_sem, q4]) ⟨_, rfl, hJ.early (by omega) hL rfl (by simp)⟩
      · intro L vs a9 w' hJ hF hP hL
        obtain ⟨hm, rfl⟩ := hJ.ahead (j := 3) (by omega) hL
        have p2 : L 2 = true := hP ⟨2, .data⟩ (by simp) rfl
        have s17 := hF.slot 2 17 rfl p2
        rw [hJ.val 2 (by omega) p2] at s17
        simp only [List.getD_cons_zero, List.getD_cons_succ] at s17
        exact run_valF (v := .int .i64 x2) rfl (fun c h => by cases h) (by simp [execOp, go_sem, s17, q1']) ⟨_, rfl, hJ.early (by omega) hL rfl (by simp [p2])⟩
      · intro L vs a9 w' hJ hF hP hL
        obtain ⟨hm, rfl⟩ := hJ.ahead (j := 4) (by omega) hL
        have p1 : L 1 = true := hP ⟨1, .data⟩ (by simp) rfl
        have s16 := hF.slot 1 16 rfl p1
        rw [hJ.val 1 (by omega) p1] at s16
        simp only [List.getD_cons_zero, List.getD_cons_succ] at s16
        have p3 : L 3 = true := hP ⟨3, .data⟩ (by simp) rfl
        have s18 := hF.slot 3 18 rfl p3
        rw [hJ.val 3 (by omega) p3] at s18
        simp only [List.getD_cons_zero, List.getD_cons_succ] at s18
        exact run_valF (v := .agg #[.int .i64 (k : Int), .int .i64 x2]) rfl (fun c h => by cases h) (by simp [execOp, go_sem, s16, s18]) ⟨_, rfl, hJ.early (by omega) hL rfl (by simp [p1, p3])⟩
      · intro L vs a9 w' hJ hF hP hL
        obtain ⟨hm, rfl⟩ := hJ.ahead (j := 5) (by omega) hL
        have q4 : (a9.tmps[4]?).getD undef = .pointer (some ⟨q, 0, none⟩) := hF.old 4 rfl
        exact run_valF (v := .pointer (some ⟨q, 0, none⟩)) rfl (fun c h => by cases h) (by simp [execOp, go_sem, q4]) ⟨_, rfl, hJ.early (by omega) hL rfl (by simp)⟩
      · intro L vs a9 w' hJ hF hP hL
        obtain ⟨hm, rfl⟩ := hJ.ahead (j := 6) (by omega) hL
        have p5 : L 5 = true := hP ⟨5, .data⟩ (by simp) rfl
        have s20 := hF.slot 5 20 rfl p5
        rw [hJ.val 5 (by omega) p5] at s20
        simp only [List.getD_cons_zero, List.getD_cons_succ] at s20
        exact run_valF (v := .pointer (some ⟨c, 0, none⟩)) rfl (fun c h => by cases h) (by simp [execOp, go_sem, s20, q0']) ⟨_, rfl, hJ.early (by omega) hL rfl (by simp [p5])⟩
      · intro L vs a9 w' hJ hF hP hL
        obtain ⟨hm, rfl⟩ := hJ.ahead (j := 7) (by omega) hL
        have p6 : L 6 = true := hP ⟨6, .data⟩ (by simp) rfl
        have s21 := hF.slot 6 21 rfl p6
        rw [hJ.val 6 (by omega) p6] at s21
        simp only [List.getD_cons_zero, List.getD_cons_succ] at s21
        exact run_valF (v := .pointer (some ⟨c, 0, none⟩)) rfl (fun c h => by cases h) (by simp [execOp, go_sem, s21]) ⟨_, rfl, hJ.early (by omega) hL rfl (by simp [p6])⟩
      · intro L vs a9 w' hJ hF hP hL
        obtain ⟨hm, rfl⟩ := hJ.ahead (j := 8) (by omega) hL
        have p7 : L 7 = true := hP ⟨7, .data⟩ (by simp) rfl
        have s22 := hF.slot 7 22 rfl p7
        rw [hJ.val 7 (by omega) p7] at s22
        simp only [List.getD_cons_zero, List.getD_cons_succ] at s22
        exact run_valF (v := .pointer (some ⟨c, 0, none⟩)) rfl (fun c h => by cases h) (by simp [execOp, go_sem, s22]) ⟨_, rfl, hJ.early (by omega) hL rfl (by simp [p7])⟩
      · intro L vs a9 w' hJ hF hP hL
        obtain ⟨hm, rfl⟩ := hJ.ahead (j := 9) (by omega) hL
        have p8 : L 8 = true := hP ⟨8, .data⟩ (by simp) rfl
        have s23 := hF.slot 8 23 rfl p8
        rw [hJ.val 8 (by omega) p8] at s23
        simp only [List.getD_cons_zero, List.getD_cons_succ] at s23
        exact run_valF (v := .int .i64 v) rfl (fun c h => by cases h) (by simp [execOp, go_sem, s23, q3']) ⟨_, rfl, hJ.early (by omega) hL rfl (by simp [p8])⟩
      · intro L vs a9 w' hJ hF hP hL
        obtain ⟨rfl, _⟩ := hJ.bef hL
        have p0 : L 0 = true := hP ⟨0, .data⟩ (by simp) rfl
        have s15 := hF.slot 0 15 rfl p0
        rw [hJ.val 0 (by omega) p0] at s15
        simp only [List.getD_cons_zero] at s15
        have p4 : L 4 = true := hP ⟨4, .data⟩ (by simp) rfl
        have s19 := hF.slot 4 19 rfl p4
        rw [hJ.val 4 (by omega) p4] at s19
        simp only [List.getD_cons_zero, List.getD_cons_succ] at s19
        have p9 : L 9 = true := hP ⟨9, .data⟩ (by simp) rfl
        have s24 := hF.slot 9 24 rfl p9
        rw [hJ.val 9 (by omega) p9] at s24
        simp only [List.getD_cons_zero, List.getD_cons_succ] at s24
        refine run_roundF (l' := l) (tmps := tmps) (assign := assign) (body := body) rfl (fun c h => by cases h) (by simp [execOp, go_sem, s15, s19, s24, hy]) hR fun e W3 h3 => ?_
        obtain ⟨bb, rfl, h4⟩ := yield_two h3
        have z3 : L 3 = true := hJ.dep (4, 3) (by simp) p4
        have z1 : L 1 = true := hJ.dep (4, 1) (by simp) p4
        have z2 : L 2 = true := hJ.dep (3, 2) (by simp) z3
        have z8 : L 8 = true := hJ.dep (9, 8) (by simp) p9
        have z7 : L 7 = true := hJ.dep (8, 7) (by simp) z8
        have z6 : L 6 = true := hJ.dep (7, 6) (by simp) z7
        have z5 : L 5 = true := hJ.dep (6, 5) (by simp) z6
        exact ⟨_, rfl, _, rfl, hJ.call hL (fun j hj => by match j, hj with | 0, _ => exact p0 | 1, _ => exact z1 | 2, _ => exact z2 | 3, _ => exact z3 | 4, _ => exact p4 | 5, _ => exact z5 | 6, _ => exact z6 | 7, _ => exact z7 | 8, _ => exact z8 | 9, _ => exact p9) (by decide) (by decide) h4⟩
      · intro L vs a9 w' hJ hF hP hL
        have pm : L 10 = true := hP ⟨10, .data⟩ (by simp) rfl
        obtain ⟨b, eb, hJ2⟩ := hJ.last pm
        have sm := hF.slot 10 25 rfl pm
        rw [eb] at sm
        exact run_valF (v := .bool (!b)) rfl (fun c h => by cases h) (by simp [execOp, go_sem, sm]) ⟨_, rfl, hJ2 (by decide)⟩
      intro L vs w' hA hJ
      obtain ⟨_, bb, e10, h3, e11⟩ := hJ.aft (hA 10 (by decide))
      have e11 := e11 (hA 11 (by decide))
      obtain ⟨W3, rfl⟩ : ∃ W3, W3 = w' := ⟨_, rfl⟩
      have u0 := hJ.val 0 (by omega) (hA 0 (by decide))
      simp only [putL, Act.put, List.setIfInBounds_toArray, List.set_cons_zero, List.set_cons_succ, Nat.reduceAdd]
      simp only [e11]
      clear u0 e10 e11 hJ hA q0' q1' q2' q3' hy hR
      generalize vs = vs0
      have K3 : Hid ((bb = true ∧ J ((allL (tbT xs) k).length + 1) W3) ∨ (bb = false ∧ Jx () W3)) := h3.1
      have hk3 : Hid (Ksl sb C A.drew W3) := h3.2
      clear h3
      have HK : Hid (KeepsL W0.heap.size A W3 ∧ Ksl sb (W0.heap.size + 2) A W3) := by
        have h1 : Ksl sb C A W3 := (Ksl.of_below (bx_drew (Below.refl _ _) 1)).trans hk3.out
        have h2 : C ≤ W0.heap.size := Nat.le_trans hC hzl
        exact ⟨h1.keeps h2, h1.up (by omega)⟩
      cases bb with
      | true =>
        have HJ : Hid (Isl xs ys z l J (k + 1) W3) := by
          refine ⟨?_, fun i hi => (HI.out.cel i hi).kept fun k cs e => HK.out.2.oth _ _ _ e (.inl rfl), HK.out.2.oth _ _ _ HI.out.box (.inr rfl)⟩
          rw [H3.out]
          rcases K3.out with h | h
          · exact h.2
          cases h.1
        gi_wp2_with fail
        exact ⟨HK.out.1, HK.out.2, HJ.out⟩
      | false =>
        have HJ : Hid (Jx () W3) := by
          rcases K3.out with h | h
          · cases h.1
          exact h.2
        gi_wp2_with fail
        exact ⟨HK.out.1, HK.out.2, rfl, HJ.out⟩
  case done =>
    intro D A hD hi hm
    have HE : Hid (J (allL (tbT xs) xs.length).length (A.putObj D (.deferred none))) := by
      have h1 := hi.j
      rw [hyl] at h1
      exact HP.out.1 _ _ _ _ _ h1 (Nat.le_trans hzl hD) hm rfl rfl
    have HM : Hid _ := hm
    clear hi hm
    gi_wp2_with fail
    refine ⟨by simp, .inl ⟨_, _, rfl, run_takeDeferred HM.out, ?_⟩⟩
    exact ⟨_, results_none rfl _ _ _, ⟨_, rfl⟩, .inl HE.out⟩
  case stop =>
    rintro D c A hD ⟨rfl, hx⟩ hm
    have HE : Hid (Jx () (A.putObj D (.deferred none))) := HP.out.2 _ _ _ _ hx (Nat.le_trans hzl hD) hm rfl rfl
    have HM : Hid _ := hm
    clear hx hm
    gi_wp2_with fail
    refine ⟨by simp, .inl ⟨_, _, rfl, run_takeDeferred HM.out, ?_⟩⟩
    exact ⟨_, results_none rfl _ _ _, ⟨_, rfl⟩, .inr HE.out⟩
theorem sall_at (Bs C : Nat) {sb lb nn : Nat} {last : Int} {cnt : Nat} {xs : List (Option Int × Int)} (w : World) (hBs : w.cell? ⟨Bs, 0, none⟩ = some (.pointer (some ⟨sb, 0, none⟩))) (h : SlV w sb lb nn last cnt xs) :
    SeqC Fence.wide 9 Tryd.prog 28 #[.pointer (some ⟨Bs, 0, none⟩)] (encS (allL (tbT xs) xs.length)) (Ksl sb C) (allL (tbT xs) xs.length).length C w := by
  intro l J Jx W hW hC hJ hJp hXp hY h0
  obtain ⟨r, g, N, f, b, L, cap, G, ys, h⟩ := h
  exact sall1_at l Bs C J Jx W hJ hJp hXp hY (cell_later hW hBs) (h.mono hW) hC h0
attribute [local go_sem] Oper.semAt_some
def Bx (W : World) (b : Nat) (t : TypeId) (v : Value) : Prop := W.heap[b]? = some (.cells #[v] t)
theorem Bx.cell {W : World} {b : Nat} {t : TypeId} {v : Value} (h : Bx W b t v) : W.cell? ⟨b, 0, none⟩ = some v := by simp [World.cell?, show W.heap[b]? = _ from h]
theorem Bx.fr {W : World} {b : Nat} {t : TypeId} {v : Value} (h : Bx W b t v) : W.frozen? ⟨b, 0, none⟩ = false := by simp [World.frozen?, show W.heap[b]? = _ from h]
theorem Bx.lt {W : World} {b : Nat} {t : TypeId} {v : Value} (h : Bx W b t v) : b < W.heap.size := (Array.getElem?_eq_some_iff.1 h).1
theorem Bx.go {W W' : World} {b : Nat} {t : TypeId} {v : Value} (h : Bx W b t v) (hB : Below W.heap.size W W') : Bx W' b t v := (hB.block _ h.lt).trans h
theorem Bx.put {W : World} {b l : Nat} {t : TypeId} {v : Value} {o : Obj} (h : Bx W b t v) (o' : Obj) (h1 : W.heap[l]? = some o) (h2 : o.isCells = false) : Bx (W.putObj l o') b t v := put_cells h1 h2 h
theorem Bx.set {W : World} {b : Nat} {t : TypeId} {v : Value} (h : Bx W b t v) (u : Value) : Bx (W.setCell ⟨b, 0, none⟩ u) b t u := (heap_setCell_same W b 0 _ _ _ h).trans (by simp)
theorem Bx.other {W : World} {b b' : Nat} {t : TypeId} {v : Value} (h : Bx W b t v) (hn : b ≠ b') (i : Nat) (u : Value) : Bx (W.setCell ⟨b', i, none⟩ u) b t v := (Below.heap_setCell _ _ _ _ hn).trans h
theorem below_putC {n0 : Nat} {w W : World} {l : Nat} {o : Obj} (h : Below n0 w W) (o' : Obj) (hl : W.heap[l]? = some o) (hn : n0 ≤ l) : Below n0 w (W.putObj l o') :=
  ⟨h.os, h.tape, h.output, by simpa [World.putObj] using h.size, fun k hk => (World.putObj_heap_other (by omega)).trans (h.block k hk)⟩
def als (w : World) : List Obj → World
  | [] => w
  | o :: l => als (w.alloc o) l
theorem als_size (l : List Obj) : ∀ w : World, (als w l).heap.size = w.heap.size + l.length := by
  induction l with
  | nil => intro w; rfl
  | cons o l ih => intro w; unfold als; rw [ih, World.size_alloc, List.length_cons]; omega
theorem als_old (l : List Obj) : ∀ (w : World) (k : Nat), k < w.heap.size → (als w l).heap[k]? = w.heap[k]? := by
  induction l with
  | nil => intro w k hk; rfl
  | cons o l ih => intro w k hk; unfold als; rw [ih _ _ (by rw [World.size_alloc]; omega)]; exact Below.heap_alloc _ _ _ hk
theorem als_at (l : List Obj) : ∀ (w : World) (i : Nat), i < l.length → (als w l).heap[w.heap.size + i]? = l[i]? := by
  induction l with
  | nil => intro w i hi; cases hi
  | cons o l ih =>
    intro w i hi
    unfold als
    cases i with
    | zero => rw [als_old _ _ _ (by rw [World.size_alloc]; omega)]; exact ax_at w o
    | succ i =>
      have := ih (w.alloc o) i (by simpa using hi)
      rw [World.size_alloc] at this
      rw [show w.heap.size + (i + 1) = w.heap.size + 1 + i by omega, this]
      rfl
theorem als_below (l : List Obj) (w : World) : Below w.heap.size w (als w l) := by
  have key : ∀ (l : List Obj) (v : World), Below w.heap.size w v → Below w.heap.size w (als v l) := fun l => by
    induction l with
    | nil => intro v h; exact h
    | cons o l ih => intro v h; exact ih _ (bx_al h)
  exact key l w (Below.refl _ _)
structure Gb6 (n0 : Nat) (w W : World) (v : Value) (stop k : Int) (b : Bool) : Prop where
  b0 : Bx W n0 55 v
  b1 : Bx W (n0 + 1) 3 (.int .i64 stop)
  b2 : Bx W (n0 + 2) 4 (.bool b)
  b3 : Bx W (n0 + 3) 3 (.int .i64 k)
  bel : Below n0 w W
theorem Gb6.go {n0 : Nat} {w W W' : World} {v : Value} {stop k : Int} {b : Bool} (h : Gb6 n0 w W v stop k b) (hB : Below W.heap.size W W') (hn : n0 ≤ w.heap.size) : Gb6 n0 w W' v stop k b :=
  ⟨h.b0.go hB, h.b1.go hB, h.b2.go hB, h.b3.go hB, h.bel.trans (hB.mono (Nat.le_trans hn h.bel.size))⟩
theorem Gb6.put {n0 : Nat} {w W : World} {v : Value} {stop k : Int} {b : Bool} {l : Nat} {o : Obj} (h : Gb6 n0 w W v stop k b) (o' : Obj) (h1 : W.heap[l]? = some o) (h2 : o.isCells = false) (hn : n0 ≤ l) : Gb6 n0 w (W.putObj l o') v stop k b :=
  ⟨h.b0.put o' h1 h2, h.b1.put o' h1 h2, h.b2.put o' h1 h2, h.b3.put o' h1 h2, below_putC h.bel o' h1 hn⟩
theorem Gb6.setN {n0 : Nat} {w W : World} {v : Value} {stop k : Int} {b : Bool} (h : Gb6 n0 w W v stop k b) (k' : Int) : Gb6 n0 w (W.setCell ⟨n0 + 3, 0, none⟩ (.int .i64 k')) v stop k' b :=
  ⟨h.b0.other (by omega) _ _, h.b1.other (by omega) _ _, h.b2.other (by omega) _ _, h.b3.set _, h.bel.setCell (p := ⟨n0 + 3, 0, none⟩) (by simp) _⟩
theorem Gb6.setB {n0 : Nat} {w W : World} {v : Value} {stop k : Int} {b : Bool} (h : Gb6 n0 w W v stop k b) (b' : Bool) : Gb6 n0 w (W.setCell ⟨n0 + 2, 0, none⟩ (.bool b')) v stop k b' :=
  ⟨h.b0.other (by omega) _ _, h.b1.other (by omega) _ _, h.b2.set _, h.b3.other (by omega) _ _, h.bel.setCell (p := ⟨n0 + 2, 0, none⟩) (by simp) _⟩
theorem Ksl.bx {sb : Nat} {W : World} {b : Nat} {t : TypeId} {v : Value} (h : Bx W b t v) (ht : t = 3 ∨ t = 4) (u : Value) : Ksl sb 0 W (W.setCell ⟨b, 0, none⟩ u) :=
  Ksl.box h (by rcases ht with rfl | rfl <;> decide) 0 u
set_option maxHeartbeats 4000000 in
theorem goes6_any {w : World} {sb lb nn : Nat} {last : Int} {cnt : Nat} {xs : List (Option Int × Int)} (h : SlV w sb lb nn last cnt xs) (base : Nat) (v : Value) (hp : Pw base w v (allL (tbT xs) xs.length)) (stop : Int) (hle : xs.length ≤ 65536) :
    Calls Tryd.prog 20 #[.pointer (some ⟨sb, 0, none⟩), v, .int .i64 stop] w fun e w' => e = .returned (.bool true) ∧ Below w.heap.size w w' := by
  obtain ⟨Lx, eL⟩ : ∃ Lx, Lx = allL (tbT xs) xs.length := ⟨_, rfl⟩
  rw [← eL] at hp
  have hLl : Lx.length ≤ 65536 := by rw [eL]; exact Nat.le_trans (allL_len _ _) hle
  obtain ⟨a, cap, rfl, hc1, hc2, hc⟩ := hp.sl
  obtain ⟨len, elen⟩ : ∃ len, len = Lx.length := ⟨_, rfl⟩
  rw [← elen] at hc1 hc hLl ⊢
  obtain ⟨n0, en0⟩ : ∃ n0, n0 = w.heap.size := ⟨_, rfl⟩
  have HH : Hid (SlV w sb lb nn last cnt xs) := h
  have HC : Hid (0 < len → ∃ g, a = some ⟨g, 0, none⟩ ∧ base ≤ g ∧ g < w.heap.size ∧ ∀ i, i < len → w.cell? ⟨g, i * 3, none⟩ = some (.int .i64 (Lx.getD i p60).1) ∧ w.cell? ⟨g, i * 3 + 1, none⟩ = some (.int .i64 (Lx.getD i p60).2.1) ∧ w.cell? ⟨g, i * 3 + 2, none⟩ = some (.int .i64 (Lx.getD i p60).2.2)) := hc
  have HL : Hid (Lx = allL (tbT xs) xs.length ∧ len = Lx.length) := ⟨eL, elen⟩
  clear h hp hc eL elen
  refine (callsIn_wide (n := 9)).1 ?_
  refine callsIn_of_wp_marks Tryd.func20 rfl trivial ?_ rfl
  simp only [Tryd.ntmps20, List.size_toArray, List.length_cons, List.length_nil, Nat.reduceAdd, Nat.reduceSub, Array.replicate_succ, Array.replicate_zero, List.push_toArray, List.append_toArray, List.nil_append, List.cons_append]
  gi_wp2_with (refine ⟨trivial, ?_⟩; refine (callsIn_wide.2 (sallV_any sb _)).mono ?_; rintro e w5 ⟨rfl, rfl⟩)
  simp only [Nat.add_assoc, Nat.reduceAdd]
  obtain ⟨W0, hW0⟩ : ∃ W0, W0 = als w [.cells #[.slice a len cap] 55, .cells #[.int .i64 stop] 3, .cells #[.bool false] 4, .cells #[.int .i64 0] 3, .cells #[.pointer (some ⟨sb, 0, none⟩)] 24] := ⟨_, rfl⟩
  have hW1 := hW0
  simp only [als] at hW1
  rw [← hW1, ← en0]
  clear hW1
  have B0 : Below w.heap.size w W0 := by
    rw [hW0]
    exact als_below _ _
  have sz0 : W0.heap.size = n0 + 5 := by rw [hW0, en0, als_size]; rfl
  have N0 : Hid (Gb6 n0 w W0 (.slice a len cap) stop 0 false) := by
    rw [en0]
    refine ⟨?_, ?_, ?_, ?_, B0⟩
    · rw [hW0]; exact als_at _ w 0 (by simp)
    · rw [hW0]; exact als_at _ w 1 (by simp)
    · rw [hW0]; exact als_at _ w 2 (by simp)
    rw [hW0]; exact als_at _ w 3 (by simp)
  have cBs : W0.cell? ⟨n0 + 4, 0, none⟩ = some (.pointer (some ⟨sb, 0, none⟩)) := by
    have e : W0.heap[n0 + 4]? = some (.cells #[.pointer (some ⟨sb, 0, none⟩)] 24) := by rw [hW0, en0]; exact als_at _ w 4 (by simp)
    simp [World.cell?, e]
  have HS : Hid (W0.heap.size = n0 + 5 ∧ n0 = w.heap.size ∧ Below w.heap.size w W0) := ⟨sz0, en0, B0⟩
  have hls : n0 ≤ W0.heap.size := by omega
  have hnw : n0 ≤ w.heap.size := by omega
  have SQ := sall_at (n0 + 4) (W0.heap.size + 2) W0 cBs (HH.out.mono B0)
  rw [← HL.out.1, ← HL.out.2] at SQ
  clear hW0 B0 en0 sz0
  refine range_atA (n := 9) (P := Tryd.prog) rfl (by omega) (gf := 28) (lb := #[.pointer (some ⟨n0 + 4, 0, none⟩)]) rfl trivial (enters_of Tryd.func28 (by kernel_rfl) rfl)
    SQ.wide (fun h k => h.trans k) (fun A o o' h1 h2 => Ksl.put A _ o o' (by omega) h1 h2) (Below.refl _ _) (fun _ => rfl)
    (fun k A => Gb6 n0 w A (.slice a len cap) stop (k : Int) false) (fun c A => c = .ret ∧ ∃ k, Gb6 n0 w A (.slice a len cap) stop k true)
    (fun k A B hA hB => hA.go hB hnw)
    (fun k A l o o' hA hl ho hc hw => hA.put o' ho hc (Nat.le_trans hls hl))
    (fun c A l o o' ⟨h1, k, hA⟩ hl ho hc hw => ⟨h1, k, hA.put o' ho hc (Nat.le_trans hls hl)⟩)
    N0.out
    (fun A B hB => Ksl.of_below hB)
    (fun k a' A => ∃ q, a' = { tmps := #[.pointer (some ⟨sb, 0, none⟩), .slice a len cap, .int .i64 stop, undef, .pointer (some ⟨n0, 0, none⟩), .pointer (some ⟨n0 + 1, 0, none⟩), .pointer (some ⟨n0 + 2, 0, none⟩), .pointer (some ⟨n0 + 3, 0, none⟩), .pointer (some ⟨q, 0, none⟩), .int .i64 (Lx.getD k p60).2.2, .pointer (some ⟨sb, 0, none⟩), .func (.func 28) #[] #[.pointer (some ⟨n0 + 4, 0, none⟩)], .agg #[.int .i64 (Lx.getD k p60).1, .int .i64 (Lx.getD k p60).2.1], .int .i64 (Lx.getD k p60).2.2, undef, undef, undef, undef, undef, undef, undef, undef, undef, undef, undef, undef, undef, undef, undef, undef, undef, undef, undef, undef, undef, undef, undef, undef, undef, undef, undef, undef, undef, undef, undef], defers := [] } ∧ A.heap[q]? = some (.cells #[.int .i64 (Lx.getD k p60).1, .int .i64 (Lx.getD k p60).2.1] 38))
    (fun k a' A l o o' ⟨q, h1, h2⟩ hl ho hc hw => ⟨q, h1, put_cells ho hc h2⟩) ?assign ?body ?done ?stop
  case assign =>
    intro l' k A K hk hi hK
    have HK : Hid _ := hK _ (A.alloc (.cells #[.int .i64 (Lx.getD k p60).1, .int .i64 (Lx.getD k p60).2.1] 38)) ((Below.refl _ _).alloc (Nat.le_refl _) _) ⟨A.heap.size, rfl, ax_at _ _⟩
    unfold encS
    generalize Lx.getD k p60 = x at HK ⊢
    obtain ⟨x1, x2, x3⟩ := x
    simp only at HK ⊢
    clear hK hi
    gi_wp2_with fail
    exact HK.out
  case body =>
    rintro l' k a' A hk hl' hlr hi ⟨q, rfl, hq⟩
    obtain ⟨gp, rfl, hg1, hg2, hg3⟩ := HC.out (by omega)
    obtain ⟨k0, k1, k2⟩ := hg3 k hk
    generalize Lx.getD k p60 = x at hq k0 k1 k2 ⊢
    obtain ⟨x1, x2, x3⟩ := x
    simp only at hq k0 k1 k2 ⊢
    have hbel := hi.bel
    have hA0 : Below w.heap.size w A := by rw [← HS.out.2.1]; exact hbel
    have kp0 : A.drew.cell? ⟨gp, k * 3, none⟩ = some (.int .i64 x1) := bx_cell hA0 k0
    have kp1 : A.drew.cell? ⟨gp, k * 3 + 1, none⟩ = some (.int .i64 x2) := bx_cell hA0 k1
    have kp2 : A.drew.cell? ⟨gp, k * 3 + 2, none⟩ = some (.int .i64 x3) := bx_cell hA0 k2
    have kh0 : A.drew.cell? ⟨q, 0, none⟩ = some (.int .i64 x1) := by show A.cell? _ = _; simp [World.cell?, hq]
    have kh1 : A.drew.cell? ⟨q, 1, none⟩ = some (.int .i64 x2) := by show A.cell? _ = _; simp [World.cell?, hq]
    have kw : A.drew.cell? ⟨n0, 0, none⟩ = some (.slice (some ⟨gp, 0, none⟩) len cap) := hi.b0.cell
    have kn : A.drew.cell? ⟨n0 + 3, 0, none⟩ = some (.int .i64 (k : Int)) := hi.b3.cell
    have hk2 : ¬ (len : Int) ≤ (k : Int) := by omega
    have hk3 : (k : Int) < (len : Int) := by omega
    have HI : Hid _ := hi
    clear k0 k1 k2 hq hi hbel hA0 hg3
    gi_wp2_with fail
    refine wpIn_region_inv (Jq A.drew [.int .i64 (k : Int), .slice (some ⟨gp, 0, none⟩) len cap, .int .i64 (len : Int), .bool false, .bool false, .agg #[.int .i64 x1, .int .i64 x2], .slice (some ⟨gp, 0, none⟩) len cap, .int .i64 (k : Int), .pointer (some ⟨gp, k * 3, none⟩), .pointer (some ⟨gp, k * 3, none⟩), .agg #[.int .i64 x1, .int .i64 x2], .bool false, .bool false, .bool false, .int .i64 x3, .slice (some ⟨gp, 0, none⟩) len cap, .int .i64 (k : Int), .pointer (some ⟨gp, k * 3, none⟩), .pointer (some ⟨gp, k * 3 + 2, none⟩), .int .i64 x3, .bool false, .bool false]) 45 (by kernel_rfl) rfl (by kernel_rfl) (Jq.start _ _) (fun _ _ => ⟨?_, ?_, ?_, ?_, ?_, ?_, ?_, ?_, ?_, ?_, ?_, ?_, ?_, ?_, ?_, ?_, ?_, ?_, ?_, ?_, ?_, ?_, trivial⟩) ?_
    · intro L vs a9 w' hJ hF hP hL
      obtain ⟨rfl, hv⟩ := hJ
      have q7 : (a9.tmps[7]?).getD undef = .pointer (some ⟨n0 + 3, 0, none⟩) := hF.old 7 rfl
      exact run_valF (v := .int .i64 (k : Int)) rfl (fun c h => by cases h) (by simp [execOp, go_sem, q7, kn]) ⟨_, rfl, Jq.step ⟨rfl, hv⟩ rfl⟩
    · intro L vs a9 w' hJ hF hP hL
      obtain ⟨rfl, hv⟩ := hJ
      have q4 : (a9.tmps[4]?).getD undef = .pointer (some ⟨n0, 0, none⟩) := hF.old 4 rfl
      exact run_valF (v := .slice (some ⟨gp, 0, none⟩) len cap) rfl (fun c h => by cases h) (by simp [execOp, go_sem, q4, kw]) ⟨_, rfl, Jq.step ⟨rfl, hv⟩ rfl⟩
    · intro L vs a9 w' hJ hF hP hL
      obtain ⟨rfl, hv⟩ := hJ
      have p1 : L 1 = true := hP ⟨1, .data⟩ (by simp) rfl
      have s15 := hF.slot 1 15 rfl p1
      rw [hv 1 p1] at s15
      simp only [List.getD_cons_zero, List.getD_cons_succ] at s15
      exact run_valF (v := .int .i64 (len : Int)) rfl (fun c h => by cases h) (by simp [go_sem, s15]) ⟨_, rfl, Jq.step ⟨rfl, hv⟩ rfl⟩
    · intro L vs a9 w' hJ hF hP hL
      obtain ⟨rfl, hv⟩ := hJ
      have p0 : L 0 = true := hP ⟨0, .data⟩ (by simp) rfl
      have s14 := hF.slot 0 14 rfl p0
      rw [hv 0 p0] at s14
      simp only [List.getD_cons_zero] at s14
      have p2 : L 2 = true := hP ⟨2, .data⟩ (by simp) rfl
      have s16 := hF.slot 2 16 rfl p2
      rw [hv 2 p2] at s16
      simp only [List.getD_cons_zero, List.getD_cons_succ] at s16
      exact run_valF (v := .bool false) rfl (fun c h => by cases h) (by simp [execOp, go_sem, s14, s16, hk]) ⟨_, rfl, Jq.step ⟨rfl, hv⟩ rfl⟩
    · intro L vs a9 w' hJ hF hP hL
      obtain ⟨rfl, hv⟩ := hJ
      have p3 : L 3 = true := hP ⟨3, .data⟩ (by simp) rfl
      have s17 := hF.slot 3 17 rfl p3
      rw [hv 3 p3] at s17
      simp only [List.getD_cons_zero, List.getD_cons_succ] at s17
      exact run_valF (v := .bool false) rfl (fun c h => by cases h) (by simp [execOp, go_sem, s17]) ⟨_, rfl, Jq.step ⟨rfl, hv⟩ rfl⟩
    · intro L vs a9 w' hJ hF hP hL
      obtain ⟨rfl, hv⟩ := hJ
      have q8 : (a9.tmps[8]?).getD undef = .pointer (some ⟨q, 0, none⟩) := hF.old 8 rfl
      have pg : L 4 = true := hP ⟨4, .guard⟩ (by simp) rfl
      have sg := hF.slot 4 18 rfl pg
      rw [hv 4 pg] at sg
      simp only [List.getD_cons_zero, List.getD_cons_succ] at sg
      exact run_valF (v := .agg #[.int .i64 x1, .int .i64 x2]) (wanted_of rfl rfl sg) (fun c h => by cases h) (by simp [execOp, go_sem, q8, kh0, kh1]) ⟨_, rfl, Jq.step ⟨rfl, hv⟩ rfl⟩
    · intro L vs a9 w' hJ hF hP hL
      obtain ⟨rfl, hv⟩ := hJ
      have q4 : (a9.tmps[4]?).getD undef = .pointer (some ⟨n0, 0, none⟩) := hF.old 4 rfl
      have pg : L 4 = true := hP ⟨4, .guard⟩ (by simp) rfl
      have sg := hF.slot 4 18 rfl pg
      rw [hv 4 pg] at sg
      simp only [List.getD_cons_zero, List.getD_cons_succ] at sg
      exact run_valF (v := .slice (some ⟨gp, 0, none⟩) len cap) (wanted_of rfl rfl sg) (fun c h => by cases h) (by simp [execOp, go_sem, q4, kw]) ⟨_, rfl, Jq.step ⟨rfl, hv⟩ rfl⟩
    · intro L vs a9 w' hJ hF hP hL
      obtain ⟨rfl, hv⟩ := hJ
      have q7 : (a9.tmps[7]?).getD undef = .pointer (some ⟨n0 + 3, 0, none⟩) := hF.old 7 rfl
      have pg : L 4 = true := hP ⟨4, .guard⟩ (by simp) rfl
      have sg := hF.slot 4 18 rfl pg
      rw [hv 4 pg] at sg
      simp only [List.getD_cons_zero, List.getD_cons_succ] at sg
      exact run_valF (v := .int .i64 (k : Int)) (wanted_of rfl rfl sg) (fun c h => by cases h) (by simp [execOp, go_sem, q7, kn]) ⟨_, rfl, Jq.step ⟨rfl, hv⟩ rfl⟩
    · intro L vs a9 w' hJ hF hP hL
      obtain ⟨rfl, hv⟩ := hJ
      have p6 : L 6 = true := hP ⟨6, .data⟩ (by simp) rfl
      have s20 := hF.slot 6 20 rfl p6
      rw [hv 6 p6] at s20
      simp only [List.getD_cons_zero, List.getD_cons_succ] at s20
      have p7 : L 7 = true := hP ⟨7, .data⟩ (by simp) rfl
      have s21 := hF.slot 7 21 rfl p7
      rw [hv 7 p7] at s21
      simp only [List.getD_cons_zero, List.getD_cons_succ] at s21
      have pg : L 4 = true := hP ⟨4, .guard⟩ (by simp) rfl
      have sg := hF.slot 4 18 rfl pg
      rw [hv 4 pg] at sg
      simp only [List.getD_cons_zero, List.getD_cons_succ] at sg
      exact run_valF (v := .pointer (some ⟨gp, k * 3, none⟩)) (wanted_of rfl rfl sg) (fun c h => by cases h) (by simp [execOp, go_sem, s20, s21, hk]) ⟨_, rfl, Jq.step ⟨rfl, hv⟩ rfl⟩
    · intro L vs a9 w' hJ hF hP hL
      obtain ⟨rfl, hv⟩ := hJ
      have p8 : L 8 = true := hP ⟨8, .data⟩ (by simp) rfl
      have s22 := hF.slot 8 22 rfl p8
      rw [hv 8 p8] at s22
      simp only [List.getD_cons_zero, List.getD_cons_succ] at s22
      have pg : L 4 = true := hP ⟨4, .guard⟩ (by simp) rfl
      have sg := hF.slot 4 18 rfl pg
      rw [hv 4 pg] at sg
      simp only [List.getD_cons_zero, List.getD_cons_succ] at sg
      exact run_valF (v := .pointer (some ⟨gp, k * 3, none⟩)) (wanted_of rfl rfl sg) (fun c h => by cases h) (by simp [execOp, go_sem, s22]) ⟨_, rfl, Jq.step ⟨rfl, hv⟩ rfl⟩
    · intro L vs a9 w' hJ hF hP hL
      obtain ⟨rfl, hv⟩ := hJ
      have p9 : L 9 = true := hP ⟨9, .data⟩ (by simp) rfl
      have s23 := hF.slot 9 23 rfl p9
      rw [hv 9 p9] at s23
      simp only [List.getD_cons_zero, List.getD_cons_succ] at s23
      have pg : L 4 = true := hP ⟨4, .guard⟩ (by simp) rfl
      have sg := hF.slot 4 18 rfl pg
      rw [hv 4 pg] at sg
      simp only [List.getD_cons_zero, List.getD_cons_succ] at sg
      exact run_valF (v := .agg #[.int .i64 x1, .int .i64 x2]) (wanted_of rfl rfl sg) (fun c h => by cases h) (by simp [execOp, go_sem, s23, kp0, kp1]) ⟨_, rfl, Jq.step ⟨rfl, hv⟩ rfl⟩
    · intro L vs a9 w' hJ hF hP hL
      obtain ⟨rfl, hv⟩ := hJ
      have p5 : L 5 = true := hP ⟨5, .data⟩ (by simp) rfl
      have s19 := hF.slot 5 19 rfl p5
      rw [hv 5 p5] at s19
      simp only [List.getD_cons_zero, List.getD_cons_succ] at s19
      have p10 : L 10 = true := hP ⟨10, .data⟩ (by simp) rfl
      have s24 := hF.slot 10 24 rfl p10
      rw [hv 10 p10] at s24
      simp only [List.getD_cons_zero, List.getD_cons_succ] at s24
      have pg : L 4 = true := hP ⟨4, .guard⟩ (by simp) rfl
      have sg := hF.slot 4 18 rfl pg
      rw [hv 4 pg] at sg
      simp only [List.getD_cons_zero, List.getD_cons_succ] at sg
      exact run_valF (v := .bool false) (wanted_of rfl rfl sg) (fun c h => by cases h) (by simp [execOp, go_sem, s19, s24]) ⟨_, rfl, Jq.step ⟨rfl, hv⟩ rfl⟩
    · intro L vs a9 w' hJ hF hP hL
      obtain ⟨rfl, hv⟩ := hJ
      have p4 : L 4 = true := hP ⟨4, .data⟩ (by simp) rfl
      have s18 := hF.slot 4 18 rfl p4
      rw [hv 4 p4] at s18
      simp only [List.getD_cons_zero, List.getD_cons_succ] at s18
      have p11 : L 11 = true := hP ⟨11, .data⟩ (by simp) rfl
      have s25 := hF.slot 11 25 rfl p11
      rw [hv 11 p11] at s25
      simp only [List.getD_cons_zero, List.getD_cons_succ] at s25
      exact run_valF (v := .bool false) rfl (fun c h => by cases h) (by simp [execOp, go_sem, s18, s25]) ⟨_, rfl, Jq.step ⟨rfl, hv⟩ rfl⟩
    · intro L vs a9 w' hJ hF hP hL
      obtain ⟨rfl, hv⟩ := hJ
      have p12 : L 12 = true := hP ⟨12, .data⟩ (by simp) rfl
      have s26 := hF.slot 12 26 rfl p12
      rw [hv 12 p12] at s26
      simp only [List.getD_cons_zero, List.getD_cons_succ] at s26
      exact run_valF (v := .bool false) rfl (fun c h => by cases h) (by simp [execOp, go_sem, s26]) ⟨_, rfl, Jq.step ⟨rfl, hv⟩ rfl⟩
    · intro L vs a9 w' hJ hF hP hL
      obtain ⟨rfl, hv⟩ := hJ
      have q9 : (a9.tmps[9]?).getD undef = .int .i64 x3 := hF.old 9 rfl
      have pg : L 13 = true := hP ⟨13, .guard⟩ (by simp) rfl
      have sg := hF.slot 13 27 rfl pg
      rw [hv 13 pg] at sg
      simp only [List.getD_cons_zero, List.getD_cons_succ] at sg
      exact run_valF (v := .int .i64 x3) (wanted_of rfl rfl sg) (fun c h => by cases h) (by simp [execOp, go_sem, q9]) ⟨_, rfl, Jq.step ⟨rfl, hv⟩ rfl⟩
    · intro L vs a9 w' hJ hF hP hL
      obtain ⟨rfl, hv⟩ := hJ
      have q4 : (a9.tmps[4]?).getD undef = .pointer (some ⟨n0, 0, none⟩) := hF.old 4 rfl
      have pg : L 13 = true := hP ⟨13, .guard⟩ (by simp) rfl
      have sg := hF.slot 13 27 rfl pg
      rw [hv 13 pg] at sg
      simp only [List.getD_cons_zero, List.getD_cons_succ] at sg
      exact run_valF (v := .slice (some ⟨gp, 0, none⟩) len cap) (wanted_of rfl rfl sg) (fun c h => by cases h) (by simp [execOp, go_sem, q4, kw]) ⟨_, rfl, Jq.step ⟨rfl, hv⟩ rfl⟩
    · intro L vs a9 w' hJ hF hP hL
      obtain ⟨rfl, hv⟩ := hJ
      have q7 : (a9.tmps[7]?).getD undef = .pointer (some ⟨n0 + 3, 0, none⟩) := hF.old 7 rfl
      have pg : L 13 = true := hP ⟨13, .guard⟩ (by simp) rfl
      have sg := hF.slot 13 27 rfl pg
      rw [hv 13 pg] at sg
      simp only [List.getD_cons_zero, List.getD_cons_succ] at sg
      exact run_valF (v := .int .i64 (k : Int)) (wanted_of rfl rfl sg) (fun c h => by cases h) (by simp [execOp, go_sem, q7, kn]) ⟨_, rfl, Jq.step ⟨rfl, hv⟩ rfl⟩
    · intro L vs a9 w' hJ hF hP hL
      obtain ⟨rfl, hv⟩ := hJ
      have p15 : L 15 = true := hP ⟨15, .data⟩ (by simp) rfl
      have s29 := hF.slot 15 29 rfl p15
      rw [hv 15 p15] at s29
      simp only [List.getD_cons_zero, List.getD_cons_succ] at s29
      have p16 : L 16 = true := hP ⟨16, .data⟩ (by simp) rfl
      have s30 := hF.slot 16 30 rfl p16
      rw [hv 16 p16] at s30
      simp only [List.getD_cons_zero, List.getD_cons_succ] at s30
      have pg : L 13 = true := hP ⟨13, .guard⟩ (by simp) rfl
      have sg := hF.slot 13 27 rfl pg
      rw [hv 13 pg] at sg
      simp only [List.getD_cons_zero, List.getD_cons_succ] at sg
      exact run_valF (v := .pointer (some ⟨gp, k * 3, none⟩)) (wanted_of rfl rfl sg) (fun c h => by cases h) (by simp [execOp, go_sem, s29, s30, hk]) ⟨_, rfl, Jq.step ⟨rfl, hv⟩ rfl⟩
    · intro L vs a9 w' hJ hF hP hL
      obtain ⟨rfl, hv⟩ := hJ
      have p17 : L 17 = true := hP ⟨17, .data⟩ (by simp) rfl
      have s31 := hF.slot 17 31 rfl p17
      rw [hv 17 p17] at s31
      simp only [List.getD_cons_zero, List.getD_cons_succ] at s31
      have pg : L 13 = true := hP ⟨13, .guard⟩ (by simp) rfl
      have sg := hF.slot 13 27 rfl pg
      rw [hv 13 pg] at sg
      simp only [List.getD_cons_zero, List.getD_cons_succ] at sg
      exact run_valF (v := .pointer (some ⟨gp, k * 3 + 2, none⟩)) (wanted_of rfl rfl sg) (fun c h => by cases h) (by simp [execOp, go_sem, s31]) ⟨_, rfl, Jq.step ⟨rfl, hv⟩ rfl⟩
    · intro L vs a9 w' hJ hF hP hL
      obtain ⟨rfl, hv⟩ := hJ
      have p18 : L 18 = true := hP ⟨18, .data⟩ (by simp) rfl
      have s32 := hF.slot 18 32 rfl p18
      rw [hv 18 p18] at s32
      simp only [List.getD_cons_zero, List.getD_cons_succ] at s32
      have pg : L 13 = true := hP ⟨13, .guard⟩ (by simp) rfl
      have sg := hF.slot 13 27 rfl pg
      rw [hv 13 pg] at sg
      simp only [List.getD_cons_zero, List.getD_cons_succ] at sg
      exact run_valF (v := .int .i64 x3) (wanted_of rfl rfl sg) (fun c h => by cases h) (by simp [execOp, go_sem, s32, kp2]) ⟨_, rfl, Jq.step ⟨rfl, hv⟩ rfl⟩
    · intro L vs a9 w' hJ hF hP hL
      obtain ⟨rfl, hv⟩ := hJ
      have p14 : L 14 = true := hP ⟨14, .data⟩ (by simp) rfl
      have s28 := hF.slot 14 28 rfl p14
      rw [hv 14 p14] at s28
      simp only [List.getD_cons_zero, List.getD_cons_succ] at s28
      have p19 : L 19 = true := hP ⟨19, .data⟩ (by simp) rfl
      have s33 := hF.slot 19 33 rfl p19
      rw [hv 19 p19] at s33
      simp only [List.getD_cons_zero, List.getD_cons_succ] at s33
      have pg : L 13 = true := hP ⟨13, .guard⟩ (by simp) rfl
      have sg := hF.slot 13 27 rfl pg
      rw [hv 13 pg] at sg
      simp only [List.getD_cons_zero, List.getD_cons_succ] at sg
      exact run_valF (v := .bool false) (wanted_of rfl rfl sg) (fun c h => by cases h) (by simp [execOp, go_sem, s28, s33]) ⟨_, rfl, Jq.step ⟨rfl, hv⟩ rfl⟩
    · intro L vs a9 w' hJ hF hP hL
      obtain ⟨rfl, hv⟩ := hJ
      have p13 : L 13 = true := hP ⟨13, .data⟩ (by simp) rfl
      have s27 := hF.slot 13 27 rfl p13
      rw [hv 13 p13] at s27
      simp only [List.getD_cons_zero, List.getD_cons_succ] at s27
      have p20 : L 20 = true := hP ⟨20, .data⟩ (by simp) rfl
      have s34 := hF.slot 20 34 rfl p20
      rw [hv 20 p20] at s34
      simp only [List.getD_cons_zero, List.getD_cons_succ] at s34
      exact run_valF (v := .bool false) rfl (fun c h => by cases h) (by simp [execOp, go_sem, s27, s34]) ⟨_, rfl, Jq.step ⟨rfl, hv⟩ rfl⟩
    intro L vs w' hA hJ
    have u21 := hJ.val 21 (hA 21 (by decide))
    simp only [List.getD_cons_zero, List.getD_cons_succ] at u21
    obtain rfl := hJ.eq
    simp only [putL, Act.put, List.setIfInBounds_toArray, List.set_cons_zero, List.set_cons_succ, Nat.reduceAdd]
    simp only [u21]
    clear u21 hJ hA kp0 kp1 kp2 kh0 kh1 kw
    generalize vs = vs0
    have HD : Hid (Below A.heap.size A A.drew) := bx_drew (Below.refl _ _) 1
    generalize A.drew = A1 at HD kn ⊢
    have hG : Gb6 n0 w A1 (.slice (some ⟨gp, 0, none⟩) len cap) stop (k : Int) false := HI.out.go HD.out hnw
    have kz := hG.b3.fr
    have hG1 := hG.setN ((k : Int) + 1)
    have m3 := hG1.b3.cell
    have m1 := hG1.b1.cell
    have m2 := hG1.b2.cell
    have f2 := hG1.b2.fr
    have w5 : IntKind.i64.wrap ((k : Int) + 1) = (k : Int) + 1 := by rw [IntKind.wrap_i64]; omega
    have K1 : Ksl sb 0 A (A1.setCell ⟨n0 + 3, 0, none⟩ (.int .i64 ((k : Int) + 1))) := (Ksl.of_below HD.out).trans (Ksl.bx hG.b3 (.inl rfl) _)
    have HG : Hid (Gb6 n0 w (A1.setCell ⟨n0 + 3, 0, none⟩ (.int .i64 ((k : Int) + 1))) (.slice (some ⟨gp, 0, none⟩) len cap) stop ((k : Int) + 1) false ∧ Ksl sb 0 A (A1.setCell ⟨n0 + 3, 0, none⟩ (.int .i64 ((k : Int) + 1)))) := ⟨hG1, K1⟩
    clear hG hG1 K1
    by_cases hst : (k : Int) + 1 = stop
    · have hd : ((k : Int) + 1 == stop) = true := beq_iff_eq.2 hst
      have HST : Hid ((k : Int) + 1 = stop) := hst
      clear hst
      gi_wp2_with fail
      have K2 := HG.out.2.trans (Ksl.bx (sb := sb) HG.out.1.b2 (.inr rfl) (.bool true))
      exact ⟨K2.keeps (Nat.zero_le _), K2.up (Nat.zero_le _), rfl, _, HG.out.1.setB true⟩
    have hd : ((k : Int) + 1 == stop) = false := by simpa using hst
    gi_wp2_with fail
    refine ⟨HG.out.2.keeps (Nat.zero_le _), HG.out.2.up (Nat.zero_le _), ?_⟩
    rw [show ((k + 1 : Nat) : Int) = (k : Int) + 1 by omega]
    exact HG.out.1
  case done =>
    intro D A hD hi hm
    have k3 := hi.b3.cell
    have k0 := hi.b0.cell
    have k2 := hi.b2.cell
    have f2 := hi.b2.fr
    have HE : Hid (Gb6 n0 w (A.setCell ⟨n0 + 2, 0, none⟩ (.bool true)) (.slice a len cap) stop (len : Int) true ∧ (A.setCell ⟨n0 + 2, 0, none⟩ (.bool true)).heap[D]? = some (.deferred (some []))) := ⟨hi.setB true, (Below.heap_setCell _ _ _ _ (show D ≠ n0 + 2 by have := HS.out.1; omega)).trans hm⟩
    clear hi hm
    gi_wp2_with fail
    refine ⟨by simp, .inl ⟨_, _, rfl, run_takeDeferred HE.out.2, ?_⟩⟩
    have hf := HE.out.1.put (.deferred none) HE.out.2 rfl (Nat.le_trans hls hD)
    have hc5 := hf.b2.cell
    refine ⟨.bool true, ?_, rfl, by rw [← HS.out.2.1]; exact hf.bel⟩
    simp [results, Tryd.results20, go_sem, hc5]
  case stop =>
    rintro D c A hD ⟨rfl, k, hi⟩ hm
    have HE : Hid (Gb6 n0 w A (.slice a len cap) stop k true ∧ A.heap[D]? = some (.deferred (some []))) := ⟨hi, hm⟩
    clear hi hm
    gi_wp2_with fail
    refine ⟨by simp, .inl ⟨_, _, rfl, run_takeDeferred HE.out.2, ?_⟩⟩
    have hf := HE.out.1.put (.deferred none) HE.out.2 rfl (Nat.le_trans hls hD)
    have hc5 := hf.b2.cell
    refine ⟨.bool true, ?_, rfl, by rw [← HS.out.2.1]; exact hf.bel⟩
    simp [results, Tryd.results20, go_sem, hc5]
end Go.Proofs.YtdobjanhmllloaaDoor
