/- Contracts of the program's functions, part 4: own work, joined in build order. -/
import Derived.Test.YtdobjanhmllloaaDoorJ3
namespace Go.Proofs.YtdobjanhmllloaaDoor
open Go.RowKit
set_option maxRecDepth 100000
set_option linter.unusedVariables false
theorem atV_u (r g N f : Nat) (ys : List (Option Nat × Int)) (i : Int) (w : World) (h : RV w r g N f ys.length ys) : Calls Tryd.prog 31 #[.pointer (some ⟨r, 0, none⟩), .int .i64 i] w fun e w' => ∃ bb, e = .returned (.tuple #[.agg #[pP (atP ys i).1, .int .i64 (atP ys i).2], .bool bb]) ∧ Below w.heap.size w w' := by
  unfold atP
  by_cases c : 0 ≤ i ∧ i < (ys.length : Int)
  · rw [if_pos c]
    exact (atV_yes r g N f _ ys i.toNat i w h (by omega) (by omega)).mono fun e w' ⟨h1, h2⟩ => ⟨true, h1, h2⟩
  rw [if_neg c]
  exact (atV_no r g N f _ ys i w h (by omega)).mono fun e w' ⟨h1, h2⟩ => ⟨false, h1, h2⟩
set_option maxHeartbeats 2000000 in
theorem findV_any (sb r g N f : Nat) (ys : List (Option Nat × Int)) (v1 v2 v3 : Value) (i gen : Int) (w : World) (hs : w.heap[sb]? = some (.cells #[.pointer (some ⟨r, 0, none⟩), v1, v2, v3] 78)) (h : RV w r g N f ys.length ys) :
    Calls Tryd.prog 34 #[.pointer (some ⟨sb, 0, none⟩), .agg #[.int .i64 i, .int .i64 gen]] w fun e w' => e = .returned (if hasP ys i gen then .tuple #[.agg #[pP (atP ys i).1, .int .i64 (atP ys i).2], .int .i64 0] else .tuple #[.agg #[.pointer none, .int .i64 0], .int .i64 60]) ∧ Below w.heap.size w w' := by
  obtain ⟨W, hW⟩ : ∃ W, W = (w.alloc (.cells #[.int .i64 i, .int .i64 gen] 38)).alloc (.cells #[.pointer none, .int .i64 0] 73) := ⟨_, rfl⟩
  obtain ⟨z, ez⟩ : ∃ z, z = w.heap.size := ⟨_, rfl⟩
  have B0 : Below w.heap.size w W := by rw [hW]; exact ((Below.refl _ _).alloc (Nat.le_refl _) _).alloc (by simp) _
  have sz : W.heap.size = z + 2 := by rw [hW, ez]; simp
  have kz : W.heap[z]? = some (.cells #[.int .i64 i, .int .i64 gen] 38) := by
    rw [hW, ez]
    exact (Below.heap_alloc _ _ _ (by simp)).trans (MapKept.heap_alloc _ _).1
  have kz1 : W.heap[z + 1]? = some (.cells #[.pointer none, .int .i64 0] 73) := by
    rw [hW, ez]
    have := (MapKept.heap_alloc (w.alloc (.cells #[.int .i64 i, .int .i64 gen] 38)) (.cells #[.pointer none, .int .i64 0] 73)).1
    simpa using this
  have hsW : W.heap[sb]? = some (.cells #[.pointer (some ⟨r, 0, none⟩), v1, v2, v3] 78) := (B0.block _ (Array.getElem?_eq_some_iff.1 hs).1).trans hs
  have c0 : W.cell? ⟨sb, 0, none⟩ = some (.pointer (some ⟨r, 0, none⟩)) := by simp [World.cell?, hsW]
  have d0 : W.cell? ⟨z, 0, none⟩ = some (.int .i64 i) := by simp [World.cell?, kz]
  have d1 : W.cell? ⟨z, 1, none⟩ = some (.int .i64 gen) := by simp [World.cell?, kz]
  have t0 : W.cell? ⟨z + 1, 0, none⟩ = some (.pointer none) := by simp [World.cell?, kz1]
  have t1 : W.cell? ⟨z + 1, 1, none⟩ = some (.int .i64 0) := by simp [World.cell?, kz1]
  have y0 : W.frozen? ⟨z + 1, 0, none⟩ = false := by simp [World.frozen?, kz1]
  have y1 : W.frozen? ⟨z + 1, 1, none⟩ = false := by simp [World.frozen?, kz1]
  have AT : Hid (∀ W', Below W.heap.size W W' → Calls Tryd.prog 31 #[.pointer (some ⟨r, 0, none⟩), .int .i64 i] W' fun e w' => ∃ bb, e = .returned (.tuple #[.agg #[pP (atP ys i).1, .int .i64 (atP ys i).2], .bool bb]) ∧ Below W'.heap.size W' w') := fun W' hB => atV_u r g N f ys i W' ((h.mono B0).mono hB)
  have HB : Hid (Below w.heap.size w W ∧ W.heap.size = z + 2 ∧ z = w.heap.size) := ⟨B0, sz, ez⟩
  have HW : Hid ((w.alloc (.cells #[.int .i64 i, .int .i64 gen] 38)).alloc (.cells #[.pointer none, .int .i64 0] 73) = W ∧ w.heap.size = z) := ⟨hW.symm, ez.symm⟩
  have eh : hasP ys i gen = ((atP ys i).1.isSome && decide ((atP ys i).2 = gen)) := rfl
  rw [eh]
  clear eh
  generalize atP ys i = x at AT ⊢
  obtain ⟨x1, x2⟩ := x
  obtain ⟨pp, epp⟩ : ∃ pp : Option Addr, pp = x1.map fun b => ⟨b, 0, none⟩ := ⟨_, rfl⟩
  have ep : pP x1 = .pointer pp := by rw [epp]; rfl
  have epn : x1.isSome = pp.isSome := by rw [epp]; cases x1 <;> rfl
  simp only at AT ⊢
  rw [ep] at AT ⊢
  rw [epn]
  have hzl : z + 1 < W.heap.size := by omega
  have hzl0 : z < W.heap.size := by omega
  have hsl : sb < W.heap.size := (Array.getElem?_eq_some_iff.1 hsW).1
  have KZ : Hid (W.heap[z + 1]? = some (.cells #[.pointer none, .int .i64 0] 73)) := kz1
  clear h hs hsW kz kz1 sz ez hW B0 ep epn epp
  go_enter Tryd.func34, Tryd.ntmps34
  go_upto_region 1 with fail
  rw [HW.out.1, HW.out.2]
  go_cut [6] from 7 to 17 (fun u wx => ∃ q, u = .pointer (some ⟨q, 0, none⟩) ∧ Hid (wx.cell? ⟨q, 0, none⟩ = some (.pointer pp) ∧ wx.cell? ⟨q, 1, none⟩ = some (.int .i64 x2) ∧ wx.cell? ⟨z, 0, none⟩ = some (.int .i64 i) ∧ wx.cell? ⟨z, 1, none⟩ = some (.int .i64 gen) ∧ wx.heap[z + 1]? = some (.cells #[.pointer none, .int .i64 0] 73) ∧ Below W.heap.size W wx))
  case first =>
    go_region_held3 (fun w9 => w9.cell? ⟨sb, 0, none⟩ = some (.pointer (some ⟨r, 0, none⟩)) ∧ w9.cell? ⟨z, 0, none⟩ = some (.int .i64 i) ∧ w9.cell? ⟨z, 1, none⟩ = some (.int .i64 gen) ∧ w9.cell? ⟨z + 1, 0, none⟩ = some (.pointer none) ∧ w9.cell? ⟨z + 1, 1, none⟩ = some (.int .i64 0)) (first | (simp [go_sem, *]; done) | (trace_state; fail))
      (first
        | (go_at_call 31; refine Calls.mono (AT.out W.drew (bel_drew (Below.refl _ _))) ?_; rintro e w5 ⟨bb, rfl, hB5⟩; have H5 : Hid (Below W.heap.size W w5) := (bel_drew (Below.refl _ _)).trans hB5; have m0 := cell_later H5.out c0; have m1 := cell_later H5.out d0; have m2 := cell_later H5.out d1; have m3 := cell_later H5.out t0; have m4 := cell_later H5.out t1; have l0 : sb < w5.heap.size := Nat.lt_of_lt_of_le hsl H5.out.size; have l1 : z < w5.heap.size := Nat.lt_of_lt_of_le hzl0 H5.out.size; have l2 : z + 1 < w5.heap.size := Nat.lt_of_lt_of_le hzl H5.out.size)
        | (go_at_call 31; refine Calls.mono (AT.out _ ((bel_drew (Below.refl _ _)).alloc (Nat.le_refl _) _)) ?_; rintro e w5 ⟨bb, rfl, hB5⟩; have H5 : Hid (Below W.heap.size W w5) := ((bel_drew (Below.refl _ _)).alloc (Nat.le_refl _) _).trans (hB5.mono (by simp)); have m0 := cell_later H5.out c0; have m1 := cell_later H5.out d0; have m2 := cell_later H5.out d1; have m3 := cell_later H5.out t0; have m4 := cell_later H5.out t1; have l0 : sb < w5.heap.size := Nat.lt_of_lt_of_le hsl H5.out.size; have l1 : z < w5.heap.size := Nat.lt_of_lt_of_le hzl0 H5.out.size; have nb : w5.heap[W.heap.size]? = some (.cells #[.pointer none, .int .i64 0] 73) := (hB5.block _ (by simp)).trans (MapKept.heap_alloc W.drew _).1; have n0 : w5.cell? ⟨W.heap.size, 0, none⟩ = some (.pointer none) := (by simp [World.cell?, nb]); have n1 : w5.cell? ⟨W.heap.size, 1, none⟩ = some (.int .i64 0) := (by simp [World.cell?, nb]); have n2 : w5.frozen? ⟨W.heap.size, 0, none⟩ = false := (by simp [World.frozen?, nb]); have n3 : w5.frozen? ⟨W.heap.size, 1, none⟩ = false := (by simp [World.frozen?, nb]); have n4 : ¬ sb = W.heap.size := (by omega); have n5 : ¬ z = W.heap.size := (by omega); have n6 : ¬ z + 1 = W.heap.size := (by omega); have n7 : ¬ W.heap.size = sb := (by omega); have n8 : ¬ W.heap.size = z := (by omega); have n9 : ¬ W.heap.size = z + 1 := (by omega); clear nb; have l2 : z + 1 < w5.heap.size := Nat.lt_of_lt_of_le hzl H5.out.size))
    · have FI : Hid ((w5.alloc (.cells #[.pointer pp, .int .i64 x2] 73)).cell? ⟨w5.heap.size, 0, none⟩ = some (.pointer pp) ∧ (w5.alloc (.cells #[.pointer pp, .int .i64 x2] 73)).cell? ⟨w5.heap.size, 1, none⟩ = some (.int .i64 x2) ∧ (w5.alloc (.cells #[.pointer pp, .int .i64 x2] 73)).cell? ⟨z, 0, none⟩ = some (.int .i64 i) ∧ (w5.alloc (.cells #[.pointer pp, .int .i64 x2] 73)).cell? ⟨z, 1, none⟩ = some (.int .i64 gen) ∧ (w5.alloc (.cells #[.pointer pp, .int .i64 x2] 73)).heap[z + 1]? = some (.cells #[.pointer none, .int .i64 0] 73) ∧ Below W.heap.size W (w5.alloc (.cells #[.pointer pp, .int .i64 x2] 73))) := by
        have hB : Below w5.heap.size w5 (w5.alloc (.cells #[.pointer pp, .int .i64 x2] 73)) := (Below.refl _ _).alloc (Nat.le_refl _) _
        exact ⟨by simp [go_sem], by simp [go_sem], cell_later hB m1, cell_later hB m2, (hB.block _ l2).trans ((H5.out.block _ hzl).trans KZ.out), H5.out.trans (hB.mono H5.out.size)⟩
      go_wp2_with fail
      go_meet
      case rel => exact ⟨_, rfl, FI⟩
    have FI : Hid (((w5.setCell ⟨W.heap.size, 0, none⟩ (.pointer pp)).setCell ⟨W.heap.size, 1, none⟩ (.int .i64 x2)).cell? ⟨W.heap.size, 0, none⟩ = some (.pointer pp) ∧ ((w5.setCell ⟨W.heap.size, 0, none⟩ (.pointer pp)).setCell ⟨W.heap.size, 1, none⟩ (.int .i64 x2)).cell? ⟨W.heap.size, 1, none⟩ = some (.int .i64 x2) ∧ ((w5.setCell ⟨W.heap.size, 0, none⟩ (.pointer pp)).setCell ⟨W.heap.size, 1, none⟩ (.int .i64 x2)).cell? ⟨z, 0, none⟩ = some (.int .i64 i) ∧ ((w5.setCell ⟨W.heap.size, 0, none⟩ (.pointer pp)).setCell ⟨W.heap.size, 1, none⟩ (.int .i64 x2)).cell? ⟨z, 1, none⟩ = some (.int .i64 gen) ∧ ((w5.setCell ⟨W.heap.size, 0, none⟩ (.pointer pp)).setCell ⟨W.heap.size, 1, none⟩ (.int .i64 x2)).heap[z + 1]? = some (.cells #[.pointer none, .int .i64 0] 73) ∧ Below W.heap.size W ((w5.setCell ⟨W.heap.size, 0, none⟩ (.pointer pp)).setCell ⟨W.heap.size, 1, none⟩ (.int .i64 x2))) := by
      refine ⟨by simp [go_sem, n0], by simp [go_sem, n1], by simp [go_sem, m1], by simp [go_sem, m2], ?_, (H5.out.setCell (p := ⟨W.heap.size, 0, none⟩) (Nat.le_refl _) _).setCell (p := ⟨W.heap.size, 1, none⟩) (Nat.le_refl _) _⟩
      exact (Below.heap_setCell _ _ _ _ n6).trans ((Below.heap_setCell _ _ _ _ n6).trans ((H5.out.block _ hzl).trans KZ.out))
    go_wp2_with fail
    go_meet
    case rel => exact ⟨_, rfl, FI⟩
  case rest =>
    obtain ⟨q, rfl, hF⟩ := hcut
    obtain ⟨e0, e1, e2, e3, e4, _⟩ := hF.out
    have u0 : wc.cell? ⟨z + 1, 0, none⟩ = some (.pointer none) := by simp [World.cell?, e4]
    have u1 : wc.cell? ⟨z + 1, 1, none⟩ = some (.int .i64 0) := by simp [World.cell?, e4]
    have u2 : wc.frozen? ⟨z + 1, 0, none⟩ = false := by simp [World.frozen?, e4]
    have u3 : wc.frozen? ⟨z + 1, 1, none⟩ = false := by simp [World.frozen?, e4]
    have HE : Hid (Below w.heap.size w wc ∧ w.heap.size ≤ z + 1) := ⟨HB.out.1.trans (hF.out.2.2.2.2.2.mono HB.out.1.size), by have := HB.out.2.2; omega⟩
    clear hF e4 c0 d0 d1 t0 t1 y0 y1
    cases pp with
    | none =>
      go_wp2_with fail
      refine bodyPost_ret (v := .tuple #[.agg #[.pointer none, .int .i64 0], .int .i64 60]) (by simp [results, Tryd.results34, go_sem, u0, u1]) rfl ⟨rfl, (HE.out.1.setCell (p := ⟨z + 1, 0, none⟩) HE.out.2 _).setCell (p := ⟨z + 1, 1, none⟩) HE.out.2 _⟩
    | some ad =>
      by_cases eg : x2 = gen
      · subst eg
        go_wp2_with fail
        refine bodyPost_ret (v := .tuple #[.agg #[.pointer (some ad), .int .i64 x2], .int .i64 0]) (by simp [results, Tryd.results34, go_sem, u0, u1]) rfl ⟨by simp, (HE.out.1.setCell (p := ⟨z + 1, 0, none⟩) HE.out.2 _).setCell (p := ⟨z + 1, 1, none⟩) HE.out.2 _⟩
      have hd : (x2 == gen) = false := by simp [eg]
      go_wp2_with fail
      all_goals refine bodyPost_ret (v := .tuple #[.agg #[.pointer none, .int .i64 0], .int .i64 60]) (by simp [results, Tryd.results34, go_sem, u0, u1]) rfl ⟨by first | rfl | simp, (HE.out.1.setCell (p := ⟨z + 1, 0, none⟩) HE.out.2 _).setCell (p := ⟨z + 1, 1, none⟩) HE.out.2 _⟩
set_option maxHeartbeats 2000000 in
theorem layV_any (sb r g N f : Nat) (ys : List (Option Nat × Int)) (v1 v2 v3 : Value) (i : Nat) (gen : Int) (c : Option Nat) (w : World) (hs : w.heap[sb]? = some (.cells #[.pointer (some ⟨r, 0, none⟩), v1, v2, v3] 78)) (h : RV w r g N f ys.length ys) (hi : i ≤ ys.length) (hlen : ys.length ≤ 65536) :
    Calls Tryd.prog 33 #[.pointer (some ⟨sb, 0, none⟩), .agg #[.int .i64 (i : Int), .int .i64 gen], pP c] w fun e w' => e = .returned (.tuple #[]) ∧ RingsV w r g (if i < ys.length then ys.set i (c, gen) else ys ++ [(c, gen)]) w' := by
  obtain ⟨pp, epp⟩ : ∃ pp : Option Addr, pp = c.map fun b => ⟨b, 0, none⟩ := ⟨_, rfl⟩
  have ep : pP c = .pointer pp := by rw [epp]; rfl
  obtain ⟨W, hW⟩ : ∃ W, W = (w.alloc (.cells #[.int .i64 (i : Int), .int .i64 gen] 38)).alloc (.cells #[.pointer pp, .int .i64 gen] 73) := ⟨_, rfl⟩
  obtain ⟨z, ez⟩ : ∃ z, z = w.heap.size := ⟨_, rfl⟩
  have B0 : Below w.heap.size w W := by rw [hW]; exact ((Below.refl _ _).alloc (Nat.le_refl _) _).alloc (by simp) _
  have sz : W.heap.size = z + 2 := by rw [hW, ez]; simp
  have kz : W.heap[z]? = some (.cells #[.int .i64 (i : Int), .int .i64 gen] 38) := by
    rw [hW, ez]
    exact (Below.heap_alloc _ _ _ (by simp)).trans (MapKept.heap_alloc _ _).1
  have kz1 : W.heap[z + 1]? = some (.cells #[.pointer pp, .int .i64 gen] 73) := by
    rw [hW, ez]
    have := (MapKept.heap_alloc (w.alloc (.cells #[.int .i64 (i : Int), .int .i64 gen] 38)) (.cells #[.pointer pp, .int .i64 gen] 73)).1
    simpa using this
  have hsW : W.heap[sb]? = some (.cells #[.pointer (some ⟨r, 0, none⟩), v1, v2, v3] 78) := (B0.block _ (Array.getElem?_eq_some_iff.1 hs).1).trans hs
  have c0 : W.cell? ⟨sb, 0, none⟩ = some (.pointer (some ⟨r, 0, none⟩)) := by simp [World.cell?, hsW]
  have d0 : W.cell? ⟨z, 0, none⟩ = some (.int .i64 (i : Int)) := by simp [World.cell?, kz]
  have t0 : W.cell? ⟨z + 1, 0, none⟩ = some (.pointer pp) := by simp [World.cell?, kz1]
  have t1 : W.cell? ⟨z + 1, 1, none⟩ = some (.int .i64 gen) := by simp [World.cell?, kz1]
  have h' := h.mono B0
  have nsr : sb ≠ r := by
    obtain ⟨cs, e, _⟩ := h.hd
    intro e2
    rw [e2, e] at hs
    injection hs with hs
    injection hs with _ e3
    exact absurd e3 (by decide)
  have nsg : sb ≠ g := by
    rcases Nat.eq_zero_or_pos N with e0 | e0
    · rw [(h.zr e0).1]
      exact nsr
    obtain ⟨cs, e, _⟩ := h.row e0
    intro e2
    rw [e2, e] at hs
    injection hs with hs
    injection hs with _ e3
    exact absurd e3 (by decide)
  have hrz := h.rlt
  have hgz := h.glt
  have CG : ∀ W', Chg W W' r g → W'.cell? ⟨sb, 0, none⟩ = some (.pointer (some ⟨r, 0, none⟩)) ∧ W'.cell? ⟨z, 0, none⟩ = some (.int .i64 (i : Int)) ∧ W'.cell? ⟨z + 1, 0, none⟩ = some (.pointer pp) ∧ W'.cell? ⟨z + 1, 1, none⟩ = some (.int .i64 gen) := fun W' hC =>
    ⟨hC.cell c0 nsr nsg, hC.cell d0 (show z ≠ r by omega) (show z ≠ g by omega), hC.cell t0 (show z + 1 ≠ r by omega) (show z + 1 ≠ g by omega), hC.cell t1 (show z + 1 ≠ r by omega) (show z + 1 ≠ g by omega)⟩
  have HW : Hid ((w.alloc (.cells #[.int .i64 (i : Int), .int .i64 gen] 38)).alloc (.cells #[.pointer pp, .int .i64 gen] 73) = W ∧ w.heap.size = z) := ⟨hW.symm, ez.symm⟩
  by_cases hil : i < ys.length
  · rw [if_pos hil]
    have ST : Hid (Calls Tryd.prog 47 #[.pointer (some ⟨r, 0, none⟩), .int .i64 (i : Int), .agg #[.pointer pp, .int .i64 gen]] W.drew fun e w' => e = .returned (.bool true) ∧ w'.cell? ⟨sb, 0, none⟩ = some (.pointer (some ⟨r, 0, none⟩)) ∧ w'.cell? ⟨z, 0, none⟩ = some (.int .i64 (i : Int)) ∧ w'.cell? ⟨z + 1, 0, none⟩ = some (.pointer pp) ∧ w'.cell? ⟨z + 1, 1, none⟩ = some (.int .i64 gen) ∧ Hid (RingsV w r g (ys.set i (c, gen)) w')) := by
      have h2 := setV_yes r g N f ys.length ys i (i : Int) c gen W.drew (h'.of_blocks rfl rfl) rfl rfl hil
      rw [ep] at h2
      refine h2.mono ?_
      rintro e w' ⟨rfl, q1, q2⟩
      have q3 : Chg W w' r g := ((Chg.refl W r g).drewN 1).trans q2 (.inl rfl)
      obtain ⟨a1, a2, a3, a4⟩ := CG w' q3
      exact ⟨rfl, a1, a2, a3, a4, RingsV.intro (by rw [List.length_set]; exact q1) ((Chg.of_below B0 r g).trans q3 (.inl rfl)) (.inl rfl)⟩
    rw [ep]
    clear h h' hs hsW kz kz1 sz ez hW B0 ep epp CG hrz hgz nsr nsg hi
    go_enter Tryd.func33, Tryd.ntmps33
    go_upto_region 2 with fail
    rw [HW.out.1, HW.out.2]
    go_region_held3 (fun w9 => w9.cell? ⟨sb, 0, none⟩ = some (.pointer (some ⟨r, 0, none⟩)) ∧ w9.cell? ⟨z, 0, none⟩ = some (.int .i64 (i : Int)) ∧ w9.cell? ⟨z + 1, 0, none⟩ = some (.pointer pp) ∧ w9.cell? ⟨z + 1, 1, none⟩ = some (.int .i64 gen)) (first | (simp [go_sem, *]; done) | (trace_state; fail))
      (first | (go_at_call 47; refine Calls.mono ST.out ?_; rintro e w5 ⟨rfl, m0, m1, m2, m3, H5⟩))
    go_wp2_with fail
    exact bodyPost_end (v := .tuple #[]) (by simp [results, Tryd.results33, go_sem]) rfl ⟨rfl, H5.out⟩
  rw [if_neg hil]
  have ST : Hid (Calls Tryd.prog 47 #[.pointer (some ⟨r, 0, none⟩), .int .i64 (i : Int), .agg #[.pointer pp, .int .i64 gen]] W.drew fun e w' => e = .returned (.bool false) ∧ w'.cell? ⟨sb, 0, none⟩ = some (.pointer (some ⟨r, 0, none⟩)) ∧ w'.cell? ⟨z, 0, none⟩ = some (.int .i64 (i : Int)) ∧ w'.cell? ⟨z + 1, 0, none⟩ = some (.pointer pp) ∧ w'.cell? ⟨z + 1, 1, none⟩ = some (.int .i64 gen) ∧ Hid (Below W.heap.size W w')) := by
    have h2 := setV_no r g N f ys.length ys (i : Int) c gen W.drew (h'.of_blocks rfl rfl) (.inr (by omega))
    rw [ep] at h2
    refine h2.mono ?_
    rintro e w' ⟨rfl, q2⟩
    have q3 : Below W.heap.size W w' := (bel_drew (Below.refl _ _)).trans q2
    exact ⟨rfl, cell_later q3 c0, cell_later q3 d0, cell_later q3 t0, cell_later q3 t1, q3⟩
  have PB : Hid (∀ w5, Below W.heap.size W w5 → Calls Tryd.prog 48 #[.pointer (some ⟨r, 0, none⟩), .agg #[.pointer pp, .int .i64 gen]] w5.drew fun e w' => e = .returned (.tuple #[]) ∧ w'.cell? ⟨sb, 0, none⟩ = some (.pointer (some ⟨r, 0, none⟩)) ∧ w'.cell? ⟨z + 1, 0, none⟩ = some (.pointer pp) ∧ w'.cell? ⟨z + 1, 1, none⟩ = some (.int .i64 gen) ∧ Hid (RingsV w r g (ys ++ [(c, gen)]) w')) := by
    intro w5 hB
    have h5 : RV w5.drew r g N f ys.length ys := (h'.mono hB).of_blocks rfl rfl
    have h2 := pushBackV_any r g N f ys c gen w5.drew h5 (by omega)
    rw [ep] at h2
    refine h2.mono ?_
    rintro e w' ⟨rfl, g', N', f', q1, q2, q3⟩
    have q4 : Chg W w' r g := (Chg.of_below (bel_drew hB) r g).trans q2 (.inl rfl)
    obtain ⟨a1, a2, a3, a4⟩ := CG w' q4
    refine ⟨rfl, a1, a3, a4, RingsV.intro q1 ((Chg.of_below B0 r g).trans q4 (.inl rfl)) ?_⟩
    rcases q3 with e | e | e
    · exact .inl e
    · exact .inr (.inl e)
    exact .inr (.inr (Nat.le_trans (Nat.le_trans B0.size hB.size) e))
  rw [ep]
  clear h h' hs hsW kz kz1 sz ez hW B0 ep epp CG hrz hgz nsr nsg hi
  go_enter Tryd.func33, Tryd.ntmps33
  go_upto_region 2 with fail
  rw [HW.out.1, HW.out.2]
  go_region_held3 (fun w9 => w9.cell? ⟨sb, 0, none⟩ = some (.pointer (some ⟨r, 0, none⟩)) ∧ w9.cell? ⟨z, 0, none⟩ = some (.int .i64 (i : Int)) ∧ w9.cell? ⟨z + 1, 0, none⟩ = some (.pointer pp) ∧ w9.cell? ⟨z + 1, 1, none⟩ = some (.int .i64 gen)) (first | (simp [go_sem, *]; done) | (trace_state; fail))
    (first | (go_at_call 47; refine Calls.mono ST.out ?_; rintro e w5 ⟨rfl, m0, m1, m2, m3, H5⟩))
  go_wp2_with fail
  go_region_held3 (fun w9 => w9.cell? ⟨sb, 0, none⟩ = some (.pointer (some ⟨r, 0, none⟩)) ∧ w9.cell? ⟨z + 1, 0, none⟩ = some (.pointer pp) ∧ w9.cell? ⟨z + 1, 1, none⟩ = some (.int .i64 gen)) (first | (simp [go_sem, *]; done) | (trace_state; fail))
    (first | (go_at_call 48; refine Calls.mono (PB.out _ H5.out) ?_; rintro e w6 ⟨rfl, p0, p1, p2, H6⟩))
  go_wp2_with fail
  exact bodyPost_end (v := .tuple #[]) (by simp [results, Tryd.results33, go_sem]) rfl ⟨rfl, H6.out⟩
def CelV (W : World) (o : Option Nat) (t : Option Int) : Prop := match o, t with
  | none, none => True
  | some c, some t => W.heap[c]? = some (.cells #[Value.int .i64 t] 84)
  | _, _ => False
theorem CelV.kept {W W' : World} {o : Option Nat} {t : Option Int} (h : CelV W o t) (hk : ∀ (k : Nat) (cs : Array Value), W.heap[k]? = some (.cells cs 84) → W'.heap[k]? = some (.cells cs 84)) : CelV W' o t := by
  cases o <;> cases t
  · trivial
  · exact h
  · exact h
  exact hk _ _ h
def isMV (t : TypeId) : Prop := t = 78 ∨ t = 112 ∨ t = 73 ∨ t = 113 ∨ t = 114 ∨ t = 84
def isSV (t : TypeId) : Prop := t = 78 ∨ t = 112 ∨ t = 73 ∨ t = 114
def VacV (n : Nat) (last : Int) (xs : List (Option Int × Int)) (i : Nat) : Prop := i < n ∧ (xs.length ≤ i ∨ ((xs.getD i (none, 0)).1 = none ∧ (xs.getD i (none, 0)).2 < last))
structure SpV (W : World) (sb lb n : Nat) (last : Int) (cnt : Nat) (xs : List (Option Int × Int)) (r g N f b L cap : Nat) (G : Nat → Nat) (ys : List (Option Nat × Int)) (S : Nat → Prop) : Prop where
  hd : W.heap[sb]? = some (.cells #[.pointer (some ⟨r, 0, none⟩), .slice (some ⟨b, 0, none⟩) L cap, .int .i64 last, .int .i64 (cnt : Int)] 78)
  ring : RV W r g N f ys.length ys
  nm : NmX W b L cap G n (Lv S) lb
  len : ys.length = xs.length
  things : ∀ i, i < xs.length → (ys.getD i (none, 0)).2 = (xs.getD i (none, 0)).2 ∧ CelV W (ys.getD i (none, 0)).1 (xs.getD i (none, 0)).1
  lo : lb ≤ sb ∧ lb ≤ r ∧ lb ≤ g
  le : xs.length ≤ n
  last1 : 1 ≤ last
  last2 : last ≤ 2147483647
  gens : ∀ i, i < xs.length → 1 ≤ (xs.getD i (none, 0)).2 ∧ (xs.getD i (none, 0)).2 ≤ last
  cn : cnt = xs.countP fun x => x.1.isSome
def SlV (W : World) (sb lb n : Nat) (last : Int) (cnt : Nat) (xs : List (Option Int × Int)) : Prop := ∃ r g N f b L cap G ys, SpV W sb lb n last cnt xs r g N f b L cap G ys (VacV n last xs)
theorem SpV.kept {W W' : World} {sb lb n : Nat} {last : Int} {cnt : Nat} {xs : List (Option Int × Int)} {r g N f b L cap : Nat} {G : Nat → Nat} {ys : List (Option Nat × Int)} {S : Nat → Prop} (h : SpV W sb lb n last cnt xs r g N f b L cap G ys S) (hk : ∀ (k : Nat) (cs : Array Value) (t : TypeId), W.heap[k]? = some (.cells cs t) → isMV t → W'.heap[k]? = some (.cells cs t)) : SpV W' sb lb n last cnt xs r g N f b L cap G ys S := by
  refine { h with hd := hk _ _ _ h.hd (.inl rfl), ring := h.ring.of_blocks ?_ ?_, nm := h.nm.kept fun k cs t e ht => ?_, things := fun i hi => ⟨(h.things i hi).1, (h.things i hi).2.kept fun k cs e => hk _ _ _ e (.inr (.inr (.inr (.inr (.inr rfl)))))⟩ }
  · obtain ⟨cs, e, _⟩ := h.ring.hd
    exact (hk _ _ _ e (.inr (.inl rfl))).trans e.symm
  · rcases Nat.eq_zero_or_pos N with e0 | e0
    · rw [(h.ring.zr e0).1]
      obtain ⟨cs, e, _⟩ := h.ring.hd
      exact (hk _ _ _ e (.inr (.inl rfl))).trans e.symm
    obtain ⟨cs, e, _⟩ := h.ring.row e0
    exact (hk _ _ _ e (.inr (.inr (.inl rfl)))).trans e.symm
  rcases ht with rfl | rfl
  · exact (hk _ _ _ e (.inr (.inr (.inr (.inl rfl))))).trans e.symm
  exact (hk _ _ _ e (.inr (.inr (.inr (.inr (.inl rfl)))))).trans e.symm
theorem SlV.kept {W W' : World} {sb lb n : Nat} {last : Int} {cnt : Nat} {xs : List (Option Int × Int)} (h : SlV W sb lb n last cnt xs) (hk : ∀ (k : Nat) (cs : Array Value) (t : TypeId), W.heap[k]? = some (.cells cs t) → isMV t → W'.heap[k]? = some (.cells cs t)) : SlV W' sb lb n last cnt xs := by
  obtain ⟨r, g, N, f, b, L, cap, G, ys, h⟩ := h
  exact ⟨r, g, N, f, b, L, cap, G, ys, h.kept hk⟩
theorem SpV.mono {W W' : World} {sb lb n : Nat} {last : Int} {cnt : Nat} {xs : List (Option Int × Int)} {r g N f b L cap : Nat} {G : Nat → Nat} {ys : List (Option Nat × Int)} {S : Nat → Prop} (h : SpV W sb lb n last cnt xs r g N f b L cap G ys S) (hB : Below W.heap.size W W') : SpV W' sb lb n last cnt xs r g N f b L cap G ys S :=
  h.kept fun k cs t e _ => (hB.block _ (Array.getElem?_eq_some_iff.1 e).1).trans e
theorem SlV.mono {W W' : World} {sb lb n : Nat} {last : Int} {cnt : Nat} {xs : List (Option Int × Int)} (h : SlV W sb lb n last cnt xs) (hB : Below W.heap.size W W') : SlV W' sb lb n last cnt xs :=
  h.kept fun k cs t e _ => (hB.block _ (Array.getElem?_eq_some_iff.1 e).1).trans e
theorem SpV.cells {W : World} {sb lb n : Nat} {last : Int} {cnt : Nat} {xs : List (Option Int × Int)} {r g N f b L cap : Nat} {G : Nat → Nat} {ys : List (Option Nat × Int)} {S : Nat → Prop} (h : SpV W sb lb n last cnt xs r g N f b L cap G ys S) : W.cell? ⟨sb, 0, none⟩ = some (.pointer (some ⟨r, 0, none⟩)) ∧ W.cell? ⟨sb, 1, none⟩ = some (.slice (some ⟨b, 0, none⟩) L cap) ∧ W.cell? ⟨sb, 2, none⟩ = some (.int .i64 last) ∧ W.cell? ⟨sb, 3, none⟩ = some (.int .i64 (cnt : Int)) ∧ W.frozen? ⟨sb, 3, none⟩ = false ∧ sb < W.heap.size := by
  have e := h.hd
  refine ⟨by simp [World.cell?, e], by simp [World.cell?, e], by simp [World.cell?, e], by simp [World.cell?, e], by simp [World.frozen?, e], (Array.getElem?_eq_some_iff.1 e).1⟩
theorem lenV_any {w : World} {sb lb n : Nat} {last : Int} {cnt : Nat} {xs : List (Option Int × Int)} (h : SlV w sb lb n last cnt xs) : Calls Tryd.prog 21 #[.pointer (some ⟨sb, 0, none⟩)] w fun e w' => e = .returned (.int .i64 (cnt : Int)) ∧ w' = w := by
  obtain ⟨r, g, N, f, b, L, cap, G, ys, h⟩ := h
  obtain ⟨_, _, _, c3, _, _⟩ := h.cells
  clear h
  go_enter Tryd.func21, Tryd.ntmps21
  go_wp2_with fail
  go_ret
  exact ⟨rfl, rfl⟩
def fndV (xs : List (Option Int × Int)) (i gen : Int) : Option Int := if 0 ≤ i ∧ i < (xs.length : Int) ∧ (xs.getD i.toNat (none, 0)).2 = gen then (xs.getD i.toNat (none, 0)).1 else none
theorem SpV.found {W : World} {sb lb n : Nat} {last : Int} {cnt : Nat} {xs : List (Option Int × Int)} {r g N f b L cap : Nat} {G : Nat → Nat} {ys : List (Option Nat × Int)} {S : Nat → Prop} (h : SpV W sb lb n last cnt xs r g N f b L cap G ys S) (i gen : Int) :
    (fndV xs i gen = none ∧ hasP ys i gen = false) ∨ ∃ t c, fndV xs i gen = some t ∧ hasP ys i gen = true ∧ (atP ys i) = (some c, gen) ∧ W.heap[c]? = some (.cells #[Value.int .i64 t] 84) ∧ 0 ≤ i ∧ i.toNat < xs.length ∧ xs.getD i.toNat (none, 0) = (some t, gen) := by
  unfold fndV hasP atP
  by_cases hr : 0 ≤ i ∧ i < (xs.length : Int)
  · rw [if_pos (show 0 ≤ i ∧ i < (ys.length : Int) by rw [h.len]; exact hr)]
    obtain ⟨h1, h2⟩ := h.things i.toNat (by omega)
    generalize ys.getD i.toNat (none, 0) = y at h1 h2 ⊢
    generalize xs.getD i.toNat (none, 0) = x at h1 h2 ⊢
    obtain ⟨y1, y2⟩ := y
    obtain ⟨x1, x2⟩ := x
    simp only at h1 h2 ⊢
    subst h1
    by_cases eg : y2 = gen
    · subst eg
      rw [if_pos ⟨hr.1, hr.2, rfl⟩]
      cases y1 <;> cases x1
      · exact .inl ⟨rfl, rfl⟩
      · exact h2.elim
      · exact h2.elim
      exact .inr ⟨_, _, rfl, by simp, rfl, h2, hr.1, by omega, rfl⟩
    rw [if_neg (by omega)]
    exact .inl ⟨rfl, by simp [eg]⟩
  rw [if_neg (show ¬ (0 ≤ i ∧ i < (ys.length : Int)) by rw [h.len]; exact hr), if_neg (by omega)]
  exact .inl ⟨rfl, rfl⟩
set_option maxHeartbeats 1000000 in
theorem getV_any {w : World} {sb lb n : Nat} {last : Int} {cnt : Nat} {xs : List (Option Int × Int)} (h : SlV w sb lb n last cnt xs) (i gen : Int) :
    Calls Tryd.prog 10 #[.pointer (some ⟨sb, 0, none⟩), .agg #[.int .i64 i, .int .i64 gen]] w fun e w' => e = .returned (match fndV xs i gen with | some t => .tuple #[Value.int .i64 t, .int .i64 0] | none => .tuple #[(.int .i64 0), .int .i64 60]) ∧ Below w.heap.size w w' := by
  obtain ⟨r, g, N, f, b, L, cap, G, ys, h⟩ := h
  obtain ⟨W, hW⟩ : ∃ W, W = w.alloc (.cells #[.int .i64 i, .int .i64 gen] 38) := ⟨_, rfl⟩
  have B0 : Below w.heap.size w W := by rw [hW]; exact (Below.refl _ _).alloc (Nat.le_refl _) _
  have h' := h.mono B0
  have F := findV_any sb r g N f ys _ _ _ i gen W h'.hd h'.ring
  have HW : Hid (w.alloc (.cells #[.int .i64 i, .int .i64 gen] 38) = W ∧ Below w.heap.size w W) := ⟨hW.symm, B0⟩
  rcases h'.found i gen with ⟨e1, e2⟩ | ⟨t, c, e1, e2, e3, e4, _⟩
  · rw [e1]
    rw [e2] at F
    have HF : Hid _ := F
    clear F e1 e2 h h' hW B0
    go_enter Tryd.func10, Tryd.ntmps10
    go_wp2_with fail
    rw [HW.out.1]
    refine Calls.mono HF.out ?_
    rintro e w1 ⟨rfl, hB⟩
    have H1 : Hid (Below w.heap.size w (w1.alloc (.cells #[.pointer none, .int .i64 0] 73))) := (HW.out.2.trans (hB.mono HW.out.2.size)).alloc (Nat.le_trans HW.out.2.size hB.size) _
    clear hB
    simp only [Bool.false_eq_true, if_false]
    go_wp2_with fail
    go_ret2
    exact ⟨rfl, H1.out⟩
  rw [e1]
  rw [e2, e3] at F
  have HF : Hid _ := F
  have HC : Hid (W.heap[c]? = some (.cells #[Value.int .i64 t] 84)) := e4
  clear F e1 e2 e3 e4 h h' hW B0
  go_enter Tryd.func10, Tryd.ntmps10
  go_wp2_with fail
  rw [HW.out.1]
  refine Calls.mono HF.out ?_
  rintro e w1 ⟨rfl, hB⟩
  have ec : w1.heap[c]? = some (.cells #[Value.int .i64 t] 84) := (hB.block _ (Array.getElem?_eq_some_iff.1 HC.out).1).trans HC.out
  have hcl : c < w1.heap.size := (Array.getElem?_eq_some_iff.1 ec).1
  have cc : (w1.alloc (.cells #[.pointer (some ⟨c, 0, none⟩), .int .i64 gen] 73)).cell? ⟨c, 0, none⟩ = some (Value.int .i64 t) := by
    rw [World.cell?_of_block (Below.heap_alloc _ _ _ hcl)]
    simp [World.cell?, ec]
  have H1 : Hid (Below w.heap.size w (w1.alloc (.cells #[.pointer (some ⟨c, 0, none⟩), .int .i64 gen] 73))) := (HW.out.2.trans (hB.mono HW.out.2.size)).alloc (Nat.le_trans HW.out.2.size hB.size) _
  clear hB ec
  simp only [if_true, pP, Option.map]
  go_wp2_with fail
  go_ret2
  exact ⟨rfl, H1.out⟩
end Go.Proofs.YtdobjanhmllloaaDoor
namespace Go.Proofs.YtdobjanhmllloaaDoor
open Go.RowKit
set_option maxRecDepth 100000
set_option linter.unusedVariables false
theorem nm_lowerV {W : World} {b L cap : Nat} {G : Nat → Nat} {n : Nat} {T : Nat → Nat → Prop} {lb lb' : Nat} (h : NmX W b L cap G n T lb) (hl : lb' ≤ lb) : NmX W b L cap G n T lb' :=
  { h with lo := Nat.le_trans hl h.lo, row := fun k hk => ⟨Nat.le_trans hl (h.row k hk).1, (h.row k hk).2⟩ }
theorem lv_congrV {S S' : Nat → Prop} (e : ∀ x, S x ↔ S' x) (k y : Nat) : Lv S k y ↔ Lv S' k y := ⟨Lv.mono fun x h => (e x).1 h, Lv.mono fun x h => (e x).2 h⟩
section
variable {W W' : World} {sb lb n : Nat} {last : Int} {cnt : Nat} {xs : List (Option Int × Int)} {r g N f b L cap : Nat} {G : Nat → Nat} {ys : List (Option Nat × Int)} {S : Nat → Prop}
theorem SpV.rg (h : SpV W sb lb n last cnt xs r g N f b L cap G ys S) {k : Nat} (hk : k = r ∨ k = g) : ∃ cs t, W.heap[k]? = some (.cells cs t) ∧ (t = 112 ∨ t = 73) ∧ lb ≤ k := by
  rcases hk with rfl | rfl
  · obtain ⟨cs, e, _⟩ := h.ring.hd
    exact ⟨cs, _, e, .inl rfl, h.lo.2.1⟩
  rcases Nat.eq_zero_or_pos N with e0 | e0
  · rw [(h.ring.zr e0).1]
    obtain ⟨cs, e, _⟩ := h.ring.hd
    exact ⟨cs, _, e, .inl rfl, h.lo.2.1⟩
  obtain ⟨cs, e, _⟩ := h.ring.row e0
  exact ⟨cs, _, e, .inr rfl, h.lo.2.2⟩
theorem SpV.other (h : SpV W sb lb n last cnt xs r g N f b L cap G ys S) (hC : Chg W W' r g) {k : Nat} {o : Obj} (hk : W.heap[k]? = some o) (ho : ∀ cs t z, o = .cells cs t z → t ≠ 112 ∧ t ≠ 73) : W'.heap[k]? = some o := by
  have ne : ∀ x, (x = r ∨ x = g) → k ≠ x := fun x hx e => by
    obtain ⟨cs, t, e1, e2, _⟩ := h.rg hx
    rw [e, e1] at hk
    cases hk
    rcases e2 with e2 | e2
    · exact (ho _ _ _ rfl).1 e2
    exact (ho _ _ _ rfl).2 e2
  exact (hC.block k (Array.getElem?_eq_some_iff.1 hk).1 (ne r (.inl rfl)) (ne g (.inr rfl))).trans hk
theorem SpV.after (h : SpV W sb lb n last cnt xs r g N f b L cap G ys S) (hC : Chg W W' r g) : W'.heap[sb]? = W.heap[sb]? ∧ NmX W' b L cap G n (Lv S) lb ∧ (∀ o t, CelV W o t → CelV W' o t) ∧ Ft isSV lb W W' := by
  refine ⟨(h.other hC h.hd fun cs t z e => by cases e; exact ⟨by decide, by decide⟩).trans h.hd.symm, h.nm.kept fun k cs t e ht => (h.other hC e fun cs' t' z e2 => ?_).trans e.symm, fun o t hc => hc.kept fun k cs e => h.other hC e fun cs' t' z e2 => ?_, hC.os, hC.tape, hC.output, hC.size, fun k h1 h2 => hC.block k h2 (by have := h.lo; omega) (by have := h.lo; omega), fun k o e ho => h.other hC e fun cs t z e2 => ⟨fun e3 => ho _ _ _ e2 (.inr (.inl e3)), fun e3 => ho _ _ _ e2 (.inr (.inr (.inl e3)))⟩⟩
  · cases e2
    rcases ht with rfl | rfl
    · exact ⟨by decide, by decide⟩
    exact ⟨by decide, by decide⟩
  cases e2
  exact ⟨by decide, by decide⟩
end
set_option maxHeartbeats 1000000 in
theorem newV_yes (n : Nat) (last : Int) (w : World) (h1 : 1 ≤ n) (h2 : n ≤ 65536) (h3 : 1 ≤ last) (h4 : last ≤ 2147483647) :
    Calls Tryd.prog 5 #[.int .i64 (n : Int), .int .i64 last] w fun e w' => ∃ sb, e = .returned (.tuple #[.pointer (some ⟨sb, 0, none⟩), .int .i64 0]) ∧ SlV w' sb w.heap.size n last 0 [] ∧ Below w.heap.size w w' := by
  have d1 : ¬ (n : Int) < 1 := by omega
  have d2 : ¬ (65536 : Int) < (n : Int) := by omega
  have d3 : ¬ last < 1 := by omega
  have d4 : ¬ 2147483647 < last := by omega
  have b1 : decide ((n : Int) < 1) = false := decide_eq_false d1
  have b2 : decide ((65536 : Int) < (n : Int)) = false := decide_eq_false d2
  have b3 : decide (last < 1) = false := decide_eq_false d3
  have b4 : decide ((2147483647 : Int) < last) = false := decide_eq_false d4
  have n1 : ¬ n < 1 := by omega
  have n2 : ¬ 65536 < n := by omega
  go_enter Tryd.func5, Tryd.ntmps5
  go_wp2_with fail
  refine Calls.mono (newV_any w) ?_
  rintro e w1 ⟨rfl, q1, q2⟩
  have H1 : Hid (RV w1 w.heap.size w.heap.size 0 0 0 [] ∧ Below w.heap.size w w1) := ⟨q1, q2⟩
  clear q1 q2
  go_wp2_with fail
  refine Calls.mono (below_any n w1 h1 h2) ?_
  rintro e w2 ⟨b, L, cap, G, rfl, q1, q2⟩
  have H2 : Hid (NmX w2 b L cap G n (Lv fun x => x < n) w1.heap.size ∧ Below w1.heap.size w1 w2) := ⟨q1, q2⟩
  clear q1 q2
  go_wp2_with fail
  go_ret2
  refine ⟨_, rfl, ⟨w.heap.size, w.heap.size, 0, 0, b, L, cap, G, [], ?_⟩, ?_⟩
  · have B3 : Below w2.heap.size w2 (w2.alloc (.cells #[.pointer (some ⟨w.heap.size, 0, none⟩), .slice (some ⟨b, 0, none⟩) L cap, .int .i64 last, .int .i64 0] 78)) := (Below.refl _ _).alloc (Nat.le_refl _) _
    have s1 := H1.out.2.size
    have s2 := H2.out.2.size
    refine ⟨(MapKept.heap_alloc _ _).1, (H1.out.1.mono H2.out.2).mono B3, ?_, rfl, fun i hi => by simp at hi, ⟨by omega, Nat.le_refl _, Nat.le_refl _⟩, Nat.zero_le _, h3, h4, fun i hi => by simp at hi, rfl⟩
    refine (nm_lowerV (H2.out.1.kept fun k cs t e _ => B3.block _ (Array.getElem?_eq_some_iff.1 e).1) s1).congr fun k _ y => lv_congrV (fun x => ?_) k y
    unfold VacV
    simp
  exact (H1.out.2.trans (H2.out.2.mono H1.out.2.size)).alloc (Nat.le_trans H1.out.2.size H2.out.2.size) _
theorem getD_setV {α : Type} (xs : List α) (i : Nat) (v z : α) (hi : i < xs.length) (j : Nat) : (xs.set i v).getD j z = if j = i then v else xs.getD j z := by
  simp only [List.getD_eq_getElem?_getD, List.getElem?_set]
  by_cases e : i = j
  · subst e; simp [hi]
  simp [e, Ne.symm e]
theorem vac_dropV {n : Nat} {last : Int} {xs : List (Option Int × Int)} {i : Nat} {t : Int} {gen : Int} (hi : i < xs.length) (he : xs.getD i (none, 0) = (some t, gen)) (hn : xs.length ≤ n) (j : Nat) : VacV n last (xs.set i (none, gen)) j ↔ (VacV n last xs j ∨ (j = i ∧ gen < last)) := by
  unfold VacV
  rw [List.length_set, getD_setV _ _ _ _ hi]
  by_cases e : j = i
  · subst e
    rw [if_pos rfl, he]
    simp
    omega
  rw [if_neg e]
  simp [e]
theorem count_dropV {xs : List (Option Int × Int)} {i : Nat} {t : Int} {gen : Int} (hi : i < xs.length) (he : xs.getD i (none, 0) = (some t, gen)) : xs.countP (fun x => x.1.isSome) = (xs.set i (none, gen)).countP (fun x => x.1.isSome) + 1 := by
  have h1 := List.countP_set (p := fun x : Option Int × Int => x.1.isSome) (a := ((none, gen) : Option Int × Int)) hi
  have h2 : xs[i] = (some t, gen) := by
    rw [List.getD_eq_getElem?_getD, List.getElem?_eq_getElem hi] at he
    exact he
  rw [h2] at h1
  have h3 : 0 < xs.countP (fun x => x.1.isSome) := List.countP_pos_iff.2 ⟨xs[i], List.getElem_mem hi, by rw [h2]; rfl⟩
  simp at h1
  omega
end Go.Proofs.YtdobjanhmllloaaDoor
namespace Go.Proofs.YtdobjanhmllloaaDoor
open Go.RowKit
set_option maxRecDepth 100000
set_option linter.unusedVariables false
set_option maxHeartbeats 1000000 in
theorem dropV_no {w : World} {sb lb n : Nat} {last : Int} {cnt : Nat} {xs : List (Option Int × Int)} (h : SlV w sb lb n last cnt xs) (i gen : Int) (hf : fndV xs i gen = none) :
    Calls Tryd.prog 14 #[.pointer (some ⟨sb, 0, none⟩), .agg #[.int .i64 i, .int .i64 gen]] w fun e w' => e = .returned (.tuple #[(.int .i64 0), .int .i64 60]) ∧ Below w.heap.size w w' := by
  obtain ⟨r, g, N, f, b, L, cap, G, ys, h⟩ := h
  obtain ⟨W, hW⟩ : ∃ W, W = w.alloc (.cells #[.int .i64 i, .int .i64 gen] 38) := ⟨_, rfl⟩
  have B0 : Below w.heap.size w W := by rw [hW]; exact (Below.refl _ _).alloc (Nat.le_refl _) _
  have h' := h.mono B0
  have F := findV_any sb r g N f ys _ _ _ i gen W h'.hd h'.ring
  have HW : Hid (w.alloc (.cells #[.int .i64 i, .int .i64 gen] 38) = W ∧ Below w.heap.size w W) := ⟨hW.symm, B0⟩
  rcases h'.found i gen with ⟨e1, e2⟩ | ⟨t, c, e1, e2, e3, e4, _⟩
  · rw [e2] at F
    have HF : Hid _ := F
    clear F e1 e2 h h' hW B0 hf
    go_enter Tryd.func14, Tryd.ntmps14
    go_wp2_with fail
    rw [HW.out.1]
    refine Calls.mono HF.out ?_
    rintro e w1 ⟨rfl, hB⟩
    have H1 : Hid (Below w.heap.size w (w1.alloc (.cells #[.pointer none, .int .i64 0] 73))) := (HW.out.2.trans (hB.mono HW.out.2.size)).alloc (Nat.le_trans HW.out.2.size hB.size) _
    clear hB
    simp only [Bool.false_eq_true, if_false]
    go_wp2_with fail
    go_ret2
    exact ⟨rfl, H1.out⟩
  rw [hf] at e1
  cases e1
structure MidV (w W : World) (sb lb n : Nat) (last : Int) (cnt : Nat) (r b L cap : Nat) (G : Nat → Nat) (S : Nat → Prop) (xs : List (Option Int × Int)) : Prop where
  hd : W.heap[sb]? = some (.cells #[.pointer (some ⟨r, 0, none⟩), .slice (some ⟨b, 0, none⟩) L cap, .int .i64 last, .int .i64 (cnt : Int)] 78)
  ring : ∃ g N f ys, RV W r g N f ys.length ys ∧ lb ≤ g ∧ ys.length = xs.length ∧ ∀ i, i < xs.length → (ys.getD i (none, 0)).2 = (xs.getD i (none, 0)).2 ∧ CelV W (ys.getD i (none, 0)).1 (xs.getD i (none, 0)).1
  nm : NmX W b L cap G n (Lv S) lb
  lo : lb ≤ sb ∧ lb ≤ r
  ft : Ft isSV lb w W
theorem MidV.shut {w W : World} {sb lb n : Nat} {last : Int} {cnt : Nat} {r b L cap : Nat} {G : Nat → Nat} {S : Nat → Prop} {xs : List (Option Int × Int)} (h : MidV w W sb lb n last cnt r b L cap G S xs) (hS : ∀ x, S x ↔ VacV n last xs x) (hle : xs.length ≤ n) (h1 : 1 ≤ last) (h2 : last ≤ 2147483647) (hg : ∀ i, i < xs.length → 1 ≤ (xs.getD i (none, 0)).2 ∧ (xs.getD i (none, 0)).2 ≤ last) (hc : cnt = xs.countP fun x => x.1.isSome) : SlV W sb lb n last cnt xs := by
  obtain ⟨g, N, f, ys, q1, q2, q3, q4⟩ := h.ring
  exact ⟨r, g, N, f, b, L, cap, G, ys, h.hd, q1, h.nm.congr fun k _ y => lv_congrV hS k y, q3, q4, ⟨h.lo.1, h.lo.2, q2⟩, hle, h1, h2, hg, hc⟩
theorem MidV.words {w W W' : World} {sb lb n : Nat} {last : Int} {cnt : Nat} {r b L cap : Nat} {G : Nat → Nat} {S S' : Nat → Prop} {xs : List (Option Int × Int)} (h : MidV w W sb lb n last cnt r b L cap G S xs) (hN : NmX W' b L cap G n (Lv S') lb) (hF : Ft isW lb W W') : MidV w W' sb lb n last cnt r b L cap G S' xs := by
  obtain ⟨g, N, f, ys, q1, q2, q3, q4⟩ := h.ring
  refine ⟨(hF.blk h.hd (by unfold isW; decide)).trans h.hd, ⟨g, N, f, ys, q1.of_blocks ?_ ?_, q2, q3, fun i hi => ⟨(q4 i hi).1, (q4 i hi).2.kept fun k cs e => (hF.blk e (by unfold isW; decide)).trans e⟩⟩, hN, h.lo, h.ft.trans (hF.weak fun t ht => .inr (.inr (.inr ht)))⟩
  · obtain ⟨cs, e, _⟩ := q1.hd
    exact hF.blk e (by unfold isW; decide)
  rcases Nat.eq_zero_or_pos N with e0 | e0
  · rw [(q1.zr e0).1]
    obtain ⟨cs, e, _⟩ := q1.hd
    exact hF.blk e (by unfold isW; decide)
  obtain ⟨cs, e, _⟩ := q1.row e0
  exact hF.blk e (by unfold isW; decide)
theorem MidV.draw {w W : World} {sb lb n : Nat} {last : Int} {cnt : Nat} {r b L cap : Nat} {G : Nat → Nat} {S : Nat → Prop} {xs : List (Option Int × Int)} (h : MidV w W sb lb n last cnt r b L cap G S xs) (m : Nat) : MidV w (W.drewN m) sb lb n last cnt r b L cap G S xs := by
  obtain ⟨g, N, f, ys, q1, q2, q3, q4⟩ := h.ring
  exact ⟨h.hd, ⟨g, N, f, ys, q1.of_blocks rfl rfl, q2, q3, fun i hi => ⟨(q4 i hi).1, (q4 i hi).2.kept fun k cs e => e⟩⟩, h.nm.kept fun _ _ _ _ _ => rfl, h.lo, h.ft.drewN m⟩
theorem SpV.lay {w W W' : World} {sb lb n : Nat} {last : Int} {cnt : Nat} {xs : List (Option Int × Int)} {r g N f b L cap : Nat} {G : Nat → Nat} {ys ys' : List (Option Nat × Int)} {xs' : List (Option Int × Int)} {S : Nat → Prop} (h : SpV W sb lb n last cnt xs r g N f b L cap G ys S) (hw : Ft isSV lb w W) (hlb : lb ≤ W.heap.size) (hR : RingsV W r g ys' W') (hl : ys'.length = xs'.length) (ht : ∀ i, i < xs'.length → (ys'.getD i (none, 0)).2 = (xs'.getD i (none, 0)).2 ∧ CelV W (ys'.getD i (none, 0)).1 (xs'.getD i (none, 0)).1) (cnt' : Nat) :
    MidV w (W'.setCell ⟨sb, 3, none⟩ (.int .i64 (cnt' : Int))) sb lb n last cnt' r b L cap G S xs' := by
  obtain ⟨g', N', f', q1, q2, q3⟩ := hR
  obtain ⟨a1, a2, a3, a4⟩ := h.after q2
  have hd := a1.trans h.hd
  have hne : ∀ (k : Nat) (cs : Array Value) (t : TypeId), W'.heap[k]? = some (.cells cs t) → t ≠ 78 → (W'.setCell ⟨sb, 3, none⟩ (.int .i64 (cnt' : Int))).heap[k]? = some (.cells cs t) := fun k cs t e hn => by
    refine (Below.heap_setCell _ _ _ k (show k ≠ sb from fun e2 => ?_)).trans e
    rw [e2, hd] at e
    cases e
    exact hn rfl
  refine ⟨heap_setCell_same W' sb 3 _ _ _ hd, ⟨g', N', f', ys', q1.of_blocks ?_ ?_, ?_, hl, fun i hi => ⟨(ht i hi).1, (a3 _ _ (ht i hi).2).kept fun k cs e => hne _ _ _ e (by decide)⟩⟩, a2.kept fun k cs t e ht => (hne _ _ _ e ?_).trans e.symm, ⟨h.lo.1, h.lo.2.1⟩, (hw.trans a4).set hd (.inl rfl) h.lo.1 _ _⟩
  · obtain ⟨cs, e, _⟩ := q1.hd
    exact (hne _ _ _ e (by decide)).trans e.symm
  · rcases Nat.eq_zero_or_pos N' with e0 | e0
    · rw [(q1.zr e0).1]
      obtain ⟨cs, e, _⟩ := q1.hd
      exact (hne _ _ _ e (by decide)).trans e.symm
    obtain ⟨cs, e, _⟩ := q1.row e0
    exact (hne _ _ _ e (by decide)).trans e.symm
  · rcases q3 with e | e | e
    · rw [e]; exact h.lo.2.2
    · rw [e]; exact h.lo.2.1
    omega
  rcases ht with rfl | rfl <;> decide
def putXV (xs : List (Option Int × Int)) (m : Nat) (v : Int) : List (Option Int × Int) := if m < xs.length then xs.set m (some v, (xs.getD m (none, 0)).2 + 1) else xs ++ [(some v, (xs.getD m (none, 0)).2 + 1)]
theorem vac_leV {n : Nat} {last : Int} {xs : List (Option Int × Int)} {m : Nat} (h : Least (VacV n last xs) m) : m ≤ xs.length ∧ m < n := by
  have h1 := h.1
  unfold VacV at h1
  refine ⟨?_, h1.1⟩
  rcases Nat.lt_or_ge xs.length m with h2 | h2
  · have := h.2 xs.length ⟨by omega, .inl (Nat.le_refl _)⟩
    omega
  exact h2
theorem getD_snocV {α : Type} (xs : List α) (v z : α) (j : Nat) : (xs ++ [v]).getD j z = if j = xs.length then v else xs.getD j z := by
  simp only [List.getD_eq_getElem?_getD]
  rcases Nat.lt_trichotomy j xs.length with h | h | h
  · rw [List.getElem?_append_left h, if_neg (by omega)]
  · subst h; simp
  rw [List.getElem?_append_right (by omega), if_neg (by omega), List.getElem?_eq_none (l := xs) (by omega), List.getElem?_eq_none (by simp; omega)]
theorem putX_lenV (xs : List (Option Int × Int)) (m : Nat) (v : Int) (h : m ≤ xs.length) : (putXV xs m v).length = if m < xs.length then xs.length else xs.length + 1 := by
  unfold putXV
  split <;> simp
theorem putX_atV (xs : List (Option Int × Int)) (m : Nat) (v : Int) (h : m ≤ xs.length) (j : Nat) : (putXV xs m v).getD j (none, 0) = if j = m then (some v, (xs.getD m (none, 0)).2 + 1) else xs.getD j (none, 0) := by
  unfold putXV
  split
  · rw [getD_setV _ _ _ _ (by assumption)]
  rw [getD_snocV]
  have e : m = xs.length := by omega
  rw [e]
theorem vac_putV {n : Nat} {last : Int} {xs : List (Option Int × Int)} {m : Nat} (h : Least (VacV n last xs) m) (v : Int) (j : Nat) : VacV n last (putXV xs m v) j ↔ (VacV n last xs j ∧ j ≠ m) := by
  obtain ⟨h1, h2⟩ := vac_leV h
  unfold VacV
  rw [putX_atV _ _ _ h1, putX_lenV _ _ _ h1]
  by_cases e : j = m
  · subst e
    rw [if_pos rfl]
    simp
    intro _
    split <;> omega
  rw [if_neg e]
  simp only [ne_eq, e, not_false_eq_true, and_true]
  constructor
  · rintro ⟨a, b | b⟩
    · refine ⟨a, .inl ?_⟩
      split at b <;> omega
    exact ⟨a, .inr b⟩
  rintro ⟨a, b | b⟩
  · refine ⟨a, .inl ?_⟩
    split <;> omega
  exact ⟨a, .inr b⟩
theorem count_putV {xs : List (Option Int × Int)} {m : Nat} (hm : m ≤ xs.length) (hn : m < xs.length → (xs.getD m (none, 0)).1 = none) (v : Int) : (putXV xs m v).countP (fun x => x.1.isSome) = xs.countP (fun x => x.1.isSome) + 1 := by
  unfold putXV
  split
  · rename_i hl
    have h1 := List.countP_set (p := fun x : Option Int × Int => x.1.isSome) (a := ((some v, (xs.getD m (none, 0)).2 + 1) : Option Int × Int)) hl
    have h2 : xs[m].1 = none := by
      have := hn hl
      rw [List.getD_eq_getElem?_getD, List.getElem?_eq_getElem hl] at this
      exact this
    rw [h1, h2]
    simp
  simp [List.countP_append]
set_option maxHeartbeats 1000000 in
theorem putV_no {w : World} {sb lb n : Nat} {last : Int} {cnt : Nat} {xs : List (Option Int × Int)} (h : SlV w sb lb n last cnt xs) (v : Int) (hv : ∀ i, ¬ VacV n last xs i) :
    Calls Tryd.prog 8 #[.pointer (some ⟨sb, 0, none⟩), Value.int .i64 v] w fun e w' => e = .returned (.tuple #[.agg #[.int .i64 0, .int .i64 0], .int .i64 61]) ∧ Below w.heap.size w w' := by
  obtain ⟨r, g, N, f, b, L, cap, G, ys, h⟩ := h
  obtain ⟨W, hW⟩ : ∃ W, W = w.alloc (.cells #[.int .i64 0, .int .i64 0] 38) := ⟨_, rfl⟩
  obtain ⟨z, ez⟩ : ∃ z, z = w.heap.size := ⟨_, rfl⟩
  have B0 : Below w.heap.size w W := by rw [hW]; exact (Below.refl _ _).alloc (Nat.le_refl _) _
  have kz : W.heap[z]? = some (.cells #[.int .i64 0, .int .i64 0] 38) := by rw [hW, ez]; exact (MapKept.heap_alloc _ _).1
  have h' := h.mono B0
  have HL : Hid _ := least_no W b L cap G n lb _ h'.nm hv
  obtain ⟨_, c1, _, _, _, _⟩ := h'.cells
  have HW : Hid (w.alloc (.cells #[.int .i64 0, .int .i64 0] 38) = W ∧ w.heap.size = z ∧ Below w.heap.size w W ∧ W.heap[z]? = some (.cells #[.int .i64 0, .int .i64 0] 38)) := ⟨hW.symm, ez.symm, B0, kz⟩
  clear h h' hW ez B0 kz hv
  go_enter Tryd.func8, Tryd.ntmps8
  go_upto_region 1 with fail
  rw [HW.out.1, HW.out.2.1]
  go_wp2_with fail
  refine Calls.mono HL.out ?_
  rintro e w1 ⟨rfl, hB⟩
  have e1 : w1.heap[z]? = some (.cells #[.int .i64 0, .int .i64 0] 38) := (hB.block _ (Array.getElem?_eq_some_iff.1 HW.out.2.2.2).1).trans HW.out.2.2.2
  have u0 : w1.cell? ⟨z, 0, none⟩ = some (.int .i64 0) := by simp [World.cell?, e1]
  have u1 : w1.cell? ⟨z, 1, none⟩ = some (.int .i64 0) := by simp [World.cell?, e1]
  have u2 : w1.frozen? ⟨z, 0, none⟩ = false := by simp [World.frozen?, e1]
  have u3 : w1.frozen? ⟨z, 1, none⟩ = false := by simp [World.frozen?, e1]
  have H1 : Hid (Below w.heap.size w w1 ∧ w.heap.size ≤ z) := ⟨HW.out.2.2.1.trans (hB.mono HW.out.2.2.1.size), by have := HW.out.2.1; omega⟩
  clear hB e1
  go_wp2_with fail
  exact bodyPost_ret (v := .tuple #[.agg #[.int .i64 0, .int .i64 0], .int .i64 61]) (by simp [results, Tryd.results8, go_sem, u0, u1]) rfl ⟨rfl, (H1.out.1.setCell (p := ⟨z, 0, none⟩) H1.out.2 _).setCell (p := ⟨z, 1, none⟩) H1.out.2 _⟩
theorem SpV.words {W W' : World} {sb lb n : Nat} {last : Int} {cnt : Nat} {xs : List (Option Int × Int)} {r g N f b L cap : Nat} {G : Nat → Nat} {ys : List (Option Nat × Int)} {S S' : Nat → Prop} (h : SpV W sb lb n last cnt xs r g N f b L cap G ys S) (hN : NmX W' b L cap G n (Lv S') lb) (hF : Ft isW lb W W') : SpV W' sb lb n last cnt xs r g N f b L cap G ys S' := by
  refine { h with hd := (hF.blk h.hd (by unfold isW; decide)).trans h.hd, ring := h.ring.of_blocks ?_ ?_, nm := hN, things := fun i hi => ⟨(h.things i hi).1, (h.things i hi).2.kept fun k cs e => (hF.blk e (by unfold isW; decide)).trans e⟩ }
  · obtain ⟨cs, e, _⟩ := h.ring.hd
    exact hF.blk e (by unfold isW; decide)
  rcases Nat.eq_zero_or_pos N with e0 | e0
  · rw [(h.ring.zr e0).1]
    obtain ⟨cs, e, _⟩ := h.ring.hd
    exact hF.blk e (by unfold isW; decide)
  obtain ⟨cs, e, _⟩ := h.ring.row e0
  exact hF.blk e (by unfold isW; decide)
theorem ft_newV {P : TypeId → Prop} {lb : Nat} {a b : World} (h : Ft P lb a b) {x : Nat} (hx : a.heap.size ≤ x) (hl : lb ≤ x) (i : Nat) (v : Value) : Ft P lb a (b.setCell ⟨x, i, none⟩ v) :=
  ⟨h.os, h.tape, h.output, by simpa using h.size, fun k h1 h2 => (Below.heap_setCell _ _ _ k (show k ≠ x by omega)).trans (h.low k h1 h2), fun k o e ho => (Below.heap_setCell _ _ _ k (show k ≠ x by have := (Array.getElem?_eq_some_iff.1 e).1; omega)).trans (h.oth k o e ho)⟩
end Go.Proofs.YtdobjanhmllloaaDoor
namespace Go.Proofs.YtdobjanhmllloaaDoor
open Go.RowKit
set_option maxRecDepth 100000
set_option linter.unusedVariables false
structure Asd (sb r G : Nat) (cs : Array Value) (W : World) : Prop where
  row : W.heap[G]? = some (.cells cs 73)
  top : ∃ v1 v2 v3, W.heap[sb]? = some (.cells #[.pointer (some ⟨r, 0, none⟩), v1, v2, v3] 78)
  ring : ∃ hs : Array Value, W.heap[r]? = some (.cells hs 112) ∧ ∀ a n m, hs[0]? = some (.slice (some a) n m) → a.block ≠ G
theorem Asd.kept {sb r G : Nat} {cs : Array Value} {W W' : World} (h : Asd sb r G cs W) (hk : ∀ (k : Nat) (cs : Array Value) (t : TypeId), W.heap[k]? = some (.cells cs t) → (t = 73 ∨ t = 78 ∨ t = 112) → W'.heap[k]? = some (.cells cs t)) : Asd sb r G cs W' := by
  obtain ⟨v1, v2, v3, e⟩ := h.top
  obtain ⟨hs, e2, e3⟩ := h.ring
  exact ⟨hk _ _ _ h.row (.inl rfl), ⟨v1, v2, v3, hk _ _ _ e (.inr (.inl rfl))⟩, ⟨hs, hk _ _ _ e2 (.inr (.inr rfl)), e3⟩⟩
theorem Asd.mono {sb r G : Nat} {cs : Array Value} {W W' : World} (h : Asd sb r G cs W) (hB : Below W.heap.size W W') : Asd sb r G cs W' :=
  h.kept fun k cs t e _ => (hB.block _ (Array.getElem?_eq_some_iff.1 e).1).trans e
theorem Asd.lts {sb r G : Nat} {cs : Array Value} {W : World} (h : Asd sb r G cs W) : G < W.heap.size ∧ sb < W.heap.size ∧ r < W.heap.size := by
  obtain ⟨v1, v2, v3, e⟩ := h.top
  obtain ⟨hs, e2, e3⟩ := h.ring
  exact ⟨(Array.getElem?_eq_some_iff.1 h.row).1, (Array.getElem?_eq_some_iff.1 e).1, (Array.getElem?_eq_some_iff.1 e2).1⟩
theorem Asd.ner {sb r G : Nat} {cs : Array Value} {W : World} (h : Asd sb r G cs W) : G ≠ r := fun e => by
  obtain ⟨hs, e2, _⟩ := h.ring
  rw [← e, h.row] at e2
  cases e2
section
variable {W W' : World} {sb lb n : Nat} {last : Int} {cnt : Nat} {xs : List (Option Int × Int)} {r g N f b L cap : Nat} {G : Nat → Nat} {ys : List (Option Nat × Int)} {S : Nat → Prop}
theorem Asd.neg {Gx : Nat} {cs : Array Value} (h : SpV W sb lb n last cnt xs r g N f b L cap G ys S) (ha : Asd sb r Gx cs W) : Gx ≠ g := by
  rcases Nat.eq_zero_or_pos N with e0 | e0
  · rw [(h.ring.zr e0).1]
    exact ha.ner
  obtain ⟨hs, e2, e3⟩ := ha.ring
  obtain ⟨cs', e4, _, e5⟩ := h.ring.hd
  rw [e2] at e4
  cases e4
  have h5 := e5 0 (by omega)
  simp only [hdr, pt_pos e0] at h5
  exact fun e => e3 _ _ _ h5 e.symm
theorem Asd.of {Gx : Nat} {cs : Array Value} (h : SpV W sb lb n last cnt xs r g N f b L cap G ys S) (hr : W.heap[Gx]? = some (.cells cs 73)) (hn : Gx ≠ g) : Asd sb r Gx cs W := by
  obtain ⟨cs', e4, _, e5⟩ := h.ring.hd
  refine ⟨hr, ⟨_, _, _, h.hd⟩, ⟨cs', e4, fun a n m e => ?_⟩⟩
  have h5 := e5 0 (by omega)
  rw [e] at h5
  simp only [hdr] at h5
  unfold pt at h5
  split at h5
  · cases h5
  cases h5
  exact fun e => hn e.symm
theorem Asd.rings {Gx : Nat} {cs : Array Value} (h : SpV W sb lb n last cnt xs r g N f b L cap G ys S) (ha : Asd sb r Gx cs W) {ys' : List (Option Nat × Int)} (hR : RingsV W r g ys' W') : Asd sb r Gx cs W' := by
  obtain ⟨g', N', f', q1, q2, q3⟩ := hR
  have hlt := ha.lts
  have n1 := ha.ner
  have n2 := Asd.neg h ha
  obtain ⟨cs', e4, _, e5⟩ := q1.hd
  refine ⟨(q2.block _ hlt.1 n1 n2).trans ha.row, ⟨_, _, _, (h.after q2).1.trans h.hd⟩, ⟨cs', e4, fun a n m e => ?_⟩⟩
  have h5 := e5 0 (by omega)
  rw [e] at h5
  simp only [hdr] at h5
  unfold pt at h5
  split at h5
  · cases h5
  cases h5
  show g' ≠ Gx
  rcases q3 with e | e | e <;> omega
end
theorem Asd.cnt {sb r G : Nat} {cs : Array Value} {W : World} (h : Asd sb r G cs W) (v : Value) : Asd sb r G cs (W.setCell ⟨sb, 3, none⟩ v) := by
  obtain ⟨v1, v2, v3, e⟩ := h.top
  obtain ⟨hs, e2, e3⟩ := h.ring
  have n1 : G ≠ sb := fun e0 => by rw [← e0, h.row] at e; cases e
  have n2 : r ≠ sb := fun e0 => by rw [← e0, e2] at e; cases e
  exact ⟨(Below.heap_setCell _ _ _ _ n1).trans h.row, ⟨v1, v2, v, heap_setCell_same W sb 3 _ _ _ e⟩, ⟨hs, (Below.heap_setCell _ _ _ _ n2).trans e2, e3⟩⟩
structure Fua (sb lb : Nat) (W W' : World) : Prop where
  ft : Ft isSV lb W W'
  asd : ∀ r G cs, Asd sb r G cs W → Asd sb r G cs W'
theorem Fua.of_below {sb lb : Nat} {W W' : World} (h : Below W.heap.size W W') : Fua sb lb W W' := ⟨Ft.of_below h, fun _ _ _ a => a.mono h⟩
theorem Fua.trans {sb lb : Nat} {A B C : World} (h : Fua sb lb A B) (k : Fua sb lb B C) : Fua sb lb A C := ⟨h.ft.trans k.ft, fun r G cs a => k.asd r G cs (h.asd r G cs a)⟩
theorem Fua.words {sb lb : Nat} {W W' : World} (h : Ft isW lb W W') : Fua sb lb W W' :=
  ⟨h.weak fun t ht => .inr (.inr (.inr ht)), fun r G cs a => a.kept fun k cs t e ht => (h.blk e (by rcases ht with rfl | rfl | rfl <;> (unfold isW; decide))).trans e⟩
theorem Fua.drewN {sb lb : Nat} {W W' : World} (h : Fua sb lb W W') (n : Nat) : Fua sb lb W (W'.drewN n) := ⟨h.ft.drewN n, fun r G cs a => (h.asd r G cs a).kept fun _ _ _ e _ => e⟩
theorem Fua.new {sb lb : Nat} {W W' : World} (h : Fua sb lb W W') {x : Nat} (hx : W.heap.size ≤ x) (hl : lb ≤ x) (i : Nat) (v : Value) : Fua sb lb W (W'.setCell ⟨x, i, none⟩ v) := by
  refine ⟨ft_newV h.ft hx hl i v, fun r G cs a => ?_⟩
  have hlt := a.lts
  have a' := h.asd r G cs a
  obtain ⟨v1, v2, v3, e⟩ := a'.top
  obtain ⟨hs, e2, e3⟩ := a'.ring
  exact ⟨(Below.heap_setCell _ _ _ _ (show G ≠ x by omega)).trans a'.row, ⟨v1, v2, v3, (Below.heap_setCell _ _ _ _ (show sb ≠ x by omega)).trans e⟩, ⟨hs, (Below.heap_setCell _ _ _ _ (show r ≠ x by omega)).trans e2, e3⟩⟩
end Go.Proofs.YtdobjanhmllloaaDoor
