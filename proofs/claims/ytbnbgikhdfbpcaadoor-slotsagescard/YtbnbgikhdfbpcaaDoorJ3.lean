/- Contracts of the program's functions, part 3: own work, joined in build order. -/
import Derived.Test.YtbnbgikhdfbpcaaDoorJ2
namespace Go.Proofs.YtbnbgikhdfbpcaaDoor
open Go.RowKit
set_option maxRecDepth 100000
set_option linter.unusedVariables false
theorem atV_u (r g N f : Nat) (ys : List (Option Nat × Int)) (i : Int) (w : World) (h : RV w r g N f ys.length ys) : Calls Tryd.prog 34 #[.pointer (some ⟨r, 0, none⟩), .int .i64 i] w fun e w' => ∃ bb, e = .returned (.tuple #[.agg #[pP (atP ys i).1, .int .i64 (atP ys i).2], .bool bb]) ∧ Below w.heap.size w w' := by
  unfold atP
  by_cases c : 0 ≤ i ∧ i < (ys.length : Int)
  · rw [if_pos c]
    exact (atV_yes r g N f _ ys i.toNat i w h (by omega) (by omega)).mono fun e w' ⟨h1, h2⟩ => ⟨true, h1, h2⟩
  · rw [if_neg c]
    exact (atV_no r g N f _ ys i w h (by omega)).mono fun e w' ⟨h1, h2⟩ => ⟨false, h1, h2⟩
set_option maxHeartbeats 2000000 in
theorem findV_any (sb r g N f : Nat) (ys : List (Option Nat × Int)) (v1 v2 v3 : Value) (i gen : Int) (w : World) (hs : w.heap[sb]? = some (.cells #[.pointer (some ⟨r, 0, none⟩), v1, v2, v3] 84)) (h : RV w r g N f ys.length ys) :
    Calls Tryd.prog 37 #[.pointer (some ⟨sb, 0, none⟩), .agg #[.int .i64 i, .int .i64 gen]] w fun e w' => e = .returned (if hasP ys i gen then .tuple #[.agg #[pP (atP ys i).1, .int .i64 (atP ys i).2], .int .i64 0] else .tuple #[.agg #[.pointer none, .int .i64 0], .int .i64 60]) ∧ Below w.heap.size w w' := by
  obtain ⟨W, hW⟩ : ∃ W, W = (w.alloc (.cells #[.int .i64 i, .int .i64 gen] 38)).alloc (.cells #[.pointer none, .int .i64 0] 79) := ⟨_, rfl⟩
  obtain ⟨z, ez⟩ : ∃ z, z = w.heap.size := ⟨_, rfl⟩
  have B0 : Below w.heap.size w W := by rw [hW]; exact ((Below.refl _ _).alloc (Nat.le_refl _) _).alloc (by simp) _
  have sz : W.heap.size = z + 2 := by rw [hW, ez]; simp
  have kz : W.heap[z]? = some (.cells #[.int .i64 i, .int .i64 gen] 38) := by
    rw [hW, ez]
    exact (Below.heap_alloc _ _ _ (by simp)).trans (MapKept.heap_alloc _ _).1
  have kz1 : W.heap[z + 1]? = some (.cells #[.pointer none, .int .i64 0] 79) := by
    rw [hW, ez]
    have := (MapKept.heap_alloc (w.alloc (.cells #[.int .i64 i, .int .i64 gen] 38)) (.cells #[.pointer none, .int .i64 0] 79)).1
    simpa using this
  have hsW : W.heap[sb]? = some (.cells #[.pointer (some ⟨r, 0, none⟩), v1, v2, v3] 84) := (B0.block _ (Array.getElem?_eq_some_iff.1 hs).1).trans hs
  have c0 : W.cell? ⟨sb, 0, none⟩ = some (.pointer (some ⟨r, 0, none⟩)) := by simp [World.cell?, hsW]
  have d0 : W.cell? ⟨z, 0, none⟩ = some (.int .i64 i) := by simp [World.cell?, kz]
  have d1 : W.cell? ⟨z, 1, none⟩ = some (.int .i64 gen) := by simp [World.cell?, kz]
  have t0 : W.cell? ⟨z + 1, 0, none⟩ = some (.pointer none) := by simp [World.cell?, kz1]
  have t1 : W.cell? ⟨z + 1, 1, none⟩ = some (.int .i64 0) := by simp [World.cell?, kz1]
  have y0 : W.frozen? ⟨z + 1, 0, none⟩ = false := by simp [World.frozen?, kz1]
  have y1 : W.frozen? ⟨z + 1, 1, none⟩ = false := by simp [World.frozen?, kz1]
  have AT : Hid (∀ W', Below W.heap.size W W' → Calls Tryd.prog 34 #[.pointer (some ⟨r, 0, none⟩), .int .i64 i] W' fun e w' => ∃ bb, e = .returned (.tuple #[.agg #[pP (atP ys i).1, .int .i64 (atP ys i).2], .bool bb]) ∧ Below W'.heap.size W' w') := fun W' hB => atV_u r g N f ys i W' ((h.mono B0).mono hB)
  have HB : Hid (Below w.heap.size w W ∧ W.heap.size = z + 2 ∧ z = w.heap.size) := ⟨B0, sz, ez⟩
  have HW : Hid ((w.alloc (.cells #[.int .i64 i, .int .i64 gen] 38)).alloc (.cells #[.pointer none, .int .i64 0] 79) = W ∧ w.heap.size = z) := ⟨hW.symm, ez.symm⟩
  have eh : hasP ys i gen = ((atP ys i).1.isSome && decide ((atP ys i).2 = gen)) := rfl
  rw [eh]
  clear eh
  generalize atP ys i = x at AT ⊢
  obtain ⟨x1, x2⟩ := x
  obtain ⟨pp, epp⟩ : ∃ pp : Option Addr, pp = x1.map fun b => ⟨b, 0, none⟩ := ⟨_, rfl⟩
  have ep : pP x1 = .pointer pp := by rw [epp]; rfl
  have epn : x1.isSome = pp.isSome := by rw [epp]; cases x1 <;> rfl
  simp only at AT ⊢
  rw [ep] at AT ⊢
  rw [epn]
  have hzl : z + 1 < W.heap.size := by omega
  have hzl0 : z < W.heap.size := by omega
  have hsl : sb < W.heap.size := (Array.getElem?_eq_some_iff.1 hsW).1
  have KZ : Hid (W.heap[z + 1]? = some (.cells #[.pointer none, .int .i64 0] 79)) := kz1
  clear h hs hsW kz kz1 sz ez hW B0 ep epn epp
  go_enter Tryd.func37, Tryd.ntmps37
  go_upto_region 1 with fail
  rw [HW.out.1, HW.out.2]
  go_cut [6] from 7 to 17 (fun u wx => ∃ q, u = .pointer (some ⟨q, 0, none⟩) ∧ Hid (wx.cell? ⟨q, 0, none⟩ = some (.pointer pp) ∧ wx.cell? ⟨q, 1, none⟩ = some (.int .i64 x2) ∧ wx.cell? ⟨z, 0, none⟩ = some (.int .i64 i) ∧ wx.cell? ⟨z, 1, none⟩ = some (.int .i64 gen) ∧ wx.heap[z + 1]? = some (.cells #[.pointer none, .int .i64 0] 79) ∧ Below W.heap.size W wx))
  case first =>
    go_region_held3 (fun w9 => w9.cell? ⟨sb, 0, none⟩ = some (.pointer (some ⟨r, 0, none⟩)) ∧ w9.cell? ⟨z, 0, none⟩ = some (.int .i64 i) ∧ w9.cell? ⟨z, 1, none⟩ = some (.int .i64 gen) ∧ w9.cell? ⟨z + 1, 0, none⟩ = some (.pointer none) ∧ w9.cell? ⟨z + 1, 1, none⟩ = some (.int .i64 0)) (first | (simp [go_sem, *]; done) | (trace_state; fail))
      (first
        | (go_at_call 34; refine Calls.mono (AT.out W.drew (bel_drew (Below.refl _ _))) ?_; rintro e w5 ⟨bb, rfl, hB5⟩; have H5 : Hid (Below W.heap.size W w5) := (bel_drew (Below.refl _ _)).trans hB5; have m0 := cell_later H5.out c0; have m1 := cell_later H5.out d0; have m2 := cell_later H5.out d1; have m3 := cell_later H5.out t0; have m4 := cell_later H5.out t1; have l0 : sb < w5.heap.size := Nat.lt_of_lt_of_le hsl H5.out.size; have l1 : z < w5.heap.size := Nat.lt_of_lt_of_le hzl0 H5.out.size; have l2 : z + 1 < w5.heap.size := Nat.lt_of_lt_of_le hzl H5.out.size)
        | (go_at_call 34; refine Calls.mono (AT.out _ ((bel_drew (Below.refl _ _)).alloc (Nat.le_refl _) _)) ?_; rintro e w5 ⟨bb, rfl, hB5⟩; have H5 : Hid (Below W.heap.size W w5) := ((bel_drew (Below.refl _ _)).alloc (Nat.le_refl _) _).trans (hB5.mono (by simp)); have m0 := cell_later H5.out c0; have m1 := cell_later H5.out d0; have m2 := cell_later H5.out d1; have m3 := cell_later H5.out t0; have m4 := cell_later H5.out t1; have l0 : sb < w5.heap.size := Nat.lt_of_lt_of_le hsl H5.out.size; have l1 : z < w5.heap.size := Nat.lt_of_lt_of_le hzl0 H5.out.size; have nb : w5.heap[W.heap.size]? = some (.cells #[.pointer none, .int .i64 0] 79) := (hB5.block _ (by simp)).trans (MapKept.heap_alloc W.drew _).1; have n0 : w5.cell? ⟨W.heap.size, 0, none⟩ = some (.pointer none) := (by simp [World.cell?, nb]); have n1 : w5.cell? ⟨W.heap.size, 1, none⟩ = some (.int .i64 0) := (by simp [World.cell?, nb]); have n2 : w5.frozen? ⟨W.heap.size, 0, none⟩ = false := (by simp [World.frozen?, nb]); have n3 : w5.frozen? ⟨W.heap.size, 1, none⟩ = false := (by simp [World.frozen?, nb]); have n4 : ¬ sb = W.heap.size := (by omega); have n5 : ¬ z = W.heap.size := (by omega); have n6 : ¬ z + 1 = W.heap.size := (by omega); have n7 : ¬ W.heap.size = sb := (by omega); have n8 : ¬ W.heap.size = z := (by omega); have n9 : ¬ W.heap.size = z + 1 := (by omega); clear nb; have l2 : z + 1 < w5.heap.size := Nat.lt_of_lt_of_le hzl H5.out.size))
    · have FI : Hid ((w5.alloc (.cells #[.pointer pp, .int .i64 x2] 79)).cell? ⟨w5.heap.size, 0, none⟩ = some (.pointer pp) ∧ (w5.alloc (.cells #[.pointer pp, .int .i64 x2] 79)).cell? ⟨w5.heap.size, 1, none⟩ = some (.int .i64 x2) ∧ (w5.alloc (.cells #[.pointer pp, .int .i64 x2] 79)).cell? ⟨z, 0, none⟩ = some (.int .i64 i) ∧ (w5.alloc (.cells #[.pointer pp, .int .i64 x2] 79)).cell? ⟨z, 1, none⟩ = some (.int .i64 gen) ∧ (w5.alloc (.cells #[.pointer pp, .int .i64 x2] 79)).heap[z + 1]? = some (.cells #[.pointer none, .int .i64 0] 79) ∧ Below W.heap.size W (w5.alloc (.cells #[.pointer pp, .int .i64 x2] 79))) := by
        have hB : Below w5.heap.size w5 (w5.alloc (.cells #[.pointer pp, .int .i64 x2] 79)) := (Below.refl _ _).alloc (Nat.le_refl _) _
        exact ⟨by simp [go_sem], by simp [go_sem], cell_later hB m1, cell_later hB m2, (hB.block _ l2).trans ((H5.out.block _ hzl).trans KZ.out), H5.out.trans (hB.mono H5.out.size)⟩
      go_wp2_with fail
      go_meet
      case rel => exact ⟨_, rfl, FI⟩
    · have FI : Hid (((w5.setCell ⟨W.heap.size, 0, none⟩ (.pointer pp)).setCell ⟨W.heap.size, 1, none⟩ (.int .i64 x2)).cell? ⟨W.heap.size, 0, none⟩ = some (.pointer pp) ∧ ((w5.setCell ⟨W.heap.size, 0, none⟩ (.pointer pp)).setCell ⟨W.heap.size, 1, none⟩ (.int .i64 x2)).cell? ⟨W.heap.size, 1, none⟩ = some (.int .i64 x2) ∧ ((w5.setCell ⟨W.heap.size, 0, none⟩ (.pointer pp)).setCell ⟨W.heap.size, 1, none⟩ (.int .i64 x2)).cell? ⟨z, 0, none⟩ = some (.int .i64 i) ∧ ((w5.setCell ⟨W.heap.size, 0, none⟩ (.pointer pp)).setCell ⟨W.heap.size, 1, none⟩ (.int .i64 x2)).cell? ⟨z, 1, none⟩ = some (.int .i64 gen) ∧ ((w5.setCell ⟨W.heap.size, 0, none⟩ (.pointer pp)).setCell ⟨W.heap.size, 1, none⟩ (.int .i64 x2)).heap[z + 1]? = some (.cells #[.pointer none, .int .i64 0] 79) ∧ Below W.heap.size W ((w5.setCell ⟨W.heap.size, 0, none⟩ (.pointer pp)).setCell ⟨W.heap.size, 1, none⟩ (.int .i64 x2))) := by
        refine ⟨by simp [go_sem, n0], by simp [go_sem, n1], by simp [go_sem, m1], by simp [go_sem, m2], ?_, (H5.out.setCell (p := ⟨W.heap.size, 0, none⟩) (Nat.le_refl _) _).setCell (p := ⟨W.heap.size, 1, none⟩) (Nat.le_refl _) _⟩
        exact (Below.heap_setCell _ _ _ _ n6).trans ((Below.heap_setCell _ _ _ _ n6).trans ((H5.out.block _ hzl).trans KZ.out))
      go_wp2_with fail
      go_meet
      case rel => exact ⟨_, rfl, FI⟩
  case rest =>
    obtain ⟨q, rfl, hF⟩ := hcut
    obtain ⟨e0, e1, e2, e3, e4, _⟩ := hF.out
    have u0 : wc.cell? ⟨z + 1, 0, none⟩ = some (.pointer none) := by simp [World.cell?, e4]
    have u1 : wc.cell? ⟨z + 1, 1, none⟩ = some (.int .i64 0) := by simp [World.cell?, e4]
    have u2 : wc.frozen? ⟨z + 1, 0, none⟩ = false := by simp [World.frozen?, e4]
    have u3 : wc.frozen? ⟨z + 1, 1, none⟩ = false := by simp [World.frozen?, e4]
    have HE : Hid (Below w.heap.size w wc ∧ w.heap.size ≤ z + 1) := ⟨HB.out.1.trans (hF.out.2.2.2.2.2.mono HB.out.1.size), by have := HB.out.2.2; omega⟩
    clear hF e4 c0 d0 d1 t0 t1 y0 y1
    cases pp with
    | none =>
      go_wp2_with fail
      refine bodyPost_ret (v := .tuple #[.agg #[.pointer none, .int .i64 0], .int .i64 60]) (by simp [results, Tryd.results37, go_sem, u0, u1]) rfl ⟨rfl, (HE.out.1.setCell (p := ⟨z + 1, 0, none⟩) HE.out.2 _).setCell (p := ⟨z + 1, 1, none⟩) HE.out.2 _⟩
    | some ad =>
      by_cases eg : x2 = gen
      · subst eg
        go_wp2_with fail
        refine bodyPost_ret (v := .tuple #[.agg #[.pointer (some ad), .int .i64 x2], .int .i64 0]) (by simp [results, Tryd.results37, go_sem, u0, u1]) rfl ⟨by simp, (HE.out.1.setCell (p := ⟨z + 1, 0, none⟩) HE.out.2 _).setCell (p := ⟨z + 1, 1, none⟩) HE.out.2 _⟩
      · have hd : (x2 == gen) = false := by simp [eg]
        go_wp2_with fail
        all_goals refine bodyPost_ret (v := .tuple #[.agg #[.pointer none, .int .i64 0], .int .i64 60]) (by simp [results, Tryd.results37, go_sem, u0, u1]) rfl ⟨by first | rfl | simp, (HE.out.1.setCell (p := ⟨z + 1, 0, none⟩) HE.out.2 _).setCell (p := ⟨z + 1, 1, none⟩) HE.out.2 _⟩
end Go.Proofs.YtbnbgikhdfbpcaaDoor
namespace Go.Proofs.YtbnbgikhdfbpcaaDoor
open Go.RowKit
set_option maxRecDepth 100000
set_option linter.unusedVariables false
theorem chg_cellV {W W' : World} {r g : Nat} (h : Chg W W' r g) {b o : Nat} {v : Value} (hc : W.cell? ⟨b, o, none⟩ = some v) (h1 : b ≠ r) (h2 : b ≠ g) : W'.cell? ⟨b, o, none⟩ = some v := h.cell hc h1 h2
set_option maxHeartbeats 2000000 in
theorem layV_any (sb r g N f : Nat) (ys : List (Option Nat × Int)) (v1 v2 v3 : Value) (i : Nat) (gen : Int) (c : Option Nat) (w : World) (hs : w.heap[sb]? = some (.cells #[.pointer (some ⟨r, 0, none⟩), v1, v2, v3] 84)) (h : RV w r g N f ys.length ys) (hi : i ≤ ys.length) (hlen : ys.length ≤ 65536) :
    Calls Tryd.prog 36 #[.pointer (some ⟨sb, 0, none⟩), .agg #[.int .i64 (i : Int), .int .i64 gen], pP c] w fun e w' => e = .returned (.tuple #[]) ∧ RingsV w r g (if i < ys.length then ys.set i (c, gen) else ys ++ [(c, gen)]) w' := by
  obtain ⟨pp, epp⟩ : ∃ pp : Option Addr, pp = c.map fun b => ⟨b, 0, none⟩ := ⟨_, rfl⟩
  have ep : pP c = .pointer pp := by rw [epp]; rfl
  obtain ⟨W, hW⟩ : ∃ W, W = (w.alloc (.cells #[.int .i64 (i : Int), .int .i64 gen] 38)).alloc (.cells #[.pointer pp, .int .i64 gen] 79) := ⟨_, rfl⟩
  obtain ⟨z, ez⟩ : ∃ z, z = w.heap.size := ⟨_, rfl⟩
  have B0 : Below w.heap.size w W := by rw [hW]; exact ((Below.refl _ _).alloc (Nat.le_refl _) _).alloc (by simp) _
  have sz : W.heap.size = z + 2 := by rw [hW, ez]; simp
  have kz : W.heap[z]? = some (.cells #[.int .i64 (i : Int), .int .i64 gen] 38) := by
    rw [hW, ez]
    exact (Below.heap_alloc _ _ _ (by simp)).trans (MapKept.heap_alloc _ _).1
  have kz1 : W.heap[z + 1]? = some (.cells #[.pointer pp, .int .i64 gen] 79) := by
    rw [hW, ez]
    have := (MapKept.heap_alloc (w.alloc (.cells #[.int .i64 (i : Int), .int .i64 gen] 38)) (.cells #[.pointer pp, .int .i64 gen] 79)).1
    simpa using this
  have hsW : W.heap[sb]? = some (.cells #[.pointer (some ⟨r, 0, none⟩), v1, v2, v3] 84) := (B0.block _ (Array.getElem?_eq_some_iff.1 hs).1).trans hs
  have c0 : W.cell? ⟨sb, 0, none⟩ = some (.pointer (some ⟨r, 0, none⟩)) := by simp [World.cell?, hsW]
  have d0 : W.cell? ⟨z, 0, none⟩ = some (.int .i64 (i : Int)) := by simp [World.cell?, kz]
  have t0 : W.cell? ⟨z + 1, 0, none⟩ = some (.pointer pp) := by simp [World.cell?, kz1]
  have t1 : W.cell? ⟨z + 1, 1, none⟩ = some (.int .i64 gen) := by simp [World.cell?, kz1]
  have h' := h.mono B0
  have nsr : sb ≠ r := by
    obtain ⟨cs, e, _⟩ := h.hd
    intro e2
    rw [e2, e] at hs
    injection hs with hs
    injection hs with _ e3
    exact absurd e3 (by decide)
  have nsg : sb ≠ g := by
    rcases Nat.eq_zero_or_pos N with e0 | e0
    · rw [(h.zr e0).1]
      exact nsr
    · obtain ⟨cs, e, _⟩ := h.row e0
      intro e2
      rw [e2, e] at hs
      injection hs with hs
      injection hs with _ e3
      exact absurd e3 (by decide)
  have hrz := h.rlt
  have hgz := h.glt
  have CG : ∀ W', Chg W W' r g → W'.cell? ⟨sb, 0, none⟩ = some (.pointer (some ⟨r, 0, none⟩)) ∧ W'.cell? ⟨z, 0, none⟩ = some (.int .i64 (i : Int)) ∧ W'.cell? ⟨z + 1, 0, none⟩ = some (.pointer pp) ∧ W'.cell? ⟨z + 1, 1, none⟩ = some (.int .i64 gen) := fun W' hC =>
    ⟨hC.cell c0 nsr nsg, hC.cell d0 (show z ≠ r by omega) (show z ≠ g by omega), hC.cell t0 (show z + 1 ≠ r by omega) (show z + 1 ≠ g by omega), hC.cell t1 (show z + 1 ≠ r by omega) (show z + 1 ≠ g by omega)⟩
  have HW : Hid ((w.alloc (.cells #[.int .i64 (i : Int), .int .i64 gen] 38)).alloc (.cells #[.pointer pp, .int .i64 gen] 79) = W ∧ w.heap.size = z) := ⟨hW.symm, ez.symm⟩
  by_cases hil : i < ys.length
  · rw [if_pos hil]
    have ST : Hid (Calls Tryd.prog 50 #[.pointer (some ⟨r, 0, none⟩), .int .i64 (i : Int), .agg #[.pointer pp, .int .i64 gen]] W.drew fun e w' => e = .returned (.bool true) ∧ w'.cell? ⟨sb, 0, none⟩ = some (.pointer (some ⟨r, 0, none⟩)) ∧ w'.cell? ⟨z, 0, none⟩ = some (.int .i64 (i : Int)) ∧ w'.cell? ⟨z + 1, 0, none⟩ = some (.pointer pp) ∧ w'.cell? ⟨z + 1, 1, none⟩ = some (.int .i64 gen) ∧ Hid (RingsV w r g (ys.set i (c, gen)) w')) := by
      have h2 := setV_yes r g N f ys.length ys i (i : Int) c gen W.drew (h'.of_blocks rfl rfl) rfl rfl hil
      rw [ep] at h2
      refine h2.mono ?_
      rintro e w' ⟨rfl, q1, q2⟩
      have q3 : Chg W w' r g := ((Chg.refl W r g).drewN 1).trans q2 (.inl rfl)
      obtain ⟨a1, a2, a3, a4⟩ := CG w' q3
      exact ⟨rfl, a1, a2, a3, a4, RingsV.intro (by rw [List.length_set]; exact q1) ((Chg.of_below B0 r g).trans q3 (.inl rfl)) (.inl rfl)⟩
    rw [ep]
    clear h h' hs hsW kz kz1 sz ez hW B0 ep epp CG hrz hgz nsr nsg hi
    go_enter Tryd.func36, Tryd.ntmps36
    go_upto_region 2 with fail
    rw [HW.out.1, HW.out.2]
    go_region_held3 (fun w9 => w9.cell? ⟨sb, 0, none⟩ = some (.pointer (some ⟨r, 0, none⟩)) ∧ w9.cell? ⟨z, 0, none⟩ = some (.int .i64 (i : Int)) ∧ w9.cell? ⟨z + 1, 0, none⟩ = some (.pointer pp) ∧ w9.cell? ⟨z + 1, 1, none⟩ = some (.int .i64 gen)) (first | (simp [go_sem, *]; done) | (trace_state; fail))
      (first | (go_at_call 50; refine Calls.mono ST.out ?_; rintro e w5 ⟨rfl, m0, m1, m2, m3, H5⟩))
    go_wp2_with fail
    exact bodyPost_end (v := .tuple #[]) (by simp [results, Tryd.results36, go_sem]) rfl ⟨rfl, H5.out⟩
  · rw [if_neg hil]
    have ST : Hid (Calls Tryd.prog 50 #[.pointer (some ⟨r, 0, none⟩), .int .i64 (i : Int), .agg #[.pointer pp, .int .i64 gen]] W.drew fun e w' => e = .returned (.bool false) ∧ w'.cell? ⟨sb, 0, none⟩ = some (.pointer (some ⟨r, 0, none⟩)) ∧ w'.cell? ⟨z, 0, none⟩ = some (.int .i64 (i : Int)) ∧ w'.cell? ⟨z + 1, 0, none⟩ = some (.pointer pp) ∧ w'.cell? ⟨z + 1, 1, none⟩ = some (.int .i64 gen) ∧ Hid (Below W.heap.size W w')) := by
      have h2 := setV_no r g N f ys.length ys (i : Int) c gen W.drew (h'.of_blocks rfl rfl) (.inr (by omega))
      rw [ep] at h2
      refine h2.mono ?_
      rintro e w' ⟨rfl, q2⟩
      have q3 : Below W.heap.size W w' := (bel_drew (Below.refl _ _)).trans q2
      exact ⟨rfl, cell_later q3 c0, cell_later q3 d0, cell_later q3 t0, cell_later q3 t1, q3⟩
    have PB : Hid (∀ w5, Below W.heap.size W w5 → Calls Tryd.prog 51 #[.pointer (some ⟨r, 0, none⟩), .agg #[.pointer pp, .int .i64 gen]] w5.drew fun e w' => e = .returned (.tuple #[]) ∧ w'.cell? ⟨sb, 0, none⟩ = some (.pointer (some ⟨r, 0, none⟩)) ∧ w'.cell? ⟨z + 1, 0, none⟩ = some (.pointer pp) ∧ w'.cell? ⟨z + 1, 1, none⟩ = some (.int .i64 gen) ∧ Hid (RingsV w r g (ys ++ [(c, gen)]) w')) := by
      intro w5 hB
      have h5 : RV w5.drew r g N f ys.length ys := (h'.mono hB).of_blocks rfl rfl
      have h2 := pushBackV_any r g N f ys c gen w5.drew h5 (by omega)
      rw [ep] at h2
      refine h2.mono ?_
      rintro e w' ⟨rfl, g', N', f', q1, q2, q3⟩
      have q4 : Chg W w' r g := (Chg.of_below (bel_drew hB) r g).trans q2 (.inl rfl)
      obtain ⟨a1, a2, a3, a4⟩ := CG w' q4
      refine ⟨rfl, a1, a3, a4, RingsV.intro q1 ((Chg.of_below B0 r g).trans q4 (.inl rfl)) ?_⟩
      rcases q3 with e | e | e
      · exact .inl e
      · exact .inr (.inl e)
      · exact .inr (.inr (Nat.le_trans (Nat.le_trans B0.size hB.size) e))
    rw [ep]
    clear h h' hs hsW kz kz1 sz ez hW B0 ep epp CG hrz hgz nsr nsg hi
    go_enter Tryd.func36, Tryd.ntmps36
    go_upto_region 2 with fail
    rw [HW.out.1, HW.out.2]
    go_region_held3 (fun w9 => w9.cell? ⟨sb, 0, none⟩ = some (.pointer (some ⟨r, 0, none⟩)) ∧ w9.cell? ⟨z, 0, none⟩ = some (.int .i64 (i : Int)) ∧ w9.cell? ⟨z + 1, 0, none⟩ = some (.pointer pp) ∧ w9.cell? ⟨z + 1, 1, none⟩ = some (.int .i64 gen)) (first | (simp [go_sem, *]; done) | (trace_state; fail))
      (first | (go_at_call 50; refine Calls.mono ST.out ?_; rintro e w5 ⟨rfl, m0, m1, m2, m3, H5⟩))
    go_wp2_with fail
    go_region_held3 (fun w9 => w9.cell? ⟨sb, 0, none⟩ = some (.pointer (some ⟨r, 0, none⟩)) ∧ w9.cell? ⟨z + 1, 0, none⟩ = some (.pointer pp) ∧ w9.cell? ⟨z + 1, 1, none⟩ = some (.int .i64 gen)) (first | (simp [go_sem, *]; done) | (trace_state; fail))
      (first | (go_at_call 51; refine Calls.mono (PB.out _ H5.out) ?_; rintro e w6 ⟨rfl, p0, p1, p2, H6⟩))
    go_wp2_with fail
    exact bodyPost_end (v := .tuple #[]) (by simp [results, Tryd.results36, go_sem]) rfl ⟨rfl, H6.out⟩
end Go.Proofs.YtbnbgikhdfbpcaaDoor
namespace Go.Proofs.YtbnbgikhdfbpcaaDoor
open Go.RowKit
set_option maxRecDepth 100000
set_option linter.unusedVariables false
/-- The cell of a thing. -/
def CelV (W : World) (o : Option Nat) (t : Option Int) : Prop := match o, t with
  | none, none => True
  | some c, some t => W.heap[c]? = some (.cells #[Value.int .i64 t] 90)
  | _, _ => False
theorem CelV.kept {W W' : World} {o : Option Nat} {t : Option Int} (h : CelV W o t) (hk : ∀ (k : Nat) (cs : Array Value), W.heap[k]? = some (.cells cs 90) → W'.heap[k]? = some (.cells cs 90)) : CelV W' o t := by
  cases o <;> cases t
  · trivial
  · exact h
  · exact h
  · exact hk _ _ h
/-- The types of slots' blocks. -/
def isMV (t : TypeId) : Prop := t = 84 ∨ t = 118 ∨ t = 79 ∨ t = 119 ∨ t = 120 ∨ t = 90
/-- .. of those that are written. -/
def isSV (t : TypeId) : Prop := t = 84 ∨ t = 118 ∨ t = 79 ∨ t = 120
/-- May that slot be given? -/
def VacV (n : Nat) (last : Int) (xs : List (Option Int × Int)) (i : Nat) : Prop := i < n ∧ (xs.length ≤ i ∨ ((xs.getD i (none, 0)).1 = none ∧ (xs.getD i (none, 0)).2 < last))
/-- The parts of slots. -/
structure SpV (W : World) (sb lb n : Nat) (last : Int) (cnt : Nat) (xs : List (Option Int × Int)) (r g N f b L cap : Nat) (G : Nat → Nat) (ys : List (Option Nat × Int)) (S : Nat → Prop) : Prop where
  hd : W.heap[sb]? = some (.cells #[.pointer (some ⟨r, 0, none⟩), .slice (some ⟨b, 0, none⟩) L cap, .int .i64 last, .int .i64 (cnt : Int)] 84)
  ring : RV W r g N f ys.length ys
  nm : NmX W b L cap G n (Lv S) lb
  len : ys.length = xs.length
  things : ∀ i, i < xs.length → (ys.getD i (none, 0)).2 = (xs.getD i (none, 0)).2 ∧ CelV W (ys.getD i (none, 0)).1 (xs.getD i (none, 0)).1
  lo : lb ≤ sb ∧ lb ≤ r ∧ lb ≤ g
  le : xs.length ≤ n
  last1 : 1 ≤ last
  last2 : last ≤ 2147483647
  gens : ∀ i, i < xs.length → 1 ≤ (xs.getD i (none, 0)).2 ∧ (xs.getD i (none, 0)).2 ≤ last
  cn : cnt = xs.countP fun x => x.1.isSome
/-- Slots that hold xs: of each slot that was ever given what lies there, and the generation. -/
def SlV (W : World) (sb lb n : Nat) (last : Int) (cnt : Nat) (xs : List (Option Int × Int)) : Prop := ∃ r g N f b L cap G ys, SpV W sb lb n last cnt xs r g N f b L cap G ys (VacV n last xs)
theorem SpV.kept {W W' : World} {sb lb n : Nat} {last : Int} {cnt : Nat} {xs : List (Option Int × Int)} {r g N f b L cap : Nat} {G : Nat → Nat} {ys : List (Option Nat × Int)} {S : Nat → Prop} (h : SpV W sb lb n last cnt xs r g N f b L cap G ys S) (hk : ∀ (k : Nat) (cs : Array Value) (t : TypeId), W.heap[k]? = some (.cells cs t) → isMV t → W'.heap[k]? = some (.cells cs t)) : SpV W' sb lb n last cnt xs r g N f b L cap G ys S := by
  refine { h with hd := hk _ _ _ h.hd (.inl rfl), ring := h.ring.of_blocks ?_ ?_, nm := h.nm.kept fun k cs t e ht => ?_, things := fun i hi => ⟨(h.things i hi).1, (h.things i hi).2.kept fun k cs e => hk _ _ _ e (.inr (.inr (.inr (.inr (.inr rfl)))))⟩ }
  · obtain ⟨cs, e, _⟩ := h.ring.hd
    exact (hk _ _ _ e (.inr (.inl rfl))).trans e.symm
  · rcases Nat.eq_zero_or_pos N with e0 | e0
    · rw [(h.ring.zr e0).1]
      obtain ⟨cs, e, _⟩ := h.ring.hd
      exact (hk _ _ _ e (.inr (.inl rfl))).trans e.symm
    · obtain ⟨cs, e, _⟩ := h.ring.row e0
      exact (hk _ _ _ e (.inr (.inr (.inl rfl)))).trans e.symm
  · rcases ht with rfl | rfl
    · exact (hk _ _ _ e (.inr (.inr (.inr (.inl rfl))))).trans e.symm
    · exact (hk _ _ _ e (.inr (.inr (.inr (.inr (.inl rfl)))))).trans e.symm
theorem SlV.kept {W W' : World} {sb lb n : Nat} {last : Int} {cnt : Nat} {xs : List (Option Int × Int)} (h : SlV W sb lb n last cnt xs) (hk : ∀ (k : Nat) (cs : Array Value) (t : TypeId), W.heap[k]? = some (.cells cs t) → isMV t → W'.heap[k]? = some (.cells cs t)) : SlV W' sb lb n last cnt xs := by
  obtain ⟨r, g, N, f, b, L, cap, G, ys, h⟩ := h
  exact ⟨r, g, N, f, b, L, cap, G, ys, h.kept hk⟩
theorem SpV.mono {W W' : World} {sb lb n : Nat} {last : Int} {cnt : Nat} {xs : List (Option Int × Int)} {r g N f b L cap : Nat} {G : Nat → Nat} {ys : List (Option Nat × Int)} {S : Nat → Prop} (h : SpV W sb lb n last cnt xs r g N f b L cap G ys S) (hB : Below W.heap.size W W') : SpV W' sb lb n last cnt xs r g N f b L cap G ys S :=
  h.kept fun k cs t e _ => (hB.block _ (Array.getElem?_eq_some_iff.1 e).1).trans e
theorem SlV.mono {W W' : World} {sb lb n : Nat} {last : Int} {cnt : Nat} {xs : List (Option Int × Int)} (h : SlV W sb lb n last cnt xs) (hB : Below W.heap.size W W') : SlV W' sb lb n last cnt xs :=
  h.kept fun k cs t e _ => (hB.block _ (Array.getElem?_eq_some_iff.1 e).1).trans e
theorem SpV.cells {W : World} {sb lb n : Nat} {last : Int} {cnt : Nat} {xs : List (Option Int × Int)} {r g N f b L cap : Nat} {G : Nat → Nat} {ys : List (Option Nat × Int)} {S : Nat → Prop} (h : SpV W sb lb n last cnt xs r g N f b L cap G ys S) : W.cell? ⟨sb, 0, none⟩ = some (.pointer (some ⟨r, 0, none⟩)) ∧ W.cell? ⟨sb, 1, none⟩ = some (.slice (some ⟨b, 0, none⟩) L cap) ∧ W.cell? ⟨sb, 2, none⟩ = some (.int .i64 last) ∧ W.cell? ⟨sb, 3, none⟩ = some (.int .i64 (cnt : Int)) ∧ W.frozen? ⟨sb, 3, none⟩ = false ∧ sb < W.heap.size := by
  have e := h.hd
  refine ⟨by simp [World.cell?, e], by simp [World.cell?, e], by simp [World.cell?, e], by simp [World.cell?, e], by simp [World.frozen?, e], (Array.getElem?_eq_some_iff.1 e).1⟩
theorem lenV_any {w : World} {sb lb n : Nat} {last : Int} {cnt : Nat} {xs : List (Option Int × Int)} (h : SlV w sb lb n last cnt xs) : Calls Tryd.prog 23 #[.pointer (some ⟨sb, 0, none⟩)] w fun e w' => e = .returned (.int .i64 (cnt : Int)) ∧ w' = w := by
  obtain ⟨r, g, N, f, b, L, cap, G, ys, h⟩ := h
  obtain ⟨_, _, _, c3, _, _⟩ := h.cells
  clear h
  go_enter Tryd.func23, Tryd.ntmps23
  go_wp2_with fail
  go_ret
  exact ⟨rfl, rfl⟩
/-- What a handle finds. -/
def fndV (xs : List (Option Int × Int)) (i gen : Int) : Option Int := if 0 ≤ i ∧ i < (xs.length : Int) ∧ (xs.getD i.toNat (none, 0)).2 = gen then (xs.getD i.toNat (none, 0)).1 else none
theorem SpV.found {W : World} {sb lb n : Nat} {last : Int} {cnt : Nat} {xs : List (Option Int × Int)} {r g N f b L cap : Nat} {G : Nat → Nat} {ys : List (Option Nat × Int)} {S : Nat → Prop} (h : SpV W sb lb n last cnt xs r g N f b L cap G ys S) (i gen : Int) :
    (fndV xs i gen = none ∧ hasP ys i gen = false) ∨ ∃ t c, fndV xs i gen = some t ∧ hasP ys i gen = true ∧ (atP ys i) = (some c, gen) ∧ W.heap[c]? = some (.cells #[Value.int .i64 t] 90) ∧ 0 ≤ i ∧ i.toNat < xs.length ∧ xs.getD i.toNat (none, 0) = (some t, gen) := by
  unfold fndV hasP atP
  by_cases hr : 0 ≤ i ∧ i < (xs.length : Int)
  · rw [if_pos (show 0 ≤ i ∧ i < (ys.length : Int) by rw [h.len]; exact hr)]
    obtain ⟨h1, h2⟩ := h.things i.toNat (by omega)
    generalize ys.getD i.toNat (none, 0) = y at h1 h2 ⊢
    generalize xs.getD i.toNat (none, 0) = x at h1 h2 ⊢
    obtain ⟨y1, y2⟩ := y
    obtain ⟨x1, x2⟩ := x
    simp only at h1 h2 ⊢
    subst h1
    by_cases eg : y2 = gen
    · subst eg
      rw [if_pos ⟨hr.1, hr.2, rfl⟩]
      cases y1 <;> cases x1
      · exact .inl ⟨rfl, rfl⟩
      · exact h2.elim
      · exact h2.elim
      · exact .inr ⟨_, _, rfl, by simp, rfl, h2, hr.1, by omega, rfl⟩
    · rw [if_neg (by omega)]
      exact .inl ⟨rfl, by simp [eg]⟩
  · rw [if_neg (show ¬ (0 ≤ i ∧ i < (ys.length : Int)) by rw [h.len]; exact hr), if_neg (by omega)]
    exact .inl ⟨rfl, rfl⟩
set_option maxHeartbeats 1000000 in
theorem getV_any {w : World} {sb lb n : Nat} {last : Int} {cnt : Nat} {xs : List (Option Int × Int)} (h : SlV w sb lb n last cnt xs) (i gen : Int) :
    Calls Tryd.prog 12 #[.pointer (some ⟨sb, 0, none⟩), .agg #[.int .i64 i, .int .i64 gen]] w fun e w' => e = .returned (match fndV xs i gen with | some t => .tuple #[Value.int .i64 t, .int .i64 0] | none => .tuple #[(.int .i64 0), .int .i64 60]) ∧ Below w.heap.size w w' := by
  obtain ⟨r, g, N, f, b, L, cap, G, ys, h⟩ := h
  obtain ⟨W, hW⟩ : ∃ W, W = w.alloc (.cells #[.int .i64 i, .int .i64 gen] 38) := ⟨_, rfl⟩
  have B0 : Below w.heap.size w W := by rw [hW]; exact (Below.refl _ _).alloc (Nat.le_refl _) _
  have h' := h.mono B0
  have F := findV_any sb r g N f ys _ _ _ i gen W h'.hd h'.ring
  have HW : Hid (w.alloc (.cells #[.int .i64 i, .int .i64 gen] 38) = W ∧ Below w.heap.size w W) := ⟨hW.symm, B0⟩
  rcases h'.found i gen with ⟨e1, e2⟩ | ⟨t, c, e1, e2, e3, e4, _⟩
  · rw [e1]
    rw [e2] at F
    have HF : Hid _ := F
    clear F e1 e2 h h' hW B0
    go_enter Tryd.func12, Tryd.ntmps12
    go_wp2_with fail
    rw [HW.out.1]
    refine Calls.mono HF.out ?_
    rintro e w1 ⟨rfl, hB⟩
    have H1 : Hid (Below w.heap.size w (w1.alloc (.cells #[.pointer none, .int .i64 0] 79))) := (HW.out.2.trans (hB.mono HW.out.2.size)).alloc (Nat.le_trans HW.out.2.size hB.size) _
    clear hB
    simp only [Bool.false_eq_true, if_false]
    go_wp2_with fail
    go_ret2
    exact ⟨rfl, H1.out⟩
  · rw [e1]
    rw [e2, e3] at F
    have HF : Hid _ := F
    have HC : Hid (W.heap[c]? = some (.cells #[Value.int .i64 t] 90)) := e4
    clear F e1 e2 e3 e4 h h' hW B0
    go_enter Tryd.func12, Tryd.ntmps12
    go_wp2_with fail
    rw [HW.out.1]
    refine Calls.mono HF.out ?_
    rintro e w1 ⟨rfl, hB⟩
    have ec : w1.heap[c]? = some (.cells #[Value.int .i64 t] 90) := (hB.block _ (Array.getElem?_eq_some_iff.1 HC.out).1).trans HC.out
    have hcl : c < w1.heap.size := (Array.getElem?_eq_some_iff.1 ec).1
    have cc : (w1.alloc (.cells #[.pointer (some ⟨c, 0, none⟩), .int .i64 gen] 79)).cell? ⟨c, 0, none⟩ = some (Value.int .i64 t) := by
      rw [World.cell?_of_block (Below.heap_alloc _ _ _ hcl)]
      simp [World.cell?, ec]
    have H1 : Hid (Below w.heap.size w (w1.alloc (.cells #[.pointer (some ⟨c, 0, none⟩), .int .i64 gen] 79))) := (HW.out.2.trans (hB.mono HW.out.2.size)).alloc (Nat.le_trans HW.out.2.size hB.size) _
    clear hB ec
    simp only [if_true, pP, Option.map]
    go_wp2_with fail
    go_ret2
    exact ⟨rfl, H1.out⟩
end Go.Proofs.YtbnbgikhdfbpcaaDoor
namespace Go.Proofs.YtbnbgikhdfbpcaaDoor
open Go.RowKit
set_option maxRecDepth 100000
set_option linter.unusedVariables false
theorem nm_lowerV {W : World} {b L cap : Nat} {G : Nat → Nat} {n : Nat} {T : Nat → Nat → Prop} {lb lb' : Nat} (h : NmX W b L cap G n T lb) (hl : lb' ≤ lb) : NmX W b L cap G n T lb' :=
  { h with lo := Nat.le_trans hl h.lo, row := fun k hk => ⟨Nat.le_trans hl (h.row k hk).1, (h.row k hk).2⟩ }
theorem lv_congrV {S S' : Nat → Prop} (e : ∀ x, S x ↔ S' x) (k y : Nat) : Lv S k y ↔ Lv S' k y := ⟨Lv.mono fun x h => (e x).1 h, Lv.mono fun x h => (e x).2 h⟩
section
variable {W W' : World} {sb lb n : Nat} {last : Int} {cnt : Nat} {xs : List (Option Int × Int)} {r g N f b L cap : Nat} {G : Nat → Nat} {ys : List (Option Nat × Int)} {S : Nat → Prop}
theorem SpV.rg (h : SpV W sb lb n last cnt xs r g N f b L cap G ys S) {k : Nat} (hk : k = r ∨ k = g) : ∃ cs t, W.heap[k]? = some (.cells cs t) ∧ (t = 118 ∨ t = 79) ∧ lb ≤ k := by
  rcases hk with rfl | rfl
  · obtain ⟨cs, e, _⟩ := h.ring.hd
    exact ⟨cs, _, e, .inl rfl, h.lo.2.1⟩
  · rcases Nat.eq_zero_or_pos N with e0 | e0
    · rw [(h.ring.zr e0).1]
      obtain ⟨cs, e, _⟩ := h.ring.hd
      exact ⟨cs, _, e, .inl rfl, h.lo.2.1⟩
    · obtain ⟨cs, e, _⟩ := h.ring.row e0
      exact ⟨cs, _, e, .inr rfl, h.lo.2.2⟩
theorem SpV.other (h : SpV W sb lb n last cnt xs r g N f b L cap G ys S) (hC : Chg W W' r g) {k : Nat} {o : Obj} (hk : W.heap[k]? = some o) (ho : ∀ cs t z, o = .cells cs t z → t ≠ 118 ∧ t ≠ 79) : W'.heap[k]? = some o := by
  have ne : ∀ x, (x = r ∨ x = g) → k ≠ x := fun x hx e => by
    obtain ⟨cs, t, e1, e2, _⟩ := h.rg hx
    rw [e, e1] at hk
    cases hk
    rcases e2 with e2 | e2
    · exact (ho _ _ _ rfl).1 e2
    · exact (ho _ _ _ rfl).2 e2
  exact (hC.block k (Array.getElem?_eq_some_iff.1 hk).1 (ne r (.inl rfl)) (ne g (.inr rfl))).trans hk
theorem SpV.after (h : SpV W sb lb n last cnt xs r g N f b L cap G ys S) (hC : Chg W W' r g) : W'.heap[sb]? = W.heap[sb]? ∧ NmX W' b L cap G n (Lv S) lb ∧ (∀ o t, CelV W o t → CelV W' o t) ∧ Ft isSV lb W W' := by
  refine ⟨(h.other hC h.hd fun cs t z e => by cases e; exact ⟨by decide, by decide⟩).trans h.hd.symm, h.nm.kept fun k cs t e ht => (h.other hC e fun cs' t' z e2 => ?_).trans e.symm, fun o t hc => hc.kept fun k cs e => h.other hC e fun cs' t' z e2 => ?_, hC.os, hC.tape, hC.output, hC.size, fun k h1 h2 => hC.block k h2 (by have := h.lo; omega) (by have := h.lo; omega), fun k o e ho => h.other hC e fun cs t z e2 => ⟨fun e3 => ho _ _ _ e2 (.inr (.inl e3)), fun e3 => ho _ _ _ e2 (.inr (.inr (.inl e3)))⟩⟩
  · cases e2
    rcases ht with rfl | rfl
    · exact ⟨by decide, by decide⟩
    · exact ⟨by decide, by decide⟩
  · cases e2
    exact ⟨by decide, by decide⟩
end
set_option maxHeartbeats 1000000 in
theorem newV_yes (n : Nat) (last : Int) (w : World) (h1 : 1 ≤ n) (h2 : n ≤ 65536) (h3 : 1 ≤ last) (h4 : last ≤ 2147483647) :
    Calls Tryd.prog 7 #[.int .i64 (n : Int), .int .i64 last] w fun e w' => ∃ sb, e = .returned (.tuple #[.pointer (some ⟨sb, 0, none⟩), .int .i64 0]) ∧ SlV w' sb w.heap.size n last 0 [] ∧ Below w.heap.size w w' := by
  have d1 : ¬ (n : Int) < 1 := by omega
  have d2 : ¬ (65536 : Int) < (n : Int) := by omega
  have d3 : ¬ last < 1 := by omega
  have d4 : ¬ 2147483647 < last := by omega
  have b1 : decide ((n : Int) < 1) = false := decide_eq_false d1
  have b2 : decide ((65536 : Int) < (n : Int)) = false := decide_eq_false d2
  have b3 : decide (last < 1) = false := decide_eq_false d3
  have b4 : decide ((2147483647 : Int) < last) = false := decide_eq_false d4
  have n1 : ¬ n < 1 := by omega
  have n2 : ¬ 65536 < n := by omega
  go_enter Tryd.func7, Tryd.ntmps7
  go_wp2_with fail
  refine Calls.mono (newV_any w) ?_
  rintro e w1 ⟨rfl, q1, q2⟩
  have H1 : Hid (RV w1 w.heap.size w.heap.size 0 0 0 [] ∧ Below w.heap.size w w1) := ⟨q1, q2⟩
  clear q1 q2
  go_wp2_with fail
  refine Calls.mono (below_any n w1 h1 h2) ?_
  rintro e w2 ⟨b, L, cap, G, rfl, q1, q2⟩
  have H2 : Hid (NmX w2 b L cap G n (Lv fun x => x < n) w1.heap.size ∧ Below w1.heap.size w1 w2) := ⟨q1, q2⟩
  clear q1 q2
  go_wp2_with fail
  go_ret2
  refine ⟨_, rfl, ⟨w.heap.size, w.heap.size, 0, 0, b, L, cap, G, [], ?_⟩, ?_⟩
  · have B3 : Below w2.heap.size w2 (w2.alloc (.cells #[.pointer (some ⟨w.heap.size, 0, none⟩), .slice (some ⟨b, 0, none⟩) L cap, .int .i64 last, .int .i64 0] 84)) := (Below.refl _ _).alloc (Nat.le_refl _) _
    have s1 := H1.out.2.size
    have s2 := H2.out.2.size
    refine ⟨(MapKept.heap_alloc _ _).1, (H1.out.1.mono H2.out.2).mono B3, ?_, rfl, fun i hi => by simp at hi, ⟨by omega, Nat.le_refl _, Nat.le_refl _⟩, Nat.zero_le _, h3, h4, fun i hi => by simp at hi, rfl⟩
    refine (nm_lowerV (H2.out.1.kept fun k cs t e _ => B3.block _ (Array.getElem?_eq_some_iff.1 e).1) s1).congr fun k _ y => lv_congrV (fun x => ?_) k y
    unfold VacV
    simp
  · exact (H1.out.2.trans (H2.out.2.mono H1.out.2.size)).alloc (Nat.le_trans H1.out.2.size H2.out.2.size) _
theorem getD_setV {α : Type} (xs : List α) (i : Nat) (v z : α) (hi : i < xs.length) (j : Nat) : (xs.set i v).getD j z = if j = i then v else xs.getD j z := by
  simp only [List.getD_eq_getElem?_getD, List.getElem?_set]
  by_cases e : i = j
  · subst e; simp [hi]
  · simp [e, Ne.symm e]
/-- Drop lays nothing at the slot. -/
theorem vac_dropV {n : Nat} {last : Int} {xs : List (Option Int × Int)} {i : Nat} {t : Int} {gen : Int} (hi : i < xs.length) (he : xs.getD i (none, 0) = (some t, gen)) (hn : xs.length ≤ n) (j : Nat) : VacV n last (xs.set i (none, gen)) j ↔ (VacV n last xs j ∨ (j = i ∧ gen < last)) := by
  unfold VacV
  rw [List.length_set, getD_setV _ _ _ _ hi]
  by_cases e : j = i
  · subst e
    rw [if_pos rfl, he]
    simp
    omega
  · rw [if_neg e]
    simp [e]
theorem count_dropV {xs : List (Option Int × Int)} {i : Nat} {t : Int} {gen : Int} (hi : i < xs.length) (he : xs.getD i (none, 0) = (some t, gen)) : xs.countP (fun x => x.1.isSome) = (xs.set i (none, gen)).countP (fun x => x.1.isSome) + 1 := by
  have h1 := List.countP_set (p := fun x : Option Int × Int => x.1.isSome) (a := ((none, gen) : Option Int × Int)) hi
  have h2 : xs[i] = (some t, gen) := by
    rw [List.getD_eq_getElem?_getD, List.getElem?_eq_getElem hi] at he
    exact he
  rw [h2] at h1
  have h3 : 0 < xs.countP (fun x => x.1.isSome) := List.countP_pos_iff.2 ⟨xs[i], List.getElem_mem hi, by rw [h2]; rfl⟩
  simp at h1
  omega
end Go.Proofs.YtbnbgikhdfbpcaaDoor
namespace Go.Proofs.YtbnbgikhdfbpcaaDoor
open Go.RowKit
set_option maxRecDepth 100000
set_option linter.unusedVariables false
set_option maxHeartbeats 1000000 in
theorem dropV_no {w : World} {sb lb n : Nat} {last : Int} {cnt : Nat} {xs : List (Option Int × Int)} (h : SlV w sb lb n last cnt xs) (i gen : Int) (hf : fndV xs i gen = none) :
    Calls Tryd.prog 16 #[.pointer (some ⟨sb, 0, none⟩), .agg #[.int .i64 i, .int .i64 gen]] w fun e w' => e = .returned (.tuple #[(.int .i64 0), .int .i64 60]) ∧ Below w.heap.size w w' := by
  obtain ⟨r, g, N, f, b, L, cap, G, ys, h⟩ := h
  obtain ⟨W, hW⟩ : ∃ W, W = w.alloc (.cells #[.int .i64 i, .int .i64 gen] 38) := ⟨_, rfl⟩
  have B0 : Below w.heap.size w W := by rw [hW]; exact (Below.refl _ _).alloc (Nat.le_refl _) _
  have h' := h.mono B0
  have F := findV_any sb r g N f ys _ _ _ i gen W h'.hd h'.ring
  have HW : Hid (w.alloc (.cells #[.int .i64 i, .int .i64 gen] 38) = W ∧ Below w.heap.size w W) := ⟨hW.symm, B0⟩
  rcases h'.found i gen with ⟨e1, e2⟩ | ⟨t, c, e1, e2, e3, e4, _⟩
  · rw [e2] at F
    have HF : Hid _ := F
    clear F e1 e2 h h' hW B0 hf
    go_enter Tryd.func16, Tryd.ntmps16
    go_wp2_with fail
    rw [HW.out.1]
    refine Calls.mono HF.out ?_
    rintro e w1 ⟨rfl, hB⟩
    have H1 : Hid (Below w.heap.size w (w1.alloc (.cells #[.pointer none, .int .i64 0] 79))) := (HW.out.2.trans (hB.mono HW.out.2.size)).alloc (Nat.le_trans HW.out.2.size hB.size) _
    clear hB
    simp only [Bool.false_eq_true, if_false]
    go_wp2_with fail
    go_ret2
    exact ⟨rfl, H1.out⟩
  · rw [hf] at e1
    cases e1
/-- What lies behind lay and the count. -/
structure MidV (w W : World) (sb lb n : Nat) (last : Int) (cnt : Nat) (r b L cap : Nat) (G : Nat → Nat) (S : Nat → Prop) (xs : List (Option Int × Int)) : Prop where
  hd : W.heap[sb]? = some (.cells #[.pointer (some ⟨r, 0, none⟩), .slice (some ⟨b, 0, none⟩) L cap, .int .i64 last, .int .i64 (cnt : Int)] 84)
  ring : ∃ g N f ys, RV W r g N f ys.length ys ∧ lb ≤ g ∧ ys.length = xs.length ∧ ∀ i, i < xs.length → (ys.getD i (none, 0)).2 = (xs.getD i (none, 0)).2 ∧ CelV W (ys.getD i (none, 0)).1 (xs.getD i (none, 0)).1
  nm : NmX W b L cap G n (Lv S) lb
  lo : lb ≤ sb ∧ lb ≤ r
  ft : Ft isSV lb w W
theorem MidV.shut {w W : World} {sb lb n : Nat} {last : Int} {cnt : Nat} {r b L cap : Nat} {G : Nat → Nat} {S : Nat → Prop} {xs : List (Option Int × Int)} (h : MidV w W sb lb n last cnt r b L cap G S xs) (hS : ∀ x, S x ↔ VacV n last xs x) (hle : xs.length ≤ n) (h1 : 1 ≤ last) (h2 : last ≤ 2147483647) (hg : ∀ i, i < xs.length → 1 ≤ (xs.getD i (none, 0)).2 ∧ (xs.getD i (none, 0)).2 ≤ last) (hc : cnt = xs.countP fun x => x.1.isSome) : SlV W sb lb n last cnt xs := by
  obtain ⟨g, N, f, ys, q1, q2, q3, q4⟩ := h.ring
  exact ⟨r, g, N, f, b, L, cap, G, ys, h.hd, q1, h.nm.congr fun k _ y => lv_congrV hS k y, q3, q4, ⟨h.lo.1, h.lo.2, q2⟩, hle, h1, h2, hg, hc⟩
/-- Words are written, nothing else. -/
theorem MidV.words {w W W' : World} {sb lb n : Nat} {last : Int} {cnt : Nat} {r b L cap : Nat} {G : Nat → Nat} {S S' : Nat → Prop} {xs : List (Option Int × Int)} (h : MidV w W sb lb n last cnt r b L cap G S xs) (hN : NmX W' b L cap G n (Lv S') lb) (hF : Ft isW lb W W') : MidV w W' sb lb n last cnt r b L cap G S' xs := by
  obtain ⟨g, N, f, ys, q1, q2, q3, q4⟩ := h.ring
  refine ⟨(hF.blk h.hd (by unfold isW; decide)).trans h.hd, ⟨g, N, f, ys, q1.of_blocks ?_ ?_, q2, q3, fun i hi => ⟨(q4 i hi).1, (q4 i hi).2.kept fun k cs e => (hF.blk e (by unfold isW; decide)).trans e⟩⟩, hN, h.lo, h.ft.trans (hF.weak fun t ht => .inr (.inr (.inr ht)))⟩
  · obtain ⟨cs, e, _⟩ := q1.hd
    exact hF.blk e (by unfold isW; decide)
  · rcases Nat.eq_zero_or_pos N with e0 | e0
    · rw [(q1.zr e0).1]
      obtain ⟨cs, e, _⟩ := q1.hd
      exact hF.blk e (by unfold isW; decide)
    · obtain ⟨cs, e, _⟩ := q1.row e0
      exact hF.blk e (by unfold isW; decide)
theorem MidV.draw {w W : World} {sb lb n : Nat} {last : Int} {cnt : Nat} {r b L cap : Nat} {G : Nat → Nat} {S : Nat → Prop} {xs : List (Option Int × Int)} (h : MidV w W sb lb n last cnt r b L cap G S xs) (m : Nat) : MidV w (W.drewN m) sb lb n last cnt r b L cap G S xs := by
  obtain ⟨g, N, f, ys, q1, q2, q3, q4⟩ := h.ring
  exact ⟨h.hd, ⟨g, N, f, ys, q1.of_blocks rfl rfl, q2, q3, fun i hi => ⟨(q4 i hi).1, (q4 i hi).2.kept fun k cs e => e⟩⟩, h.nm.kept fun _ _ _ _ _ => rfl, h.lo, h.ft.drewN m⟩
theorem SpV.lay {w W W' : World} {sb lb n : Nat} {last : Int} {cnt : Nat} {xs : List (Option Int × Int)} {r g N f b L cap : Nat} {G : Nat → Nat} {ys ys' : List (Option Nat × Int)} {xs' : List (Option Int × Int)} {S : Nat → Prop} (h : SpV W sb lb n last cnt xs r g N f b L cap G ys S) (hw : Ft isSV lb w W) (hlb : lb ≤ W.heap.size) (hR : RingsV W r g ys' W') (hl : ys'.length = xs'.length) (ht : ∀ i, i < xs'.length → (ys'.getD i (none, 0)).2 = (xs'.getD i (none, 0)).2 ∧ CelV W (ys'.getD i (none, 0)).1 (xs'.getD i (none, 0)).1) (cnt' : Nat) :
    MidV w (W'.setCell ⟨sb, 3, none⟩ (.int .i64 (cnt' : Int))) sb lb n last cnt' r b L cap G S xs' := by
  obtain ⟨g', N', f', q1, q2, q3⟩ := hR
  obtain ⟨a1, a2, a3, a4⟩ := h.after q2
  have hd := a1.trans h.hd
  have hne : ∀ (k : Nat) (cs : Array Value) (t : TypeId), W'.heap[k]? = some (.cells cs t) → t ≠ 84 → (W'.setCell ⟨sb, 3, none⟩ (.int .i64 (cnt' : Int))).heap[k]? = some (.cells cs t) := fun k cs t e hn => by
    refine (Below.heap_setCell _ _ _ k (show k ≠ sb from fun e2 => ?_)).trans e
    rw [e2, hd] at e
    cases e
    exact hn rfl
  refine ⟨heap_setCell_same W' sb 3 _ _ _ hd, ⟨g', N', f', ys', q1.of_blocks ?_ ?_, ?_, hl, fun i hi => ⟨(ht i hi).1, (a3 _ _ (ht i hi).2).kept fun k cs e => hne _ _ _ e (by decide)⟩⟩, a2.kept fun k cs t e ht => (hne _ _ _ e ?_).trans e.symm, ⟨h.lo.1, h.lo.2.1⟩, (hw.trans a4).set hd (.inl rfl) h.lo.1 _ _⟩
  · obtain ⟨cs, e, _⟩ := q1.hd
    exact (hne _ _ _ e (by decide)).trans e.symm
  · rcases Nat.eq_zero_or_pos N' with e0 | e0
    · rw [(q1.zr e0).1]
      obtain ⟨cs, e, _⟩ := q1.hd
      exact (hne _ _ _ e (by decide)).trans e.symm
    · obtain ⟨cs, e, _⟩ := q1.row e0
      exact (hne _ _ _ e (by decide)).trans e.symm
  · rcases q3 with e | e | e
    · rw [e]; exact h.lo.2.2
    · rw [e]; exact h.lo.2.1
    · omega
  · rcases ht with rfl | rfl <;> decide
set_option maxHeartbeats 4000000 in
theorem dropV_yes {w : World} {sb lb n : Nat} {last : Int} {cnt : Nat} {xs : List (Option Int × Int)} (h : SlV w sb lb n last cnt xs) (i0 gen : Int) (t : Int) (hf : fndV xs i0 gen = some t) :
    Calls Tryd.prog 16 #[.pointer (some ⟨sb, 0, none⟩), .agg #[.int .i64 i0, .int .i64 gen]] w fun e w' => e = .returned (.tuple #[Value.int .i64 t, .int .i64 0]) ∧ (∃ cnt', SlV w' sb lb n last cnt' (xs.set i0.toNat (none, gen))) ∧ Ft isSV lb w w' := by
  obtain ⟨r, g, N, f, b, L, cap, G, ys, h⟩ := h
  obtain ⟨W, hW⟩ : ∃ W, W = w.alloc (.cells #[.int .i64 i0, .int .i64 gen] 38) := ⟨_, rfl⟩
  obtain ⟨z, ez⟩ : ∃ z, z = w.heap.size := ⟨_, rfl⟩
  have B0 : Below w.heap.size w W := by rw [hW]; exact (Below.refl _ _).alloc (Nat.le_refl _) _
  have kz : W.heap[z]? = some (.cells #[.int .i64 i0, .int .i64 gen] 38) := by rw [hW, ez]; exact (MapKept.heap_alloc _ _).1
  have h' := h.mono B0
  have F := findV_any sb r g N f ys _ _ _ i0 gen W h'.hd h'.ring
  rcases h'.found i0 gen with ⟨e1, e2⟩ | ⟨t', c, e1, e2, e3, e4, e5, e6, e7⟩
  · rw [hf] at e1
    cases e1
  obtain rfl : t = t' := by
    rw [hf] at e1
    cases e1
    rfl
  obtain ⟨k, ek⟩ : ∃ k, k = i0.toNat := ⟨_, rfl⟩
  have eik : i0 = (k : Int) := by omega
  rw [← ek] at e6 e7 ⊢
  subst eik
  rw [e2, e3] at F
  have HF : Hid _ := F
  have HW : Hid (w.alloc (.cells #[.int .i64 (k : Int), .int .i64 gen] 38) = W ∧ w.heap.size = z) := ⟨hW.symm, ez.symm⟩
  have HH : Hid (SpV W sb lb n last cnt xs r g N f b L cap G ys (VacV n last xs) ∧ Below w.heap.size w W ∧ W.heap[z]? = some (.cells #[.int .i64 (k : Int), .int .i64 gen] 38) ∧ W.heap[c]? = some (.cells #[Value.int .i64 t] 90) ∧ k < xs.length ∧ xs.getD k (none, 0) = (some t, gen) ∧ SpV w sb lb n last cnt xs r g N f b L cap G ys (VacV n last xs)) := ⟨h', B0, kz, e4, e6, e7, h⟩
  have hcl : c < W.heap.size := (Array.getElem?_eq_some_iff.1 e4).1
  clear F h h' hW ez B0 kz e1 e2 e3 e4 e5 e6 e7 ek hf
  go_enter Tryd.func16, Tryd.ntmps16
  go_wp2_with fail
  rw [HW.out.1]
  refine Calls.mono HF.out ?_
  rintro e w1 ⟨rfl, hB⟩
  simp only [if_true, pP, Option.map]
  rw [HW.out.2]
  obtain ⟨W2, hW2⟩ : ∃ W2, W2 = w1.alloc (.cells #[.pointer (some ⟨c, 0, none⟩), .int .i64 gen] 79) := ⟨_, rfl⟩
  obtain ⟨q, eq⟩ : ∃ q, q = w1.heap.size := ⟨_, rfl⟩
  have B2 : Below W.heap.size W W2 := by rw [hW2]; exact hB.alloc hB.size _
  have kq : W2.heap[q]? = some (.cells #[.pointer (some ⟨c, 0, none⟩), .int .i64 gen] 79) := by rw [hW2, eq]; exact (MapKept.heap_alloc _ _).1
  have H2 : Hid (SpV W2 sb lb n last cnt xs r g N f b L cap G ys (VacV n last xs) ∧ Below w.heap.size w W2 ∧ W2.heap[z]? = some (.cells #[.int .i64 (k : Int), .int .i64 gen] 38) ∧ W2.heap[c]? = some (.cells #[Value.int .i64 t] 90) ∧ W2.heap[q]? = some (.cells #[.pointer (some ⟨c, 0, none⟩), .int .i64 gen] 79) ∧ r < q ∧ g < q) := by
    obtain ⟨a1, a2, a3, a4, _⟩ := HH.out
    refine ⟨a1.mono B2, a2.trans (B2.mono a2.size), (B2.block _ (Array.getElem?_eq_some_iff.1 a3).1).trans a3, (B2.block _ (Array.getElem?_eq_some_iff.1 a4).1).trans a4, kq, ?_, ?_⟩
    · rw [eq]; exact Nat.lt_of_lt_of_le a1.ring.rlt hB.size
    · rw [eq]; exact Nat.lt_of_lt_of_le a1.ring.glt hB.size
  have HW2 : Hid (w1.alloc (.cells #[.pointer (some ⟨c, 0, none⟩), .int .i64 gen] 79) = W2 ∧ w1.heap.size = q) := ⟨hW2.symm, eq.symm⟩
  have d0 : w1.cell? ⟨z, 0, none⟩ = some (.int .i64 (k : Int)) := cell_later hB (by simp [World.cell?, HH.out.2.2.1])
  have d1 : w1.cell? ⟨z, 1, none⟩ = some (.int .i64 gen) := cell_later hB (by simp [World.cell?, HH.out.2.2.1])
  have hzl : z < w1.heap.size := Nat.lt_of_lt_of_le (Array.getElem?_eq_some_iff.1 HH.out.2.2.1).1 hB.size
  clear hB hW2 eq B2 kq
  go_wp2_with fail
  rw [HW2.out.1, HW2.out.2]
  have LY := layV_any sb r g N f ys _ _ _ k gen none W2 H2.out.1.hd H2.out.1.ring (by rw [H2.out.1.len]; exact Nat.le_of_lt HH.out.2.2.2.2.1) (by rw [H2.out.1.len]; exact Nat.le_trans H2.out.1.le H2.out.1.nm.nlim.2)
  refine Calls.mono LY ?_
  rintro e w3 ⟨rfl, hR⟩
  rw [if_pos (by rw [H2.out.1.len]; exact HH.out.2.2.2.2.1)] at hR
  obtain ⟨cnt', ecn⟩ : ∃ cnt', cnt = cnt' + 1 := by
    have := count_dropV HH.out.2.2.2.2.1 HH.out.2.2.2.2.2.1
    rw [← H2.out.1.cn] at this
    exact ⟨_, this⟩
  have hM := H2.out.1.lay (xs' := xs.set k (none, gen)) (w := w) ((Ft.of_below H2.out.2.1).weak fun t ht => ht) (by have := H2.out.1.lo.1; have := (Array.getElem?_eq_some_iff.1 H2.out.1.hd).1; omega) hR (by rw [List.length_set, List.length_set]; exact H2.out.1.len) (fun i hi => by
    rw [List.length_set] at hi
    rw [getD_setV _ _ _ _ (by rw [H2.out.1.len]; exact HH.out.2.2.2.2.1), getD_setV _ _ _ _ HH.out.2.2.2.2.1]
    by_cases e : i = k
    · rw [if_pos e, if_pos e]
      exact ⟨rfl, trivial⟩
    · rw [if_neg e, if_neg e]
      exact H2.out.1.things i hi) cnt'
  obtain ⟨g3, N3, f3, r1, r2, r3⟩ := hR
  have z3 : w3.heap[z]? = some (.cells #[.int .i64 (k : Int), .int .i64 gen] 38) := H2.out.1.other r2 H2.out.2.2.1 fun cs t' z e => by cases e; exact ⟨by decide, by decide⟩
  have c3 : w3.heap[c]? = some (.cells #[Value.int .i64 t] 90) := H2.out.1.other r2 H2.out.2.2.2.1 fun cs t' z e => by cases e; exact ⟨by decide, by decide⟩
  have q3 : w3.heap[q]? = some (.cells #[.pointer (some ⟨c, 0, none⟩), .int .i64 gen] 79) := (r2.block q (Array.getElem?_eq_some_iff.1 H2.out.2.2.2.2.1).1 (by have := H2.out.2.2.2.2.2; omega) (by have := H2.out.2.2.2.2.2; omega)).trans H2.out.2.2.2.2.1
  have s3 : w3.heap[sb]? = some (.cells #[.pointer (some ⟨r, 0, none⟩), .slice (some ⟨b, 0, none⟩) L cap, .int .i64 last, .int .i64 (cnt : Int)] 84) := (H2.out.1.after r2).1.trans H2.out.1.hd
  have n1 : z ≠ sb := fun e => by rw [e, s3] at z3; cases z3
  have n2 : c ≠ sb := fun e => by rw [e, s3] at c3; cases c3
  have n3 : q ≠ sb := fun e => by rw [e, s3] at q3; cases q3
  obtain ⟨W4, hW4⟩ : ∃ W4, W4 = w3.setCell ⟨sb, 3, none⟩ (.int .i64 (cnt' : Int)) := ⟨_, rfl⟩
  have HM : Hid (MidV w W4 sb lb n last cnt' r b L cap G (VacV n last xs) (xs.set k (none, gen)) ∧ W4.heap[z]? = some (.cells #[.int .i64 (k : Int), .int .i64 gen] 38) ∧ W4.heap[c]? = some (.cells #[Value.int .i64 t] 90) ∧ W4.heap[q]? = some (.cells #[.pointer (some ⟨c, 0, none⟩), .int .i64 gen] 79)) := by
    rw [hW4]
    exact ⟨hM, (Below.heap_setCell _ _ _ _ n1).trans z3, (Below.heap_setCell _ _ _ _ n2).trans c3, (Below.heap_setCell _ _ _ _ n3).trans q3⟩
  have HW4 : Hid (w3.setCell ⟨sb, 3, none⟩ (.int .i64 ((cnt : Int) - 1)) = W4) := by rw [hW4, ecn]; congr 2; omega
  have k3 : w3.cell? ⟨sb, 3, none⟩ = some (.int .i64 (cnt : Int)) := by simp [World.cell?, s3]
  have f3' : w3.frozen? ⟨sb, 3, none⟩ = false := by simp [World.frozen?, s3]
  have HEC : Hid (cnt = cnt' + 1) := ecn
  have hcn : cnt ≤ 65536 := by
    have h1 : cnt ≤ xs.length := by rw [H2.out.1.cn]; exact List.countP_le_length
    have h2 := H2.out.1.le
    have h3 := H2.out.1.nm.nlim.2
    omega
  have hwr : IntKind.i64.wrap ((cnt : Int) - 1) = (cnt : Int) - 1 := by rw [IntKind.wrap_i64]; omega
  clear LY hM r1 r2 r3 z3 c3 q3 s3 n1 n2 n3 hW4 ecn d0 d1 hzl
  go_upto_region 6 with fail
  rw [HW4.out]
  have y0 : W4.cell? ⟨z, 0, none⟩ = some (.int .i64 (k : Int)) := by simp [World.cell?, HM.out.2.1]
  have y1 : W4.cell? ⟨z, 1, none⟩ = some (.int .i64 gen) := by simp [World.cell?, HM.out.2.1]
  have y2 : W4.cell? ⟨sb, 2, none⟩ = some (.int .i64 last) := by simp [World.cell?, HM.out.1.hd]
  have y3 : W4.cell? ⟨sb, 1, none⟩ = some (.slice (some ⟨b, 0, none⟩) L cap) := by simp [World.cell?, HM.out.1.hd]
  clear k3 f3' hwr
  by_cases hgl : gen < last
  · have hd : decide (gen < last) = true := decide_eq_true hgl
    go_quiet (fail)
    go_upto_region 7 with fail
    have AD : Hid (Calls Tryd.prog 39 #[.slice (some ⟨b, 0, none⟩) L cap, .int .i64 (k : Int)] (W4.drewN nq).drew fun e w' => e = .returned (.tuple #[]) ∧ w'.cell? ⟨sb, 1, none⟩ = some (.slice (some ⟨b, 0, none⟩) L cap) ∧ w'.cell? ⟨z, 0, none⟩ = some (.int .i64 (k : Int)) ∧ Hid (SlV w' sb lb n last cnt' (xs.set k (none, gen)) ∧ Ft isSV lb w w' ∧ w'.heap[c]? = some (.cells #[Value.int .i64 t] 90) ∧ w'.heap[q]? = some (.cells #[.pointer (some ⟨c, 0, none⟩), .int .i64 gen] 79))) := by
      have hM := (HM.out.1.draw nq).draw 1
      refine (add_any (W4.drewN nq).drew b L cap G n k lb _ hM.nm (by have := HH.out.2.2.2.2.1; have := H2.out.1.le; omega)).mono ?_
      rintro e w' ⟨rfl, a1, a2⟩
      have hM2 := hM.words a1 a2
      have xz : w'.heap[z]? = some (.cells #[.int .i64 (k : Int), .int .i64 gen] 38) := (a2.blk HM.out.2.1 (by unfold isW; decide)).trans HM.out.2.1
      refine ⟨rfl, by simp [World.cell?, hM2.hd], by simp [World.cell?, xz], ?_, hM2.ft, (a2.blk HM.out.2.2.1 (by unfold isW; decide)).trans HM.out.2.2.1, (a2.blk HM.out.2.2.2 (by unfold isW; decide)).trans HM.out.2.2.2⟩
      refine hM2.shut (fun x => ?_) (by rw [List.length_set]; exact H2.out.1.le) H2.out.1.last1 H2.out.1.last2 (fun i hi => ?_) ?_
      · rw [vac_dropV HH.out.2.2.2.2.1 HH.out.2.2.2.2.2.1 H2.out.1.le]
        constructor
        · rintro (h1 | h1)
          · exact .inl h1
          · exact .inr ⟨h1, hgl⟩
        · rintro (h1 | h1)
          · exact .inl h1
          · exact .inr h1.1
      · rw [List.length_set] at hi
        rw [getD_setV _ _ _ _ HH.out.2.2.2.2.1]
        have h9 := H2.out.1.gens k HH.out.2.2.2.2.1
        rw [HH.out.2.2.2.2.2.1] at h9
        split
        · exact h9
        · exact H2.out.1.gens i hi
      · have h9 := count_dropV HH.out.2.2.2.2.1 HH.out.2.2.2.2.2.1
        rw [← H2.out.1.cn, HEC.out] at h9
        omega
    have y0' : (W4.drewN nq).cell? ⟨z, 0, none⟩ = some (.int .i64 (k : Int)) := y0
    have y3' : (W4.drewN nq).cell? ⟨sb, 1, none⟩ = some (.slice (some ⟨b, 0, none⟩) L cap) := y3
    go_region_held3 (fun w9 => w9.cell? ⟨sb, 1, none⟩ = some (.slice (some ⟨b, 0, none⟩) L cap) ∧ w9.cell? ⟨z, 0, none⟩ = some (.int .i64 (k : Int))) (first | (simp [go_sem, *]; done) | (trace_state; fail))
      (first | (go_at_call 39; refine Calls.mono AD.out ?_; rintro e w5 ⟨rfl, p0, p1, H5⟩))
    have u0 : w5.cell? ⟨q, 0, none⟩ = some (.pointer (some ⟨c, 0, none⟩)) := by simp [World.cell?, H5.out.2.2.2]
    have u1 : w5.cell? ⟨c, 0, none⟩ = some (Value.int .i64 t) := by simp [World.cell?, H5.out.2.2.1]
    clear y0 y1 y2 y3 y0' y3' p0 p1
    go_wp2_with fail
    go_ret2
    exact ⟨rfl, ⟨cnt', H5.out.1⟩, H5.out.2.1⟩
  · have hd : decide (gen < last) = false := decide_eq_false hgl
    go_quiet (fail)
    have H5 : Hid (SlV (W4.drewN nq) sb lb n last cnt' (xs.set k (none, gen)) ∧ Ft isSV lb w (W4.drewN nq)) := by
      have hM := HM.out.1.draw nq
      refine ⟨?_, hM.ft⟩
      refine hM.shut (fun x => ?_) (by rw [List.length_set]; exact H2.out.1.le) H2.out.1.last1 H2.out.1.last2 (fun i hi => ?_) ?_
      · rw [vac_dropV HH.out.2.2.2.2.1 HH.out.2.2.2.2.2.1 H2.out.1.le]
        constructor
        · exact .inl
        · rintro (h1 | h1)
          · exact h1
          · exact absurd h1.2 hgl
      · rw [List.length_set] at hi
        rw [getD_setV _ _ _ _ HH.out.2.2.2.2.1]
        have h9 := H2.out.1.gens k HH.out.2.2.2.2.1
        rw [HH.out.2.2.2.2.2.1] at h9
        split
        · exact h9
        · exact H2.out.1.gens i hi
      · have h9 := count_dropV HH.out.2.2.2.2.1 HH.out.2.2.2.2.2.1
        rw [← H2.out.1.cn, HEC.out] at h9
        omega
    have u0 : W4.cell? ⟨q, 0, none⟩ = some (.pointer (some ⟨c, 0, none⟩)) := by simp [World.cell?, HM.out.2.2.2]
    have u1 : W4.cell? ⟨c, 0, none⟩ = some (Value.int .i64 t) := by simp [World.cell?, HM.out.2.2.1]
    clear y0 y1 y2 y3
    go_wp2_with fail
    go_ret2
    exact ⟨rfl, ⟨cnt', H5.out.1⟩, H5.out.2⟩
end Go.Proofs.YtbnbgikhdfbpcaaDoor
namespace Go.Proofs.YtbnbgikhdfbpcaaDoor
open Go.RowKit
set_option maxRecDepth 100000
set_option linter.unusedVariables false
/-- v lies in the m-th slot. -/
def putXV (xs : List (Option Int × Int)) (m : Nat) (v : Int) : List (Option Int × Int) := if m < xs.length then xs.set m (some v, (xs.getD m (none, 0)).2 + 1) else xs ++ [(some v, (xs.getD m (none, 0)).2 + 1)]
theorem vac_leV {n : Nat} {last : Int} {xs : List (Option Int × Int)} {m : Nat} (h : Least (VacV n last xs) m) : m ≤ xs.length ∧ m < n := by
  have h1 := h.1
  unfold VacV at h1
  refine ⟨?_, h1.1⟩
  rcases Nat.lt_or_ge xs.length m with h2 | h2
  · have := h.2 xs.length ⟨by omega, .inl (Nat.le_refl _)⟩
    omega
  · exact h2
theorem getD_snocV {α : Type} (xs : List α) (v z : α) (j : Nat) : (xs ++ [v]).getD j z = if j = xs.length then v else xs.getD j z := by
  simp only [List.getD_eq_getElem?_getD]
  rcases Nat.lt_trichotomy j xs.length with h | h | h
  · rw [List.getElem?_append_left h, if_neg (by omega)]
  · subst h; simp
  · rw [List.getElem?_append_right (by omega), if_neg (by omega), List.getElem?_eq_none (l := xs) (by omega), List.getElem?_eq_none (by simp; omega)]
theorem putX_lenV (xs : List (Option Int × Int)) (m : Nat) (v : Int) (h : m ≤ xs.length) : (putXV xs m v).length = if m < xs.length then xs.length else xs.length + 1 := by
  unfold putXV
  split <;> simp
theorem putX_atV (xs : List (Option Int × Int)) (m : Nat) (v : Int) (h : m ≤ xs.length) (j : Nat) : (putXV xs m v).getD j (none, 0) = if j = m then (some v, (xs.getD m (none, 0)).2 + 1) else xs.getD j (none, 0) := by
  unfold putXV
  split
  · rw [getD_setV _ _ _ _ (by assumption)]
  · rw [getD_snocV]
    have e : m = xs.length := by omega
    rw [e]
theorem vac_putV {n : Nat} {last : Int} {xs : List (Option Int × Int)} {m : Nat} (h : Least (VacV n last xs) m) (v : Int) (j : Nat) : VacV n last (putXV xs m v) j ↔ (VacV n last xs j ∧ j ≠ m) := by
  obtain ⟨h1, h2⟩ := vac_leV h
  unfold VacV
  rw [putX_atV _ _ _ h1, putX_lenV _ _ _ h1]
  by_cases e : j = m
  · subst e
    rw [if_pos rfl]
    simp
    intro _
    split <;> omega
  · rw [if_neg e]
    simp only [ne_eq, e, not_false_eq_true, and_true]
    constructor
    · rintro ⟨a, b | b⟩
      · refine ⟨a, .inl ?_⟩
        split at b <;> omega
      · exact ⟨a, .inr b⟩
    · rintro ⟨a, b | b⟩
      · refine ⟨a, .inl ?_⟩
        split <;> omega
      · exact ⟨a, .inr b⟩
theorem count_putV {xs : List (Option Int × Int)} {m : Nat} (hm : m ≤ xs.length) (hn : m < xs.length → (xs.getD m (none, 0)).1 = none) (v : Int) : (putXV xs m v).countP (fun x => x.1.isSome) = xs.countP (fun x => x.1.isSome) + 1 := by
  unfold putXV
  split
  · rename_i hl
    have h1 := List.countP_set (p := fun x : Option Int × Int => x.1.isSome) (a := ((some v, (xs.getD m (none, 0)).2 + 1) : Option Int × Int)) hl
    have h2 : xs[m].1 = none := by
      have := hn hl
      rw [List.getD_eq_getElem?_getD, List.getElem?_eq_getElem hl] at this
      exact this
    rw [h1, h2]
    simp
  · simp [List.countP_append]
set_option maxHeartbeats 1000000 in
theorem putV_no {w : World} {sb lb n : Nat} {last : Int} {cnt : Nat} {xs : List (Option Int × Int)} (h : SlV w sb lb n last cnt xs) (v : Int) (hv : ∀ i, ¬ VacV n last xs i) :
    Calls Tryd.prog 10 #[.pointer (some ⟨sb, 0, none⟩), Value.int .i64 v] w fun e w' => e = .returned (.tuple #[.agg #[.int .i64 0, .int .i64 0], .int .i64 61]) ∧ Below w.heap.size w w' := by
  obtain ⟨r, g, N, f, b, L, cap, G, ys, h⟩ := h
  obtain ⟨W, hW⟩ : ∃ W, W = w.alloc (.cells #[.int .i64 0, .int .i64 0] 38) := ⟨_, rfl⟩
  obtain ⟨z, ez⟩ : ∃ z, z = w.heap.size := ⟨_, rfl⟩
  have B0 : Below w.heap.size w W := by rw [hW]; exact (Below.refl _ _).alloc (Nat.le_refl _) _
  have kz : W.heap[z]? = some (.cells #[.int .i64 0, .int .i64 0] 38) := by rw [hW, ez]; exact (MapKept.heap_alloc _ _).1
  have h' := h.mono B0
  have HL : Hid _ := least_no W b L cap G n lb _ h'.nm hv
  obtain ⟨_, c1, _, _, _, _⟩ := h'.cells
  have HW : Hid (w.alloc (.cells #[.int .i64 0, .int .i64 0] 38) = W ∧ w.heap.size = z ∧ Below w.heap.size w W ∧ W.heap[z]? = some (.cells #[.int .i64 0, .int .i64 0] 38)) := ⟨hW.symm, ez.symm, B0, kz⟩
  clear h h' hW ez B0 kz hv
  go_enter Tryd.func10, Tryd.ntmps10
  go_upto_region 1 with fail
  rw [HW.out.1, HW.out.2.1]
  go_wp2_with fail
  refine Calls.mono HL.out ?_
  rintro e w1 ⟨rfl, hB⟩
  have e1 : w1.heap[z]? = some (.cells #[.int .i64 0, .int .i64 0] 38) := (hB.block _ (Array.getElem?_eq_some_iff.1 HW.out.2.2.2).1).trans HW.out.2.2.2
  have u0 : w1.cell? ⟨z, 0, none⟩ = some (.int .i64 0) := by simp [World.cell?, e1]
  have u1 : w1.cell? ⟨z, 1, none⟩ = some (.int .i64 0) := by simp [World.cell?, e1]
  have u2 : w1.frozen? ⟨z, 0, none⟩ = false := by simp [World.frozen?, e1]
  have u3 : w1.frozen? ⟨z, 1, none⟩ = false := by simp [World.frozen?, e1]
  have H1 : Hid (Below w.heap.size w w1 ∧ w.heap.size ≤ z) := ⟨HW.out.2.2.1.trans (hB.mono HW.out.2.2.1.size), by have := HW.out.2.1; omega⟩
  clear hB e1
  go_wp2_with fail
  exact bodyPost_ret (v := .tuple #[.agg #[.int .i64 0, .int .i64 0], .int .i64 61]) (by simp [results, Tryd.results10, go_sem, u0, u1]) rfl ⟨rfl, (H1.out.1.setCell (p := ⟨z, 0, none⟩) H1.out.2 _).setCell (p := ⟨z, 1, none⟩) H1.out.2 _⟩
theorem SpV.words {W W' : World} {sb lb n : Nat} {last : Int} {cnt : Nat} {xs : List (Option Int × Int)} {r g N f b L cap : Nat} {G : Nat → Nat} {ys : List (Option Nat × Int)} {S S' : Nat → Prop} (h : SpV W sb lb n last cnt xs r g N f b L cap G ys S) (hN : NmX W' b L cap G n (Lv S') lb) (hF : Ft isW lb W W') : SpV W' sb lb n last cnt xs r g N f b L cap G ys S' := by
  refine { h with hd := (hF.blk h.hd (by unfold isW; decide)).trans h.hd, ring := h.ring.of_blocks ?_ ?_, nm := hN, things := fun i hi => ⟨(h.things i hi).1, (h.things i hi).2.kept fun k cs e => (hF.blk e (by unfold isW; decide)).trans e⟩ }
  · obtain ⟨cs, e, _⟩ := h.ring.hd
    exact hF.blk e (by unfold isW; decide)
  · rcases Nat.eq_zero_or_pos N with e0 | e0
    · rw [(h.ring.zr e0).1]
      obtain ⟨cs, e, _⟩ := h.ring.hd
      exact hF.blk e (by unfold isW; decide)
    · obtain ⟨cs, e, _⟩ := h.ring.row e0
      exact hF.blk e (by unfold isW; decide)
theorem ft_newV {P : TypeId → Prop} {lb : Nat} {a b : World} (h : Ft P lb a b) {x : Nat} (hx : a.heap.size ≤ x) (hl : lb ≤ x) (i : Nat) (v : Value) : Ft P lb a (b.setCell ⟨x, i, none⟩ v) :=
  ⟨h.os, h.tape, h.output, by simpa using h.size, fun k h1 h2 => (Below.heap_setCell _ _ _ k (show k ≠ x by omega)).trans (h.low k h1 h2), fun k o e ho => (Below.heap_setCell _ _ _ k (show k ≠ x by have := (Array.getElem?_eq_some_iff.1 e).1; omega)).trans (h.oth k o e ho)⟩
set_option maxHeartbeats 4000000 in
theorem putV_yes {w : World} {sb lb n : Nat} {last : Int} {cnt : Nat} {xs : List (Option Int × Int)} (h : SlV w sb lb n last cnt xs) (hT : Tab w) (v : Int) (m : Nat) (hm : Least (VacV n last xs) m) :
    Calls Tryd.prog 10 #[.pointer (some ⟨sb, 0, none⟩), Value.int .i64 v] w fun e w' => e = .returned (.tuple #[.agg #[.int .i64 (m : Int), .int .i64 ((xs.getD m (none, 0)).2 + 1)], .int .i64 0]) ∧ (∃ cnt', SlV w' sb lb n last cnt' (putXV xs m v)) ∧ Ft isSV lb w w' := by
  obtain ⟨r, g, N, f, b, L, cap, G, ys, h⟩ := h
  obtain ⟨hm1, hm2⟩ := vac_leV hm
  obtain ⟨W, hW⟩ : ∃ W, W = w.alloc (.cells #[.int .i64 0, .int .i64 0] 38) := ⟨_, rfl⟩
  obtain ⟨z, ez⟩ : ∃ z, z = w.heap.size := ⟨_, rfl⟩
  have B0 : Below w.heap.size w W := by rw [hW]; exact (Below.refl _ _).alloc (Nat.le_refl _) _
  have kz : W.heap[z]? = some (.cells #[.int .i64 0, .int .i64 0] 38) := by rw [hW, ez]; exact (MapKept.heap_alloc _ _).1
  have h' := h.mono B0
  have HL : Hid _ := least_yes W b L cap G n lb m _ h'.nm (hT.go B0) hm hm2
  obtain ⟨c0, c1, _, _, _, hsl⟩ := h'.cells
  obtain ⟨gen, egen⟩ : ∃ gen, gen = (xs.getD m (none, 0)).2 := ⟨_, rfl⟩
  have hat : (atP ys (m : Int)).2 = gen := by
    unfold atP
    rw [egen]
    by_cases e : m < xs.length
    · rw [if_pos (by rw [h.len]; omega), Int.toNat_natCast]
      exact (h.things m e).1
    · rw [if_neg (by rw [h.len]; omega)]
      simp [show xs.length ≤ m by omega]
  have hgb : 0 ≤ gen ∧ gen < last := by
    rw [egen]
    have h1 := hm.1
    unfold VacV at h1
    rcases Nat.lt_or_ge m xs.length with e | e
    · have := h.gens m e
      rcases h1.2 with h2 | h2
      · omega
      · exact ⟨by omega, h2.2⟩
    · have := h.last1
      simp [e]
      omega
  obtain ⟨x0, ex0⟩ : ∃ x0, x0 = (atP ys (m : Int)).1 := ⟨_, rfl⟩
  have AT : Hid (∀ W', Below W.heap.size W W' → Calls Tryd.prog 34 #[.pointer (some ⟨r, 0, none⟩), .int .i64 (m : Int)] W' fun e w' => ∃ bb, e = .returned (.tuple #[.agg #[pP x0, .int .i64 gen], .bool bb]) ∧ Below W'.heap.size W' w') := fun W' hB => by
    have := atV_u r g N f ys (m : Int) W' (h'.ring.mono hB)
    rw [hat, ← ex0] at this
    exact this
  obtain ⟨pp, epp⟩ : ∃ pp : Option Addr, pp = x0.map fun b => ⟨b, 0, none⟩ := ⟨_, rfl⟩
  have ep : pP x0 = .pointer pp := by rw [epp]; rfl
  rw [ep] at AT
  have hl2 := h.last2
  have HW : Hid (w.alloc (.cells #[.int .i64 0, .int .i64 0] 38) = W ∧ w.heap.size = z) := ⟨hW.symm, ez.symm⟩
  have HH : Hid (SpV W sb lb n last cnt xs r g N f b L cap G ys (VacV n last xs) ∧ Below w.heap.size w W ∧ W.heap[z]? = some (.cells #[.int .i64 0, .int .i64 0] 38) ∧ Least (VacV n last xs) m ∧ gen = (xs.getD m (none, 0)).2) := ⟨h', B0, kz, hm, egen⟩
  rw [← egen]
  clear h h' hW ez B0 kz hm hat ex0 epp ep egen hT
  go_enter Tryd.func10, Tryd.ntmps10
  go_upto_region 1 with fail
  rw [HW.out.1, HW.out.2]
  go_wp2_with fail
  refine Calls.mono HL.out ?_
  rintro e w1 ⟨rfl, hB1⟩
  have H1 : Hid (Below W.heap.size W w1) := hB1
  have d0 := cell_later hB1 c0
  have d1 := cell_later hB1 c1
  clear hB1 HL
  go_wp2_with fail
  refine Calls.mono (AT.out _ H1.out) ?_
  rintro e w2 ⟨bb, rfl, hB2⟩
  have BW2 : Below W.heap.size W w2 := H1.out.trans (hB2.mono H1.out.size)
  obtain ⟨W4, hW4⟩ : ∃ W4, W4 = (w2.alloc (.cells #[.pointer pp, .int .i64 gen] 79)).alloc (.cells #[.int .i64 (m : Int), .int .i64 (gen + 1)] 38) := ⟨_, rfl⟩
  obtain ⟨q, eq⟩ : ∃ q, q = w2.heap.size := ⟨_, rfl⟩
  have B4 : Below W.heap.size W W4 := by rw [hW4]; exact (BW2.alloc BW2.size _).alloc (by have := BW2.size; simp; omega) _
  have kq : W4.heap[q + 1]? = some (.cells #[.int .i64 (m : Int), .int .i64 (gen + 1)] 38) := by
    rw [hW4, eq]
    have := (MapKept.heap_alloc (w2.alloc (.cells #[.pointer pp, .int .i64 gen] 79)) (.cells #[.int .i64 (m : Int), .int .i64 (gen + 1)] 38)).1
    simpa using this
  have hq4 : W4.heap.size = q + 2 := by rw [hW4, eq]; simp
  have HW4 : Hid ((w2.alloc (.cells #[.pointer pp, .int .i64 gen] 79)).alloc (.cells #[.int .i64 (m : Int), .int .i64 (gen + 1)] 38) = W4 ∧ w2.heap.size = q) := ⟨hW4.symm, eq.symm⟩
  have H4 : Hid (SpV W4 sb lb n last cnt xs r g N f b L cap G ys (VacV n last xs) ∧ Below w.heap.size w W4 ∧ W4.heap[z]? = some (.cells #[.int .i64 0, .int .i64 0] 38) ∧ W4.heap[q + 1]? = some (.cells #[.int .i64 (m : Int), .int .i64 (gen + 1)] 38) ∧ z < q + 1) := by
    obtain ⟨a1, a2, a3, _⟩ := HH.out
    refine ⟨a1.mono B4, a2.trans (B4.mono a2.size), (B4.block _ (Array.getElem?_eq_some_iff.1 a3).1).trans a3, kq, ?_⟩
    have := (Array.getElem?_eq_some_iff.1 a3).1
    have := BW2.size
    omega
  have d0 := cell_later BW2 c0
  have d1 := cell_later BW2 c1
  have hsl2 : sb < w2.heap.size := Nat.lt_of_lt_of_le hsl BW2.size
  have wg : IntKind.i64.wrap (gen + 1) = gen + 1 := by rw [IntKind.wrap_i64]; omega
  clear hB2 BW2 hW4 eq B4 kq c0 c1
  go_upto_region 6 with fail
  rw [HW4.out.1, HW4.out.2]
  obtain ⟨k0, k1, _, _, _, _⟩ := H4.out.1.cells
  clear d0 d1 hsl2
  go_wp2_with fail
  refine Calls.mono (remove_any W4 b L cap G n m lb _ H4.out.1.nm hm2) ?_
  rintro e w5 ⟨rfl, hN5, hF5⟩
  have hS5 := H4.out.1.words hN5 hF5
  have z5 : w5.heap[z]? = some (.cells #[.int .i64 0, .int .i64 0] 38) := (hF5.blk H4.out.2.2.1 (by unfold isW; decide)).trans H4.out.2.2.1
  have q5 : w5.heap[q + 1]? = some (.cells #[.int .i64 (m : Int), .int .i64 (gen + 1)] 38) := (hF5.blk H4.out.2.2.2.1 (by unfold isW; decide)).trans H4.out.2.2.2.1
  have hzl5 : z < w5.heap.size := (Array.getElem?_eq_some_iff.1 z5).1
  have hql5 : q + 1 < w5.heap.size := (Array.getElem?_eq_some_iff.1 q5).1
  have v0 : w5.cell? ⟨q + 1, 0, none⟩ = some (.int .i64 (m : Int)) := by simp [World.cell?, q5]
  have v1 : w5.cell? ⟨q + 1, 1, none⟩ = some (.int .i64 (gen + 1)) := by simp [World.cell?, q5]
  obtain ⟨W6, hW6⟩ : ∃ W6, W6 = w5.alloc (.cells #[Value.int .i64 v] 90) := ⟨_, rfl⟩
  obtain ⟨cb, ecb⟩ : ∃ cb, cb = w5.heap.size := ⟨_, rfl⟩
  have B6 : Below w5.heap.size w5 W6 := by rw [hW6]; exact (Below.refl _ _).alloc (Nat.le_refl _) _
  have HW6 : Hid (w5.alloc (.cells #[Value.int .i64 v] 90) = W6 ∧ w5.heap.size = cb) := ⟨hW6.symm, ecb.symm⟩
  have lbw : lb ≤ w.heap.size ∨ True := .inr trivial
  have H6 : Hid (SpV W6 sb lb n last cnt xs r g N f b L cap G ys (fun x => VacV n last xs x ∧ x ≠ m) ∧ Ft isSV lb w W6 ∧ W6.heap[z]? = some (.cells #[.int .i64 0, .int .i64 0] 38) ∧ W6.heap[q + 1]? = some (.cells #[.int .i64 (m : Int), .int .i64 (gen + 1)] 38) ∧ W6.heap[cb]? = some (.cells #[Value.int .i64 v] 90)) := by
    refine ⟨hS5.mono B6, ((Ft.of_below H4.out.2.1).trans (hF5.weak fun t ht => .inr (.inr (.inr ht)))).trans (Ft.of_below B6), (B6.block _ hzl5).trans z5, (B6.block _ hql5).trans q5, by rw [hW6, ecb]; exact (MapKept.heap_alloc _ _).1⟩
  clear hN5 hF5 hS5 z5 q5 hW6 ecb B6 lbw
  go_upto_region 7 with fail
  go_wp2_with fail
  rw [HW6.out.1, HW6.out.2]
  have LY := layV_any sb r g N f ys _ _ _ m (gen + 1) (some cb) W6 H6.out.1.hd H6.out.1.ring (by rw [H6.out.1.len]; exact hm1) (by rw [H6.out.1.len]; exact Nat.le_trans H6.out.1.le H6.out.1.nm.nlim.2)
  refine Calls.mono LY ?_
  rintro e w7 ⟨rfl, hR⟩
  have hM := H6.out.1.lay (xs' := putXV xs m v) (w := w) H6.out.2.1 (by have := H6.out.1.lo.1; have := (Array.getElem?_eq_some_iff.1 H6.out.1.hd).1; omega) hR (by rw [putX_lenV _ _ _ hm1, H6.out.1.len]; split <;> simp [H6.out.1.len]) (fun i hi => by
    rw [putX_atV _ _ _ hm1, ← HH.out.2.2.2.2]
    have hyy : (if m < ys.length then ys.set m (some cb, gen + 1) else ys ++ [(some cb, gen + 1)]).getD i (none, 0) = if i = m then (some cb, gen + 1) else ys.getD i (none, 0) := by
      split
      · rw [getD_setV _ _ _ _ (by assumption)]
      · rw [getD_snocV]
        have e : m = ys.length := by have := H6.out.1.len; omega
        rw [e]
    rw [hyy]
    by_cases e : i = m
    · rw [if_pos e, if_pos e]
      exact ⟨rfl, H6.out.2.2.2.2⟩
    · rw [if_neg e, if_neg e]
      refine H6.out.1.things i ?_
      rw [putX_lenV _ _ _ hm1] at hi
      split at hi <;> omega) (cnt + 1)
  obtain ⟨g7, N7, f7, r1, r2, r3⟩ := hR
  have z7 : w7.heap[z]? = some (.cells #[.int .i64 0, .int .i64 0] 38) := H6.out.1.other r2 H6.out.2.2.1 fun cs t' z e => by cases e; exact ⟨by decide, by decide⟩
  have q7 : w7.heap[q + 1]? = some (.cells #[.int .i64 (m : Int), .int .i64 (gen + 1)] 38) := H6.out.1.other r2 H6.out.2.2.2.1 fun cs t' z e => by cases e; exact ⟨by decide, by decide⟩
  have s7 : w7.heap[sb]? = some (.cells #[.pointer (some ⟨r, 0, none⟩), .slice (some ⟨b, 0, none⟩) L cap, .int .i64 last, .int .i64 (cnt : Int)] 84) := (H6.out.1.after r2).1.trans H6.out.1.hd
  have n1 : z ≠ sb := fun e => by rw [e, s7] at z7; cases z7
  have n2 : q + 1 ≠ sb := fun e => by rw [e, s7] at q7; cases q7
  obtain ⟨W8, hW8⟩ : ∃ W8, W8 = w7.setCell ⟨sb, 3, none⟩ (.int .i64 ((cnt + 1 : Nat) : Int)) := ⟨_, rfl⟩
  have HW8 : Hid (w7.setCell ⟨sb, 3, none⟩ (.int .i64 ((cnt : Int) + 1)) = W8) := by rw [hW8]; congr 2
  have H8 : Hid (MidV w W8 sb lb n last (cnt + 1) r b L cap G (fun x => VacV n last xs x ∧ x ≠ m) (putXV xs m v) ∧ W8.heap[z]? = some (.cells #[.int .i64 0, .int .i64 0] 38) ∧ W8.heap[q + 1]? = some (.cells #[.int .i64 (m : Int), .int .i64 (gen + 1)] 38)) := by
    rw [hW8]
    exact ⟨hM, (Below.heap_setCell _ _ _ _ n1).trans z7, (Below.heap_setCell _ _ _ _ n2).trans q7⟩
  have k3 : w7.cell? ⟨sb, 3, none⟩ = some (.int .i64 (cnt : Int)) := by simp [World.cell?, s7]
  have f3 : w7.frozen? ⟨sb, 3, none⟩ = false := by simp [World.frozen?, s7]
  have hcn : cnt ≤ 65536 := by
    have h1 : cnt ≤ xs.length := by rw [H6.out.1.cn]; exact List.countP_le_length
    have h2 := H6.out.1.le
    have h3 := H6.out.1.nm.nlim.2
    omega
  clear LY hM r1 r2 r3 z7 q7 s7 n1 n2 hW8 v0 v1 k0 k1
  go_upto_region 9 with fail
  rw [HW8.out]
  have x0' : W8.cell? ⟨q + 1, 0, none⟩ = some (.int .i64 (m : Int)) := by simp [World.cell?, H8.out.2.2]
  have x1' : W8.cell? ⟨q + 1, 1, none⟩ = some (.int .i64 (gen + 1)) := by simp [World.cell?, H8.out.2.2]
  have y0' : W8.cell? ⟨z, 0, none⟩ = some (.int .i64 0) := by simp [World.cell?, H8.out.2.1]
  have y1' : W8.cell? ⟨z, 1, none⟩ = some (.int .i64 0) := by simp [World.cell?, H8.out.2.1]
  have y2' : W8.frozen? ⟨z, 0, none⟩ = false := by simp [World.frozen?, H8.out.2.1]
  have y3' : W8.frozen? ⟨z, 1, none⟩ = false := by simp [World.frozen?, H8.out.2.1]
  have H9 : Hid ((∃ cnt', SlV ((W8.setCell ⟨z, 0, none⟩ (.int .i64 (m : Int))).setCell ⟨z, 1, none⟩ (.int .i64 (gen + 1))) sb lb n last cnt' (putXV xs m v)) ∧ Ft isSV lb w ((W8.setCell ⟨z, 0, none⟩ (.int .i64 (m : Int))).setCell ⟨z, 1, none⟩ (.int .i64 (gen + 1)))) := by
    have hlz : lb ≤ z ∧ w.heap.size ≤ z := by
      have h1 := HW.out.2
      have h2 := H6.out.1.lo.1
      have h3 := HH.out.1.lo.1
      have h4 : sb < w.heap.size := by
        have e1 := HH.out.1.hd
        have e2 := HW.out.1
        have e3 : sb < W.heap.size := (Array.getElem?_eq_some_iff.1 e1).1
        have e4 : W.heap.size = w.heap.size + 1 := by rw [← e2]; simp
        rcases Nat.lt_or_ge sb w.heap.size with e5 | e5
        · exact e5
        · have e6 : sb = z := by omega
          rw [e6, HH.out.2.2.1] at e1
          cases e1
      omega
    refine ⟨⟨cnt + 1, ?_⟩, ft_newV (ft_newV H8.out.1.ft hlz.2 hlz.1 _ _) hlz.2 hlz.1 _ _⟩
    have hS : SlV W8 sb lb n last (cnt + 1) (putXV xs m v) := by
      refine H8.out.1.shut (fun x => (vac_putV HH.out.2.2.2.1 v x).symm) ?_ HH.out.1.last1 HH.out.1.last2 (fun i hi => ?_) ?_
      · rw [putX_lenV _ _ _ hm1]
        have := HH.out.1.le
        split <;> omega
      · rw [putX_atV _ _ _ hm1, ← HH.out.2.2.2.2]
        split
        · exact ⟨by simp; omega, by simp; omega⟩
        · refine HH.out.1.gens i ?_
          rw [putX_lenV _ _ _ hm1] at hi
          split at hi <;> omega
      · rw [count_putV hm1 (fun hl => ?_), HH.out.1.cn]
        have h1 := HH.out.2.2.2.1.1
        unfold VacV at h1
        rcases h1.2 with h2 | h2
        · omega
        · exact h2.1
    refine hS.kept fun k cs t e ht => ?_
    have hne : k ≠ z := fun e2 => by
      rw [e2, H8.out.2.1] at e
      cases e
      rcases ht with ht | ht | ht | ht | ht | ht <;> exact absurd ht (by decide)
    exact (Below.heap_setCell _ _ _ _ hne).trans ((Below.heap_setCell _ _ _ _ hne).trans e)
  clear k3 f3
  go_wp2_with fail
  exact bodyPost_ret (v := .tuple #[.agg #[.int .i64 (m : Int), .int .i64 (gen + 1)], .int .i64 0]) (by simp [results, Tryd.results10, go_sem, y0', y1']) rfl ⟨rfl, H9.out⟩
end Go.Proofs.YtbnbgikhdfbpcaaDoor
namespace Go.Proofs.YtbnbgikhdfbpcaaDoor
open Go.RowKit
set_option maxRecDepth 100000
set_option linter.unusedVariables false
abbrev RW (w : World) (r g N f c : Nat) (xs : List (Option Nat × Int)) : Prop := RwK 2 encP ((none, 0) : Option Nat × Int) 132 106 w r g N f c xs
set_option maxHeartbeats 1000000 in
theorem indexW_any (r g N f c : Nat) (xs : List (Option Nat × Int)) (i : Int) (k : Nat) (w : World) (h : RW w r g N f c xs) (hN : 0 < N) (hi : -1 ≤ i) (hi2 : i ≤ N) (hk : k < N) (e : ((k : Nat) : Int) = ((f : Int) + i) % (N : Int)) :
    Calls Tryd.prog 53 #[.pointer (some ⟨r, 0, none⟩), .int .i64 i] w fun e w' => e = .returned (.int .i64 (k : Int)) ∧ ∃ n, w' = w.drewN n := by
  have c0 := h.c0 hN
  have c1 := h.c1
  have hf := h.fl hN
  have hl := h.lim
  obtain ⟨p, hp⟩ := h.pow hN
  have hp40 : p + 2 ≤ 40 := by
    rcases Nat.lt_or_ge 40 (p + 2) with h' | h'
    · have : 2 ^ 41 ≤ 2 ^ (p + 2) := Nat.pow_le_pow_right (by decide) h'
      omega
    · exact h'
  have hm := i64_mask ((f : Int) + i) (p + 2) hp40 ((N : Int) - 1) (by rw [hp])
  rw [← hp, ← e] at hm
  have HH : Hid (RW w r g N f c xs) := h
  clear h hp hp40 e
  go_enter Tryd.func53, Tryd.ntmps53
  go_wp2_with fail
  go_quiet (fail)
  go_wp2_with fail
  go_ret
  exact ⟨rfl, nq, rfl⟩
end Go.Proofs.YtbnbgikhdfbpcaaDoor
namespace Go.Proofs.YtbnbgikhdfbpcaaDoor
open Go.RowKit
set_option maxRecDepth 100000
set_option linter.unusedVariables false
theorem Tryd.infoW : (Tryd.prog.info? 106).map (fun i => (i.zero, i.size, i.bytes)) = some (some (.agg #[.pointer none, .int .i64 0]), 2, 16) := by kernel_rfl
theorem makeW_at (L C : Int) (n m : Nat) (hL : L = n) (hC : C = m) (hnm : n ≤ m) (hm : m ≤ 1099511627776) (w : World) :
    (Instr.makeSlice 130 (.int .i64 L) (.int .i64 C)).run Tryd.prog w = .ok (.slice (some ⟨w.heap.size, 0, none⟩) n m) (w.alloc (.cells (madeCells #[.pointer none, .int .i64 0] (m * 2)) 106)) := by
  obtain ⟨i, hi, hz, hs, hb⟩ := info_parts Tryd.infoW
  subst hL hC
  rw [run_make w 130 106 i (.agg #[.pointer none, .int .i64 0]) Tryd.underlying130 hi hz .i64 .i64 n m (by omega) (by omega) (by rw [hb]; omega) (by omega), hs]
  simp [Value.cells]
theorem cutW (p : Option Addr) (len cap l n : Nat) (h2 : l + n ≤ cap) : ∃ q : Option Addr, (∀ b, p = some ⟨b, 0, none⟩ → l < cap → q = some ⟨b, l * 2, none⟩) ∧
    ∀ (L H : Int) (w : World), L = l → H = (l : Int) + n → (Instr.slice 130 (.slice p len cap) (some (.int .i64 L)) (some (.int .i64 H)) none).run Tryd.prog w = .ok (.slice q n (cap - l)) w := by
  refine ⟨if cap = l then p else p.map (·.add (l * 2)), fun b e h3 => ?_, fun L H w eL eH => ?_⟩
  · subst e
    rw [if_neg (by omega)]
    simp only [Option.map_some, Option.some.injEq]
    unfold Addr.add
    split <;> simp_all
  · subst eL eH
    rw [run_slice_lh (P := Tryd.prog) (kl := .i64) (kh := .i64) (l := (l : Int)) (h := (l : Int) + n) (ht := by kernel_rfl) (h0 := by omega) (h1 := by omega) (h2 := by omega)]
    have hz : (sizeOf (Tryd.prog.elem 130)).run Tryd.prog w = .ok 2 w := by kernel_rfl
    rw [hz]
    rw [show ((l : Int) + (n : Int)).toNat = l + n by omega]
    simp only [Result.andThen, sliced, Int.toNat_natCast, Nat.add_sub_cancel_left]
theorem fromW (p : Option Addr) (len cap l : Nat) (h1 : l ≤ len) : ∃ q : Option Addr, (∀ b, p = some ⟨b, 0, none⟩ → l < cap → q = some ⟨b, l * 2, none⟩) ∧
    ∀ (L : Int) (w : World), L = l → (Instr.slice 130 (.slice p len cap) (some (.int .i64 L)) none none).run Tryd.prog w = .ok (.slice q (len - l) (cap - l)) w := by
  refine ⟨if cap = l then p else p.map (·.add (l * 2)), fun b e h3 => ?_, fun L w eL => ?_⟩
  · subst e
    rw [if_neg (by omega)]
    simp only [Option.map_some, Option.some.injEq]
    unfold Addr.add
    split <;> simp_all
  · subst eL
    rw [run_slice_l (P := Tryd.prog) (kl := .i64) (l := (l : Int)) (ht := by kernel_rfl) (h0 := by omega) (h1 := by omega)]
    have hz : (sizeOf (Tryd.prog.elem 130)).run Tryd.prog w = .ok 2 w := by kernel_rfl
    rw [hz]
    simp only [Result.andThen, sliced, Int.toNat_natCast]
theorem uptoW (p : Option Addr) (len cap h : Nat) (h2 : h ≤ cap) : ∃ q : Option Addr, (∀ b, p = some ⟨b, 0, none⟩ → 0 < cap → q = some ⟨b, 0, none⟩) ∧
    ∀ (H : Int) (w : World), H = h → (Instr.slice 130 (.slice p len cap) none (some (.int .i64 H)) none).run Tryd.prog w = .ok (.slice q h cap) w := by
  refine ⟨if cap = 0 then p else p.map (·.add 0), fun b e h3 => ?_, fun H w eH => ?_⟩
  · subst e
    rw [if_neg (by omega)]
    simp only [Option.map_some, Option.some.injEq]
    unfold Addr.add
    split <;> simp_all
  · subst eH
    rw [run_slice_h (P := Tryd.prog) (kh := .i64) (h := (h : Int)) (ht := by kernel_rfl) (h0 := by omega) (h2 := by omega)]
    have hz : (sizeOf (Tryd.prog.elem 130)).run Tryd.prog w = .ok 2 w := by kernel_rfl
    rw [hz]
    simp only [Result.andThen, sliced, Int.toNat_natCast, Nat.zero_mul, Nat.sub_zero]
theorem sizeW : (Tryd.prog.info? 106).map (·.size) = some 2 := by kernel_rfl
set_option maxHeartbeats 2000000 in
theorem rowW_any (r g N f c m : Nat) (xs : List (Option Nat × Int)) (w : World) (h : RW w r g N f c xs) (hc : xs.length = c) (hm : c ≤ m) (hm2 : m ≤ 1099511627776) :
    Calls Tryd.prog 61 #[.pointer (some ⟨r, 0, none⟩), .int .i64 (m : Int)] w fun e w' => e = .returned (.slice (some ⟨w.heap.size, 0, none⟩) m m) ∧ w'.rowIs w.heap.size 106 (m * 2) (fun q => encP (xs.getD (q / 2) ((none, 0) : Option Nat × Int)) (q % 2)) ∧ Below w.heap.size w w' := by
  obtain ⟨p, ep⟩ : ∃ p, p = pt g N := ⟨_, rfl⟩
  have c0 : w.cell? ⟨r, 0, none⟩ = some (.slice p N N) := by rw [ep]; exact h.hd.cell (i := 0) (by omega)
  have c1 := h.c1
  have c2 := h.c2
  have hf := h.fl'
  have hl := h.lim
  have hcN := h.cl
  obtain ⟨fr, hfr⟩ : ∃ fr, fr = min c (N - f) := ⟨_, rfl⟩
  have hfr1 : fr ≤ c := by omega
  have hfr2 : f + fr ≤ N := by omega
  have hfr3 : fr < c → N = f + fr := by omega
  have mn : (if (N : Int) - (f : Int) < (c : Int) then (N : Int) - (f : Int) else (c : Int)) = (fr : Int) := by split <;> omega
  have wr1 : IntKind.i64.wrap ((f : Int) + (fr : Int)) = (f : Int) + (fr : Int) := by rw [IntKind.wrap_i64]; omega
  have wr2 : IntKind.i64.wrap ((c : Int) - (fr : Int)) = (c : Int) - (fr : Int) := by rw [IntKind.wrap_i64]; omega
  obtain ⟨q1, hq1, s1⟩ := cutW p N N f fr hfr2
  obtain ⟨q2, hq2, s2⟩ := fromW (some ⟨w.heap.size, 0, none⟩) m m fr (by omega)
  obtain ⟨q3, hq3, s3⟩ := uptoW p N N (c - fr) (by omega)
  have S1 := fun w' => s1 (f : Int) ((f : Int) + (fr : Int)) w' rfl rfl
  have S2 := fun w' => s2 (fr : Int) w' rfl
  have S3 := fun w' => s3 ((c : Int) - (fr : Int)) w' (by omega)
  have mk := makeW_at (m : Int) (m : Int) m m rfl rfl (Nat.le_refl _) hm2
  have C1 : 0 < fr → q1 = some ⟨g, f * 2, none⟩ ∧ ∀ j, j < fr * 2 → w.cell? ((⟨g, f * 2, none⟩ : Addr).add j) = some (encP (xs.getD (j / 2) ((none, 0) : Option Nat × Int)) (j % 2)) := fun h0 => by
    have hN : 0 < N := by omega
    refine ⟨hq1 g (by rw [ep, pt_pos hN]) (by omega), fun j hj => ?_⟩
    have := h.at (by omega) (i := j / 2) (by omega) (j := j % 2) (by omega)
    rw [Nat.mod_eq_of_lt (by omega), show (f + j / 2) * 2 + j % 2 = f * 2 + j by omega] at this
    rw [addr_add]
    exact this
  have C2 : 0 < c - fr → q3 = some ⟨g, 0, none⟩ ∧ ∀ j, j < (c - fr) * 2 → w.cell? ((⟨g, 0, none⟩ : Addr).add j) = some (encP (xs.getD (fr + j / 2) ((none, 0) : Option Nat × Int)) (j % 2)) := fun h0 => by
    have hN : 0 < N := by omega
    have hf := h.fl hN
    have hN2 : N = f + fr := hfr3 (by omega)
    refine ⟨hq3 g (by rw [ep, pt_pos hN]) hN, fun j hj => ?_⟩
    have := h.at (by omega) (i := fr + j / 2) (by omega) (j := j % 2) (by omega)
    rw [show f + (fr + j / 2) = j / 2 + N by omega, Nat.add_mod_right, Nat.mod_eq_of_lt (show j / 2 < N by omega), show j / 2 * 2 + j % 2 = j by omega] at this
    rw [addr_add, Nat.zero_add]
    exact this
  have D2 : 0 < c - fr → q2 = some ⟨w.heap.size, fr * 2, none⟩ := fun h0 => hq2 _ rfl (by omega)
  have B0 : Below w.heap.size w (w.alloc (.cells (madeCells #[.pointer none, .int .i64 0] (m * 2)) 106)) := (Below.refl _ _).alloc (Nat.le_refl _) _
  have R0 := rowIs_madeK w #[.pointer none, .int .i64 0] (m * 2) 106
  have e0 : (w.alloc (.cells (madeCells #[.pointer none, .int .i64 0] (m * 2)) 106)).cell? ⟨r, 0, none⟩ = some (.slice p N N) := cell_later B0 c0
  have e1 := cell_later B0 c1
  have e2 := cell_later B0 c2
  have hrl := h.rlt
  have HH : Hid (RW w r g N f c xs ∧ xs.length = c) := ⟨h, hc⟩
  have K1 : Hid _ := C1
  have K2 : Hid _ := C2
  have K3 : Hid _ := D2
  have K4 : Hid (Below w.heap.size w (w.alloc (.cells (madeCells #[.pointer none, .int .i64 0] (m * 2)) 106))) := B0
  have K5 : Hid ((w.alloc (.cells (madeCells #[.pointer none, .int .i64 0] (m * 2)) 106)).rowIs w.heap.size 106 (m * 2) (fun i => #[.pointer none, .int .i64 0][i % 2]!)) := R0
  clear h hc ep hfr hfr3 hq1 hq2 hq3 s1 s2 s3 C1 C2 D2 B0 R0
  go_enter Tryd.func61, Tryd.ntmps61
  go_wp2_with fail
  go_quiet (fail)
  go_wp2_with fail
  go_region_held3 (fun w' => w'.cell? ⟨r, 0, none⟩ = some (.slice p N N) ∧ w'.cell? ⟨r, 1, none⟩ = some (.int .i64 (f : Int)) ∧ w'.cell? ⟨r, 2, none⟩ = some (.int .i64 (c : Int))) (first | (simp [go_sem, *]; done) | (trace_state; fail))
    (first
      | (refine step_copyK 2 rfl (.tmp 24) (.tmp 39) 130 130 rfl 106 Tryd.underlying130 sizeW _ _ _ _ _ _ rfl rfl w.heap.size 0 (m * 2) (fun i => #[.pointer none, .int .i64 0][i % 2]!) (fun j => encP (xs.getD (j / 2) ((none, 0) : Option Nat × Int)) (j % 2)) 106 K5.out (by omega) (fun h0 => ⟨rfl, _, (K1.out h0).1, fun j hj => cell_later (bel_drew (bel_drewN K4.out _)) ((K1.out h0).2 j hj)⟩) (by omega) (fun j => encP_one _ _) w.heap.size w (bel_drew (bel_drewN K4.out _)) (Nat.le_refl _) ?_; intro w4 H4; have x0 := cell_later H4.out.2 c0; have x1 := cell_later H4.out.2 c1; have x2 := cell_later H4.out.2 c2))
  clear e0 e1 e2 S1
  go_wp2_with fail
  go_region_held3 (fun w' => w'.cell? ⟨r, 0, none⟩ = some (.slice p N N) ∧ w'.cell? ⟨r, 1, none⟩ = some (.int .i64 (f : Int)) ∧ w'.cell? ⟨r, 2, none⟩ = some (.int .i64 (c : Int))) (first | (simp [go_sem, *]; done) | (trace_state; fail))
    (first
      | (refine step_copyK 2 rfl (.tmp 43) (.tmp 54) 130 130 rfl 106 Tryd.underlying130 sizeW _ _ _ _ _ _ rfl rfl w.heap.size (fr * 2) (m * 2) (laid (fun i => #[.pointer none, .int .i64 0][i % 2]!) 0 (fun j => encP (xs.getD (j / 2) ((none, 0) : Option Nat × Int)) (j % 2)) (fr * 2)) (fun j => encP (xs.getD (fr + j / 2) ((none, 0) : Option Nat × Int)) (j % 2)) 106 H4.out.1 (by omega) (fun h0 => ⟨K3.out h0, _, (K2.out h0).1, fun j hj => cell_later (bel_drew H4.out.2) ((K2.out h0).2 j hj)⟩) (by omega) (fun j => encP_one _ _) w.heap.size w (bel_drew H4.out.2) (Nat.le_refl _) ?_; intro w5 H5; have y0 := cell_later H5.out.2 c0; have y1 := cell_later H5.out.2 c1; have y2 := cell_later H5.out.2 c2))
  go_wp2_with fail
  go_ret
  refine ⟨rfl, H5.out.1.congr fun j hj => ?_, H5.out.2⟩
  have hlen := HH.out.2
  unfold laid
  by_cases h1 : j < fr * 2
  · rw [if_neg (by omega), if_pos (by omega), Nat.sub_zero]
  · by_cases h2 : j < c * 2
    · rw [if_pos (by omega)]
      show encP (xs.getD (fr + (j - fr * 2) / 2) ((none, 0) : Option Nat × Int)) ((j - fr * 2) % 2) = _
      rw [show fr + (j - fr * 2) / 2 = j / 2 by omega, show (j - fr * 2) % 2 = j % 2 by omega]
    · rw [if_neg (by omega), if_neg (by omega)]
      have e1 : xs.getD (j / 2) ((none, 0) : Option Nat × Int) = ((none, 0) : Option Nat × Int) := by simp [show xs.length ≤ j / 2 by omega]
      rw [e1]
      exact encP_zero _ (by omega)
end Go.Proofs.YtbnbgikhdfbpcaaDoor
