/- Contracts of the program's functions, part 14: own work, joined in build order. -/
import Derived.Test.YtmghkkaoblkmpaaJ13
import Derived.Maps.AppendAt
namespace Go.Proofs.Ytmghkkaoblkmpaa
open Go.RowKit Go.Shelf
set_option maxRecDepth 100000
set_option linter.unusedVariables false
attribute [local go_sem] Oper.semAt_some
set_option maxHeartbeats 2000000 in
theorem listI_any (r g N f c : Nat) (xs : List Int) (w : World) (h : RI w r g N f c xs) (hx : xs.length = c) :
    Calls Try.prog 12 #[.pointer (some ⟨r, 0, none⟩)] w fun e w' => e = .returned (.slice (some ⟨w.heap.size, 0, none⟩) c c) ∧ w'.rowIs w.heap.size 3 c (fun j => Value.int .i64 (xs.getD j (0 : Int))) ∧ Below w.heap.size w w' := by
  have c2 := h.c2
  have hcl := h.cl
  have hl := h.lim
  have HR : Hid (RI w r g N f c xs ∧ xs.length = c) := ⟨h, hx⟩
  obtain ⟨i0, hi, hz0, hz1, hz2⟩ := info_parts Try.infoI
  have mk := makeI_at 0 (c : Int) 0 c rfl rfl (Nat.zero_le _) (by omega)
  have hrl := h.rlt
  clear h hx
  refine (callsIn_wide (n := 9)).1 ?_
  refine callsIn_of_wp_marks Try.func12 rfl trivial ?_ rfl
  simp only [Try.ntmps12, List.size_toArray, List.length_cons, List.length_nil, Nat.reduceAdd, Nat.reduceSub, Array.replicate_succ, Array.replicate_zero, List.push_toArray, List.append_toArray, List.nil_append, List.cons_append]
  gi_wp2_with (refine ⟨trivial, ?_⟩; refine (callsIn_wide.2 (allI_any r _)).mono ?_; rintro e w1 ⟨rfl, rfl⟩)
  obtain ⟨W0, hW0⟩ : ∃ W0, W0 = ((w.alloc (.cells (madeCells #[(.int .i64 0)] c) 3)).alloc (.cells #[.slice (some ⟨w.heap.size, 0, none⟩) 0 c] 27)).alloc (.cells #[.pointer (some ⟨r, 0, none⟩)] 24) := ⟨_, rfl⟩
  have hsz : W0.heap.size = w.heap.size + 1 + 1 + 1 := by rw [hW0]; simp
  have B0 : Below w.heap.size w W0 := by rw [hW0]; exact (((Below.refl _ w).alloc (Nat.le_refl _) _).alloc (by simp) _).alloc (by simp; omega) _
  have bL : Boxed W0 (w.heap.size + 1) 27 (.slice (some ⟨w.heap.size, 0, none⟩) 0 c) := by
    have := (Boxed.new (w.alloc (.cells (madeCells #[(.int .i64 0)] c) 3)) 27 (.slice (some ⟨w.heap.size, 0, none⟩) 0 c)).alloc (.cells #[.pointer (some ⟨r, 0, none⟩)] 24)
    rw [World.size_alloc] at this
    rw [hW0]
    exact this
  have cBs : W0.cell? ⟨w.heap.size + 1 + 1, 0, none⟩ = some (.pointer (some ⟨r, 0, none⟩)) := by rw [hW0]; simp [go_sem]
  have own0 : W0.ownsRow w.heap.size 3 1 (.slice (some ⟨w.heap.size, 0, none⟩) 0 c) 0 [] := by
    have hr : W0.rowIs w.heap.size 3 c (fun _ => (.int .i64 0)) := by rw [hW0]; exact ((World.rowIs_made w (.int .i64 0) c 3).alloc _).alloc _
    obtain ⟨cur, q1, q2, _⟩ := hr
    exact ⟨rfl, .inr ⟨_, c, cur, rfl, Nat.le_refl _, q1, Nat.zero_le _, by simp only [maxLen]; omega, by omega, by simp⟩⟩
  rw [← hW0]
  clear hW0
  refine wpIn_rangeFunc_ownG rfl (by omega) (gf := 36) (lb := #[.pointer (some ⟨w.heap.size + 1 + 1, 0, none⟩)]) rfl trivial (enters_of Try.func36 (by kernel_rfl) rfl)
    (allI_stops 8 (by omega) (w.heap.size + 1 + 1) W0.heap.size r g N f c xs HR.out.2 W0 cBs (HR.out.1.mono B0) (Nat.le_refl _)) (fun h k => h.trans k) (fun W l o o' _ h1 h2 _ => Kpx.putObj _ _ _ _ W l o o' h1 h2) (Below.refl _ _) (fun _ => rfl)
    (fun pre W => (∃ v, Boxed W (w.heap.size + 1) 27 v ∧ W.ownsRow w.heap.size 3 1 v pre.length (pre.map fun x => Value.int .i64 x.2) ∧ v = .slice (some ⟨w.heap.size, 0, none⟩) pre.length c) ∧ Below w.heap.size w W)
    (fun _ _ _ => False)
    (OwnFrom.and (Own.from (holdsRow_own w.heap.size (w.heap.size + 1) 27 3 1 (fun pre => pre.length) (fun pre : List (Nat × Int) => pre.map fun x => Value.int .i64 x.2) (fun pre v => v = .slice (some ⟨w.heap.size, 0, none⟩) pre.length c)) _) (ownFrom_below (Nat.le_refl _) (by omega)))
    (fun _ _ _ _ _ hs _ _ => hs)
    ⟨⟨_, bL, own0, rfl⟩, B0⟩
    (fun x => { tmps := #[.pointer (some ⟨r, 0, none⟩), undef, .slice none 0 0, .pointer (some ⟨w.heap.size + 1, 0, none⟩), undef, Value.int .i64 x.2, .pointer (some ⟨r, 0, none⟩), .pointer (some ⟨r, 0, none⟩), .pointer (some ⟨r, 2, none⟩), .int .i64 (c : Int), .slice (some ⟨w.heap.size, 0, none⟩) 0 c, .pointer (some ⟨r, 0, none⟩), .func (.func 36) #[] #[.pointer (some ⟨w.heap.size + 1 + 1, 0, none⟩)], .int .i64 (x.1 : Int), Value.int .i64 x.2, undef, undef, undef, undef, undef], defers := [] }) ?assign ?body ?done ?stop
  case assign =>
    intro l x W K hK
    gi_wp2_with fail
    exact hK
  case body =>
    rintro l pre x W ⟨⟨v, hv, hrow, rfl⟩, hB⟩ hlt
    have hc := hv.cell
    gi_wp2_with (gi_at_builtin; refine wpListIn_append_fits _ rfl (.tmp 15) (.tmp 17) 27 rfl w.heap.size 3 i0 1 Try.underlying27 hi hz1 w.heap.size pre.length c _ rfl (hrow.alloc _) ⟨W.heap.size, 0, none⟩ 1 1 [Value.int .i64 x.2] rfl rfl (cell_one_new _ _ _) (by simp [Value.oneCell']) (by omega) ?_; intro w2 hown' hgrow; obtain ⟨hv1, hv2, hr2, hk2, hb2⟩ := hv.appended (by decide) hrow hB.size (by omega) hown' hgrow; have hc1 := hv1.cell; have hf1 := hv1.frozen)
    refine ⟨hk2.from _, ?_, ⟨_, hv2, by simpa using hr2, by simp⟩, hB.trans hb2⟩
    exact ((Kpx.grown (World.grownBy_alloc W _ none) (fun k e => by cases e)).trans (Kpx.grown hgrow (fun k e => by cases e; omega))).trans (Kpx.grown (grownBy_setCell' w2 (w.heap.size + 1) _) (fun k e => by cases e; omega))
  case done =>
    rintro D ys W hD rfl ⟨⟨v, hv, hrow, rfl⟩, hB⟩ hK
    have hc := hv.cell
    have hlen := HR.out.2
    have hown := ownsRow_putObj hrow (.deferred none) hK rfl
    have hrow2 : (W.putObj D (.deferred none)).rowIs w.heap.size 3 c (fun j => Value.int .i64 (xs.getD j (0 : Int))) := by
      rcases hown.2 with ⟨e, _⟩ | ⟨g1, cap, cur, e, _, q1, _, _, q2, q3⟩
      · cases e
      · cases e
        refine ⟨cur, q1, by omega, fun i hi => ?_⟩
        have q4 := congrArg (fun l => l[i]?) q3
        simp only [pairsI_length, Nat.mul_one] at q4
        rw [List.getElem?_take_of_lt hi] at q4
        rw [← Array.getElem?_toList, q4]
        simp [pairsI, hi]
    rw [pairsI_length] at hc
    gi_wp2_with fail
    refine ⟨by simp, .inl ⟨_, _, rfl, run_takeDeferred hK, ?_⟩⟩
    exact ⟨_, results_tmp rfl _ _ _, rfl, hrow2, hB.trans (belowK_b (w := w) (Nat.le_refl _) W D _ _ (by omega) hK rfl rfl)⟩
  case stop =>
    rintro D c pre W _ _ h _
    exact h.elim
end Go.Proofs.Ytmghkkaoblkmpaa
