/- NamesNumbers answers true in whatever memory, if the table of powers of ten holds 100 at its third place. -/
import Derived.Test.YtboamgnnfggleaaDoorA
import Derived.Test.YtboamgnnfggleaaDoorB
import Derived.Deep.QuietTactic
import Derived.BigQuiet
namespace Go.Proofs.YtboamgnnfggleaaDoor
open Go.RowKit
set_option maxRecDepth 100000
theorem Tryd.info25 : (Tryd.prog.info? 25).map (fun i => (i.zero, i.size, i.bytes)) = some (some (.agg #[.int .i64 0, .int .i64 0]), 2, 16) := by kernel_rfl
def allL : List Int := errL ++ limL
theorem twice_append (a b : List Int) : twice (a ++ b) = twice a ++ twice b := by
  induction a with
  | nil => rfl
  | cons x r ih => simp [twice, ih]
theorem twice_get (l : List Int) (k : Nat) (h : k < l.length) : (twice l)[k * 2]? = some (.int .i64 (l.getD k 0)) ∧ (twice l)[k * 2 + 1]? = some (.int .i64 (l.getD k 0)) := by
  induction l generalizing k with
  | nil => simp at h
  | cons x r ih =>
    cases k with
    | zero => simp [twice]
    | succ k =>
      have := ih k (by simpa using h)
      have e : (k + 1) * 2 = k * 2 + 1 + 1 := by omega
      simp only [twice, e, List.getElem?_cons_succ, List.getD_cons_succ]
      exact this
theorem twice_one (l : List Int) : ∀ u ∈ twice l, u.oneCell' = true := by
  induction l with
  | nil => simp [twice]
  | cons x r ih =>
    intro u hu
    simp only [twice, List.mem_cons] at hu
    rcases hu with rfl | rfl | hu
    · rfl
    · rfl
    · exact ih u hu
theorem own_errs (w : World) : ((w.alloc (.cells (twice errL).toArray 25)).alloc (.cells (twice limL).toArray 25)).ownsRow w.heap.size 25 2 (.slice (some ⟨w.heap.size, 0, none⟩) 28 28) 28 (twice errL) := by
  refine World.ownsRow.alloc ⟨rfl, .inr ⟨w.heap.size, 28, (twice errL).toArray, rfl, Nat.le_refl _, heap_alloc_new _ _, Nat.le_refl _, by decide, rfl, ?_⟩⟩ _
  rfl
theorem lim_cells (w : World) : ∀ j u, (twice limL)[j]? = some u → ((w.alloc (.cells (twice errL).toArray 25)).alloc (.cells (twice limL).toArray 25)).cell? ((⟨w.heap.size + 1, 0, none⟩ : Addr).add j) = some u := by
  intro j u hj
  have e : (⟨w.heap.size + 1, 0, none⟩ : Addr).add j = ⟨w.heap.size + 1, j, none⟩ := by unfold Addr.add; split <;> simp_all
  rw [e, World.cell?_alloc_at _ _ _ _ (by simp)]
  simpa using hj
theorem fb (w : World) : (callFunc 10 #[.float .f64 4607182418800017408]).run Tryd.prog w = .ok (.value (.int .u64 4607182418800017408)) w := by kernel_rfl
theorem fb1 (w : World) : (callFunc 10 #[.float .f64 1]).run Tryd.prog w = .ok (.value (.int .u64 1)) w := by kernel_rfl
theorem bf (w : World) : (callFunc 11 #[.int .u64 13830554455654793216]).run Tryd.prog w = .ok (.value (.float .f64 13830554455654793216)) w := by kernel_rfl
theorem bf1 (w : World) : (callFunc 11 #[.int .u64 1]).run Tryd.prog w = .ok (.value (.float .f64 1)) w := by kernel_rfl
set_option maxHeartbeats 1000000 in
theorem names_any (w : World) (h : w.cell? ⟨1, 2, none⟩ = some (.int .u64 100)) (hs : 1 < w.heap.size) : Calls Tryd.prog 3 #[] w fun e w' => e = .returned (.bool true) ∧ Below w.heap.size w w' := by
  obtain ⟨i0, hi, hz0, hz1, hz2⟩ := info_parts Tryd.info25
  have hown := own_errs w
  have hlim := lim_cells w
  go_enter Tryd.func3, Tryd.ntmps3
  go_wp2_with fail
  refine (errs_any _).mono ?_
  rintro e w1 ⟨rfl, rfl⟩
  go_wp2_with fail
  refine (limits_any _).mono ?_
  rintro e w2 ⟨rfl, rfl⟩
  go_wp2_with (at_builtin; refine wpList_append_own _ rfl (.tmp 3) (.tmp 4) 22 rfl w.heap.size 25 i0 _ 2 16 Tryd.underlying22 hi hz0 hz1 hz2 rfl (by decide) _ _ _ rfl hown ⟨w.heap.size + 1, 0, none⟩ 26 26 (twice limL) rfl rfl hlim (twice_one _) (by decide) (by decide) (by simp; omega) ?_)
  intro v' w3 hown' hg _
  rcases hown'.2 with ⟨_, h0⟩ | ⟨g, cap, cur, rfl, hgb, hblk, hcap, hcm, hcs, htake⟩
  · exact absurd h0 (by decide)
  have hbel : Below w.heap.size w w3 := Below.grown (((Below.refl _ _).alloc (Nat.le_refl _) _).alloc (by simp) _) hg (by simp; omega) (fun k hk => by simp [Value.ownBlock] at hk; omega)
  have hcell : ∀ j, j < 54 → w3.cell? ⟨g, j * 2, none⟩ = some (.int .i64 (allL.getD j 0)) ∧ w3.cell? ⟨g, j * 2 + 1, none⟩ = some (.int .i64 (allL.getD j 0)) := fun j hj => by
    have ht := twice_get allL j (show j < allL.length by exact hj)
    rw [World.ownsRow.cellAt hown' (j * 2) (by omega), World.ownsRow.cellAt hown' (j * 2 + 1) (by omega), ← twice_append]
    exact ht
  clear hown' hg hown hlim hblk hcs htake
  go_wp2_with fail
  go_loopw [2] (fun i wr => ∃ k : Nat, k ≤ 54 ∧ i = .int .i64 k ∧ (∀ j, j < 54 → wr.cell? ⟨g, j * 2, none⟩ = some (.int .i64 (allL.getD j 0)) ∧ wr.cell? ⟨g, j * 2 + 1, none⟩ = some (.int .i64 (allL.getD j 0))) ∧ Below w.heap.size w wr) (fun i _ => 54 - (intOf i).toNat)
  case atStart => exact ⟨0, by omega, rfl, hcell, hbel⟩
  case round =>
    clear hcell hbel
    obtain ⟨k, hk, rfl, hc, hb⟩ := hrel
    by_cases hlt : k < 54
    · obtain ⟨x, hx⟩ : ∃ x, x = allL.getD k 0 := ⟨_, rfl⟩
      have h1 := (hc k hlt).1
      have h2 := (hc k hlt).2
      rw [← hx] at h1 h2
      have HC := (show Hid _ from hc)
      clear hc hx
      have hlt' : (k : Int) < 54 := by omega
      go_wp2_with fail
      go_region
      go_wp2_with fail
      go_roundw
      case rel => exact ⟨k + 1, by omega, by go_num, HC, hb.drew⟩
      case measure => simp [intOf]; omega
    · have hk' : k = 54 := by omega
      subst hk'
      clear hc hlt hk
      have hcell := (hb.cell hs).trans h
      have hsz : 1 < wr.heap.size := by have := hb.size; omega
      go_wp2_with fail
      refine (error202 _ hcell hsz).mono ?_
      rintro e w4 ⟨rfl, hb4⟩
      go_wp2_with fail
      refine (error0 _).mono ?_
      rintro e w5 ⟨rfl, hb5⟩
      go_wp2_with (first | simp only [fb, fb1, bf, bf1] | go_in)
      go_ret
      exact ⟨rfl, hb.trans ((hb4.mono hb.size).trans (hb5.mono (by have := hb.size; have := hb4.size; omega)))⟩
end Go.Proofs.YtboamgnnfggleaaDoor
