/- Contracts of the program's functions, part 9: own work, joined in build order. -/
import Derived.Test.YtcndbmccediknaaJ8
namespace Go.Proofs.Ytcndbmccediknaa
open Go.RowKit
set_option maxRecDepth 100000
set_option linter.unusedVariables false
set_option maxHeartbeats 2000000 in
theorem turnD_no (d : Nat) (x : Dv) (w : World) (h : Dr w d x) (ht : x.turn = false) : Calls Try.prog 11 #[.pointer (some ⟨d, 0, none⟩)] w fun e w' => e = .returned (.tuple #[.agg #[.int .i64 0, .int .i64 0], .bool false]) ∧ Below w.heap.size w w' := by
  obtain ⟨W, hW⟩ : ∃ W, W = w.alloc (.cells #[.int .i64 0, .int .i64 0] 41) := ⟨_, rfl⟩
  obtain ⟨v, ev⟩ : ∃ v, v = w.heap.size := ⟨_, rfl⟩
  have B0 : Below w.heap.size w W := by rw [hW]; exact (Below.refl _ _).alloc (Nat.le_refl _) _
  have hB : W.heap[v]? = some (.cells #[.int .i64 0, .int .i64 0] 41) := by rw [hW, ev]; exact (MapKept.heap_alloc _ _).1
  have c2 : W.cell? ⟨d, 2, none⟩ = some (.bool false) := by rw [← ht]; exact cell_later B0 (World.rowIs.cell h (i := 2) (by omega))
  have cA : (w.alloc (.cells #[.int .i64 0, .int .i64 0] 41)).cell? ⟨d, 2, none⟩ = some (.bool false) := by rw [← hW]; exact c2
  have v0 : (w.alloc (.cells #[.int .i64 0, .int .i64 0] 41)).cell? ⟨w.heap.size, 0, none⟩ = some (.int .i64 0) := by rw [← hW, ← ev]; simp [World.cell?, hB]
  have v1 : (w.alloc (.cells #[.int .i64 0, .int .i64 0] 41)).cell? ⟨w.heap.size, 1, none⟩ = some (.int .i64 0) := by rw [← hW, ← ev]; simp [World.cell?, hB]
  have t0 : (w.alloc (.cells #[.int .i64 0, .int .i64 0] 41)).frozen? ⟨w.heap.size, 0, none⟩ = false := by rw [← hW, ← ev]; simp [World.frozen?, hB]
  have t1 : (w.alloc (.cells #[.int .i64 0, .int .i64 0] 41)).frozen? ⟨w.heap.size, 1, none⟩ = false := by rw [← hW, ← ev]; simp [World.frozen?, hB]
  have HB : Hid (Below w.heap.size w (w.alloc (.cells #[.int .i64 0, .int .i64 0] 41))) := by rw [← hW]; exact B0
  clear h ht B0 hB hW ev c2
  go_enter Try.func11, Try.ntmps11
  go_wp2_with fail
  refine bodyPost_ret (v := .tuple #[.agg #[.int .i64 0, .int .i64 0], .bool false]) (by simp [results, Try.results11, go_sem, *]) rfl ⟨rfl, ?_⟩
  repeat' first
    | exact HB.out
    | with_reducible refine Below.setCell ?_ (Nat.le_refl _) _
    | with_reducible refine bel_drew ?_
set_option maxHeartbeats 2000000 in
theorem turnD_yes (d : Nat) (s : Sd) (w : World) (h : DS w d s) (ht : s.x.turn = true) (hR : 0 < s.R.length) : Calls Try.prog 11 #[.pointer (some ⟨d, 0, none⟩)] w fun e w' => e = .returned (.tuple #[.agg #[.int .i64 (s.Y (s.nth 0)).slot, .int .i64 (s.Y (s.nth 0)).gen], .bool true]) ∧ Below w.heap.size w w' := by
  obtain ⟨W, hW⟩ : ∃ W, W = w.alloc (.cells #[.int .i64 0, .int .i64 0] 41) := ⟨_, rfl⟩
  obtain ⟨v, ev⟩ : ∃ v, v = w.heap.size := ⟨_, rfl⟩
  have B0 : Below w.heap.size w W := by rw [hW]; exact (Below.refl _ _).alloc (Nat.le_refl _) _
  have hB : W.heap[v]? = some (.cells #[.int .i64 0, .int .i64 0] 41) := by rw [hW, ev]; exact (MapKept.heap_alloc _ _).1
  have D0 : DF d s s w W := h.df.below B0
  obtain ⟨rg, erg⟩ : ∃ rg, rg = s.x.ring := ⟨_, rfl⟩
  obtain ⟨b, eb⟩ : ∃ b, b = s.nth 0 := ⟨_, rfl⟩
  obtain ⟨j, hF⟩ := h.inr _ (nth_mem hR)
  rw [← eb] at hF ⊢
  have c1 : W.cell? ⟨d, 1, none⟩ = some (.pointer (some ⟨rg, 0, none⟩)) := by rw [erg]; exact World.rowIs.cell D0.1.dr (i := 1) (by omega)
  have c2 : W.cell? ⟨d, 2, none⟩ = some (.bool true) := by rw [← ht]; exact World.rowIs.cell D0.1.dr (i := 2) (by omega)
  have cA : (w.alloc (.cells #[.int .i64 0, .int .i64 0] 41)).cell? ⟨d, 1, none⟩ = some (.pointer (some ⟨rg, 0, none⟩)) := by rw [← hW]; exact c1
  have cB : (w.alloc (.cells #[.int .i64 0, .int .i64 0] 41)).cell? ⟨d, 2, none⟩ = some (.bool true) := by rw [← hW]; exact c2
  have HF : Hid (Calls Try.prog 23 #[.pointer (some ⟨rg, 0, none⟩)] W fun e w' => e = .returned (.tuple #[.pointer (some ⟨b, 0, none⟩), .bool true]) ∧ ∃ n, w' = W.drewN n) := by
    obtain ⟨N, f, hr⟩ := D0.1.rg
    have hr : RF W rg s.g N f (adrs s.R).length (adrs s.R) := by rw [erg]; exact hr
    exact frontF_d rg s.g N f _ _ _ W hr (by rw [adrs_len]; exact hR) (by rw [eb]; exact adrs_getD hR)
  obtain ⟨sl, esl⟩ : ∃ x, x = (s.Y b).slot := ⟨_, rfl⟩
  obtain ⟨gn, egn⟩ : ∃ x, x = (s.Y b).gen := ⟨_, rfl⟩
  have b0 : W.cell? ⟨b, 0, none⟩ = some (.int .i64 sl) := by rw [esl]; exact World.rowIs.cell (D0.1.fl j b hF) (i := 0) (by omega)
  have b1 : W.cell? ⟨b, 1, none⟩ = some (.int .i64 gn) := by rw [egn]; exact World.rowIs.cell (D0.1.fl j b hF) (i := 1) (by omega)
  have v0 : W.cell? ⟨v, 0, none⟩ = some (.int .i64 0) := by simp [World.cell?, hB]
  have v1 : W.cell? ⟨v, 1, none⟩ = some (.int .i64 0) := by simp [World.cell?, hB]
  have t0 : W.frozen? ⟨v, 0, none⟩ = false := by simp [World.frozen?, hB]
  have t1 : W.frozen? ⟨v, 1, none⟩ = false := by simp [World.frozen?, hB]
  have HW : Hid (w.alloc (.cells #[.int .i64 0, .int .i64 0] 41) = W ∧ w.heap.size = v) := ⟨hW.symm, ev.symm⟩
  have HB : Hid (Below w.heap.size w W) := B0
  have hbv : ¬ b = v := by have := h.bl hF; omega
  have hvb : ¬ v = b := fun e => hbv e.symm
  rw [← esl, ← egn]
  clear h ht hR B0 hB D0 erg eb hF c1 c2 hW ev esl egn
  go_enter Try.func11, Try.ntmps11
  go_wp2_with fail
  rw [HW.out.1, HW.out.2]
  clear cA cB
  refine HF.out.mono ?_
  rintro e w1 ⟨rfl, n, rfl⟩
  go_wp2_with fail
  refine bodyPost_ret (v := .tuple #[.agg #[.int .i64 sl, .int .i64 gn], .bool true]) (by simp [results, Try.results11, go_sem, *]) rfl ⟨rfl, ?_⟩
  repeat' first
    | exact HB.out
    | with_reducible refine Below.setCell ?_ (by show _ ≤ v; have := HW.out.2; omega) _
    | with_reducible refine bel_drewN ?_ _
    | with_reducible refine bel_drew ?_
def Sd.deficit (s : Sd) (b : Nat) : Int := if s.x.turn = true ∧ s.nth 0 = b then (s.Y b).kept + (s.Y b).quantum else (s.Y b).kept
set_option maxHeartbeats 4000000 in
theorem deficitD_off (d : Nat) (s : Sd) (sl gn : Int) (b : Nat) (w : World) (h : DS w d s) (h1 : -9223372036854775808 ≤ sl) (h2 : sl ≤ 9223372036854775807) (hF : s.F sl = some b) (hg : (s.Y b).gen = gn) (ht : s.x.turn = false) (hk1 : -4611686018427387904 ≤ (s.Y b).kept) (hk2 : (s.Y b).kept ≤ 4611686018427387904) (hq1 : 0 ≤ (s.Y b).quantum) (hq2 : (s.Y b).quantum ≤ 1073741824) : Calls Try.prog 13 #[.pointer (some ⟨d, 0, none⟩), .agg #[.int .i64 sl, .int .i64 gn]] w fun e w' => e = .returned (.tuple #[.int .i64 (s.deficit b), .int .i64 0]) ∧ Below w.heap.size w w' := by
  obtain ⟨W, hW⟩ : ∃ W, W = w.alloc (.cells #[.int .i64 sl, .int .i64 gn] 41) := ⟨_, rfl⟩
  obtain ⟨v, ev⟩ : ∃ v, v = w.heap.size := ⟨_, rfl⟩
  have B0 : Below w.heap.size w W := by rw [hW]; exact (Below.refl _ _).alloc (Nat.le_refl _) _
  have hB : W.heap[v]? = some (.cells #[.int .i64 sl, .int .i64 gn] 41) := by rw [hW, ev]; exact (MapKept.heap_alloc _ _).1
  have D0 : DF d s s w W := h.df.below B0
  have hs := h.sl sl b hF
  have HO : Hid (Calls Try.prog 24 #[.pointer (some ⟨d, 0, none⟩), .agg #[.int .i64 sl, .int .i64 gn]] W fun e w' => e = .returned (.tuple #[.pointer (some ⟨b, 0, none⟩), .int .i64 0]) ∧ Below W.heap.size W w') := openD_yes d s.x s.nn s.F sl gn W D0.1.dr D0.1.mp h1 h2 b (s.Y b) hF (D0.1.fl _ _ hF) hs hg
  obtain ⟨kp, ekp⟩ : ∃ x, x = (s.Y b).kept := ⟨_, rfl⟩
  obtain ⟨qm, eqm⟩ : ∃ x, x = (s.Y b).quantum := ⟨_, rfl⟩
  have hval : Hid (s.deficit b = kp) := by
    show s.deficit b = kp
    unfold Sd.deficit
    rw [if_neg (by rw [ht]; simp), ekp]
  have hwk : IntKind.i64.wrap (kp + qm) = kp + qm := by rw [IntKind.wrap_i64, ekp, eqm]; omega
  have HT : Hid (∀ w1, DF d s s w w1 → Calls Try.prog 11 #[.pointer (some ⟨d, 0, none⟩)] w1 fun e w' => e = .returned (.tuple #[.agg #[.int .i64 0, .int .i64 0], .bool false]) ∧ Below w1.heap.size w1 w') := fun w1 h1 => by
    exact turnD_no d s.x w1 h1.1.dr ht
  have HW : Hid (w.alloc (.cells #[.int .i64 sl, .int .i64 gn] 41) = W ∧ w.heap.size = v) := ⟨hW.symm, ev.symm⟩
  have HD0 : Hid (DF d s s w W ∧ W.heap[v]? = some (.cells #[.int .i64 sl, .int .i64 gn] 41) ∧ v < W.heap.size ∧ s.F sl = some b ∧ kp = (s.Y b).kept ∧ qm = (s.Y b).quantum ∧ Below w.heap.size w W) := ⟨D0, hB, (Array.getElem?_eq_some_iff.1 hB).1, hF, ekp, eqm, B0⟩
  have hbv : ¬ b = v := by have := h.bl hF; omega
  have hvb : ¬ v = b := fun e => hbv e.symm
  have v0 : (w.alloc (.cells #[.int .i64 sl, .int .i64 gn] 41)).cell? ⟨v, 0, none⟩ = some (.int .i64 sl) := by rw [← hW]; simp [World.cell?, hB]
  have v1 : (w.alloc (.cells #[.int .i64 sl, .int .i64 gn] 41)).cell? ⟨v, 1, none⟩ = some (.int .i64 gn) := by rw [← hW]; simp [World.cell?, hB]
  rw [ev] at v0 v1
  have hval2 := hval.out
  rw [hval2]
  clear h h1 h2 hF hg ht  hk1 hk2 hq1 hq2 D0 B0 hB hW ev hs ekp eqm  hval2
  go_enter Try.func13, Try.ntmps13
  go_wp2_with fail
  rw [HW.out.1, HW.out.2]
  clear v0 v1
  refine HO.out.mono ?_
  rintro e w1 ⟨rfl, hb⟩
  have D1 := HD0.out.1.below hb
  have HD1 : Hid (DF d s s w w1 ∧ w1.heap[v]? = some (.cells #[.int .i64 sl, .int .i64 gn] 41) ∧ Below w.heap.size w w1) := ⟨D1, (hb.block v HD0.out.2.2.1).trans HD0.out.2.1, HD0.out.2.2.2.2.2.2.trans (hb.mono HD0.out.2.2.2.2.2.2.size)⟩
  clear hb D1
  go_wp2_with fail
  refine (HT.out w1 HD1.out.1).mono ?_
  rintro e w2 ⟨rfl, hb⟩
  have lv : v < w1.heap.size := (Array.getElem?_eq_some_iff.1 HD1.out.2.1).1
  obtain ⟨W3, hW3⟩ : ∃ W3, W3 = w2.alloc (.cells #[.int .i64 0, .int .i64 0] 41) := ⟨_, rfl⟩
  obtain ⟨u, eu⟩ : ∃ u, u = w2.heap.size := ⟨_, rfl⟩
  have B3 : Below w1.heap.size w1 W3 := by rw [hW3]; exact hb.alloc hb.size _
  have D3 := HD1.out.1.below B3
  have hv3 : W3.heap[v]? = some (.cells #[.int .i64 sl, .int .i64 gn] 41) := (B3.block v lv).trans HD1.out.2.1
  have hu3 : W3.heap[u]? = some (.cells #[.int .i64 0, .int .i64 0] 41) := by rw [hW3, eu]; exact (MapKept.heap_alloc _ _).1
  have v0 : W3.cell? ⟨v, 0, none⟩ = some (.int .i64 sl) := by simp [World.cell?, hv3]
  have v1 : W3.cell? ⟨v, 1, none⟩ = some (.int .i64 gn) := by simp [World.cell?, hv3]
  have u0 : W3.cell? ⟨u, 0, none⟩ = some (#[.int .i64 0, .int .i64 0][0]!) := by simp [World.cell?, hu3]
  have u1 : W3.cell? ⟨u, 1, none⟩ = some (#[.int .i64 0, .int .i64 0][1]!) := by simp [World.cell?, hu3]
  simp at u0 u1
  have b3 : W3.cell? ⟨b, 3, none⟩ = some (.int .i64 qm) := by rw [HD0.out.2.2.2.2.2.1]; exact World.rowIs.cell (D3.1.fl _ _ HD0.out.2.2.2.1) (i := 3) (by omega)
  have b6 : W3.cell? ⟨b, 6, none⟩ = some (.int .i64 kp) := by rw [HD0.out.2.2.2.2.1]; exact World.rowIs.cell (D3.1.fl _ _ HD0.out.2.2.2.1) (i := 6) (by omega)
  have HW3 : Hid (w2.alloc (.cells #[.int .i64 0, .int .i64 0] 41) = W3 ∧ w2.heap.size = u ∧ Below w.heap.size w W3) := ⟨hW3.symm, eu.symm, HD1.out.2.2.trans (B3.mono HD1.out.2.2.size)⟩
  have z0 : (w2.alloc (.cells #[.int .i64 0, .int .i64 0] 41)).cell? ⟨w2.heap.size, 0, none⟩ = some (#[.int .i64 0, .int .i64 0][0]!) := by rw [← hW3, ← eu]; simpa using u0
  have z1 : (w2.alloc (.cells #[.int .i64 0, .int .i64 0] 41)).cell? ⟨w2.heap.size, 1, none⟩ = some (#[.int .i64 0, .int .i64 0][1]!) := by rw [← hW3, ← eu]; simpa using u1
  have y0 : (w2.alloc (.cells #[.int .i64 0, .int .i64 0] 41)).cell? ⟨v, 0, none⟩ = some (.int .i64 sl) := by rw [← hW3]; exact v0
  have y1 : (w2.alloc (.cells #[.int .i64 0, .int .i64 0] 41)).cell? ⟨v, 1, none⟩ = some (.int .i64 gn) := by rw [← hW3]; exact v1
  have x3 : (w2.alloc (.cells #[.int .i64 0, .int .i64 0] 41)).cell? ⟨b, 3, none⟩ = some (.int .i64 qm) := by rw [← hW3]; exact b3
  have x6 : (w2.alloc (.cells #[.int .i64 0, .int .i64 0] 41)).cell? ⟨b, 6, none⟩ = some (.int .i64 kp) := by rw [← hW3]; exact b6
  simp at z0 z1
  clear hb B3 D3 hv3 hu3 hW3 eu lv v0 v1 u0 u1 b3 b6
  go_wp2_with fail
  refine bodyPost_ret (v := .tuple #[.int .i64 kp, .int .i64 0]) (by simp [results, Try.results13, go_sem]) rfl ⟨rfl, ?_⟩
  repeat' first
    | (rw [HW3.out.1]; exact HW3.out.2.2)
    | with_reducible refine bel_drewN ?_ _
    | with_reducible refine bel_drew ?_
set_option maxHeartbeats 4000000 in
theorem deficitD_mine (d : Nat) (s : Sd) (sl gn : Int) (b : Nat) (w : World) (h : DS w d s) (h1 : -9223372036854775808 ≤ sl) (h2 : sl ≤ 9223372036854775807) (hF : s.F sl = some b) (hg : (s.Y b).gen = gn) (ht : s.x.turn = true) (hR : 0 < s.R.length) (hb0 : s.nth 0 = b) (hk1 : -4611686018427387904 ≤ (s.Y b).kept) (hk2 : (s.Y b).kept ≤ 4611686018427387904) (hq1 : 0 ≤ (s.Y b).quantum) (hq2 : (s.Y b).quantum ≤ 1073741824) : Calls Try.prog 13 #[.pointer (some ⟨d, 0, none⟩), .agg #[.int .i64 sl, .int .i64 gn]] w fun e w' => e = .returned (.tuple #[.int .i64 (s.deficit b), .int .i64 0]) ∧ Below w.heap.size w w' := by
  obtain ⟨W, hW⟩ : ∃ W, W = w.alloc (.cells #[.int .i64 sl, .int .i64 gn] 41) := ⟨_, rfl⟩
  obtain ⟨v, ev⟩ : ∃ v, v = w.heap.size := ⟨_, rfl⟩
  have B0 : Below w.heap.size w W := by rw [hW]; exact (Below.refl _ _).alloc (Nat.le_refl _) _
  have hB : W.heap[v]? = some (.cells #[.int .i64 sl, .int .i64 gn] 41) := by rw [hW, ev]; exact (MapKept.heap_alloc _ _).1
  have D0 : DF d s s w W := h.df.below B0
  have hs := h.sl sl b hF
  have HO : Hid (Calls Try.prog 24 #[.pointer (some ⟨d, 0, none⟩), .agg #[.int .i64 sl, .int .i64 gn]] W fun e w' => e = .returned (.tuple #[.pointer (some ⟨b, 0, none⟩), .int .i64 0]) ∧ Below W.heap.size W w') := openD_yes d s.x s.nn s.F sl gn W D0.1.dr D0.1.mp h1 h2 b (s.Y b) hF (D0.1.fl _ _ hF) hs hg
  obtain ⟨kp, ekp⟩ : ∃ x, x = (s.Y b).kept := ⟨_, rfl⟩
  obtain ⟨qm, eqm⟩ : ∃ x, x = (s.Y b).quantum := ⟨_, rfl⟩
  have hval : Hid (s.deficit b = (kp + qm)) := by
    show s.deficit b = (kp + qm)
    unfold Sd.deficit
    rw [if_pos ⟨ht, hb0⟩, ekp, eqm]
  have hwk : IntKind.i64.wrap (kp + qm) = kp + qm := by rw [IntKind.wrap_i64, ekp, eqm]; omega
  have HT : Hid (∀ w1, DF d s s w w1 → Calls Try.prog 11 #[.pointer (some ⟨d, 0, none⟩)] w1 fun e w' => e = .returned (.tuple #[.agg #[.int .i64 sl, .int .i64 gn], .bool true]) ∧ Below w1.heap.size w1 w') := fun w1 h1 => by
    have := turnD_yes d s w1 h1.1 ht hR
    rw [hb0, hs, hg] at this
    exact this
  have HW : Hid (w.alloc (.cells #[.int .i64 sl, .int .i64 gn] 41) = W ∧ w.heap.size = v) := ⟨hW.symm, ev.symm⟩
  have HD0 : Hid (DF d s s w W ∧ W.heap[v]? = some (.cells #[.int .i64 sl, .int .i64 gn] 41) ∧ v < W.heap.size ∧ s.F sl = some b ∧ kp = (s.Y b).kept ∧ qm = (s.Y b).quantum ∧ Below w.heap.size w W) := ⟨D0, hB, (Array.getElem?_eq_some_iff.1 hB).1, hF, ekp, eqm, B0⟩
  have hbv : ¬ b = v := by have := h.bl hF; omega
  have hvb : ¬ v = b := fun e => hbv e.symm
  have v0 : (w.alloc (.cells #[.int .i64 sl, .int .i64 gn] 41)).cell? ⟨v, 0, none⟩ = some (.int .i64 sl) := by rw [← hW]; simp [World.cell?, hB]
  have v1 : (w.alloc (.cells #[.int .i64 sl, .int .i64 gn] 41)).cell? ⟨v, 1, none⟩ = some (.int .i64 gn) := by rw [← hW]; simp [World.cell?, hB]
  rw [ev] at v0 v1
  have hval2 := hval.out
  rw [hval2]
  clear h h1 h2 hF hg ht hR hb0 hk1 hk2 hq1 hq2 D0 B0 hB hW ev hs ekp eqm  hval2
  go_enter Try.func13, Try.ntmps13
  go_wp2_with fail
  rw [HW.out.1, HW.out.2]
  clear v0 v1
  refine HO.out.mono ?_
  rintro e w1 ⟨rfl, hb⟩
  have D1 := HD0.out.1.below hb
  have HD1 : Hid (DF d s s w w1 ∧ w1.heap[v]? = some (.cells #[.int .i64 sl, .int .i64 gn] 41) ∧ Below w.heap.size w w1) := ⟨D1, (hb.block v HD0.out.2.2.1).trans HD0.out.2.1, HD0.out.2.2.2.2.2.2.trans (hb.mono HD0.out.2.2.2.2.2.2.size)⟩
  clear hb D1
  go_wp2_with fail
  refine (HT.out w1 HD1.out.1).mono ?_
  rintro e w2 ⟨rfl, hb⟩
  have lv : v < w1.heap.size := (Array.getElem?_eq_some_iff.1 HD1.out.2.1).1
  obtain ⟨W3, hW3⟩ : ∃ W3, W3 = w2.alloc (.cells #[.int .i64 sl, .int .i64 gn] 41) := ⟨_, rfl⟩
  obtain ⟨u, eu⟩ : ∃ u, u = w2.heap.size := ⟨_, rfl⟩
  have B3 : Below w1.heap.size w1 W3 := by rw [hW3]; exact hb.alloc hb.size _
  have D3 := HD1.out.1.below B3
  have hv3 : W3.heap[v]? = some (.cells #[.int .i64 sl, .int .i64 gn] 41) := (B3.block v lv).trans HD1.out.2.1
  have hu3 : W3.heap[u]? = some (.cells #[.int .i64 sl, .int .i64 gn] 41) := by rw [hW3, eu]; exact (MapKept.heap_alloc _ _).1
  have v0 : W3.cell? ⟨v, 0, none⟩ = some (.int .i64 sl) := by simp [World.cell?, hv3]
  have v1 : W3.cell? ⟨v, 1, none⟩ = some (.int .i64 gn) := by simp [World.cell?, hv3]
  have u0 : W3.cell? ⟨u, 0, none⟩ = some (#[.int .i64 sl, .int .i64 gn][0]!) := by simp [World.cell?, hu3]
  have u1 : W3.cell? ⟨u, 1, none⟩ = some (#[.int .i64 sl, .int .i64 gn][1]!) := by simp [World.cell?, hu3]
  simp at u0 u1
  have b3 : W3.cell? ⟨b, 3, none⟩ = some (.int .i64 qm) := by rw [HD0.out.2.2.2.2.2.1]; exact World.rowIs.cell (D3.1.fl _ _ HD0.out.2.2.2.1) (i := 3) (by omega)
  have b6 : W3.cell? ⟨b, 6, none⟩ = some (.int .i64 kp) := by rw [HD0.out.2.2.2.2.1]; exact World.rowIs.cell (D3.1.fl _ _ HD0.out.2.2.2.1) (i := 6) (by omega)
  have HW3 : Hid (w2.alloc (.cells #[.int .i64 sl, .int .i64 gn] 41) = W3 ∧ w2.heap.size = u ∧ Below w.heap.size w W3) := ⟨hW3.symm, eu.symm, HD1.out.2.2.trans (B3.mono HD1.out.2.2.size)⟩
  have z0 : (w2.alloc (.cells #[.int .i64 sl, .int .i64 gn] 41)).cell? ⟨w2.heap.size, 0, none⟩ = some (#[.int .i64 sl, .int .i64 gn][0]!) := by rw [← hW3, ← eu]; simpa using u0
  have z1 : (w2.alloc (.cells #[.int .i64 sl, .int .i64 gn] 41)).cell? ⟨w2.heap.size, 1, none⟩ = some (#[.int .i64 sl, .int .i64 gn][1]!) := by rw [← hW3, ← eu]; simpa using u1
  have y0 : (w2.alloc (.cells #[.int .i64 sl, .int .i64 gn] 41)).cell? ⟨v, 0, none⟩ = some (.int .i64 sl) := by rw [← hW3]; exact v0
  have y1 : (w2.alloc (.cells #[.int .i64 sl, .int .i64 gn] 41)).cell? ⟨v, 1, none⟩ = some (.int .i64 gn) := by rw [← hW3]; exact v1
  have x3 : (w2.alloc (.cells #[.int .i64 sl, .int .i64 gn] 41)).cell? ⟨b, 3, none⟩ = some (.int .i64 qm) := by rw [← hW3]; exact b3
  have x6 : (w2.alloc (.cells #[.int .i64 sl, .int .i64 gn] 41)).cell? ⟨b, 6, none⟩ = some (.int .i64 kp) := by rw [← hW3]; exact b6
  simp at z0 z1
  clear hb B3 D3 hv3 hu3 hW3 eu lv v0 v1 u0 u1 b3 b6
  go_wp2_with fail
  go_quiet (fail)
  go_wp2_with fail
  refine bodyPost_ret (v := .tuple #[.int .i64 (kp + qm), .int .i64 0]) (by simp [results, Try.results13, go_sem]) rfl ⟨rfl, ?_⟩
  repeat' first
    | (rw [HW3.out.1]; exact HW3.out.2.2)
    | with_reducible refine bel_drewN ?_ _
    | with_reducible refine bel_drew ?_
set_option maxHeartbeats 4000000 in
theorem deficitD_other (d : Nat) (s : Sd) (sl gn : Int) (b : Nat) (w : World) (h : DS w d s) (h1 : -9223372036854775808 ≤ sl) (h2 : sl ≤ 9223372036854775807) (hF : s.F sl = some b) (hg : (s.Y b).gen = gn) (ht : s.x.turn = true) (hR : 0 < s.R.length) (hb0 : ¬ s.nth 0 = b) (hk1 : -4611686018427387904 ≤ (s.Y b).kept) (hk2 : (s.Y b).kept ≤ 4611686018427387904) (hq1 : 0 ≤ (s.Y b).quantum) (hq2 : (s.Y b).quantum ≤ 1073741824) : Calls Try.prog 13 #[.pointer (some ⟨d, 0, none⟩), .agg #[.int .i64 sl, .int .i64 gn]] w fun e w' => e = .returned (.tuple #[.int .i64 (s.deficit b), .int .i64 0]) ∧ Below w.heap.size w w' := by
  obtain ⟨W, hW⟩ : ∃ W, W = w.alloc (.cells #[.int .i64 sl, .int .i64 gn] 41) := ⟨_, rfl⟩
  obtain ⟨v, ev⟩ : ∃ v, v = w.heap.size := ⟨_, rfl⟩
  have B0 : Below w.heap.size w W := by rw [hW]; exact (Below.refl _ _).alloc (Nat.le_refl _) _
  have hB : W.heap[v]? = some (.cells #[.int .i64 sl, .int .i64 gn] 41) := by rw [hW, ev]; exact (MapKept.heap_alloc _ _).1
  have D0 : DF d s s w W := h.df.below B0
  have hs := h.sl sl b hF
  have HO : Hid (Calls Try.prog 24 #[.pointer (some ⟨d, 0, none⟩), .agg #[.int .i64 sl, .int .i64 gn]] W fun e w' => e = .returned (.tuple #[.pointer (some ⟨b, 0, none⟩), .int .i64 0]) ∧ Below W.heap.size W w') := openD_yes d s.x s.nn s.F sl gn W D0.1.dr D0.1.mp h1 h2 b (s.Y b) hF (D0.1.fl _ _ hF) hs hg
  obtain ⟨kp, ekp⟩ : ∃ x, x = (s.Y b).kept := ⟨_, rfl⟩
  obtain ⟨qm, eqm⟩ : ∃ x, x = (s.Y b).quantum := ⟨_, rfl⟩
  have hval : Hid (s.deficit b = kp) := by
    show s.deficit b = kp
    unfold Sd.deficit
    rw [if_neg (fun e => hb0 e.2), ekp]
  have hwk : IntKind.i64.wrap (kp + qm) = kp + qm := by rw [IntKind.wrap_i64, ekp, eqm]; omega
  obtain ⟨j, hj⟩ := h.inr _ (nth_mem hR)
  obtain ⟨s2, es2⟩ : ∃ x, x = (s.Y (s.nth 0)).slot := ⟨_, rfl⟩
  obtain ⟨g2, eg2⟩ : ∃ x, x = (s.Y (s.nth 0)).gen := ⟨_, rfl⟩
  have hne : ¬ s2 = sl := by
    rw [es2, h.sl j _ hj]
    rintro rfl
    rw [hF] at hj
    injection hj with hj
    exact hb0 hj.symm
  have HT : Hid (∀ w1, DF d s s w w1 → Calls Try.prog 11 #[.pointer (some ⟨d, 0, none⟩)] w1 fun e w' => e = .returned (.tuple #[.agg #[.int .i64 s2, .int .i64 g2], .bool true]) ∧ Below w1.heap.size w1 w') := fun w1 h1 => by
    have := turnD_yes d s w1 h1.1 ht hR
    rw [← es2, ← eg2] at this
    exact this
  have HW : Hid (w.alloc (.cells #[.int .i64 sl, .int .i64 gn] 41) = W ∧ w.heap.size = v) := ⟨hW.symm, ev.symm⟩
  have HD0 : Hid (DF d s s w W ∧ W.heap[v]? = some (.cells #[.int .i64 sl, .int .i64 gn] 41) ∧ v < W.heap.size ∧ s.F sl = some b ∧ kp = (s.Y b).kept ∧ qm = (s.Y b).quantum ∧ Below w.heap.size w W) := ⟨D0, hB, (Array.getElem?_eq_some_iff.1 hB).1, hF, ekp, eqm, B0⟩
  have hbv : ¬ b = v := by have := h.bl hF; omega
  have hvb : ¬ v = b := fun e => hbv e.symm
  have v0 : (w.alloc (.cells #[.int .i64 sl, .int .i64 gn] 41)).cell? ⟨v, 0, none⟩ = some (.int .i64 sl) := by rw [← hW]; simp [World.cell?, hB]
  have v1 : (w.alloc (.cells #[.int .i64 sl, .int .i64 gn] 41)).cell? ⟨v, 1, none⟩ = some (.int .i64 gn) := by rw [← hW]; simp [World.cell?, hB]
  rw [ev] at v0 v1
  have hval2 := hval.out
  rw [hval2]
  clear h h1 h2 hF hg ht hR hb0 hk1 hk2 hq1 hq2 D0 B0 hB hW ev hs ekp eqm hj es2 eg2 hval2
  go_enter Try.func13, Try.ntmps13
  go_wp2_with fail
  rw [HW.out.1, HW.out.2]
  clear v0 v1
  refine HO.out.mono ?_
  rintro e w1 ⟨rfl, hb⟩
  have D1 := HD0.out.1.below hb
  have HD1 : Hid (DF d s s w w1 ∧ w1.heap[v]? = some (.cells #[.int .i64 sl, .int .i64 gn] 41) ∧ Below w.heap.size w w1) := ⟨D1, (hb.block v HD0.out.2.2.1).trans HD0.out.2.1, HD0.out.2.2.2.2.2.2.trans (hb.mono HD0.out.2.2.2.2.2.2.size)⟩
  clear hb D1
  go_wp2_with fail
  refine (HT.out w1 HD1.out.1).mono ?_
  rintro e w2 ⟨rfl, hb⟩
  have lv : v < w1.heap.size := (Array.getElem?_eq_some_iff.1 HD1.out.2.1).1
  obtain ⟨W3, hW3⟩ : ∃ W3, W3 = w2.alloc (.cells #[.int .i64 s2, .int .i64 g2] 41) := ⟨_, rfl⟩
  obtain ⟨u, eu⟩ : ∃ u, u = w2.heap.size := ⟨_, rfl⟩
  have B3 : Below w1.heap.size w1 W3 := by rw [hW3]; exact hb.alloc hb.size _
  have D3 := HD1.out.1.below B3
  have hv3 : W3.heap[v]? = some (.cells #[.int .i64 sl, .int .i64 gn] 41) := (B3.block v lv).trans HD1.out.2.1
  have hu3 : W3.heap[u]? = some (.cells #[.int .i64 s2, .int .i64 g2] 41) := by rw [hW3, eu]; exact (MapKept.heap_alloc _ _).1
  have v0 : W3.cell? ⟨v, 0, none⟩ = some (.int .i64 sl) := by simp [World.cell?, hv3]
  have v1 : W3.cell? ⟨v, 1, none⟩ = some (.int .i64 gn) := by simp [World.cell?, hv3]
  have u0 : W3.cell? ⟨u, 0, none⟩ = some (#[.int .i64 s2, .int .i64 g2][0]!) := by simp [World.cell?, hu3]
  have u1 : W3.cell? ⟨u, 1, none⟩ = some (#[.int .i64 s2, .int .i64 g2][1]!) := by simp [World.cell?, hu3]
  simp at u0 u1
  have b3 : W3.cell? ⟨b, 3, none⟩ = some (.int .i64 qm) := by rw [HD0.out.2.2.2.2.2.1]; exact World.rowIs.cell (D3.1.fl _ _ HD0.out.2.2.2.1) (i := 3) (by omega)
  have b6 : W3.cell? ⟨b, 6, none⟩ = some (.int .i64 kp) := by rw [HD0.out.2.2.2.2.1]; exact World.rowIs.cell (D3.1.fl _ _ HD0.out.2.2.2.1) (i := 6) (by omega)
  have HW3 : Hid (w2.alloc (.cells #[.int .i64 s2, .int .i64 g2] 41) = W3 ∧ w2.heap.size = u ∧ Below w.heap.size w W3) := ⟨hW3.symm, eu.symm, HD1.out.2.2.trans (B3.mono HD1.out.2.2.size)⟩
  have z0 : (w2.alloc (.cells #[.int .i64 s2, .int .i64 g2] 41)).cell? ⟨w2.heap.size, 0, none⟩ = some (#[.int .i64 s2, .int .i64 g2][0]!) := by rw [← hW3, ← eu]; simpa using u0
  have z1 : (w2.alloc (.cells #[.int .i64 s2, .int .i64 g2] 41)).cell? ⟨w2.heap.size, 1, none⟩ = some (#[.int .i64 s2, .int .i64 g2][1]!) := by rw [← hW3, ← eu]; simpa using u1
  have y0 : (w2.alloc (.cells #[.int .i64 s2, .int .i64 g2] 41)).cell? ⟨v, 0, none⟩ = some (.int .i64 sl) := by rw [← hW3]; exact v0
  have y1 : (w2.alloc (.cells #[.int .i64 s2, .int .i64 g2] 41)).cell? ⟨v, 1, none⟩ = some (.int .i64 gn) := by rw [← hW3]; exact v1
  have x3 : (w2.alloc (.cells #[.int .i64 s2, .int .i64 g2] 41)).cell? ⟨b, 3, none⟩ = some (.int .i64 qm) := by rw [← hW3]; exact b3
  have x6 : (w2.alloc (.cells #[.int .i64 s2, .int .i64 g2] 41)).cell? ⟨b, 6, none⟩ = some (.int .i64 kp) := by rw [← hW3]; exact b6
  simp at z0 z1
  clear hb B3 D3 hv3 hu3 hW3 eu lv v0 v1 u0 u1 b3 b6
  go_wp2_with fail
  refine bodyPost_ret (v := .tuple #[.int .i64 kp, .int .i64 0]) (by simp [results, Try.results13, go_sem]) rfl ⟨rfl, ?_⟩
  repeat' first
    | (rw [HW3.out.1]; exact HW3.out.2.2)
    | with_reducible refine bel_drewN ?_ _
    | with_reducible refine bel_drew ?_
theorem deficitD_any (d : Nat) (s : Sd) (sl gn : Int) (b : Nat) (w : World) (h : DS w d s) (h1 : -9223372036854775808 ≤ sl) (h2 : sl ≤ 9223372036854775807) (hF : s.F sl = some b) (hg : (s.Y b).gen = gn) (hR : s.x.turn = true → 0 < s.R.length) (hk1 : -4611686018427387904 ≤ (s.Y b).kept) (hk2 : (s.Y b).kept ≤ 4611686018427387904) (hq1 : 0 ≤ (s.Y b).quantum) (hq2 : (s.Y b).quantum ≤ 1073741824) : Calls Try.prog 13 #[.pointer (some ⟨d, 0, none⟩), .agg #[.int .i64 sl, .int .i64 gn]] w fun e w' => e = .returned (.tuple #[.int .i64 (s.deficit b), .int .i64 0]) ∧ Below w.heap.size w w' := by
  rcases e : s.x.turn with _ | _
  · exact deficitD_off d s sl gn b w h h1 h2 hF hg e hk1 hk2 hq1 hq2
  by_cases e2 : s.nth 0 = b
  · exact deficitD_mine d s sl gn b w h h1 h2 hF hg e (hR e) e2 hk1 hk2 hq1 hq2
  exact deficitD_other d s sl gn b w h h1 h2 hF hg e (hR e) e2 hk1 hk2 hq1 hq2
end Go.Proofs.Ytcndbmccediknaa
