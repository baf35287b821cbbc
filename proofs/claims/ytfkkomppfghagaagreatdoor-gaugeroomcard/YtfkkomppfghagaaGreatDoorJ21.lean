/- Contracts of the program's functions, part 21: own work, joined in build order. -/
import Derived.Test.YtfkkomppfghagaaGreatDoorJ20
import Derived.Deep.Cut
import Derived.Maps.AppendAt
import Derived.Deep.OwnRows
import Derived.BigQuiet
import Derived.Maps.RangeWalk
namespace Go.Proofs.YtfkkomppfghagaaGreatDoor
open Go.RowKit
set_option maxRecDepth 100000
set_option linter.unusedVariables false
def L18 : List Nat := [4, 1, 4]
theorem keys18 : KeysG L18 [1, 4] := by
  refine ⟨fun x => ?_, by decide, by decide⟩
  rw [cntL_pos]
  simp [L18]
  omega
theorem qf18a : qfG (cntL L18) [1, 4] (plG L18.length 1 1) = (4, true) := by decide +kernel
theorem qf18b : qfG (cntL L18) [1, 4] (plG L18.length 1 2) = (4, true) := by decide +kernel
theorem qf18c : qfG (cntL L18) [1, 4] (plG L18.length 99 100) = (4, true) := by decide +kernel
theorem tel18 : telV L18 25 100 4 4 4 4 5 = .agg #[.float .f64 4613937818241073152, .float .f64 4616189618054758400, .float .f64 4616189618054758400, .float .f64 4616189618054758400, .float .f64 4598175219545276416, .float .f64 4605380978949069210] := by
  unfold telV
  rw [show tfV (mnP L18) (mnQ L18) = 4613937818241073152 by decide +kernel, show tfV 4 1 = 4616189618054758400 by decide +kernel, show tfV (shP 25 100) (shQ 25 100) = 4598175219545276416 by decide +kernel, show tfV 4 5 = 4605380978949069210 by decide +kernel]
theorem jain18 (g : Nat) (u1 u2 u3 u4 : Value) (w : World) (e0 : w.cell? ⟨g, 0, none⟩ = some u1) (e1 : w.cell? ⟨g, 1, none⟩ = some u2) (e2 : w.cell? ⟨g, 2, none⟩ = some u3) (e3 : w.cell? ⟨g, 3, none⟩ = some u4) (r1 : Rt w (.agg #[u1, u2]) 1 1) (r2 : Rt w (.agg #[u3, u4]) 3 1) (hT : Tab w) :
    Calls Tryz.prog 13 #[.slice (some ⟨g, 0, none⟩) 2 2] w fun e w' => ∃ x y ok, (ok = true ∧ x = 4 ∧ y = 5) ∧ MakesRB w x y ok e w' := by
  have hF : Fq 2 (fun i => if i = 0 then 1 else 3) (fun _ => 1) (fun i => if i = 0 then 1 else 3) (fun _ => 1) := by
    refine ⟨by omega, fun i hi => ?_, fun i hi => ⟨?_, ?_⟩⟩
    · refine ⟨by simp, by omega, by omega, rfl, ?_, ?_⟩
      · rw [P_one]; split <;> omega
      rw [P_one]; omega
    · rw [P_one]; split <;> omega
    rw [P_one]; omega
  refine (jain_any g 2 2 (fun i => if i = 0 then u1 else u3) (fun i => if i = 0 then u2 else u4) _ _ _ _ w hF (by omega) (by omega) (fun i hi => ?_) (World.block_lt_of_cell? _ _ e0) hT).mono ?_
  · match i, hi with
    | 0, _ => exact ⟨e0, e1, r1⟩
    | 1, _ => exact ⟨e2, e3, r2⟩
  rintro e w' ⟨x, y, ok, ⟨h1, _, _, _, h5⟩, hm⟩
  have hn : nu2 (fun i => if i = 0 then 1 else 3) (fun _ => 1) 2 = 10 := by decide +kernel
  have hn1 : nu1 (fun i => if i = 0 then 1 else 3) (fun _ => 1) 2 = 4 := by decide +kernel
  rw [hn] at h1 h5
  rw [hn1] at h5
  have f := h5 (by omega)
  have f2 : Fc 4 5 (4 * 4) (10 * 2) 1 := ⟨by decide, by omega, by omega, by omega, by rw [P_one]; omega, by rw [P_one]; omega⟩
  obtain ⟨rfl, rfl⟩ := f.one f2
  exact ⟨4, 5, ok, ⟨by rw [h1]; decide, rfl, rfl⟩, hm⟩
set_option maxHeartbeats 8000000 in
theorem started18 (w : World) (hT : Tab w) : Calls Tryz.prog 16 #[] w fun e w' => e = .returned (.bool true) ∧ Below w.heap.size w w' := by
  have HT : Hid (Tab w) := hT
  clear hT
  go_enter Tryz.func16, Tryz.ntmps16
  go_wp2_with fail
  refine Calls.mono (gnew_any w) ?_
  rintro e w1 ⟨g, mb, rfl, hg, hmb, hG1, hb1⟩
  have LO : Hid (w.heap.size ≤ g ∧ w.heap.size ≤ mb) := ⟨hg, hmb⟩
  have A1 : Hid (Calls Tryz.prog 11 #[.pointer (some ⟨g, 0, none⟩), .int .i64 4, .int .i64 10] w1 fun e w' => e = .returned (.int .i64 0) ∧ Gau w' g mb ([] ++ [4]) (0 + 10) ∧ Fb (fun k => k = g ∨ k = mb) w1 w') := gadd_yes g mb 4 10 [] 0 w1 hG1 (by omega) (by omega) (by omega) (by simp)
  have B1 : Hid (Below w.heap.size w w1) := hb1
  clear hg hmb hG1 hb1
  go_wp2_with fail
  refine Calls.mono A1.out ?_
  rintro e w2 ⟨rfl, hG2, hf2⟩
  have B2 : Hid (Below w.heap.size w w2) := Below.trans B1.out (hf2.below (lb := w.heap.size) B1.out.size (fun k e => by rcases e with rfl | rfl; exact LO.out.1; exact LO.out.2))
  have A2 : Hid (Calls Tryz.prog 11 #[.pointer (some ⟨g, 0, none⟩), .int .i64 1, .int .i64 10] w2 fun e w' => e = .returned (.int .i64 0) ∧ Gau w' g mb (([] ++ [4]) ++ [1]) ((0 + 10) + 10) ∧ Fb (fun k => k = g ∨ k = mb) w2 w') := gadd_yes g mb 1 10 _ _ w2 hG2 (by omega) (by omega) (by omega) (by simp)
  clear hG2 hf2 A1 B1
  go_wp2_with fail
  refine Calls.mono (num18_any 0 w2) ?_
  rintro e w3 ⟨rfl, rfl⟩
  go_wp2_with fail
  refine Calls.mono A2.out ?_
  rintro e w4 ⟨rfl, hG4, hf4⟩
  have B4 : Hid (Below w.heap.size w w4) := Below.trans B2.out (hf4.below (lb := w.heap.size) B2.out.size (fun k e => by rcases e with rfl | rfl; exact LO.out.1; exact LO.out.2))
  have A4 : Hid (Calls Tryz.prog 11 #[.pointer (some ⟨g, 0, none⟩), .int .i64 4, .int .i64 5] w4 fun e w' => e = .returned (.int .i64 0) ∧ Gau w' g mb ((([] ++ [4]) ++ [1]) ++ [4]) (((0 + 10) + 10) + 5) ∧ Fb (fun k => k = g ∨ k = mb) w4 w') := gadd_yes g mb 4 5 _ _ w4 hG4 (by omega) (by omega) (by omega) (by simp)
  clear hG4 hf4 A2 B2
  go_wp2_with fail
  refine Calls.mono (num18_any 0 w4) ?_
  rintro e w5 ⟨rfl, rfl⟩
  go_wp2_with fail
  refine Calls.mono A4.out ?_
  rintro e w6 ⟨rfl, hG6, hf6⟩
  have B6 : Hid (Below w.heap.size w w6) := Below.trans B4.out (hf6.below (lb := w.heap.size) B4.out.size (fun k e => by rcases e with rfl | rfl; exact LO.out.1; exact LO.out.2))
  have G6 : Hid (Gau w6 g mb L18 25) := hG6
  clear hG6 hf6 A4 B4
  go_wp2_with fail
  refine Calls.mono (num18_any 0 w6) ?_
  rintro e w7 ⟨rfl, rfl⟩
  go_upto_region 5 with fail
  have O1 : Hid (Calls Tryz.prog 20 #[.int .i64 1, .int .i64 1] w7 (MakesRB w7 1 1 true)) := ratOf_yes 1 1 w7 (by omega) (by omega) (by omega) (HT.out.go B6.out)
  go_upto_region 6 with (go_at_call 20; (with_reducible refine Calls.mono O1.out ?_); rintro e w8 ⟨v8, rfl, hv8, hb8⟩; obtain ⟨p1, n1, c1, p2, n2, c2, rfl⟩ := rt_slices hv8)
  have S8 : Hid _ := (((sx_start w7).go hb8).addF hv8).box (.slice p1 n1 c1) (.slice p2 n2 c2) 47 _ rfl
  obtain ⟨w9, hw9⟩ : ∃ w9, w9 = w8.alloc (.cells #[.slice p1 n1 c1, .slice p2 n2 c2] 47) := ⟨_, rfl⟩
  obtain ⟨b3, hb3⟩ : ∃ b3, b3 = w8.heap.size := ⟨_, rfl⟩
  rw [← hw9, ← hb3] at S8
  rw [← hw9, ← hb3]
  clear hw9 hb3 hv8 hb8 O1
  have O2 : Hid (Calls Tryz.prog 20 #[.int .i64 3, .int .i64 1] w9 (MakesRB w9 3 1 true)) := ratOf_yes 3 1 w9 (by omega) (by omega) (by omega) (HT.out.go (bel_go B6.out S8.out.bel))
  go_upto_region 7 with (go_at_call 20; (with_reducible refine Calls.mono O2.out ?_); rintro e wa ⟨va, rfl, hva, hba⟩; obtain ⟨p3, n3, c3, p4, n4, c4, rfl⟩ := rt_slices hva)
  have Sa : Hid _ := ((S8.out.go hba).addF hva).box (.slice p3 n3 c3) (.slice p4 n4 c4) 47 _ rfl
  obtain ⟨wb, hwb⟩ : ∃ wb, wb = wa.alloc (.cells #[.slice p3 n3 c3, .slice p4 n4 c4] 47) := ⟨_, rfl⟩
  obtain ⟨b5, hb5⟩ : ∃ b5, b5 = wa.heap.size := ⟨_, rfl⟩
  rw [← hwb, ← hb5] at Sa
  rw [← hwb, ← hb5]
  clear hwb hb5 hva hba O2 S8
  have CQ : Hid (Calls Tryz.prog 18 #[.pointer (some ⟨g, 0, none⟩), .int .i64 1, .int .i64 2] wb fun e w' => e = .returned (.tuple #[.int .i64 4, .bool true]) ∧ Below wb.heap.size wb w') := (quantileP_any g mb L18 25 1 2 wb (G6.out.go Sa.out.bel) (by omega) (by omega) (by omega) (by omega)).mono fun e w' ⟨ss, hk, he, hb⟩ => by
    rw [keysG_one hk keys18, qf18b] at he
    exact ⟨he, hb⟩
  go_upto_region 8 with (go_at_call 18; (with_reducible refine Calls.mono CQ.out ?_); rintro e wc ⟨rfl, hbc⟩)
  have Sc : Hid _ := Sa.out.go hbc
  clear CQ Sa hbc
  have y0 := Sc.out.cel b3 0 (.slice p1 n1 c1)
  have y1 := Sc.out.cel b3 1 (.slice p2 n2 c2)
  have y2 := Sc.out.cel b5 0 (.slice p3 n3 c3)
  have y3 := Sc.out.cel b5 1 (.slice p4 n4 c4)
  have hsf := @run_store_floatG Tryz.prog
  go_wp2_with fail
  obtain ⟨wd, hwd⟩ : ∃ wd, wd = wc.alloc (.cells #[.slice p1 n1 c1, .slice p2 n2 c2, .slice p3 n3 c3, .slice p4 n4 c4] 47) := ⟨_, rfl⟩
  obtain ⟨gs, hgs⟩ : ∃ gs, gs = wc.heap.size := ⟨_, rfl⟩
  have e0 : wd.cell? ⟨gs, 0, none⟩ = some (.slice p1 n1 c1) := by rw [hwd, hgs]; simp [go_sem]
  have e1 : wd.cell? ⟨gs, 1, none⟩ = some (.slice p2 n2 c2) := by rw [hwd, hgs]; simp [go_sem]
  have e2 : wd.cell? ⟨gs, 2, none⟩ = some (.slice p3 n3 c3) := by rw [hwd, hgs]; simp [go_sem]
  have e3 : wd.cell? ⟨gs, 3, none⟩ = some (.slice p4 n4 c4) := by rw [hwd, hgs]; simp [go_sem]
  have Sd : Hid _ := Sc.out.go (show Below wc.heap.size wc wd by rw [hwd]; exact bel_al (bel_refl wc))
  have CT : Hid (Calls Tryz.prog 19 #[.pointer (some ⟨g, 0, none⟩), .int .i64 100, .slice (some ⟨gs, 0, none⟩) 2 2] wd fun e w' => e = .returned (.agg #[.float .f64 4613937818241073152, .float .f64 4616189618054758400, .float .f64 4616189618054758400, .float .f64 4616189618054758400, .float .f64 4598175219545276416, .float .f64 4605380978949069210]) ∧ Below wd.heap.size wd w') := by
    refine (gtell_any (fun x y ok => ok = true ∧ x = 4 ∧ y = 5) (fun x y ok h => ⟨by rw [h.2.1]; exact rs_few (by omega), by rw [h.2.2]; exact rs_few (by omega)⟩) g mb L18 25 100 _ wd (G6.out.go Sd.out.bel) (HT.out.go (bel_go B6.out Sd.out.bel)) (by omega) (fun w' h' => jain18 gs _ _ _ _ w' (cell_later h' e0) (cell_later h' e1) (cell_later h' e2) (cell_later h' e3) ((Sd.out.fr (.agg #[.slice p1 n1 c1, .slice p2 n2 c2]) 1 1).mono h') ((Sd.out.fr (.agg #[.slice p3 n3 c3, .slice p4 n4 c4]) 3 1).mono h') (HT.out.go (bel_go (bel_go B6.out Sd.out.bel) h')))).mono ?_
    rintro e w' ⟨ss, k1, k2, k3, x, y, ok, hk, h1, h2, h3, ⟨rfl, rfl, rfl⟩, he, hb⟩
    rw [keysG_one hk keys18] at h1 h2 h3
    rw [qf18a] at h1
    rw [qf18b] at h2
    rw [qf18c] at h3
    obtain rfl : k1 = 4 := by simp at h1; omega
    obtain rfl : k2 = 4 := by simp at h2; omega
    obtain rfl : k3 = 4 := by simp at h3; omega
    rw [if_pos rfl, if_pos rfl, tel18] at he
    exact ⟨he, hb⟩
  rw [← hwd, ← hgs]
  clear hwd hgs y0 y1 y2 y3 e0 e1 e2 e3 Sc
  with_reducible refine Calls.mono CT.out ?_
  rintro e we ⟨rfl, hbe⟩
  have BE : Hid (Below w.heap.size w we) := bel_go (bel_go B6.out Sd.out.bel) hbe
  clear hbe CT Sd
  have o0 : FloatKind.f64.format.order 4613937818241073152 4613937818241073152 = some Ordering.eq := by decide +kernel
  have o1 : FloatKind.f64.format.order 4616189618054758400 4616189618054758400 = some Ordering.eq := by decide +kernel
  have o2 : FloatKind.f64.format.order 4598175219545276416 4598175219545276416 = some Ordering.eq := by decide +kernel
  have o3 : FloatKind.f64.format.order 4605380978949069210 4605380978949069210 = some Ordering.eq := by decide +kernel
  have BL : Hid (∀ o, Below w.heap.size w (we.alloc o)) := fun o => bel_go BE.out (bel_al (bel_refl we))
  go_wp2_with fail
  refine Calls.mono (gadd_arg g (-1) 1 _ (by omega)) ?_
  rintro e wf ⟨rfl, rfl⟩
  go_wp2_with fail
  refine Calls.mono (num18_any 1 _) ?_
  rintro e wg ⟨rfl, rfl⟩
  go_wp2_with fail
  go_ret
  exact ⟨rfl, BL.out _⟩
theorem sh_fc (F : Nat → Nat → Int) (i : Nat) : Fc (shX F i) (shY F i) (shN F i) (shD F i) 1 := by
  have h := sh_le F i
  exact fc_low _ _ (by omega) (by rw [P_one]; omega) (by rw [P_one]; omega)
theorem app_fos (w : World) (ty : TypeId) (base : Nat) (v : Value) (L : List (Value × Value)) (hown : Fo base w v L) (b off m c : Nat) (ys : List (Value × Value)) (hm : ys.length = m) (hm0 : 0 < m) (hcells : ∀ j u, (fcs ys)[j]? = some u → w.cell? ⟨b, off + j, none⟩ = some u) (onek : ∀ x ∈ fcs ys, isSl x) (hlim : L.length + m ≤ 1000000) (hb : base ≤ w.heap.size) :
    ∃ v' w', (Builtin.append_ #[28, 28] ty #[v, .slice (some ⟨b, off, none⟩) m c]).run Tryz.prog w = .ok v' w' ∧ Fo base w' v' (L ++ ys) ∧ w.grownBy w' v.ownBlock ∧ (v'.ownBlock = v.ownBlock ∨ v'.ownBlock = some w.heap.size) := by
  obtain ⟨i, hi, hz, hsz, hby⟩ := info_parts Tryz.infoFr
  have hnews : ∀ j u, (fcs ys)[j]? = some u → w.cell? ((⟨b, off, none⟩ : Addr).add j) = some u := fun j u hj => by
    rw [ax_addF]
    exact hcells j u hj
  have one : ∀ u ∈ fcs ys, u.oneCell' = true := fun u hu => by
    obtain ⟨a, n, c, rfl⟩ := onek u hu
    rfl
  have hl1 : (fcs ys).length = m * 2 := by rw [fcs_len, hm]
  obtain ⟨v', w', hr, r1, r2, _, r4⟩ := run_append_own_at (P := Tryz.prog) w base 28 ty 47 i _ 2 48 Tryz.underlying28 hi hz hsz hby rfl (by omega) v _ _ hown.row ⟨b, off, none⟩ m c (fcs ys) hl1 hnews one (by simp only [maxLen]; omega) (by omega) hb
  refine ⟨v', w', hr, ⟨?_, ?_⟩, r2, r4⟩
  · show World.ownsRow _ _ _ _ _ _ _
    rw [List.length_append, fcs_app, hm]
    exact r1
  intro g' hg'
  rcases hown.row.2 with ⟨e, e0⟩ | ⟨g, cap, cur, e, hbg, hg, hnc, hcm, hcs, htake⟩
  · subst e
    have q := run_append_nil (P := Tryz.prog) w 28 ty 47 i _ Tryz.underlying28 hi hz ⟨b, off, none⟩ m c (fcs ys) (by rw [hsz]; exact hl1) hnews (by omega) (by omega) (by rw [hby]; omega)
    rw [hr] at q
    injection q with q1 q2
    rw [q1] at hg'
    cases hg'
    rw [q2]
    refine ⟨_, heap_alloc_new w.drew _, fun x hx => ?_⟩
    rw [Array.toList_append, List.mem_append] at hx
    rcases hx with hx | hx
    · exact onek x (by simpa using hx)
    exact isSl_zeros _ x hx
  subst e
  obtain ⟨c2, hc2, hi2⟩ := hown.odd g rfl
  rw [hg] at hc2
  injection hc2 with hc2
  injection hc2 with hc2
  subst hc2
  by_cases hroom : L.length + m ≤ cap
  · have q := run_append_room (P := Tryz.prog) w 28 ty 47 i Tryz.underlying28 hi g L.length cap cur hg ⟨b, off, none⟩ m c (fcs ys) (by rw [hsz]; exact hl1) hnews one hroom (by rw [hsz, hl1, hcs]; omega)
    rw [hr] at q
    injection q with q1 q2
    rw [q1] at hg'
    cases hg'
    rw [q2]
    refine ⟨_, setRow_heap w g cur _ 47 _ hg, fun x hx => ?_⟩
    rw [List.mem_append, List.mem_append] at hx
    rcases hx with (hx | hx) | hx
    · exact hi2 x (List.mem_of_mem_take hx)
    · exact onek x hx
    exact hi2 x (List.mem_of_mem_drop hx)
  have holds : ∀ j u, (fcs L)[j]? = some u → w.cell? ((⟨g, 0, none⟩ : Addr).add j) = some u := World.ownsRow.cells (g := g) hown.row rfl
  have q := run_append_grow (P := Tryz.prog) w 28 ty 47 i _ Tryz.underlying28 hi hz ⟨g, 0, none⟩ L.length cap (fcs L) (by rw [hsz]; exact fcs_len L) holds ⟨b, off, none⟩ m c (fcs ys) (by rw [hsz]; exact hl1) hnews (by omega) (by omega) (by rw [hby]; exact growslice_fits (by omega) (by omega))
  rw [hr] at q
  injection q with q1 q2
  rw [q1] at hg'
  cases hg'
  rw [q2]
  refine ⟨_, heap_alloc_new w.drew _, ?_⟩
  intro x hx
  rw [Array.toList_append, List.mem_append, Array.toList_append, List.mem_append] at hx
  rcases hx with (hx | hx) | hx
  · exact hi2 x (List.mem_of_mem_take (by rw [htake]; simpa using hx))
  · exact onek x (by simpa using hx)
  exact isSl_zeros _ x hx
theorem wp_appFs {w : World} {ops : Array Oper} {rest : List Oper} {o : Oper} {a : Act} {Q : Exit → Act → World → Prop} (hgd : o.guard = none) (s x : Operand)
    (ho : o.op = .call { callee := .builtin .append, args := #[s, x], argTypes := #[28, 28] }) (base : Nat) (v : Value) (L : List (Value × Value)) (hs : a.eval s = v) (hown : Fo base w v L)
    (b off m c : Nat) (ys : List (Value × Value)) (hx : a.eval x = .slice (some ⟨b, off, none⟩) m c) (hm : ys.length = m) (hm0 : 0 < m) (hcells : ∀ j u, (fcs ys)[j]? = some u → w.cell? ⟨b, off + j, none⟩ = some u) (onek : ∀ x ∈ fcs ys, isSl x) (hlim : L.length + m ≤ 1000000) (hb : base ≤ w.heap.size)
    (h : ∀ v' w', Hid (Fo base w' v' (L ++ ys) ∧ w.grownBy w' v.ownBlock ∧ (v'.ownBlock = v.ownBlock ∨ v'.ownBlock = some w.heap.size)) → wpList Tryz.prog ops Q rest (a.put o.dst v') w') : wpList Tryz.prog ops Q (o :: rest) a w := by
  refine wpList_plain hgd fun K hK => ?_
  obtain ⟨v', w', hr, h2, h3, h4⟩ := app_fos w o.type base v L hown b off m c ys hm hm0 hcells onek hlim hb
  unfold Oper.wp execOp
  simp only [ho, resolve, invoke, builtin, Sem.run_bind, Sem.run_pure, Result.andThen_ok, List.map_toArray, List.map_cons, List.map_nil, hs, hx, hr]
  exact hK _ _ (h v' w' ⟨h2, h3, h4⟩)
def ZIn (w : World) (a : Option Addr) (n : Nat) (z : Nat → Int) : Prop := n = 0 ∨ ∃ g o, a = some ⟨g, o, none⟩ ∧ ∀ i, i < n → w.cell? ⟨g, o + i, none⟩ = some (.int .i64 (z i))
theorem ZIn.go {w w' : World} {a : Option Addr} {n : Nat} {z : Nat → Int} (h : ZIn w a n z) (hb : Below w.heap.size w w') : ZIn w' a n z := by
  rcases h with e | ⟨g, o, e, h⟩
  · exact .inl e
  exact .inr ⟨g, o, e, fun i hi => cell_later hb (h i hi)⟩
theorem ZIn.at {w : World} {a : Option Addr} {n : Nat} {z : Nat → Int} (h : ZIn w a n z) {i : Nat} (hi : i < n) : ∃ g o, a = some ⟨g, o, none⟩ ∧ w.cell? ⟨g, o + i, none⟩ = some (.int .i64 (z i)) := by
  rcases h with e | ⟨g, o, e, h⟩
  · omega
  exact ⟨g, o, e, h i hi⟩
theorem i64_and62 (n : Int) : bits .and .i64 n 4611686018427387903 = n % 4611686018427387904 := by
  have h127 : (BitVec.ofInt 64 4611686018427387903).toNat = 2 ^ 62 - 1 := by decide
  have key : (BitVec.ofInt 64 n &&& BitVec.ofInt 64 4611686018427387903).toNat = (n % ((2 ^ 64 : Nat) : Int)).toNat % 2 ^ 62 := by
    rw [BitVec.toNat_and, BitVec.toNat_ofInt, h127, Nat.and_two_pow_sub_one_eq_mod]
  show IntKind.i64.wrap ((BitVec.ofInt 64 n &&& BitVec.ofInt 64 4611686018427387903).toNat : Nat) = n % 4611686018427387904
  rw [key, IntKind.wrap_i64]
  omega
def dlN (x : Int) : Nat := (x % 4611686018427387904).toNat
theorem dlN_le (x : Int) : dlN x ≤ 4611686018427387903 := by unfold dlN; omega
def dlL (z : Nat → Int) (i : Nat) : List Nat := (List.range i).map fun j => dlN (z j)
theorem dlL_len (z : Nat → Int) (i : Nat) : (dlL z i).length = i := by simp [dlL]
theorem dlL_succ (z : Nat → Int) (i : Nat) : dlL z (i + 1) = dlL z i ++ [dlN (z i)] := by simp [dlL, List.range_succ]
structure Fil (w0 w : World) (g mb : Nat) (L : List Nat) : Prop where
  ga : Gau w g mb L L.length
  lo : w0.heap.size ≤ g ∧ w0.heap.size ≤ mb
  bel : Below w0.heap.size w0 w
set_option maxHeartbeats 4000000 in
theorem filled_any (a0 : Option Addr) (n cap : Nat) (z : Nat → Int) (w : World) (h : ZIn w a0 n z) (hn : n ≤ 100) :
    Calls Tryz.prog 17 #[.slice a0 n cap] w fun e w' => ∃ g mb, e = .returned (.pointer (some ⟨g, 0, none⟩)) ∧ Fil w w' g mb (dlL z n) := by
  have HI : Hid (ZIn w a0 n z) := h
  clear h
  go_enter Tryz.func17, Tryz.ntmps17
  go_wp2_with fail
  refine Calls.mono (gnew_any w) ?_
  rintro e w1 ⟨g, mb, rfl, hg, hmb, hG1, hb1⟩
  have F1 : Hid (Fil w w1 g mb (dlL z 0)) := ⟨hG1, ⟨hg, hmb⟩, hb1⟩
  clear hg hmb hG1 hb1
  go_wp2_with fail
  go_loopw [4] (fun t wr => ∃ (i : Nat), i ≤ n ∧ t = .int .i64 (i : Int) ∧ Fil w wr g mb (dlL z i)) (fun t _ => n - (RowKit.intOf t).toNat)
  case atStart => exact ⟨0, by omega, rfl, F1.out⟩
  case round =>
    clear F1
    obtain ⟨i, hi, rfl, hF⟩ := hrel
    have F2 : Hid (Fil w wr g mb (dlL z i)) := hF
    clear hF
    by_cases hin : i < n
    · have h100 : i < 100 := by omega
      obtain ⟨gs, o, rfl, c0⟩ := (HI.out.go F2.out.bel).at hin
      have hm : bits .and .i64 (z i) 4611686018427387903 = (dlN (z i) : Int) := by rw [i64_and62]; unfold dlN; omega
      have CA : Hid (Calls Tryz.prog 11 #[.pointer (some ⟨g, 0, none⟩), .int .i64 (dlN (z i) : Int), .int .i64 1] wr fun e w' => e = .returned (.int .i64 0) ∧ Gau w' g mb (dlL z i ++ [dlN (z i)]) ((dlL z i).length + 1) ∧ Fb (fun k => k = g ∨ k = mb) wr w') := gadd_yes g mb (dlN (z i)) 1 (dlL z i) (dlL z i).length wr F2.out.ga (by have := dlN_le (z i); omega) (by omega) (by omega) (by rw [dlL_len]; omega)
      go_wp2_with fail
      with_reducible refine Calls.mono CA.out ?_
      rintro e w2 ⟨rfl, hG, hf⟩
      have F3 : Hid (Fil w w2 g mb (dlL z (i + 1))) := by
        rw [dlL_succ]
        refine ⟨?_, F2.out.lo, Below.trans F2.out.bel (hf.below (lb := w.heap.size) F2.out.bel.size (fun k e => by rcases e with rfl | rfl; exact F2.out.lo.1; exact F2.out.lo.2))⟩
        rw [List.length_append, List.length_singleton]
        exact hG
      clear hG hf CA c0 hm
      go_wp2_with fail
      go_roundw
      case rel => exact ⟨i + 1, by omega, by go_num, F3.out⟩
      case measure => simp [RowKit.intOf]; omega
    obtain rfl : i = n := by omega
    go_wp2_with fail
    go_ret
    exact ⟨g, mb, rfl, F2.out⟩
theorem Tryz.infoZ : (Tryz.prog.info? 3).map (fun i => (i.zero, i.size, i.bytes)) = some (some (.int .i64 0), 1, 8) := by kernel_rfl
theorem wp_appI {w : World} {ops : Array Oper} {rest : List Oper} {o : Oper} {a : Act} {Q : Exit → Act → World → Prop} (hgd : o.guard = none) (s x : Operand)
    (ho : o.op = .call { callee := .builtin .append, args := #[s, x], argTypes := #[34, 34] }) (base : Nat) (v : Value) (xs : List Int) (hs : a.eval s = v) (hown : w.ownsRow base 3 1 v xs.length (xs.map encZ))
    (g off m c : Nat) (ys : List Int) (hx : a.eval x = .slice (some ⟨g, off, none⟩) m c) (hm : ys.length = m) (hy : ∀ j, (hj : j < ys.length) → w.cell? ⟨g, off + j, none⟩ = some (.int .i64 (ys[j]))) (hlim : xs.length + m ≤ 1000000) (hb : base ≤ w.heap.size)
    (h : ∀ v' w', Hid (w'.ownsRow base 3 1 v' (xs ++ ys).length ((xs ++ ys).map encZ) ∧ w.grownBy w' v.ownBlock) → wpList Tryz.prog ops Q rest (a.put o.dst v') w') : wpList Tryz.prog ops Q (o :: rest) a w := by
  obtain ⟨i, hi, hz, hsz, hby⟩ := info_parts Tryz.infoZ
  refine wpList_append_own_at w hgd s x 34 ho base 3 i _ 1 8 Tryz.underlying34 hi hz hsz hby rfl (by omega) v _ _ hs hown ⟨g, off, none⟩ m c (ys.map encZ) hx (by rw [List.length_map, hm, Nat.mul_one]) (fun j u hj => ?_) (fun u hu => ?_) (by simp only [maxLen]; omega) (by omega) hb (fun v' w' h1 h2 _ _ => h v' w' ⟨?_, h2⟩)
  · rw [List.getElem?_map] at hj
    rcases Nat.lt_or_ge j ys.length with e | e
    · rw [List.getElem?_eq_getElem e] at hj
      cases hj
      rw [ax_addF]
      exact hy j e
    rw [List.getElem?_eq_none e] at hj
    cases hj
  · obtain ⟨y, _, rfl⟩ := List.mem_map.1 hu
    rfl
  rw [List.length_append, hm, List.map_append]
  exact h1
theorem appI_end {w wr w7 : World} {b1 j cap : Nat} {f' : Nat → Int} {v7 : Value} (HV : Hid (w7.ownsRow b1 3 1 v7 ((List.range j).map f' ++ [-4, -5]).length (((List.range j).map f' ++ [-4, -5]).map encZ) ∧ wr.grownBy w7 (Value.slice (some ⟨b1, 0, none⟩) j cap).ownBlock)) (OW : wr.ownsRow b1 3 1 (.slice (some ⟨b1, 0, none⟩) j cap) ((List.range j).map f').length (((List.range j).map f').map encZ)) (FA : Hid (Fb (fun k => k = b1) w wr)) :
    ∃ (m : Nat) (a7 : Option Addr) (cap7 : Nat), (m : Int) = (j : Int) + 2 ∧ m ≤ cap7 ∧ cap7 ≤ 9223372036854775807 ∧ v7 = .slice a7 m cap7 ∧ Hid (Fb (fun k => k = b1) w w7) := by
  obtain ⟨a7, cap7, e7, h71, h72, _⟩ := rowI_sl HV.out.1
  have hl7 : ((List.range j).map f' ++ [-4, -5]).length = j + 2 := by simp
  rw [hl7] at e7 h71
  exact ⟨j + 2, a7, cap7, by push_cast; rfl, h71, h72, e7, FA.out.trans ⟨HV.out.2.os, HV.out.2.tape, HV.out.2.output, HV.out.2.size, fun i hi hn => HV.out.2.block i hi (fun e => hn (by injection e))⟩⟩
set_option maxHeartbeats 8000000 in
theorem sameInts_true (b1 n cap : Nat) (f : Nat → Int) (b2 o2 cap2 : Nat) (w : World) (h : w.rowIs b1 3 cap (fun i => .int .i64 (f i))) (hn : n + 2 ≤ cap) (hcap : cap ≤ 100000) (hne : b2 ≠ b1) (h2 : ∀ i, i < n → w.cell? ⟨b2, o2 + i, none⟩ = some (.int .i64 (f i))) :
    Calls Tryz.prog 23 #[.slice (some ⟨b1, 0, none⟩) n cap, .slice (some ⟨b2, o2, none⟩) n cap2] w fun e w' => e = .returned (.bool true) ∧ Fb (fun k => k = b1) w w' := by
  have HR : Hid (w.rowIs b1 3 cap (fun i => .int .i64 (f i))) := h
  have H2 : Hid (∀ i, i < n → w.cell? ⟨b2, o2 + i, none⟩ = some (.int .i64 (f i))) := h2
  clear h h2
  go_enter Tryz.func23, Tryz.ntmps23
  go_upto_region 4 with fail
  go_loopw [5] (fun t wr => ∃ (i : Nat), i ≤ n ∧ t = .int .i64 (i : Int) ∧ Hid (Below w.heap.size w wr ∧ wr.heap = w.heap)) (fun t _ => n - (RowKit.intOf t).toNat)
  case atStart => exact ⟨0, by omega, rfl, Below.refl _ _, rfl⟩
  case round =>
    obtain ⟨i, hi, rfl, hw⟩ := hrel
    have HW : Hid (Below w.heap.size w wr ∧ wr.heap = w.heap) := hw
    clear hw
    by_cases hin : i < n
    · have R1 := HR.out.of_block (w' := wr) (by rw [HW.out.2])
      have k0 := R1.cell (i := i) (by omega)
      have k1 := cell_later HW.out.1 (H2.out i hin)
      clear R1
      have heq : ((f i : Int) != f i) = false := by simp
      have BD : Hid (∀ nq, Below w.heap.size w (wr.drewN nq) ∧ (wr.drewN nq).heap = w.heap) := fun nq => ⟨⟨HW.out.1.os, HW.out.1.tape, HW.out.1.output, HW.out.1.size, HW.out.1.block⟩, HW.out.2⟩
      go_upto_region 6 with fail
      go_quiet (fail)
      go_wp2_with fail
      go_roundw
      case rel => exact ⟨i + 1, by omega, by go_num, BD.out _⟩
      case measure => simp [RowKit.intOf]; omega
    obtain rfl : i = n := by omega
    have RW : Hid (wr.rowIs b1 3 cap (fun i => .int .i64 (f i))) := HR.out.of_block (w' := wr) (by rw [HW.out.2])
    have FW : Hid (Fb (fun k => k = b1) w wr) := Fb.of HW.out.1
    clear HR H2 HW
    go_wp2_with fail
    go_loopw [6] (fun t w9 => ∃ (j : Nat) (f' : Nat → Int), j ≤ i ∧ t = .int .i64 (j : Int) ∧ Hid (w9.rowIs b1 3 cap (fun i => .int .i64 (f' i)) ∧ Fb (fun k => k = b1) w w9)) (fun t _ => i - (RowKit.intOf t).toNat)
    case atStart => exact ⟨0, f, by omega, rfl, RW.out, FW.out⟩
    case round =>
      clear RW FW
      obtain ⟨j, f', hj, rfl, hw⟩ := hrel
      have HW : Hid (wr.rowIs b1 3 cap (fun i => .int .i64 (f' i)) ∧ Fb (fun k => k = b1) w wr) := hw
      clear hw
      by_cases hji : j < i
      · have k0 := HW.out.1.cell (i := j) (by omega)
        have f0 := HW.out.1.frozen j
        have R2 := (HW.out.1.set j (.int .i64 (-3))).congr (g := fun m => .int .i64 ((fun m => if m = j then -3 else f' m) m)) fun m hm => by
          by_cases e : m = j <;> simp [e]
        have F2 := HW.out.2.set (x := ⟨b1, j, none⟩) rfl (.int .i64 (-3))
        have HN : Hid ((wr.setCell ⟨b1, j, none⟩ (.int .i64 (-3))).rowIs b1 3 cap (fun m => .int .i64 ((fun m => if m = j then -3 else f' m) m)) ∧ Fb (fun k => k = b1) w (wr.setCell ⟨b1, j, none⟩ (.int .i64 (-3)))) := ⟨R2, F2⟩
        clear R2 F2 HW
        go_wp2_with fail
        go_roundw
        case rel => exact ⟨j + 1, _, by omega, by go_num, HN.out⟩
        case measure => simp [RowKit.intOf]; omega
      obtain rfl : j = i := by omega
      have OW : Hid ((wr.alloc (.cells #[.int .i64 (-4), .int .i64 (-5)] 3)).ownsRow b1 3 1 (.slice (some ⟨b1, 0, none⟩) j cap) ((List.range j).map f').length (((List.range j).map f').map encZ)) := by
        obtain ⟨cs, hb, hs, hc⟩ := HW.out.1
        have hlt := (Array.getElem?_eq_some_iff.1 hb).1
        refine ⟨by simp, .inr ⟨b1, cap, cs, by simp, Nat.le_refl _, ?_, by simp; omega, by simp only [maxLen]; omega, by omega, ?_⟩⟩
        · exact ((bel_al (bel_refl wr) : Below wr.heap.size wr (wr.alloc (.cells #[.int .i64 (-4), .int .i64 (-5)] 3))).block _ hlt).trans hb
        apply List.ext_getElem?
        intro m
        by_cases hm : m < j
        · rw [List.getElem?_take_of_lt (by simp; omega), Array.getElem?_toList, hc m (by omega)]
          simp [hm, encZ]
        rw [List.getElem?_eq_none (by simp; omega), List.getElem?_eq_none (by simp; omega)]
      have FA : Hid (Fb (fun k => k = b1) w (wr.alloc (.cells #[.int .i64 (-4), .int .i64 (-5)] 3))) := HW.out.2.go (bel_al (bel_refl wr))
      have hsz : b1 ≤ (wr.alloc (.cells #[.int .i64 (-4), .int .i64 (-5)] 3)).heap.size := by
        have := World.rowIs.lt HW.out.1
        show _ ≤ (wr.heap.push _).size
        rw [Array.size_push]
        omega
      clear HW
      go_wp2_with (refine (id ?_ : wpList Tryz.prog _ _ (⟨some 39, _, _, _, _, _⟩ :: _) _ _); refine wp_appI rfl (.tmp 37) (.tmp 38) rfl b1 (.slice (some ⟨b1, 0, none⟩) j cap) ((List.range j).map f') rfl OW.out wr.heap.size 0 2 2 [-4, -5] rfl rfl (fun m hm => by
        match m, hm with
        | 0, _ => simp [go_sem]
        | 1, _ => simp [go_sem]) (by simp; omega) hsz ?_; intro v7 w7 HV; obtain ⟨m, a7, cap7, hmi, h71, h72, rfl, FV⟩ := appI_end HV OW.out FA)
      go_ret
      exact ⟨rfl, FV.out⟩
end Go.Proofs.YtfkkomppfghagaaGreatDoor
namespace Go.Proofs.YtfkkomppfghagaaGreatDoor
open Go.RowKit Go.Maps
set_option maxRecDepth 100000
set_option linter.unusedVariables false
def dvG (p : Nat → Bool) (L : List Nat) (j : Nat) : Nat := L.countP fun d => p d && decide (bitLen d = j)
def tdG (p : Nat → Bool) : List Nat → Nat
  | [] => 0
  | d :: r => if p d = true then max (bitLen d + 1) (tdG p r) else tdG p r
theorem dvG_none (L : List Nat) (j : Nat) {p : Nat → Bool} (h : ∀ d ∈ L, p d = false) : dvG p L j = 0 := by
  unfold dvG
  rw [List.countP_eq_zero]
  intro d hd
  simp [h d hd]
theorem tdG_none {L : List Nat} {p : Nat → Bool} (h : ∀ d ∈ L, p d = false) : tdG p L = 0 := by
  induction L with
  | nil => rfl
  | cons d r ih =>
    rw [tdG, if_neg (by rw [h d (List.mem_cons_self ..)]; simp)]
    exact ih fun x hx => h x (List.mem_cons_of_mem _ hx)
theorem dvG_step {L : List Nat} {p q : Nat → Bool} {x j : Nat} (h : ∀ d ∈ L, q d = (p d || decide (d = x))) (hp : p x = false) : dvG q L j = dvG p L j + if bitLen x = j then cntL L (x : Int) else 0 := by
  unfold dvG cntL
  induction L with
  | nil => simp
  | cons d r ih =>
    have ih' := ih fun y hy => h y (List.mem_cons_of_mem _ hy)
    have hd := h d (List.mem_cons_self ..)
    rw [List.countP_cons, List.countP_cons, List.countP_cons, ih', hd]
    by_cases e : d = x
    · subst e
      by_cases ej : bitLen d = j <;> simp [hp, ej]; omega
    have e' : ¬ ((d : Int) = (x : Int)) := by omega
    by_cases ej : bitLen x = j <;> simp [e, e', ej] <;> omega
theorem tdG_step {L : List Nat} {p q : Nat → Bool} {x : Nat} (h : ∀ d ∈ L, q d = (p d || decide (d = x))) (hx : x ∈ L) : tdG q L = max (tdG p L) (bitLen x + 1) := by
  have key : ∀ M : List Nat, (∀ d ∈ M, q d = (p d || decide (d = x))) → tdG q M = if x ∈ M then max (tdG p M) (bitLen x + 1) else tdG p M := by
    intro M
    induction M with
    | nil => simp [tdG]
    | cons d r ih =>
      intro hM
      have ih' := ih fun y hy => hM y (List.mem_cons_of_mem _ hy)
      have hd := hM d (List.mem_cons_self ..)
      rw [tdG, tdG, hd, ih']
      by_cases e : d = x
      · subst e
        by_cases hr : d ∈ r <;> cases hp : p d <;> simp [hr] <;> omega
      have e2 : ¬ x = d := fun c => e c.symm
      by_cases hr : x ∈ r <;> cases hp : p d <;> simp [hr, e, e2] <;> omega
  rw [key L h, if_pos hx]
theorem RiG_all {v : Value} {y : DataW Unit × List MemPlace} (h : RiG v = some y) : ∃ c, v = Value.int .i64 c := by
  unfold RiG at h
  split at h
  · exact ⟨_, rfl⟩
  cases h
set_option maxHeartbeats 1000000 in
theorem blen_any (n : Nat) (w : World) (hn : n < 18446744073709551616) : Calls Tryz.prog 54 #[.int .u64 (n : Int)] w fun e w' => e = .returned (.int .i64 ((bitLen n : Nat) : Int)) ∧ w' = w := by
  go_enter Tryz.func54, Tryz.ntmps54
  go_wp2_with fail
  refine Calls.mono (len64_any n w hn) ?_
  rintro e w1 ⟨rfl, rfl⟩
  go_wp2_with fail
  go_ret
  exact ⟨rfl, rfl⟩
def gone (left : Lit → Bool) (D : DataW Unit) (d : Nat) : Bool := !left (.int .i64 (d : Int))
theorem Tryz.infoZd : (Tryz.prog.info? 3).map (fun i => (i.zero, i.size, i.bytes)) = some (some (.int .i64 0), 1, 8) := by kernel_rfl
theorem make64 (w : World) : (Instr.makeSlice 34 (.int .i64 64) (.int .i64 64)).run Tryz.prog w = .ok (.slice (some ⟨w.heap.size, 0, none⟩) 64 64) (w.alloc (.cells (madeCells #[Value.int .i64 0] 64) 3)) := by
  obtain ⟨i, hi, hz, hs, hb⟩ := info_parts Tryz.infoZd
  rw [run_make w 34 3 i (.int .i64 0) Tryz.underlying34 hi hz .i64 .i64 64 64 (by omega) (by omega) (by rw [hb]; omega) (by omega), hs]
  simp [Value.cells]
theorem bitLen_63 {d : Nat} (h : d ≤ 9223372036854775807) : bitLen d ≤ 63 := bitLen_le_of (Nat.lt_of_le_of_lt h (by decide +kernel))
theorem tdG_le {p : Nat → Bool} {L : List Nat} (h : ∀ d ∈ L, d ≤ 9223372036854775807) : tdG p L ≤ 64 := by
  induction L with
  | nil => simp [tdG]
  | cons d r ih =>
    have h1 := ih fun x hx => h x (List.mem_cons_of_mem _ hx)
    have h2 := bitLen_63 (h d (List.mem_cons_self ..))
    rw [tdG]
    split <;> omega
set_option maxHeartbeats 8000000 in
theorem delays_any (g mb : Nat) (L : List Nat) (B : Nat) (w : World) (h : Gau w g mb L B) :
    Calls Tryz.prog 22 #[.pointer (some ⟨g, 0, none⟩)] w fun e w' => ∃ b, e = .returned (.slice (some ⟨b, 0, none⟩) (tdG (fun _ => true) L) 64) ∧ w.heap.size ≤ b ∧ w'.rowIs b 3 64 (fun j => .int .i64 (dvG (fun _ => true) L j : Int)) ∧ Below w.heap.size w w' := by
  obtain ⟨D, n, hown, hln, hat, hhas⟩ := h.mp
  obtain ⟨a0, n0, c0, hr, _⟩ := h.row
  have c3 := hr.cell (i := 3) (by omega)
  have k3 : gaF L.length B (.slice a0 n0 c0) mb 3 = .map (some mb) := rfl
  rw [k3] at c3
  have hfew := h.few
  have HD : Hid (∀ d ∈ L, d ≤ 9223372036854775807) := h.del
  have HM : Hid ((∀ i : Int, D.atKey (.int .i64 i) (.lit (.int .i64 0)) = .lit (.int .i64 (cntL L i))) ∧ ∀ i : Int, Maps.has D (.int .i64 i) = true ↔ 0 < cntL L i) := ⟨hat, hhas⟩
  obtain ⟨w0, hw0⟩ : ∃ w0, w0 = w.alloc (.cells (madeCells #[Value.int .i64 0] 64) 3) := ⟨_, rfl⟩
  obtain ⟨b, hb⟩ : ∃ b, b = w.heap.size := ⟨_, rfl⟩
  have R0 : w0.rowIs b 3 64 (fun _ => .int .i64 0) := by rw [hw0, hb]; exact World.rowIs_made w (.int .i64 0) 64 3
  have B0 : Below w.heap.size w w0 := by rw [hw0]; exact bel_al (bel_refl w)
  have c3' := cell_later B0 c3
  have hown0 : w0.ownsMap Tryz.prog 3 RiG mb n D := by
    obtain ⟨es, clock, hbk, rest⟩ := hown
    exact ⟨es, clock, (B0.block _ (Array.getElem?_eq_some_iff.1 hbk).1).trans hbk, rest⟩
  have hmbw : mb < w.heap.size := h.mp.lt
  clear h hr k3 hat hhas hown
  go_enter Tryz.func22, Tryz.ntmps22
  have mk := make64 w
  go_upto_region 3 with fail
  rw [← hw0, ← hb]
  have B0' : Hid (Below w.heap.size w w0) := B0
  have HBB : Hid (b = w.heap.size) := hb
  have hb0 : b < w0.heap.size := World.rowIs.lt R0
  have ROW : Hid (w0.rowIs b 3 64 (fun _ => .int .i64 0)) := R0
  clear hw0 hb B0 mk c3 R0
  obtain ⟨r, hr⟩ : ∃ r, r = w0.heap.size := ⟨_, rfl⟩
  go_wp2_with (first
    | (at_range; refine wpList_range_own _ rfl _ 73 rfl 3 3 (Maps.int_keyed Tryz.underlying3) Tryz.underlying73 RiG mb n D rfl hown0 ?_; intro w1 hrg0 hg0 hs0)
    | go_in)
  go_frame
  rw [← hr] at hrg0
  rw [← hr]
  have B1 : Hid (Below w.heap.size w w1) := Below.trans B0'.out (Fb.below (S := fun k => none = some k) ⟨hg0.os, hg0.tape, hg0.output, hg0.size, fun i hi hn => hg0.block i hi (fun e => by cases e)⟩ (lb := w.heap.size) B0'.out.size (fun k e => by cases e))
  have RW1 : Hid (w1.rowIs b 3 64 (fun j => .int .i64 (dvG (gone (Maps.has D) D) L j : Int)) ∧ tdG (gone (Maps.has D) D) L = 0) := by
    have hg : ∀ d ∈ L, gone (Maps.has D) D d = false := fun d hd => by
      unfold gone
      rw [(HM.out.2 d).2 (cntL_pos.2 ⟨d, hd, rfl⟩)]
      rfl
    refine ⟨(ROW.out.of_block (hg0.block b hb0 (by simp))).congr fun j hj => ?_, tdG_none hg⟩
    rw [dvG_none L j hg]
    rfl
  have HRG : Hid (w1.ranges Tryz.prog 3 RiG mb r n D (Maps.has D) (Maps.size D)) := hrg0
  have hrb : r ≠ b := by rw [hr]; omega
  have hmb : mb ≠ b := by have := HBB.out; omega
  have HNE : Hid (r ≠ b ∧ mb ≠ b ∧ w.heap.size ≤ b ∧ w.heap.size ≤ r) := ⟨hrb, hmb, by have := HBB.out; omega, by rw [hr]; exact B0'.out.size⟩
  clear hrg0 hg0 hs0 hown0 hr hb0 ROW c3' hmbw hrb hmb B0' hln
  go_loopw [4] (fun s4 wr => ∃ (left : Lit → Bool) (cnt : Nat), wr.ranges Tryz.prog 3 RiG mb r n D left cnt ∧ wr.rowIs b 3 64 (fun j => .int .i64 (dvG (gone left D) L j : Int)) ∧ s4 = .int .i64 (tdG (gone left D) L : Int) ∧ Below w.heap.size w wr) (fun _ wr => wr.rangeLeft mb r)
  case atStart => exact ⟨_, _, HRG.out, RW1.out.1, by rw [RW1.out.2]; rfl, B1.out⟩
  case round =>
    clear HRG RW1 B1
    obtain ⟨left, cnt, hrg, hrow, rfl, hbw⟩ := hrel
    have ROWr : Hid (wr.rowIs b 3 64 (fun j => .int .i64 (dvG (gone left D) L j : Int))) := hrow
    have BR : Hid (Below w.heap.size w wr) := hbw
    have htd : tdG (gone left D) L ≤ 64 := tdG_le HD.out
    clear hrow hbw
    go_wp2_with (first
      | (at_next; refine wpList_next_ranges _ rfl _ rfl 3 (Maps.int_keyed Tryz.underlying3) RiG (Value.int .i64) (Value.int .i64) (fun key kl hkey => by obtain ⟨x, rfl, _⟩ := Maps.keyOf_int_inv Tryz.underlying3 hkey; exact ⟨x, rfl⟩) (fun v y hv => RiG_all hv) mb r n _ _ _ rfl hrg ?_ ?_)
      | go_in)
    · intro _ hl0
      have hgl : gone left D = fun _ => true := by
        funext d
        unfold gone
        rw [hl0]
        rfl
      rw [hgl] at ROWr htd ⊢
      clear hgl hrg
      go_wp2_with fail
      go_ret
      exact ⟨b, rfl, HNE.out.2.2.1, ROWr.out, BR.out⟩
    intro x c kl y ys w1 cnt1 hkey hlk hv hat hrg1 hlt hg1 hs1 hen
    obtain ⟨x', ex, rfl, hwx⟩ := Maps.keyOf_int_inv Tryz.underlying3 hkey
    cases ex
    obtain rfl : y = .lit (.int .i64 c) := by
      have := hv
      rw [RiG_mk] at this
      injection this with this
      injection this with this
      exact this.symm
    have hin := (HM.out.2 x).1 (Maps.has_true_of_atKey hat)
    obtain ⟨d, hdL, rfl⟩ := cntL_pos.1 hin
    obtain rfl : c = (cntL L (d : Int) : Int) := by
      have h1 := hat (.lit (.int .i64 0))
      rw [HM.out.1] at h1
      injection h1 with h1
      injection h1 with _ h1
      exact h1.symm
    have hd1 := HD.out d hdL
    have hb63 := bitLen_63 hd1
    have hstep : ∀ e ∈ L, gone (fun z => left z && !z.sameKey (.int .i64 (d : Int))) D e = (gone left D e || decide (e = d)) := fun e _ => by
      unfold gone
      by_cases ee : e = d
      · subst ee
        simp [Lit.sameKey]
      dsimp only
      rw [Maps.sameKey_ne (show Lit.int .i64 (e : Int) ≠ Lit.int .i64 (d : Int) from fun h => by injection h with _ h; omega)]
      simp [ee]
    have hp : gone left D d = false := by unfold gone; rw [hlk]; rfl
    have ST : Hid ((∀ j, dvG (gone (fun z => left z && !z.sameKey (.int .i64 (d : Int))) D) L j = dvG (gone left D) L j + if bitLen d = j then cntL L (d : Int) else 0) ∧ tdG (gone (fun z => left z && !z.sameKey (.int .i64 (d : Int))) D) L = max (tdG (gone left D) L) (bitLen d + 1)) := ⟨fun j => dvG_step hstep hp, tdG_step hstep hdL⟩
    have hdv : dvG (gone left D) L (bitLen d) ≤ 1000 := Nat.le_trans List.countP_le_length hfew
    have hcn : cntL L (d : Int) ≤ 1000 := Nat.le_trans (cntL_le L _) hfew
    have ROW1 := ROWr.out.of_block (hg1.block b (World.rowIs.lt ROWr.out) (by have := HNE.out.1; simp; omega))
    have k0 := ROW1.cell (i := bitLen d) (by omega)
    have f0 := ROW1.frozen (bitLen d)
    have B1 : Hid (Below w.heap.size w w1) := Below.trans BR.out (Fb.below (S := fun k => some r = some k) ⟨hg1.os, hg1.tape, hg1.output, hg1.size, fun i hi hn => hg1.block i hi (fun e => hn e.symm)⟩ (lb := w.heap.size) BR.out.size (fun k e => by have := HNE.out.2.2.2; injection e with e; omega))
    have HG : Hid (w1.ranges Tryz.prog 3 RiG mb r n D (fun z => left z && !z.sameKey (.int .i64 (d : Int))) cnt1 ∧ cnt1 < cnt ∧ w1.rowIs b 3 64 (fun j => .int .i64 (dvG (gone left D) L j : Int)) ∧ wr.rangeLeft mb r = cnt) := ⟨hrg1, hlt, ROW1, hrg.left_eq⟩
    have hwr : IntKind.u64.wrap (d : Int) = (d : Int) := by rw [IntKind.wrap_u64]; omega
    have CL : Hid (Calls Tryz.prog 54 #[.int .u64 (d : Int)] w1 fun e w' => e = .returned (.int .i64 ((bitLen d : Nat) : Int)) ∧ w' = w1) := blen_any d w1 (by omega)
    clear hkey hlk hv hat hrg1 hlt hg1 hs1 hin hstep hp ROW1 hwx hrg ROWr BR hwr hdL
    go_wp2_with fail
    with_reducible refine Calls.mono CL.out ?_
    rintro e w2 ⟨rfl, rfl⟩
    go_wp2_with fail
    have FS : Fb (fun k => k = b) w2 (w2.setCell ⟨b, bitLen d, none⟩ (.int .i64 ((dvG (gone left D) L (bitLen d) : Int) + (cntL L (d : Int) : Int)))) := (Fb.refl (fun k => k = b) w2).set (x := ⟨b, bitLen d, none⟩) rfl _
    have RG := HG.out.1.kept (w' := w2.setCell ⟨b, bitLen d, none⟩ (.int .i64 ((dvG (gone left D) L (bitLen d) : Int) + (cntL L (d : Int) : Int)))) (row := some b) ⟨FS.os, FS.tape, FS.output, FS.size, fun k hk hne => FS.block k hk fun e => hne (by rw [e])⟩ (by have := HNE.out.2.1; simp; omega) (by have := HNE.out.1; simp; omega)
    have RS := (HG.out.2.2.1.set (bitLen d) (.int .i64 ((dvG (gone left D) L (bitLen d) : Int) + (cntL L (d : Int) : Int)))).congr (g := fun j => .int .i64 (dvG (gone (fun z => left z && !z.sameKey (.int .i64 (d : Int))) D) L j : Int)) fun j hj => by
      rw [ST.out.1 j]
      by_cases e : j = bitLen d
      · rw [if_pos e, if_pos e.symm, e]
        push_cast
        rfl
      rw [if_neg e, if_neg (fun h => e h.symm), Nat.add_zero]
    go_roundw
    case rel =>
      refine ⟨_, cnt1, RG, RS, ?_, B1.out.setCell (p := ⟨b, bitLen d, none⟩) HNE.out.2.2.1 _⟩
      rw [ST.out.2]
      congr 1
      first | (split <;> omega) | omega
    case measure =>
      rw [RG.left_eq, HG.out.2.2.2]
      exact HG.out.2.1
end Go.Proofs.YtfkkomppfghagaaGreatDoor
