/- Contracts of the program's functions, part 15: own work, joined in build order. -/
import Derived.Test.YtfkkomppfghagaaGreatDoorJ14
import Derived.Deep.Slices
import Derived.Deep.Grids
import Derived.ChangeSlices
import Derived.ProofKit
import Derived.SizedLaws
import Derived.OpenShut
import Derived.Maps.AppendAt
namespace Go.Proofs.YtfkkomppfghagaaGreatDoor
open Go.RowKit
set_option maxRecDepth 100000
set_option linter.unusedVariables false
def L18 : List Nat := [4, 1, 4]
theorem keys18 : KeysG L18 [1, 4] := by
  refine ⟨fun x => ?_, by decide, by decide⟩
  rw [cntL_pos]
  simp [L18]
  omega
theorem qf18a : qfG (cntL L18) [1, 4] (plG L18.length 1 1) = (4, true) := by decide +kernel
theorem qf18b : qfG (cntL L18) [1, 4] (plG L18.length 1 2) = (4, true) := by decide +kernel
theorem qf18c : qfG (cntL L18) [1, 4] (plG L18.length 99 100) = (4, true) := by decide +kernel
theorem tel18 : telV L18 25 100 4 4 4 4 5 = .agg #[.float .f64 4613937818241073152, .float .f64 4616189618054758400, .float .f64 4616189618054758400, .float .f64 4616189618054758400, .float .f64 4598175219545276416, .float .f64 4605380978949069210] := by
  unfold telV
  rw [show tfV (mnP L18) (mnQ L18) = 4613937818241073152 by decide +kernel, show tfV 4 1 = 4616189618054758400 by decide +kernel, show tfV (shP 25 100) (shQ 25 100) = 4598175219545276416 by decide +kernel, show tfV 4 5 = 4605380978949069210 by decide +kernel]
theorem jain18 (g : Nat) (u1 u2 u3 u4 : Value) (w : World) (e0 : w.cell? ⟨g, 0, none⟩ = some u1) (e1 : w.cell? ⟨g, 1, none⟩ = some u2) (e2 : w.cell? ⟨g, 2, none⟩ = some u3) (e3 : w.cell? ⟨g, 3, none⟩ = some u4) (r1 : Rt w (.agg #[u1, u2]) 1 1) (r2 : Rt w (.agg #[u3, u4]) 3 1) (hT : Tab w) :
    Calls Tryz.prog 13 #[.slice (some ⟨g, 0, none⟩) 2 2] w fun e w' => ∃ x y ok, (ok = true ∧ x = 4 ∧ y = 5) ∧ MakesRB w x y ok e w' := by
  have hF : Fq 2 (fun i => if i = 0 then 1 else 3) (fun _ => 1) (fun i => if i = 0 then 1 else 3) (fun _ => 1) := by
    refine ⟨by omega, fun i hi => ?_, fun i hi => ⟨?_, ?_⟩⟩
    · refine ⟨by simp, by omega, by omega, rfl, ?_, ?_⟩
      · rw [P_one]; split <;> omega
      rw [P_one]; omega
    · rw [P_one]; split <;> omega
    rw [P_one]; omega
  refine (jain_any g 2 2 (fun i => if i = 0 then u1 else u3) (fun i => if i = 0 then u2 else u4) _ _ _ _ w hF (by omega) (by omega) (fun i hi => ?_) (World.block_lt_of_cell? _ _ e0) hT).mono ?_
  · match i, hi with
    | 0, _ => exact ⟨e0, e1, r1⟩
    | 1, _ => exact ⟨e2, e3, r2⟩
  rintro e w' ⟨x, y, ok, ⟨h1, _, _, _, h5⟩, hm⟩
  have hn : nu2 (fun i => if i = 0 then 1 else 3) (fun _ => 1) 2 = 10 := by decide +kernel
  have hn1 : nu1 (fun i => if i = 0 then 1 else 3) (fun _ => 1) 2 = 4 := by decide +kernel
  rw [hn] at h1 h5
  rw [hn1] at h5
  have f := h5 (by omega)
  have f2 : Fc 4 5 (4 * 4) (10 * 2) 1 := ⟨by decide, by omega, by omega, by omega, by rw [P_one]; omega, by rw [P_one]; omega⟩
  obtain ⟨rfl, rfl⟩ := f.one f2
  exact ⟨4, 5, ok, ⟨by rw [h1]; decide, rfl, rfl⟩, hm⟩
set_option maxHeartbeats 8000000 in
theorem started18 (w : World) (hT : Tab w) : Calls Tryz.prog 16 #[] w fun e w' => e = .returned (.bool true) ∧ Below w.heap.size w w' := by
  have HT : Hid (Tab w) := hT
  clear hT
  go_enter Tryz.func16, Tryz.ntmps16
  go_wp2_with fail
  refine Calls.mono (gnew_any w) ?_
  rintro e w1 ⟨g, mb, rfl, hg, hmb, hG1, hb1⟩
  have LO : Hid (w.heap.size ≤ g ∧ w.heap.size ≤ mb) := ⟨hg, hmb⟩
  have A1 : Hid (Calls Tryz.prog 11 #[.pointer (some ⟨g, 0, none⟩), .int .i64 4, .int .i64 10] w1 fun e w' => e = .returned (.int .i64 0) ∧ Gau w' g mb ([] ++ [4]) (0 + 10) ∧ Fb (fun k => k = g ∨ k = mb) w1 w') := gadd_yes g mb 4 10 [] 0 w1 hG1 (by omega) (by omega) (by omega) (by simp)
  have B1 : Hid (Below w.heap.size w w1) := hb1
  clear hg hmb hG1 hb1
  go_wp2_with fail
  refine Calls.mono A1.out ?_
  rintro e w2 ⟨rfl, hG2, hf2⟩
  have B2 : Hid (Below w.heap.size w w2) := Below.trans B1.out (hf2.below (lb := w.heap.size) B1.out.size (fun k e => by rcases e with rfl | rfl; exact LO.out.1; exact LO.out.2))
  have A2 : Hid (Calls Tryz.prog 11 #[.pointer (some ⟨g, 0, none⟩), .int .i64 1, .int .i64 10] w2 fun e w' => e = .returned (.int .i64 0) ∧ Gau w' g mb (([] ++ [4]) ++ [1]) ((0 + 10) + 10) ∧ Fb (fun k => k = g ∨ k = mb) w2 w') := gadd_yes g mb 1 10 _ _ w2 hG2 (by omega) (by omega) (by omega) (by simp)
  clear hG2 hf2 A1 B1
  go_wp2_with fail
  refine Calls.mono (num18_any 0 w2) ?_
  rintro e w3 ⟨rfl, rfl⟩
  go_wp2_with fail
  refine Calls.mono A2.out ?_
  rintro e w4 ⟨rfl, hG4, hf4⟩
  have B4 : Hid (Below w.heap.size w w4) := Below.trans B2.out (hf4.below (lb := w.heap.size) B2.out.size (fun k e => by rcases e with rfl | rfl; exact LO.out.1; exact LO.out.2))
  have A4 : Hid (Calls Tryz.prog 11 #[.pointer (some ⟨g, 0, none⟩), .int .i64 4, .int .i64 5] w4 fun e w' => e = .returned (.int .i64 0) ∧ Gau w' g mb ((([] ++ [4]) ++ [1]) ++ [4]) (((0 + 10) + 10) + 5) ∧ Fb (fun k => k = g ∨ k = mb) w4 w') := gadd_yes g mb 4 5 _ _ w4 hG4 (by omega) (by omega) (by omega) (by simp)
  clear hG4 hf4 A2 B2
  go_wp2_with fail
  refine Calls.mono (num18_any 0 w4) ?_
  rintro e w5 ⟨rfl, rfl⟩
  go_wp2_with fail
  refine Calls.mono A4.out ?_
  rintro e w6 ⟨rfl, hG6, hf6⟩
  have B6 : Hid (Below w.heap.size w w6) := Below.trans B4.out (hf6.below (lb := w.heap.size) B4.out.size (fun k e => by rcases e with rfl | rfl; exact LO.out.1; exact LO.out.2))
  have G6 : Hid (Gau w6 g mb L18 25) := hG6
  clear hG6 hf6 A4 B4
  go_wp2_with fail
  refine Calls.mono (num18_any 0 w6) ?_
  rintro e w7 ⟨rfl, rfl⟩
  go_upto_region 5 with fail
  have O1 : Hid (Calls Tryz.prog 20 #[.int .i64 1, .int .i64 1] w7 (MakesRB w7 1 1 true)) := ratOf_yes 1 1 w7 (by omega) (by omega) (by omega) (HT.out.go B6.out)
  go_upto_region 6 with (go_at_call 20; (with_reducible refine Calls.mono O1.out ?_); rintro e w8 ⟨v8, rfl, hv8, hb8⟩; obtain ⟨p1, n1, c1, p2, n2, c2, rfl⟩ := rt_slices hv8)
  have S8 : Hid _ := (((sx_start w7).go hb8).addF hv8).box (.slice p1 n1 c1) (.slice p2 n2 c2) 47 _ rfl
  obtain ⟨w9, hw9⟩ : ∃ w9, w9 = w8.alloc (.cells #[.slice p1 n1 c1, .slice p2 n2 c2] 47) := ⟨_, rfl⟩
  obtain ⟨b3, hb3⟩ : ∃ b3, b3 = w8.heap.size := ⟨_, rfl⟩
  rw [← hw9, ← hb3] at S8
  rw [← hw9, ← hb3]
  clear hw9 hb3 hv8 hb8 O1
  have O2 : Hid (Calls Tryz.prog 20 #[.int .i64 3, .int .i64 1] w9 (MakesRB w9 3 1 true)) := ratOf_yes 3 1 w9 (by omega) (by omega) (by omega) (HT.out.go (bel_go B6.out S8.out.bel))
  go_upto_region 7 with (go_at_call 20; (with_reducible refine Calls.mono O2.out ?_); rintro e wa ⟨va, rfl, hva, hba⟩; obtain ⟨p3, n3, c3, p4, n4, c4, rfl⟩ := rt_slices hva)
  have Sa : Hid _ := ((S8.out.go hba).addF hva).box (.slice p3 n3 c3) (.slice p4 n4 c4) 47 _ rfl
  obtain ⟨wb, hwb⟩ : ∃ wb, wb = wa.alloc (.cells #[.slice p3 n3 c3, .slice p4 n4 c4] 47) := ⟨_, rfl⟩
  obtain ⟨b5, hb5⟩ : ∃ b5, b5 = wa.heap.size := ⟨_, rfl⟩
  rw [← hwb, ← hb5] at Sa
  rw [← hwb, ← hb5]
  clear hwb hb5 hva hba O2 S8
  have CQ : Hid (Calls Tryz.prog 18 #[.pointer (some ⟨g, 0, none⟩), .int .i64 1, .int .i64 2] wb fun e w' => e = .returned (.tuple #[.int .i64 4, .bool true]) ∧ Below wb.heap.size wb w') := (quantileP_any g mb L18 25 1 2 wb (G6.out.go Sa.out.bel) (by omega) (by omega) (by omega) (by omega)).mono fun e w' ⟨ss, hk, he, hb⟩ => by
    rw [keysG_one hk keys18, qf18b] at he
    exact ⟨he, hb⟩
  go_upto_region 8 with (go_at_call 18; (with_reducible refine Calls.mono CQ.out ?_); rintro e wc ⟨rfl, hbc⟩)
  have Sc : Hid _ := Sa.out.go hbc
  clear CQ Sa hbc
  have y0 := Sc.out.cel b3 0 (.slice p1 n1 c1)
  have y1 := Sc.out.cel b3 1 (.slice p2 n2 c2)
  have y2 := Sc.out.cel b5 0 (.slice p3 n3 c3)
  have y3 := Sc.out.cel b5 1 (.slice p4 n4 c4)
  have hsf := @run_store_floatG Tryz.prog
  go_wp2_with fail
  obtain ⟨wd, hwd⟩ : ∃ wd, wd = wc.alloc (.cells #[.slice p1 n1 c1, .slice p2 n2 c2, .slice p3 n3 c3, .slice p4 n4 c4] 47) := ⟨_, rfl⟩
  obtain ⟨gs, hgs⟩ : ∃ gs, gs = wc.heap.size := ⟨_, rfl⟩
  have e0 : wd.cell? ⟨gs, 0, none⟩ = some (.slice p1 n1 c1) := by rw [hwd, hgs]; simp [go_sem]
  have e1 : wd.cell? ⟨gs, 1, none⟩ = some (.slice p2 n2 c2) := by rw [hwd, hgs]; simp [go_sem]
  have e2 : wd.cell? ⟨gs, 2, none⟩ = some (.slice p3 n3 c3) := by rw [hwd, hgs]; simp [go_sem]
  have e3 : wd.cell? ⟨gs, 3, none⟩ = some (.slice p4 n4 c4) := by rw [hwd, hgs]; simp [go_sem]
  have Sd : Hid _ := Sc.out.go (show Below wc.heap.size wc wd by rw [hwd]; exact bel_al (bel_refl wc))
  have CT : Hid (Calls Tryz.prog 19 #[.pointer (some ⟨g, 0, none⟩), .int .i64 100, .slice (some ⟨gs, 0, none⟩) 2 2] wd fun e w' => e = .returned (.agg #[.float .f64 4613937818241073152, .float .f64 4616189618054758400, .float .f64 4616189618054758400, .float .f64 4616189618054758400, .float .f64 4598175219545276416, .float .f64 4605380978949069210]) ∧ Below wd.heap.size wd w') := by
    refine (gtell_any (fun x y ok => ok = true ∧ x = 4 ∧ y = 5) (fun x y ok h => ⟨by rw [h.2.1]; exact rs_few (by omega), by rw [h.2.2]; exact rs_few (by omega)⟩) g mb L18 25 100 _ wd (G6.out.go Sd.out.bel) (HT.out.go (bel_go B6.out Sd.out.bel)) (by omega) (fun w' h' => jain18 gs _ _ _ _ w' (cell_later h' e0) (cell_later h' e1) (cell_later h' e2) (cell_later h' e3) ((Sd.out.fr (.agg #[.slice p1 n1 c1, .slice p2 n2 c2]) 1 1).mono h') ((Sd.out.fr (.agg #[.slice p3 n3 c3, .slice p4 n4 c4]) 3 1).mono h') (HT.out.go (bel_go (bel_go B6.out Sd.out.bel) h')))).mono ?_
    rintro e w' ⟨ss, k1, k2, k3, x, y, ok, hk, h1, h2, h3, ⟨rfl, rfl, rfl⟩, he, hb⟩
    rw [keysG_one hk keys18] at h1 h2 h3
    rw [qf18a] at h1
    rw [qf18b] at h2
    rw [qf18c] at h3
    obtain rfl : k1 = 4 := by simp at h1; omega
    obtain rfl : k2 = 4 := by simp at h2; omega
    obtain rfl : k3 = 4 := by simp at h3; omega
    rw [if_pos rfl, if_pos rfl, tel18] at he
    exact ⟨he, hb⟩
  rw [← hwd, ← hgs]
  clear hwd hgs y0 y1 y2 y3 e0 e1 e2 e3 Sc
  with_reducible refine Calls.mono CT.out ?_
  rintro e we ⟨rfl, hbe⟩
  have BE : Hid (Below w.heap.size w we) := bel_go (bel_go B6.out Sd.out.bel) hbe
  clear hbe CT Sd
  have o0 : FloatKind.f64.format.order 4613937818241073152 4613937818241073152 = some Ordering.eq := by decide +kernel
  have o1 : FloatKind.f64.format.order 4616189618054758400 4616189618054758400 = some Ordering.eq := by decide +kernel
  have o2 : FloatKind.f64.format.order 4598175219545276416 4598175219545276416 = some Ordering.eq := by decide +kernel
  have o3 : FloatKind.f64.format.order 4605380978949069210 4605380978949069210 = some Ordering.eq := by decide +kernel
  have BL : Hid (∀ o, Below w.heap.size w (we.alloc o)) := fun o => bel_go BE.out (bel_al (bel_refl we))
  go_wp2_with fail
  refine Calls.mono (gadd_arg g (-1) 1 _ (by omega)) ?_
  rintro e wf ⟨rfl, rfl⟩
  go_wp2_with fail
  refine Calls.mono (num18_any 1 _) ?_
  rintro e wg ⟨rfl, rfl⟩
  go_wp2_with fail
  go_ret
  exact ⟨rfl, BL.out _⟩
end Go.Proofs.YtfkkomppfghagaaGreatDoor
namespace Go.Proofs.YtfkkomppfghagaaGreatDoor
open Go.RowKit Go.ChangeShapes
set_option maxRecDepth 100000
set_option linter.unusedVariables false
theorem i64_and1023G (n : Int) : bits .and .i64 n 1023 = n % 1024 := by
  have h127 : (BitVec.ofInt 64 1023).toNat = 2 ^ 10 - 1 := by decide
  have key : (BitVec.ofInt 64 n &&& BitVec.ofInt 64 1023).toNat = (n % ((2 ^ 64 : Nat) : Int)).toNat % 2 ^ 10 := by
    rw [BitVec.toNat_and, BitVec.toNat_ofInt, h127, Nat.and_two_pow_sub_one_eq_mod]
  show IntKind.i64.wrap ((BitVec.ofInt 64 n &&& BitVec.ofInt 64 1023).toNat : Nat) = n % 1024
  rw [key, IntKind.wrap_i64]
  omega
end Go.Proofs.YtfkkomppfghagaaGreatDoor
namespace Go.Proofs.YtfkkomppfghagaaGreatDoor
open Go.RowKit
set_option maxRecDepth 100000
set_option linter.unusedVariables false
theorem dlL_map (l : List Int) : dlL (fun i => l.getD i 0) l.length = l.map dlN := by
  apply List.ext_getElem
  · simp [dlL]
  intro i h1 h2
  simp [dlL] at h1 ⊢
  rw [List.getElem?_eq_getElem h1]
  rfl
theorem dlL_eq (z : Nat → Int) (n : Nat) : dlL z n = ((List.range n).map z).map dlN := by simp [dlL]
theorem turn_perm (Z : List Int) (k : Nat) : (Z.map dlN).Perm ((Z.drop k ++ Z.take k).map dlN) := by
  refine List.Perm.map _ ?_
  have := List.perm_append_comm (l₁ := Z.take k) (l₂ := Z.drop k)
  rw [List.take_append_drop] at this
  exact this
theorem Tryz.infoZ : (Tryz.prog.info? 3).map (fun i => (i.zero, i.size, i.bytes)) = some (some (.int .i64 0), 1, 8) := by kernel_rfl
theorem wp_appI {w : World} {ops : Array Oper} {rest : List Oper} {o : Oper} {a : Act} {Q : Exit → Act → World → Prop} (hgd : o.guard = none) (s x : Operand)
    (ho : o.op = .call { callee := .builtin .append, args := #[s, x], argTypes := #[34, 34] }) (base : Nat) (v : Value) (xs : List Int) (hs : a.eval s = v) (hown : w.ownsRow base 3 1 v xs.length (xs.map encZ))
    (g off m c : Nat) (ys : List Int) (hx : a.eval x = .slice (some ⟨g, off, none⟩) m c) (hm : ys.length = m) (hy : ∀ j, (hj : j < ys.length) → w.cell? ⟨g, off + j, none⟩ = some (.int .i64 (ys[j]))) (hlim : xs.length + m ≤ 1000000) (hb : base ≤ w.heap.size)
    (h : ∀ v' w', Hid (w'.ownsRow base 3 1 v' (xs ++ ys).length ((xs ++ ys).map encZ) ∧ w.grownBy w' v.ownBlock) → wpList Tryz.prog ops Q rest (a.put o.dst v') w') : wpList Tryz.prog ops Q (o :: rest) a w := by
  obtain ⟨i, hi, hz, hsz, hby⟩ := info_parts Tryz.infoZ
  refine wpList_append_own_at w hgd s x 34 ho base 3 i _ 1 8 Tryz.underlying34 hi hz hsz hby rfl (by omega) v _ _ hs hown ⟨g, off, none⟩ m c (ys.map encZ) hx (by rw [List.length_map, hm, Nat.mul_one]) (fun j u hj => ?_) (fun u hu => ?_) (by simp only [maxLen]; omega) (by omega) hb (fun v' w' h1 h2 _ _ => h v' w' ⟨?_, h2⟩)
  · rw [List.getElem?_map] at hj
    rcases Nat.lt_or_ge j ys.length with e | e
    · rw [List.getElem?_eq_getElem e] at hj
      cases hj
      rw [ax_addF]
      exact hy j e
    rw [List.getElem?_eq_none e] at hj
    cases hj
  · obtain ⟨y, _, rfl⟩ := List.mem_map.1 hu
    rfl
  rw [List.length_append, hm, List.map_append]
  exact h1
theorem rowI_own {W : World} {base n : Nat} {v : Value} {xs : List Value} (h : W.ownsRow base 3 1 v n xs) {b : Nat} (e : v.ownBlock = some b) : base ≤ b := by
  rcases h.2 with ⟨e1, _⟩ | ⟨g, cap', cur, e1, hb', hg, _⟩
  · rw [e1] at e
    cases e
  rw [e1] at e
  cases e
  exact hb'
theorem quant_kth (g mb : Nat) (L : List Nat) (B n : Nat) (p q : Int) (w : World) (h : Gau w g mb L B) (hl : L.length = n) (hn : 0 < n) (hp : 0 ≤ p) (hpq : p ≤ q) (hq : 1 ≤ q) (hq2 : q ≤ 2147483648) :
    Calls Tryz.prog 18 #[.pointer (some ⟨g, 0, none⟩), .int .i64 p, .int .i64 q] w fun e w' => ∃ x, e = .returned (.tuple #[.int .i64 x, .bool true]) ∧ Hid (Kth L (plG n p q) x ∧ Below w.heap.size w w') := by
  refine (quantileP_any g mb L B p q w h hp hpq hq hq2).mono ?_
  rintro e w' ⟨ss, hk, he, hb⟩
  obtain ⟨x, e1, e2⟩ := qf_kth (pl := plG L.length p q) hk (by have := plG_pos L.length p q; omega) (plG_le (by omega) hp hpq hq)
  rw [e1] at he
  rw [hl] at e2
  exact ⟨x, he, e2, hb⟩
theorem kth_nat {L : List Nat} {ss : List Int} (hk : KeysG L ss) {P : Int} (h1 : 0 < P) (h2 : P ≤ L.length) {k : Nat} (e : (qfG (cntL L) ss P).1 = (k : Int)) : Kth L P (k : Int) := by
  obtain ⟨x, e1, e2⟩ := qf_kth hk h1 h2
  rw [e1] at e
  rw [← e]
  exact e2
theorem tell_kth (g mb : Nat) (L : List Nat) (n : Nat) (w : World) (h : Gau w g mb L n) (hT : Tab w) (hl : L.length = n) (hn : 0 < n) :
    Calls Tryz.prog 19 #[.pointer (some ⟨g, 0, none⟩), .int .i64 0, .slice none 0 0] w fun e w' => ∃ fm f1 f2 f3 f5 : Nat, e = .returned (.agg #[.float .f64 fm, .float .f64 f1, .float .f64 f2, .float .f64 f3, .float .f64 0, .float .f64 f5]) ∧ Hid (f2 ≤ f3 ∧ f3 ≤ f1 ∧ fm ≤ f1 ∧ f1 < 9218868437227405312 ∧ Below w.heap.size w w') := by
  refine (gtell_any (fun x y ok => x = 0 ∧ y = 1 ∧ ok = false) (fun x y ok h => ⟨by rw [h.1]; exact rs_few (by omega), by rw [h.2.1]; exact rs_few (by omega)⟩) g mb L n 0 _ w h hT (by omega) (fun w' h' => (jain_none w' (hT.go h')).mono fun e w9 hm => ⟨0, 1, false, ⟨rfl, rfl, rfl⟩, hm⟩)).mono ?_
  rintro e w' ⟨ss, k1, k2, k3, x, y, ok, hk, h1, h2, h3, ⟨rfl, rfl, rfl⟩, rfl, hb⟩
  have p1 := plG_pos L.length 1 1
  have p2 := plG_pos L.length 1 2
  have p3 := plG_pos L.length 99 100
  have q2 := plG_half L.length
  have q3 := plG_tail L.length
  have q1 := plG_all (n := L.length) (by omega)
  have K1 := kth_nat hk (by omega) (by omega) h1
  have K2 := kth_nat hk (by omega) (by omega) h2
  have K3 := kth_nat hk (by omega) (by omega) h3
  have m1 := K2.mono K3 q2
  have m2 := K3.mono K1 q3
  have hall : ∀ d ∈ L, d ≤ k1 := fun d hd => by
    rw [q1] at K1
    have := K1.most d hd
    omega
  obtain ⟨d1, hd1, e1⟩ := K1.mem
  have hk1 : k1 ≤ 9223372036854775807 := by
    have := h.del d1 hd1
    omega
  obtain ⟨u1, u2⟩ := mean_le hall
  obtain ⟨v1, v2⟩ := tf_le (p := k3) (q := 1) (k := k1) (by omega) hk1 (by omega)
  obtain ⟨v3, _⟩ := tf_le (p := k2) (q := 1) (k := k3) (by omega) (by omega) (by omega)
  obtain ⟨v4, _⟩ := tf_le u2 hk1 u1
  refine ⟨tfV (mnP L) (mnQ L), tfV k1 1, tfV k2 1, tfV k3 1, tfV 1 1, ?_, v3, v1, v4, v2, hb⟩
  unfold telV
  rw [show tfV (shP n 0) (shQ n 0) = 0 by simp [shP, tfV]]
  rfl
set_option maxHeartbeats 16000000 in
theorem gquant_any (a0 : Option Addr) (l0 cap0 : Nat) (z : Nat → Int) (tn pp mr qq : Int) (w : World) (h : ZIn w a0 l0 z) (hl : l0 ≤ cap0) (hc : cap0 ≤ 9223372036854775807) (hT : Tab w) :
    Calls Tryz.prog 4 #[.slice a0 l0 cap0, .int .i64 tn, .int .i64 pp, .int .i64 mr, .int .i64 qq] w fun e w' => e = .returned (.bool true) ∧ Below w.heap.size w w' := by
  have HT : Hid (Tab w) := hT
  obtain ⟨n, hn⟩ : ∃ n, n = min l0 100 := ⟨_, rfl⟩
  have hmin : min (l0 : Int) 100 = (n : Int) := by omega
  have hnl : n ≤ l0 := by omega
  have hn100 : n ≤ 100 := by omega
  by_cases hn0 : n = 0
  · have ST : Hid (Calls Tryz.prog 16 #[] w fun e w9 => e = .returned (.bool true) ∧ Below w.heap.size w w9) := started18 w hT
    clear h hT hn hnl hn100
    subst hn0
    go_enter Tryz.func4, Tryz.ntmps4
    go_wp2_with fail
    with_reducible refine Calls.mono ST.out ?_
    rintro e w1 ⟨rfl, hb⟩
    go_wp2_with fail
    go_ret
    exact ⟨rfl, hb⟩
  obtain ⟨g, o, rfl, hcel⟩ : ∃ g o, a0 = some ⟨g, o, none⟩ ∧ ∀ i, i < l0 → w.cell? ⟨g, o + i, none⟩ = some (.int .i64 (z i)) := by
    rcases h with e | e
    · omega
    exact e
  have hncap : n ≤ cap0 := by omega
  have CE : Hid (∀ i, i < l0 → w.cell? ⟨g, o + i, none⟩ = some (.int .i64 (z i))) := hcel
  obtain ⟨t3, ht3⟩ : ∃ t3, t3 = (tn % 1024).toNat := ⟨_, rfl⟩
  have hm3 : bits .and .i64 tn 1023 = (t3 : Int) := by rw [i64_and1023G, ht3]; omega
  obtain ⟨k, hk⟩ : ∃ k, k = t3 % n := ⟨_, rfl⟩
  have hkn : k < n := by rw [hk]; exact Nat.mod_lt _ (by omega)
  have hmk : (t3 : Int) % (n : Int) = (k : Int) := by rw [hk]; push_cast; rfl
  have ht1 : t3 ≤ 1023 := by omega
  clear h hT hn hk ht3 hcel
  go_enter Tryz.func4, Tryz.ntmps4
  go_upto_region 7 with fail
  rw [hmk]
  obtain ⟨Z, hZ⟩ : ∃ Z, Z = (List.range n).map z := ⟨_, rfl⟩
  have hZl : Z.length = n := by rw [hZ]; simp
  have CZ : Hid (∀ w', Below w.heap.size w w' → ∀ j, (hj : j < Z.length) → w'.cell? ⟨g, o + j, none⟩ = some (.int .i64 (Z[j]))) := fun w' h' j hj => by
    have h1 := cell_later h' (CE.out j (by omega))
    rw [h1]
    simp [hZ]
  have HZ : Hid (Z = (List.range n).map z) := hZ
  clear hZ hmk hm3 ht1 hmin
  go_upto_region 8 with (refine (id ?_ : wpList Tryz.prog _ _ (⟨some 49, _, _, _, _, _⟩ :: _) _ _); refine wp_appI rfl (.tmp 45) (.tmp 48) rfl w.heap.size (.slice none 0 0) [] rfl ⟨rfl, .inl ⟨rfl, rfl⟩⟩ g (o + k) (n - k) (cap0 - k) (Z.drop k) rfl (by rw [List.length_drop]; omega) (fun j hj => by have := CZ.out w (Below.refl _ _) (k + j) (by rw [List.length_drop] at hj; omega); rw [Nat.add_assoc, this, List.getElem_drop]) (by simp; omega) (Nat.le_refl _) ?_; intro v1 w1 HM1)
  have B1 : Hid (Below w.heap.size w w1) := ⟨HM1.out.2.os, HM1.out.2.tape, HM1.out.2.output, HM1.out.2.size, fun i hi => HM1.out.2.block i hi (fun e => by cases e)⟩
  have R1 : Hid (w1.ownsRow w.heap.size 3 1 v1 (Z.drop k).length ((Z.drop k).map encZ)) := HM1.out.1
  clear HM1
  go_upto_region 9 with (refine (id ?_ : wpList Tryz.prog _ _ (⟨some 54, _, _, _, _, _⟩ :: _) _ _); refine wp_appI rfl (.tmp 50) (.tmp 53) rfl w.heap.size v1 (Z.drop k) rfl R1.out g o k cap0 (Z.take k) rfl (by rw [List.length_take]; omega) (fun j hj => by have := CZ.out w1 B1.out j (by rw [List.length_take] at hj; omega); rw [this, List.getElem_take]) (by rw [List.length_drop]; omega) B1.out.size ?_; intro v2 w2 HM2)
  have B2 : Hid (Below w.heap.size w w2) := by
    have hg := HM2.out.2
    refine Below.trans B1.out (Fb.below (S := fun k => some k = v1.ownBlock) ⟨hg.os, hg.tape, hg.output, hg.size, fun i hi hn => hg.block i hi hn⟩ (lb := w.heap.size) B1.out.size fun b e => rowI_own R1.out e.symm)
  obtain ⟨M, hM⟩ : ∃ M, M = Z.drop k ++ Z.take k := ⟨_, rfl⟩
  have hMl : M.length = n := by rw [hM, List.length_append, List.length_drop, List.length_take]; omega
  have R2 := HM2.out.1
  rw [← hM] at R2
  obtain ⟨a2, cap2, e2, hc1, hc2, hcel2⟩ := rowI_sl R2
  subst e2
  have Z2 : Hid (ZIn w2 a2 n (fun i => M.getD i 0)) := by
    rcases Nat.eq_zero_or_pos M.length with e | e
    · exact .inl (by omega)
    obtain ⟨g2, eg, hc⟩ := hcel2 e
    refine .inr ⟨g2, 0, eg, fun i hi => ?_⟩
    have hi' : i < M.length := by omega
    rw [Nat.zero_add, hc i hi']
    simp [List.getD_eq_getElem?_getD, List.getElem?_eq_getElem hi']
  have HP : Hid ((dlL z n).Perm (dlL (fun i => M.getD i 0) n)) := by
    rw [← hMl, dlL_map M, hMl, dlL_eq z n, ← HZ.out, hM]
    exact turn_perm Z k
  have Z1 : Hid (ZIn w2 (some ⟨g, o, none⟩) n z) := .inr ⟨g, o, rfl, fun i hi => cell_later B2.out (CE.out i (by omega))⟩
  rw [hMl]
  clear HM2 R2 hcel2 hM hc1 hc2 R1 B1 CZ
  have CF1 : Hid (Calls Tryz.prog 17 #[.slice (some ⟨g, o, none⟩) n cap0] w2 fun e w' => ∃ g mb, e = .returned (.pointer (some ⟨g, 0, none⟩)) ∧ Fil w2 w' g mb (dlL z n)) := filled_any _ n cap0 z w2 Z1.out hn100
  go_wp2_with fail
  with_reducible refine Calls.mono CF1.out ?_
  rintro e w3 ⟨g1, m1, rfl, hF1⟩
  have F1 : Hid (Fil w2 w3 g1 m1 (dlL z n)) := hF1
  have CF2 : Hid (Calls Tryz.prog 17 #[.slice a2 n cap2] w3 fun e w' => ∃ g mb, e = .returned (.pointer (some ⟨g, 0, none⟩)) ∧ Fil w3 w' g mb (dlL (fun i => M.getD i 0) n)) := filled_any _ n cap2 _ w3 (Z2.out.go F1.out.bel) hn100
  clear hF1 CF1
  go_wp2_with fail
  with_reducible refine Calls.mono CF2.out ?_
  rintro e w4 ⟨g2, m2, rfl, hF2⟩
  have G1 : Hid (Gau w4 g1 m1 (dlL z n) n) := by
    have h1 := F1.out.ga.go hF2.bel
    rw [dlL_len] at h1
    exact h1
  have G2 : Hid (Gau w4 g2 m2 (dlL (fun i => M.getD i 0) n) n) := by
    have h1 := hF2.ga
    rw [dlL_len] at h1
    exact h1
  have B4 : Hid (Below w.heap.size w w4) := bel_go (bel_go B2.out F1.out.bel) hF2.bel
  clear hF2 F1 CF2 Z1 Z2 B2
  obtain ⟨q3, hq3⟩ : ∃ q3, q3 = (qq % 1024).toNat := ⟨_, rfl⟩
  have hmq : bits .and .i64 qq 1023 = (q3 : Int) := by rw [i64_and1023G, hq3]; omega
  obtain ⟨p3, hp3⟩ : ∃ p3, p3 = (pp % 1024).toNat := ⟨_, rfl⟩
  have hmp : bits .and .i64 pp 1023 = (p3 : Int) := by rw [i64_and1023G, hp3]; omega
  obtain ⟨r3, hr3⟩ : ∃ r3, r3 = (mr % 1024).toNat := ⟨_, rfl⟩
  have hmr : bits .and .i64 mr 1023 = (r3 : Int) := by rw [i64_and1023G, hr3]; omega
  have hq4 : q3 ≤ 1023 := by omega
  have hp4 : p3 ≤ 1023 := by omega
  have hr4 : r3 ≤ 1023 := by omega
  clear hq3 hp3 hr3
  go_upto_region 13 with fail
  obtain ⟨Q, hQ⟩ : ∃ Q : Nat, Q = 1 + q3 := ⟨_, rfl⟩
  have hQ1 : (1 + (q3 : Int)) = (Q : Int) := by omega
  have hQ2 : 1 ≤ Q ∧ Q ≤ 1024 := by omega
  rw [hQ1]
  clear hQ hQ1 hmq hq4
  obtain ⟨hQ3, hQ4⟩ := hQ2
  have hQ0 : ¬ ((Q : Int) + 1 = 0) := by omega
  go_upto_region 14 with fail
  obtain ⟨Pv, hPv⟩ : ∃ Pv, Pv = (p3 : Int) % ((Q : Int) + 1) := ⟨_, rfl⟩
  have hP1 : 0 ≤ Pv := by rw [hPv]; exact Int.emod_nonneg _ (by omega)
  have hP2 : Pv ≤ (Q : Int) := by have := Int.emod_lt_of_pos (p3 : Int) (show 0 < (Q : Int) + 1 by omega); omega
  rw [← hPv]
  clear hPv hmp hp4 hQ0
  have hR0 : ¬ ((Q : Int) - Pv + 1 = 0) := by omega
  have hR1 : 0 ≤ (r3 : Int) % ((Q : Int) - Pv + 1) := Int.emod_nonneg _ (by omega)
  have hR2 : (r3 : Int) % ((Q : Int) - Pv + 1) ≤ 1024 := by have := Int.emod_lt_of_pos (r3 : Int) (show 0 < (Q : Int) - Pv + 1 by omega); omega
  go_upto_region 15 with fail
  obtain ⟨U, hU⟩ : ∃ U, U = Pv + (r3 : Int) % ((Q : Int) - Pv + 1) := ⟨_, rfl⟩
  have hU1 : Pv ≤ U := by have := Int.emod_nonneg (r3 : Int) (show (Q : Int) - Pv + 1 ≠ 0 by omega); omega
  have hU2 : U ≤ (Q : Int) := by have := Int.emod_lt_of_pos (r3 : Int) (show 0 < (Q : Int) - Pv + 1 by omega); omega
  rw [← hU]
  clear hU hmr hr4 hR0 hR1 hR2
  obtain ⟨L1, hL1⟩ : ∃ L1, L1 = dlL z n := ⟨_, rfl⟩
  obtain ⟨L2, hL2⟩ : ∃ L2, L2 = dlL (fun i => M.getD i 0) n := ⟨_, rfl⟩
  have hl1 : L1.length = n := by rw [hL1, dlL_len]
  have hl2 : L2.length = n := by rw [hL2, dlL_len]
  rw [← hL1] at G1 HP
  rw [← hL2] at G2 HP
  have HL : Hid (L1 = dlL z n) := hL1
  clear hL1 hL2
  have HB : Hid (0 ≤ Pv ∧ Pv ≤ (Q : Int) ∧ 1 ≤ (Q : Int) ∧ (Q : Int) ≤ 1024 ∧ Pv ≤ U ∧ U ≤ (Q : Int) ∧ 0 < n) := ⟨hP1, hP2, by omega, by omega, hU1, hU2, by omega⟩
  have Q1 : Hid (∀ (p : Int) (w' : World), 0 ≤ p → p ≤ (Q : Int) → Below w4.heap.size w4 w' → Calls Tryz.prog 18 #[.pointer (some ⟨g1, 0, none⟩), .int .i64 p, .int .i64 (Q : Int)] w' fun e w9 => ∃ x, e = .returned (.tuple #[.int .i64 x, .bool true]) ∧ Hid (Kth L1 (plG n p Q) x ∧ Below w'.heap.size w' w9)) := fun p w' h1 h2 hb => quant_kth g1 m1 L1 n n p Q w' (G1.out.go hb) hl1 HB.out.2.2.2.2.2.2 h1 h2 HB.out.2.2.1 (by have := HB.out.2.2.2.1; omega)
  have Q2 : Hid (∀ (p : Int) (w' : World), 0 ≤ p → p ≤ (Q : Int) → Below w4.heap.size w4 w' → Calls Tryz.prog 18 #[.pointer (some ⟨g2, 0, none⟩), .int .i64 p, .int .i64 (Q : Int)] w' fun e w9 => ∃ x, e = .returned (.tuple #[.int .i64 x, .bool true]) ∧ Hid (Kth L2 (plG n p Q) x ∧ Below w'.heap.size w' w9)) := fun p w' h1 h2 hb => quant_kth g2 m2 L2 n n p Q w' (G2.out.go hb) hl2 HB.out.2.2.2.2.2.2 h1 h2 HB.out.2.2.1 (by have := HB.out.2.2.2.1; omega)
  go_wp2_with fail
  with_reducible refine Calls.mono (Q1.out Pv w4 HB.out.1 HB.out.2.1 (Below.refl _ _)) ?_
  rintro e w5 ⟨xa, rfl, hxa⟩
  have B5 : Hid (Below w4.heap.size w4 w5) := hxa.out.2
  go_wp2_with fail
  with_reducible refine Calls.mono (Q2.out Pv w5 HB.out.1 HB.out.2.1 B5.out) ?_
  rintro e w6 ⟨xb, rfl, hxb⟩
  have B6 : Hid (Below w4.heap.size w4 w6) := bel_go B5.out hxb.out.2
  obtain rfl : xa = xb := (hxa.out.1.perm HP.out).one hxb.out.1
  clear hxb B5
  go_wp2_with fail
  with_reducible refine Calls.mono (Q1.out U w6 (by have := HB.out.1; omega) HB.out.2.2.2.2.2.1 B6.out) ?_
  rintro e w7 ⟨xc, rfl, hxc⟩
  have B7 : Hid (Below w4.heap.size w4 w7) := bel_go B6.out hxc.out.2
  clear B6
  go_wp2_with fail
  with_reducible refine Calls.mono (Q1.out 0 w7 (Int.le_refl _) (by have := HB.out.2.2.1; omega) B7.out) ?_
  rintro e w8 ⟨xl, rfl, hxl⟩
  have B8 : Hid (Below w4.heap.size w4 w8) := bel_go B7.out hxl.out.2
  clear B7
  go_wp2_with fail
  with_reducible refine Calls.mono (Q1.out Q w8 (by have := HB.out.2.2.1; omega) (Int.le_refl _) B8.out) ?_
  rintro e w9 ⟨xh, rfl, hxh⟩
  have B9 : Hid (Below w4.heap.size w4 w9) := bel_go B8.out hxh.out.2
  have KA : Hid (Kth L1 (plG n Pv Q) xa) := hxa.out.1
  have hc1 : ¬ xa > xc := by have := hxa.out.1.mono hxc.out.1 (plG_mono (n := n) hU1 (by omega)); omega
  have hc2 : ¬ xl > xa := by have := hxl.out.1.mono hxa.out.1 (plG_mono (n := n) hP1 (by omega)); omega
  have hc3 : ¬ xc > xh := by have := hxc.out.1.mono hxh.out.1 (plG_mono (n := n) hU2 (by omega)); omega
  have HLO : Hid (∀ d ∈ L1, xl ≤ (d : Int)) := by
    have h := hxl.out.1
    rw [plG_zero n (by omega)] at h
    exact h.least
  have HHI : Hid (∀ d ∈ L1, (d : Int) ≤ xh) := by
    have h := hxh.out.1
    rw [plG_one (by omega) (by omega), ← hl1] at h
    exact h.most
  clear hxa hxc hxl hxh B8 Q1 Q2 HP hP1 hP2 hU1 hU2 hl2 hQ3 hQ4 G2 hZl hMl
  have BW : Hid (Below w.heap.size w w9) := bel_go B4.out B9.out
  have G9 : Hid (Gau w9 g1 m1 L1 n) := G1.out.go B9.out
  have CE9 : Hid (∀ i, i < l0 → w9.cell? ⟨g, o + i, none⟩ = some (.int .i64 (z i))) := fun i hi => cell_later BW.out (CE.out i hi)
  clear B4 B9 G1 CE
  go_upto_region 24 with fail
  go_loopw [29, 27, 28] (fun t av bv wr => ∃ (i : Nat), i ≤ n ∧ t = .int .i64 (i : Int) ∧ av = .int .i64 (leC (dlL z i) xa : Int) ∧ bv = .int .i64 (ltC (dlL z i) xa : Int) ∧ wr = w9) (fun t _ _ _ => n - (RowKit.intOf t).toNat)
  case atStart => exact ⟨0, by omega, rfl, rfl, rfl, rfl⟩
  case round =>
    obtain ⟨i, hi, rfl, rfl, rfl, rfl⟩ := hrel
    by_cases hin : i < n
    · have c0 := CE9.out i (by omega)
      have hm : bits .and .i64 (z i) 4611686018427387903 = (dlN (z i) : Int) := by rw [i64_and62]; unfold dlN; omega
      have hmem : dlN (z i) ∈ L1 := by
        rw [HL.out]
        exact List.mem_map.2 ⟨i, List.mem_range.2 hin, rfl⟩
      obtain ⟨d, hd⟩ : ∃ d, d = dlN (z i) := ⟨_, rfl⟩
      rw [← hd] at hm hmem
      have h1 : ¬ (d : Int) < xl := by have := HLO.out d hmem; omega
      have h2 : ¬ (d : Int) > xh := by have := HHI.out d hmem; omega
      have e1 : leC (dlL z (i + 1)) xa = leC (dlL z i) xa + if (d : Int) ≤ xa then 1 else 0 := by
        rw [dlL_succ, leC, List.countP_append, ← hd]
        by_cases c : (d : Int) ≤ xa <;> simp [leC, c]
      have e2 : ltC (dlL z (i + 1)) xa = ltC (dlL z i) xa + if (d : Int) < xa then 1 else 0 := by
        rw [dlL_succ, ltC, List.countP_append, ← hd]
        by_cases c : (d : Int) < xa <;> simp [ltC, c]
      have b1 : leC (dlL z i) xa ≤ 100 := by have := le_le (dlL z i) xa; rw [dlL_len] at this; omega
      have b2 : ltC (dlL z i) xa ≤ 100 := by have : ltC (dlL z i) xa ≤ (dlL z i).length := List.countP_le_length; rw [dlL_len] at this; omega
      have HE : Hid (leC (dlL z (i + 1)) xa = leC (dlL z i) xa + (if (d : Int) ≤ xa then 1 else 0) ∧ ltC (dlL z (i + 1)) xa = ltC (dlL z i) xa + (if (d : Int) < xa then 1 else 0)) := ⟨e1, e2⟩
      clear e1 e2 hd hmem
      by_cases c1 : (d : Int) ≤ xa
      · by_cases c2 : (d : Int) < xa
        · go_wp2_with fail
          go_roundw
          case rel => exact ⟨i + 1, by omega, by go_num, by rw [HE.out.1, if_pos c1]; push_cast; rfl, by rw [HE.out.2, if_pos c2]; push_cast; rfl, by trivial⟩
          case measure => simp [RowKit.intOf]; omega
        go_wp2_with fail
        go_roundw
        case rel => exact ⟨i + 1, by omega, by go_num, by rw [HE.out.1, if_pos c1]; push_cast; rfl, by rw [HE.out.2, if_neg c2]; rfl, by trivial⟩
        case measure => simp [RowKit.intOf]; omega
      have c2 : ¬ (d : Int) < xa := by omega
      go_wp2_with fail
      go_roundw
      case rel => exact ⟨i + 1, by omega, by go_num, by rw [HE.out.1, if_neg c1]; rfl, by rw [HE.out.2, if_neg c2]; rfl, by trivial⟩
      case measure => simp [RowKit.intOf]; omega
    obtain rfl : i = n := by omega
    clear CE9 HLO HHI hc1 hc2 hc3
    have CT := tell_kth g1 m1 L1 i wr G9.out (HT.out.go BW.out) hl1 HB.out.2.2.2.2.2.2
    have CTh : Hid (Calls Tryz.prog 19 #[.pointer (some ⟨g1, 0, none⟩), .int .i64 0, .slice none 0 0] wr fun e w' => ∃ fm f1 f2 f3 f5 : Nat, e = .returned (.agg #[.float .f64 fm, .float .f64 f1, .float .f64 f2, .float .f64 f3, .float .f64 0, .float .f64 f5]) ∧ Hid (f2 ≤ f3 ∧ f3 ≤ f1 ∧ fm ≤ f1 ∧ f1 < 9218868437227405312 ∧ Below wr.heap.size wr w')) := CT
    clear CT
    rw [← HL.out]
    obtain ⟨A, hA⟩ : ∃ A, A = leC L1 xa := ⟨_, rfl⟩
    obtain ⟨Bn, hBn⟩ : ∃ Bn, Bn = ltC L1 xa := ⟨_, rfl⟩
    have hA100 : A ≤ 100 := by have := le_le L1 xa; omega
    have hBA : Bn ≤ A := by
      rw [hA, hBn]
      exact List.countP_mono_left fun d _ e => by simp only [decide_eq_true_eq] at *; omega
    have HQ1 := HB.out.2.2.1
    have HQ2 := HB.out.2.2.2.1
    have HP1 := HB.out.1
    have HP2 := HB.out.2.1
    obtain ⟨k1, k2⟩ := plG_at i (p := Pv) HQ1
    have hlo := KA.out.lo
    have hhi := KA.out.hi
    rw [← hBn] at hlo
    rw [← hA] at hhi
    have x1 : plG i Pv Q * (Q : Int) ≤ (A : Int) * (Q : Int) := Int.mul_le_mul_of_nonneg_right hhi (by omega)
    have x2 : (A : Int) * (Q : Int) ≤ 100 * 1024 := Int.mul_le_mul (by omega) HQ2 (by omega) (by omega)
    have x3 : (Bn : Int) * (Q : Int) ≤ (A : Int) * (Q : Int) := Int.mul_le_mul_of_nonneg_right (by omega) (by omega)
    have x4 : 0 ≤ (Bn : Int) * (Q : Int) := Int.mul_nonneg (by omega) (by omega)
    have x5 : 0 ≤ (i : Int) * Pv := Int.mul_nonneg (by omega) HP1
    have hge : (A : Int) * (Q : Int) ≥ (i : Int) * Pv := Int.le_trans k1 x1
    have hbz : ¬ ((Bn : Int) * (Q : Int) < (i : Int) * Pv) → Bn = 0 := fun hno => by
      rcases k2 with e | e
      · have := plG_pos i Pv Q
        omega
      have h3 : (Bn : Int) * (Q : Int) ≤ (plG i Pv Q - 1) * (Q : Int) := Int.mul_le_mul_of_nonneg_right (by omega) (by omega)
      omega
    have x6 : (i : Int) * Pv ≤ 100 * 1024 := Int.le_trans hge x2
    have x7 : (Bn : Int) * (Q : Int) ≤ 100 * 1024 := Int.le_trans x3 x2
    rw [← hA, ← hBn]
    clear hA hBn k1 k2 hlo hhi x1 x3 KA
    have HH : Hid ((Bn : Int) * (Q : Int) < (i : Int) * Pv ∨ Bn = 0) := by
      by_cases e : (Bn : Int) * (Q : Int) < (i : Int) * Pv
      · exact .inl e
      exact .inr (hbz e)
    clear hbz
    go_wp2_with fail
    with_reducible refine Calls.mono CTh.out ?_
    rintro e wt ⟨fm, f1, f2, f3, f5, rfl, hft⟩
    have BT : Hid (Below w.heap.size w wt) := bel_go BW.out hft.out.2.2.2.2
    have ST : Hid (∀ w', Below wt.heap.size wt w' → Calls Tryz.prog 16 #[] w' fun e w9 => e = .returned (.bool true) ∧ Below w'.heap.size w' w9) := fun w' h' => started18 w' (HT.out.go (bel_go BT.out h'))
    have BN : Hid (∀ o, Below wt.heap.size wt (wt.alloc o)) := fun o => bel_al (bel_refl wt)
    have hsf := @run_store_floatG Tryz.prog
    have oz : FloatKind.f64.format.order 0 0 = some Ordering.eq := by decide +kernel
    have R1 := order_le hft.out.1 (Nat.lt_of_le_of_lt hft.out.2.1 hft.out.2.2.2.1)
    have R2 := order_le hft.out.2.1 hft.out.2.2.2.1
    have R3 := order_le hft.out.2.2.1 hft.out.2.2.2.1
    clear hft CTh G9 BW
    rcases HH.out with hlt | hz0
    · rcases R1 with o1 | o1 <;> rcases R2 with o2 | o2 <;> rcases R3 with o3 | o3
      all_goals
        go_wp2_with fail
        with_reducible refine Calls.mono (ST.out _ (BN.out _)) ?_
        rintro e we ⟨rfl, hbe⟩
        have HBE := bel_go BT.out (bel_go (BN.out _) hbe)
        go_wp2_with fail
        go_ret
        exact ⟨rfl, HBE⟩
    subst hz0
    by_cases hlt : ((0 : Nat) : Int) * (Q : Int) < (i : Int) * Pv
    · rcases R1 with o1 | o1 <;> rcases R2 with o2 | o2 <;> rcases R3 with o3 | o3
      all_goals
        go_wp2_with fail
        with_reducible refine Calls.mono (ST.out _ (BN.out _)) ?_
        rintro e we ⟨rfl, hbe⟩
        have HBE := bel_go BT.out (bel_go (BN.out _) hbe)
        go_wp2_with fail
        go_ret
        exact ⟨rfl, HBE⟩
    rcases R1 with o1 | o1 <;> rcases R2 with o2 | o2 <;> rcases R3 with o3 | o3
    all_goals
      go_wp2_with fail
      with_reducible refine Calls.mono (ST.out _ (BN.out _)) ?_
      rintro e we ⟨rfl, hbe⟩
      have HBE := bel_go BT.out (bel_go (BN.out _) hbe)
      go_wp2_with fail
      go_ret
      exact ⟨rfl, HBE⟩
end Go.Proofs.YtfkkomppfghagaaGreatDoor
namespace Go.Proofs.YtfkkomppfghagaaGreatDoor
open Go.RowKit Go.ChangeShapes
set_option maxRecDepth 100000
set_option linter.unusedVariables false
theorem ownD : ownKnob Tryz.prog.godebug = none := by kernel_rfl
theorem laidOutD : laidOutB Tryz.prog = true := by kernel_rfl
def ZC (w : World) (a : Option Addr) (len cap : Nat) (z : Nat → Int) : Prop := ZIn w a len z ∧ len ≤ cap ∧ cap ≤ 9223372036854775807
theorem ints_c {H : Type} {enc : TypeId × Value → H} {w : World} {base : Nat} {spare : Nat → Bool} {held : Bool} {fuel : Nat} {a : Option Addr} {len cap : Nat} {x : DataW H × List MemPlace} (h : DataW.trod enc Tryz.prog w base spare held fuel 34 (Value.slice a len cap).cells.toList = some x) : ∃ z, ZC w a len cap z := by
  rcases open_ints Tryz.underlying34 Tryz.underlying3 (by kernel_rfl) h with ⟨hcs, _⟩ | ⟨y, l, c, zs, hcs, _, hl, hm, hz, _, hcell, _⟩
  · simp [Value.cells] at hcs
    obtain ⟨rfl, rfl, rfl⟩ := hcs
    exact ⟨fun _ => 0, .inl rfl, by omega, by omega⟩
  simp [Value.cells] at hcs
  obtain ⟨rfl, rfl, rfl⟩ := hcs
  have hlz : len ≤ zs.length := by rw [hz]; split <;> omega
  refine ⟨fun i => zs.getD i 0, ?_, hl, by simp only [maxLen] at hm; omega⟩
  rcases Nat.eq_zero_or_pos len with e | e
  · exact .inl e
  obtain ⟨b, off, spot⟩ := y
  have hc := hcell 0 (by omega)
  have hspot : spot = none := by simpa [Addr.add] using World.cell?_spot hc
  subst hspot
  refine .inr ⟨b, off, rfl, fun i hi => ?_⟩
  have := hcell i (by omega)
  rw [ax_addF] at this
  exact this
end Go.Proofs.YtfkkomppfghagaaGreatDoor
