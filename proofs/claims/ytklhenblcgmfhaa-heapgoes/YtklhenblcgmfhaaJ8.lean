/- Contracts of the program's functions, part 8: own work, joined in build order. -/
import Derived.Test.YtklhenblcgmfhaaJ7
import Derived.Deep.QuietTactic
import Derived.BigQuiet
import Derived.Deep.Grids
import Derived.ChangeSlices
import Derived.ProofKit
namespace Go.Proofs.Ytklhenblcgmfhaa
open Go.RowKit Go.Shelf Go.Sort
set_option maxRecDepth 100000
set_option linter.unusedVariables false
attribute [local go_sem] Oper.semAt_some
set_option maxHeartbeats 8000000 in
theorem goes_any (W0 : World) (mod : Int) (a1 : Option Addr) (L1 c1 : Nat) (xs : Nat → Int) (stop : Int) (hk : ISl W0 a1 L1 c1 xs) (m1 : -9223372036854775808 ≤ mod) (m2 : mod ≤ 9223372036854775807) :
    Calls Try.prog 4 #[.int .i64 mod, .slice a1 L1 c1, .int .i64 stop] W0 fun e w' => e = .returned (.bool true) ∧ Below W0.heap.size W0 w' := by
  have HK : Hid (ISl W0 a1 L1 c1 xs) := hk
  have l1 := hk.lim
  have l1' := hk.le
  obtain ⟨n, en⟩ : ∃ n, n = min L1 60 := ⟨_, rfl⟩
  have n1 : n ≤ L1 := by omega
  have n2 : n ≤ 60 := by omega
  have mn : (if (60 : Int) < (L1 : Int) then (60 : Int) else (L1 : Int)) = (n : Int) := by split <;> omega
  have mn2 : min (L1 : Int) 60 = (n : Int) := by omega
  obtain ⟨n0, en0⟩ : ∃ n0, n0 = W0.heap.size := ⟨_, rfl⟩
  obtain ⟨Wa, hWa⟩ : ∃ Wa, Wa = ((W0.alloc (.cells #[.slice a1 L1 c1] 35)).alloc (.cells #[.int .i64 stop] 3)).alloc (.cells #[.bool false] 4) := ⟨_, rfl⟩
  have MD : Hid _ := made_hp mod false 0 Wa m1 m2 (by omega) (by omega)
  have EN : Hid (n = min L1 60) := en
  have HA : Hid (Boxed Wa n0 35 (.slice a1 L1 c1) ∧ Boxed Wa (n0 + 1) 3 (.int .i64 stop) ∧ Boxed Wa (n0 + 2) 4 (.bool false) ∧ Below W0.heap.size W0 Wa ∧ Wa.heap.size = n0 + 3 ∧ n0 = W0.heap.size) := by
    rw [hWa]
    refine ⟨?_, ?_, ?_, (((Below.refl _ _).alloc (Nat.le_refl _) _).alloc (by simp) _).alloc (by simp <;> omega) _, by rw [en0]; simp, en0⟩
    · rw [en0]
      exact ((Boxed.new W0 _ _).alloc _).alloc _
    · have := (Boxed.new (W0.alloc (.cells #[.slice a1 L1 c1] 35)) 3 (.int .i64 stop)).alloc (.cells #[.bool false] 4)
      rw [en0]
      simpa using this
    · have := Boxed.new ((W0.alloc (.cells #[.slice a1 L1 c1] 35)).alloc (.cells #[.int .i64 stop] 3)) 4 (.bool false)
      rw [en0]
      simpa using this
  have KX : Hid (∀ W, Below Wa.heap.size Wa W → W.cell? ⟨n0, 0, none⟩ = some (.slice a1 L1 c1) ∧ W.cell? ⟨n0 + 1, 0, none⟩ = some (.int .i64 stop) ∧ Boxed W (n0 + 2) 4 (.bool false) ∧ Below W0.heap.size W0 W) := by
    intro W hB
    obtain ⟨q1, q2, q3, q4, q5, q6⟩ := HA.out
    exact ⟨Boxed.cell ((hB.block _ (by omega)).trans q1), Boxed.cell ((hB.block _ (by omega)).trans q2), (hB.block _ (by omega)).trans q3, q4.trans (hB.mono q4.size)⟩
  clear hk en
  refine (callsIn_wide (n := 9)).1 ?_
  refine callsIn_of_wp_marks Try.func4 rfl trivial ?_ rfl
  simp only [Try.ntmps4, List.size_toArray, List.length_cons, List.length_nil, Nat.reduceAdd, Nat.reduceSub, Array.replicate_succ, Array.replicate_zero, List.push_toArray, List.append_toArray, List.nil_append, List.cons_append]
  gi_wp2_with fail
  simp only [Nat.add_assoc, Nat.reduceAdd]
  rw [← hWa, ← en0]
  clear hWa en0
  refine ⟨trivial, ?_⟩
  refine (callsIn_wide.2 MD.out).mono ?_
  rintro e w1 ⟨hb, ob, md, rfl, hp1, hmd, B1⟩
  obtain ⟨W2, hW2⟩ : ∃ W2, W2 = w1.alloc (.cells #[.pointer (some ⟨hb, 0, none⟩), .pointer (some ⟨ob, 0, none⟩)] 26) := ⟨_, rfl⟩
  obtain ⟨xb, exb⟩ : ∃ xb, xb = w1.heap.size := ⟨_, rfl⟩
  have M0 : Hid (Gs Wa W2 xb hb ob md 0 0 ((0 : Nat) : Int) (PL xs 0)) := ⟨by rw [hW2, exb]; exact (MapKept.heap_alloc _ _).1, ⟨0, _, by omega, by rw [hW2]; exact hp1.keep ((Below.refl _ _).alloc (Nat.le_refl _) _), fun q k v e => (by cases e), fun j hj => by omega⟩, by rw [hW2]; exact B1.alloc B1.size _⟩
  have HW2 : Hid (w1.alloc (.cells #[.pointer (some ⟨hb, 0, none⟩), .pointer (some ⟨ob, 0, none⟩)] 26) = W2 ∧ w1.heap.size = xb) := ⟨hW2.symm, exb.symm⟩
  clear hp1 hmd B1 MD hW2 exb
  gi_wp2_with fail
  rw [HW2.out.1, HW2.out.2]
  obtain ⟨d0, d1⟩ := M0.out.cells
  gi_wp2_with fail
  gi_loopw [8] (fun t wr => ∃ (i : Nat), i ≤ n ∧ t = .int .i64 (i : Int) ∧ Hid (Gs Wa wr xb hb ob md i i ((i : Nat) : Int) (PL xs i))) (fun t _ => n - (intOf t).toNat)
  case atStart => exact ⟨0, by omega, rfl, M0⟩
  case round =>
    clear M0 d0 d1
    obtain ⟨i, hin, rfl, hS⟩ := hrel
    obtain ⟨c0, _⟩ := hS.out.cells
    obtain ⟨y0, y1, _, y3⟩ := KX.out wr hS.out.bel
    by_cases hi : i < n
    · obtain ⟨b, o, rfl, hcell⟩ := HK.out.at y3 (by omega)
      have ck := hcell i (by omega)
      have hr := HK.out.wf i (by omega)
      obtain ⟨k, ek⟩ : ∃ k, k = xs i := ⟨_, rfl⟩
      rw [← ek] at ck hr
      have w5 : IntKind.i64.wrap ((i : Int) + 1) = (i : Int) + 1 := by rw [IntKind.wrap_i64]; omega
      have PU : Hid (∀ W, W = wr ∨ W = wr.drew → Calls Try.prog 13 #[.pointer (some ⟨hb, 0, none⟩), .int .i64 k, .int .i64 (i : Int)] W fun e w' => e = .returned (.int .i64 ((i : Int) + 1)) ∧ Gs Wa w' xb hb ob md (i + 1) (i + 1) ((i + 1 : Nat) : Int) (PL xs (i + 1))) := fun W hW => by
        have h1 := (hS.out.mono (W' := W) (by rcases hW with rfl | rfl; exact Below.refl _ _; exact bel_drew (Below.refl _ _))).push k (i : Int) (by omega) (by omega) (by omega) hr
        refine h1.mono ?_
        rintro e w' ⟨rfl, q1, _⟩
        have e2 : ((i + 1 : Nat) : Int) = (i : Int) + 1 := by omega
        rw [e2]
        exact ⟨rfl, q1.imp fun T' ⟨T, h3, h4⟩ => h3.step (v := (i : Int)) (by rw [h4, ek])⟩
      have hL : i < L1 := by omega
      have hL' : (i : Int) < (L1 : Int) := by omega
      have hM' : (i : Int) < (60 : Int) := by omega
      clear hS hcell ek hr y1 y3
      gi_wp2_with fail
      refine Code.wpIn_mono NoPanic.imp ?_
      gi_region_with (first | (refine ⟨trivial, ?_⟩; refine (callsIn_wide.2 (PU.out _ (by first | exact .inl rfl | exact .inr rfl))).mono ?_; rintro e w8 ⟨rfl, hM⟩; have HM : Hid _ := hM; clear hM))
      all_goals (
        refine NoPanic.normal ?_
        clear PU
        gi_wp2_with fail
        go_roundw
        case rel => exact ⟨i + 1, by omega, by go_num, HM⟩
        case measure => simp [intOf]; omega)
    · obtain rfl : n = i := by omega
      clear hin hi
      have two : ¬ n < L1 ∨ (n < L1 ∧ ¬ n < 60) := by
        have := EN.out
        omega
      rcases two with t1 | ⟨t1, t2⟩
      · gi_wp2_with (refine ⟨trivial, ?_⟩; refine (callsIn_wide.2 (hall_any hb _)).mono ?_; rintro e w5 ⟨rfl, rfl⟩)
        obtain ⟨b9, eb9⟩ : ∃ b9, b9 = wr.heap.size := ⟨_, rfl⟩
        obtain ⟨W5, hW5⟩ : ∃ W5, W5 = ((wr.alloc (.cells #[.int .i64 (n : Int)] 3)).alloc (.cells #[.pointer (some ⟨hb, 0, none⟩)] 23)).alloc (.cells #[.int .i64 0] 3) := ⟨_, rfl⟩
        simp only [Nat.add_assoc, Nat.reduceAdd]
        rw [← hW5, ← eb9]
        have H5 : Hid ((Gs Wa W5 xb hb ob md (n + 3 * 0) n ((n : Int) + ((0 : Nat) : Int)) (PT n xs 0) ∧ Boxed W5 b9 3 (.int .i64 (n : Int)) ∧ Boxed W5 (b9 + 1) 23 (.pointer (some ⟨hb, 0, none⟩)) ∧ Boxed W5 (b9 + 2) 3 (.int .i64 ((0 : Nat) : Int))) ∧ W5.heap.size = b9 + 3 ∧ Wa.heap.size ≤ b9) := by
          have B5 : Below wr.heap.size wr W5 := by rw [hW5]; exact (((Below.refl _ _).alloc (Nat.le_refl _) _).alloc (by simp) _).alloc (by simp <;> omega) _
          refine ⟨⟨?_, ?_, ?_, ?_⟩, by rw [hW5, eb9]; simp, by rw [eb9]; exact hS.out.bel.size⟩
          · have := (hS.out.mono B5).imp fun T h => h.all
            simpa using this
          · rw [hW5, eb9]
            exact ((Boxed.new wr _ _).alloc _).alloc _
          · have := (Boxed.new (wr.alloc (.cells #[.int .i64 (n : Int)] 3)) 23 (.pointer (some ⟨hb, 0, none⟩))).alloc (.cells #[.int .i64 0] 3)
            rw [hW5, eb9]
            simpa using this
          · have := Boxed.new ((wr.alloc (.cells #[.int .i64 (n : Int)] 3)).alloc (.cells #[.pointer (some ⟨hb, 0, none⟩)] 23)) 3 (.int .i64 0)
            rw [hW5, eb9]
            simpa using this
        clear hW5 eb9 hS c0 y0 y1 y3
        obtain ⟨X, eX⟩ : ∃ X : Nat → Int × Int, X = fun (j : Nat) => ((j : Int) + 1, xs j) := ⟨_, rfl⟩
        obtain ⟨fa, fcap, fmb, fnn, ff, fit, fke, fva, S5, hX0⟩ := H5.out.1.1.tells0
        have HSX : Hid (HsI W5 Wa.heap.size hb ob fa n fcap fmb fnn ((n : Int) + ((0 : Nat) : Int)) ff fit fke fva ∧ ∀ ys, Gd n ((List.range n).map fun i => (fit (ff i), fke (ff i))).toArray ys → ∀ j, j < n → ys.getD j (0, 0) = X j) := ⟨S5, fun ys hG j hj => by rw [eX]; exact hX0 ys hG j hj⟩
        have HX : Hid (∀ k, X k = ((k : Int) + 1, xs k)) := fun k => by rw [eX]
        have cBs := H5.out.1.2.2.1.cell
        clear S5 hX0 eX
        refine range_X (X := X) (N := n) (lb := #[.pointer (some ⟨b9 + 1, 0, none⟩)]) rfl (hall_at sorts_mk 8 (by omega) (b9 + 1) X HSX.out.2 W5 cBs HSX.out.1)
          (fun k W => Gs Wa W xb hb ob md (n + 3 * k) n ((n : Int) + (k : Int)) (PT n xs k) ∧ Boxed W b9 3 (.int .i64 (n : Int)) ∧ Boxed W (b9 + 1) 23 (.pointer (some ⟨hb, 0, none⟩)) ∧ Boxed W (b9 + 2) 3 (.int .i64 (k : Int)))
          (fun _ _ => False)
          (fun k A B ⟨h1, h2, h3, h4⟩ hB => ⟨h1.mono hB, Boxed.below h2 hB, Boxed.below h3 hB, Boxed.below h4 hB⟩)
          (fun k A l o o' ⟨h1, h2, h3, h4⟩ hl ho hc hw => ⟨h1.putO o' (by have := H5.out.2; omega) ho hc hw, Boxed.putO h2 o' ho hc, Boxed.putO h3 o' ho hc, Boxed.putO h4 o' ho hc⟩)
          (fun c A l o o' h _ _ _ _ => h)
          H5.out.1 (fun a v1 v2 => a2 a 45 46 12 13 v1 v2) ?assign ?body ?done ?stop
        case assign =>
          intro l k W K hk hK
          simp only [a2, List.setIfInBounds_toArray, List.set_cons_zero, List.set_cons_succ] at hK
          gi_wp2_with fail
          exact hK
        case body =>
          intro l k W hk hl hlr ⟨hG, h9, h10, h11⟩
          simp only [a2, List.setIfInBounds_toArray, List.set_cons_zero, List.set_cons_succ]
          rw [HX.out k]
          clear cBs hlr
          have k11 := h11.cell
          have z11 := h11.frozen
          have w6 : IntKind.i64.wrap ((k : Int) + 1) = (k : Int) + 1 := by rw [IntKind.wrap_i64]; omega
          have w7 : IntKind.i64.wrap ((n : Int) + 1) = (n : Int) + 1 := by rw [IntKind.wrap_i64]; omega
          have w8 : IntKind.i64.wrap ((n : Int) + 1 - ((k : Int) + 1)) = (n : Int) - (k : Int) := by rw [IntKind.wrap_i64]; omega
          have w9 : IntKind.i64.wrap ((n : Int) + ((k : Int) + 1)) = (n : Int) + (k : Int) + 1 := by rw [IntKind.wrap_i64]; omega
          have w10 : IntKind.i64.wrap ((k : Int) + 1 - 1) = (k : Int) := by rw [IntKind.wrap_i64]; omega
          obtain ⟨W1, hW1⟩ : ∃ W1, W1 = W.setCell ⟨b9 + 2, 0, none⟩ (.int .i64 ((k : Int) + 1)) := ⟨_, rfl⟩
          have H1 : Hid (Gs Wa W1 xb hb ob md (n + 3 * k) n ((n : Int) + (k : Int)) (PT n xs k) ∧ Boxed W1 b9 3 (.int .i64 (n : Int)) ∧ Boxed W1 (b9 + 1) 23 (.pointer (some ⟨hb, 0, none⟩)) ∧ Boxed W1 (b9 + 2) 3 (.int .i64 ((k : Int) + 1)) ∧ KeepsL W5.heap.size W W1 ∧ Kmk W W1) := by
            rw [hW1]
            exact ⟨hG.box h11 (by unfold ot; decide) (by have := H5.out.2.2; omega) _, h9.other (by omega) _, h10.other (by omega) _, h11.set _, KeepsL.of_from ((KeepsOthers.setCell _ _ _).from _), Kmk.box h11 (by decide) _⟩
          clear hG h9 h10 h11
          have j0 := H1.out.1.cells.1
          have j1 := H1.out.2.1.cell
          have j2 := H1.out.2.2.2.1.cell
          obtain ⟨y0, y1, _, y3⟩ := KX.out W1 H1.out.1.bel
          obtain ⟨b, o, ea, hcell⟩ := HK.out.at y3 (by omega)
          have ck := hcell k (by omega)
          subst ea
          have hkL : k < L1 := by omega
          obtain ⟨x, ex⟩ : ∃ x, x = xs k := ⟨_, rfl⟩
          rw [← ex] at ck
          rw [← ex]
          have HEX : Hid (x = xs k) := ex
          rw [hW1] at j0 j1 j2 y0 ck
          clear hcell ex y1 y3
          have R1 : Hid (Rb W5.heap.size W W1 b9 hb (n : Int) ((k : Int) + 1)) := ⟨H1.out.2.1, H1.out.2.2.1, H1.out.2.2.2.1, H1.out.2.2.2.2.1, H1.out.2.2.2.2.2⟩
          have hx : -9223372036854775808 ≤ x ∧ x ≤ 9223372036854775807 := by rw [HEX.out]; exact HK.out.wf k (by omega)
          have RM : Hid (Calls Try.prog 15 #[.pointer (some ⟨hb, 0, none⟩), .int .i64 ((n : Int) - (k : Int))] W1 fun e w' => (∃ v, e = .returned v) ∧ Hid (Gs Wa w' xb hb ob md (n + 3 * k + 1) (n - 1) ((n : Int) + (k : Int)) (fun T' => ∃ T, PT n xs k T ∧ T' = updT T ((n : Int) - (k : Int)) none) ∧ Rb W5.heap.size W w' b9 hb (n : Int) ((k : Int) + 1))) := by
            refine (H1.out.1.remove1 ((n : Int) - (k : Int)) (by omega) (by omega) (by omega) fun T h => ?_).mono fun e w' ⟨q1, q2, q3⟩ => ⟨q1, q2, R1.out.step q3⟩
            obtain ⟨v, hv⟩ := h.2 (n - k - 1) (by omega)
            have e2 : (((n - k - 1 : Nat) : Int) + 1) = (n : Int) - (k : Int) := by omega
            rw [e2] at hv
            exact ⟨_, v, hv⟩
          have PU : Hid (∀ Wc, Gs Wa Wc xb hb ob md (n + 3 * k + 1) (n - 1) ((n : Int) + (k : Int)) (fun T' => ∃ T, PT n xs k T ∧ T' = updT T ((n : Int) - (k : Int)) none) ∧ Rb W5.heap.size W Wc b9 hb (n : Int) ((k : Int) + 1) → Calls Try.prog 13 #[.pointer (some ⟨hb, 0, none⟩), .int .i64 x, .int .i64 (-1)] Wc fun e w' => e = .returned (.int .i64 ((n : Int) + (k : Int) + 1)) ∧ Hid (Gs Wa w' xb hb ob md (n + 3 * k + 1 + 1) n ((n : Int) + (k : Int) + 1) (fun T' => ∃ T1, (∃ T, PT n xs k T ∧ T1 = updT T ((n : Int) - (k : Int)) none) ∧ T' = updT T1 ((n : Int) + (k : Int) + 1) (some (x, -1))) ∧ Rb W5.heap.size W w' b9 hb (n : Int) ((k : Int) + 1))) := fun Wc ⟨h1, h2⟩ => by
            refine (h1.push x (-1) (by omega) (by omega) (by omega) hx).mono fun e w' ⟨q1, q2, q3⟩ => ⟨q1, ?_, h2.step q3⟩
            rw [Nat.sub_add_cancel (show 1 ≤ n by omega)] at q2
            exact q2
          have UP : Hid (∀ Wc, Gs Wa Wc xb hb ob md (n + 3 * k + 1 + 1) n ((n : Int) + (k : Int) + 1) (fun T' => ∃ T1, (∃ T, PT n xs k T ∧ T1 = updT T ((n : Int) - (k : Int)) none) ∧ T' = updT T1 ((n : Int) + (k : Int) + 1) (some (x, -1))) ∧ Rb W5.heap.size W Wc b9 hb (n : Int) ((k : Int) + 1) → Calls Try.prog 16 #[.pointer (some ⟨hb, 0, none⟩), .int .i64 ((n : Int) + (k : Int) + 1), .int .i64 (wrap64 (x + 1))] Wc fun e w' => e = .returned (.int .i64 0) ∧ Hid (Gs Wa w' xb hb ob md (n + 3 * (k + 1)) n ((n : Int) + ((k + 1 : Nat) : Int)) (PT n xs (k + 1)) ∧ Rb W5.heap.size W w' b9 hb (n : Int) ((k + 1 : Nat) : Int))) := fun Wc ⟨h1, h2⟩ => by
            rw [← nxt_wrap]
            refine (h1.update ((n : Int) + (k : Int) + 1) (nxt x) (by omega) (by omega) (nxt_wf x) fun T ⟨T1, _, e⟩ => ?_).mono fun e w' ⟨q1, q2, q3⟩ => ⟨q1, ?_, ?_⟩
            · exact ⟨x, -1, by rw [e]; unfold updT; rw [if_pos rfl]⟩
            · have e1 : ((k + 1 : Nat) : Int) = (k : Int) + 1 := by omega
              rw [e1, ← Int.add_assoc]
              refine Gs.imp (c := n + 3 * k + 1 + 1 + 1) q2 fun T' ⟨T, v, ⟨T1, ⟨T0, p1, p2⟩, p3⟩, p4⟩ => PT.round (T1 := T1) (T2 := T) (T3 := T') hk (u := -1) (v := v) p1 p2 (by rw [p3, HEX.out]) (by rw [p4, HEX.out])
            · have e1 : ((k + 1 : Nat) : Int) = (k : Int) + 1 := by omega
              rw [e1]
              exact h2.step q3
          clear H1
          gi_wp2_with fail
          rw [← hW1]
          refine ⟨trivial, ?_⟩
          refine (callsIn_wide.2 RM.out).mono ?_
          rintro e w6 ⟨⟨v6, rfl⟩, q6⟩
          have j0' := q6.out.1.cells.1
          clear RM R1 j0 j1 j2 y0 ck hW1
          gi_wp2_with fail
          refine ⟨trivial, ?_⟩
          refine (callsIn_wide.2 (PU.out _ q6.out)).mono ?_
          rintro e w7 ⟨rfl, q7⟩
          have j0 := q7.out.1.cells.1
          have j1 := q7.out.2.1.cell
          have j2 := q7.out.2.2.2.1.cell
          clear PU q6 j0'
          gi_wp2_with fail
          refine ⟨trivial, ?_⟩
          refine (callsIn_wide.2 (UP.out _ q7.out)).mono ?_
          rintro e w8 ⟨rfl, q8⟩
          clear UP q7 j0 j1 j2
          gi_wp2_with fail
          obtain ⟨g1, g2, g3, g4, g5, g6⟩ := q8.out
          exact ⟨g5, g6, g1, g2, g3, g4⟩
        case done =>
          rintro D1 W hD ⟨hG, h9, h10, h11⟩ hK1
          clear cBs
          have j0 := hG.cells.1
          have j9 := h9.cell
          have j11 := h11.cell
          have LN : Hid (∀ q, Calls Try.prog 17 #[.pointer (some ⟨hb, 0, none⟩)] (W.drewN q) fun e w' => e = .returned (.int .i64 (n : Int)) ∧ w' = W.drewN q) := fun q => by
            obtain ⟨N, T, p1, p2, p3⟩ := hG.hp
            exact (p2.keep (W' := W.drewN q) ⟨rfl, rfl, rfl, Nat.le_refl _, fun _ _ => rfl⟩).len
          have HD : Hid (Gs Wa W xb hb ob md (n + 3 * n) n ((n : Int) + (n : Int)) (PT n xs n) ∧ Boxed W b9 3 (.int .i64 (n : Int)) ∧ Boxed W (b9 + 1) 23 (.pointer (some ⟨hb, 0, none⟩)) ∧ W.heap[D1]? = some (.deferred (some [])) ∧ b9 + 3 ≤ D1 ∧ Wa.heap.size ≤ b9) := ⟨hG, h9, h10, hK1, by have := H5.out.2.1; omega, H5.out.2.2⟩
          clear hG h9 h10 h11 hK1 hD H5 HSX HX
          gi_wp2_with fail
          refine wpIn_wide.2 ?_
          go_quiet (exact Calls.quiet_of_same (LN.out _))
          obtain ⟨W6, hW6⟩ : ∃ W6, W6 = W.drewN nq := ⟨_, rfl⟩
          obtain ⟨b14, eb14⟩ : ∃ b14, b14 = W6.heap.size := ⟨_, rfl⟩
          have H6 : Hid (Gs Wa W6 xb hb ob md (n + 3 * n) n ((n : Int) + (n : Int)) (PT n xs n) ∧ Boxed W6 b9 3 (.int .i64 (n : Int)) ∧ W6.heap[D1]? = some (.deferred (some [])) ∧ n0 + 3 ≤ D1 ∧ W6.heap.size = b14) := by
            rw [hW6]
            refine ⟨HD.out.1.mono ⟨rfl, rfl, rfl, Nat.le_refl _, fun _ _ => rfl⟩, HD.out.2.1, HD.out.2.2.2.1, ?_, by rw [eb14, hW6]⟩
            have q1 := HD.out.2.2.2.2
            have q2 := HA.out.2.2.2.2.1
            omega
          have h10 : Boxed W6 (b9 + 1) 23 (.pointer (some ⟨hb, 0, none⟩)) := by rw [hW6]; exact HD.out.2.2.1
          rw [← hW6]
          clear hW6 HD LN j0 j9 j11
          gi_wp2_with fail
          obtain ⟨W7, hW7⟩ : ∃ W7, W7 = W6.alloc (.cells #[.int .i64 0] 3) := ⟨_, rfl⟩
          rw [← hW7, ← eb14]
          have B7 : Below b14 W6 W7 := by rw [hW7, eb14]; exact (Below.refl _ _).alloc (Nat.le_refl _) _
          have hb14 : Boxed W7 b14 3 (.int .i64 ((0 : Nat) : Int)) := by rw [hW7, eb14]; exact Boxed.new _ _ _
          have s7 : W7.heap.size = b14 + 1 := by rw [hW7, eb14]; simp
          have cBs : W7.cell? ⟨b9 + 1, 0, none⟩ = some (.pointer (some ⟨hb, 0, none⟩)) := Boxed.cell ((B7.block _ (by have := h10.lt; omega)).trans h10)
          obtain ⟨sN, hs, hs64⟩ : ∃ sN : Nat, bits .and .i64 stop 63 = (sN : Int) ∧ sN < 64 := by
            have q9 := i64_mask stop 6 (by omega) 63 (by rfl)
            have q10 := Int.emod_nonneg stop (show ((2 ^ 6 : Nat) : Int) ≠ 0 by decide)
            have q11 := Int.emod_lt_of_pos stop (show (0 : Int) < ((2 ^ 6 : Nat) : Int) by decide)
            exact ⟨(stop % ((2 ^ 6 : Nat) : Int)).toNat, by rw [q9]; omega, by omega⟩
          obtain ⟨X2, eX2⟩ : ∃ X : Nat → Int × Int, X = fun (j : Nat) => ((n : Int) + 1 + (j : Int), nxt (xs j)) := ⟨_, rfl⟩
          have G7 : Gs Wa W7 xb hb ob md (n + 3 * n) n ((n : Int) + (n : Int)) (PT n xs n) := H6.out.1.mono (by rw [H6.out.2.2.2.2]; exact B7)
          obtain ⟨N7, T7, p1, p2, p3⟩ := G7.hp
          obtain ⟨ga, gcap, gmb, gnn, gf', git, gke, gva, S7, hX7⟩ := p2.tells n (fun j => nxt (xs j)) p3.last
          have HSX : Hid (HsI W7 Wa.heap.size hb ob ga n gcap gmb gnn ((n : Int) + (n : Int)) gf' git gke gva ∧ ∀ ys, Gd n ((List.range n).map fun i => (git (gf' i), gke (gf' i))).toArray ys → ∀ j, j < n → ys.getD j (0, 0) = X2 j) := ⟨S7, fun ys hG j hj => by rw [eX2]; exact hX7 ys hG j hj⟩
          have HB7 : Hid (Below b14 W6 W7 ∧ Boxed W7 b14 3 (.int .i64 ((0 : Nat) : Int)) ∧ W7.heap.size = b14 + 1 ∧ b14 = W6.heap.size) := ⟨B7, hb14, s7, eb14⟩
          clear S7 hX7 p1 p2 p3 G7 eX2 B7 hb14 s7 hW7 eb14 h10
          refine range_X (X := X2) (N := n) (lb := #[.pointer (some ⟨b9 + 1, 0, none⟩)]) rfl (hall_at sorts_mk 8 (by omega) (b9 + 1) X2 HSX.out.2 W7 cBs HSX.out.1)
            (fun k W => k ≤ sN ∧ Boxed W b14 3 (.int .i64 (k : Int)) ∧ Below b14 W6 W)
            (fun c W => c = .exit 4 ∧ sN + 1 ≤ n ∧ Boxed W b14 3 (.int .i64 ((sN + 1 : Nat) : Int)) ∧ Below b14 W6 W)
            (fun k A B ⟨h1, h2, h3⟩ hB => ⟨h1, Boxed.below h2 hB, h3.trans (hB.mono (by have := h3.size; have := HB7.out.2.2.2; omega))⟩)
            (fun k A l o o' ⟨h1, h2, h3⟩ hl ho hc _ => ⟨h1, Boxed.putO h2 o' ho hc, below_putO h3 o' ho (by have := HB7.out.2.2.1; omega)⟩)
            (fun c A l o o' ⟨h0, h1, h2, h3⟩ hl ho hc _ => ⟨h0, h1, Boxed.putO h2 o' ho hc, below_putO h3 o' ho (by have := HB7.out.2.2.1; omega)⟩)
            ⟨Nat.zero_le _, HB7.out.2.1, HB7.out.1⟩ (fun a v1 v2 => a0 a 91 92 v1 v2) ?assignB ?bodyB ?doneB ?stopB
          case assignB =>
            intro l k W K hk hK
            simp only [a0, List.setIfInBounds_toArray, List.set_cons_zero, List.set_cons_succ] at hK
            gi_wp2_with fail
            first
              | (simp; exact hK)
              | simpa using hK
          case bodyB =>
            intro l k W2 hk hl hlr ⟨hks, hb2, hB⟩
            simp only [a0, List.setIfInBounds_toArray, List.set_cons_zero, List.set_cons_succ]
            clear cBs hlr
            have k14 := hb2.cell
            have z14 := hb2.frozen
            have w6 : IntKind.i64.wrap ((k : Int) + 1) = (k : Int) + 1 := by rw [IntKind.wrap_i64]; omega
            have BA : Below Wa.heap.size Wa (W2.setCell ⟨b14, 0, none⟩ (.int .i64 ((k : Int) + 1))) := by
              have q1 := H6.out.1.bel.size
              have q2 := H6.out.2.2.2.2
              exact (H6.out.1.bel.trans (hB.mono (by omega))).setCell (p := ⟨b14, 0, none⟩) (by show Wa.heap.size ≤ b14; omega) _
            obtain ⟨_, y1, _, _⟩ := KX.out _ BA
            have HQ : Hid (Boxed W2 b14 3 (.int .i64 (k : Int)) ∧ Below b14 W6 W2) := ⟨hb2, hB⟩
            clear hb2 hB BA
            by_cases hlt : k < sN
            · have d1 : ¬ (sN : Int) < (k : Int) + 1 := by omega
              gi_wp2_with fail
              have e1 : ((k + 1 : Nat) : Int) = (k : Int) + 1 := by omega
              exact ⟨KeepsL.of_from ((KeepsOthers.setCell _ _ _).from _), Kmk.box HQ.out.1 (by decide) _, by omega, by first | exact HQ.out.1.set _ | (rw [e1]; exact HQ.out.1.set _), HQ.out.2.setCell (p := ⟨b14, 0, none⟩) (Nat.le_refl _) _⟩
            · have d1 : (sN : Int) < (k : Int) + 1 := by omega
              gi_wp2_with fail
              have e1 : ((sN + 1 : Nat) : Int) = (k : Int) + 1 := by omega
              exact ⟨KeepsL.of_from ((KeepsOthers.setCell _ _ _).from _), rfl, by omega, by first | (rw [e1]; exact HQ.out.1.set _) | (rw [show (sN : Int) + 1 = (k : Int) + 1 by omega]; exact HQ.out.1.set _), HQ.out.2.setCell (p := ⟨b14, 0, none⟩) (Nat.le_refl _) _⟩
          case doneB =>
            rintro D2 W2 hD2 ⟨hks, hb2, hB⟩ hK2
            have hD2' : b14 + 1 ≤ D2 := by have := HB7.out.2.2.1; omega
            clear cBs HSX HB7 hD2
            have w6 : IntKind.i64.wrap ((sN : Int) + 1) = (sN : Int) + 1 := by rw [IntKind.wrap_i64]; omega
            have mm : (if (sN : Int) + 1 < (n : Int) then (sN : Int) + 1 else (n : Int)) = (n : Int) := by split <;> omega
            have mm2 : min (n : Int) ((sN : Int) + 1) = (n : Int) := by omega
            have BA : Below Wa.heap.size Wa W2 := H6.out.1.bel.trans (hB.mono (by have := H6.out.2.2.2.2; have := H6.out.1.bel.size; omega))
            obtain ⟨_, y1, y2, y3⟩ := KX.out W2 BA
            have k14 := hb2.cell
            have k9 := Boxed.cell (v := .int .i64 (n : Int)) (t := 3) ((hB.block b9 (by have := Boxed.lt H6.out.2.1; have := H6.out.2.2.2.2; omega)).trans H6.out.2.1)
            have G2 : Gs Wa W2 xb hb ob md (n + 3 * n) n ((n : Int) + (n : Int)) (PT n xs n) := H6.out.1.mono (by rw [H6.out.2.2.2.2]; exact hB)
            have kx := G2.cells.1
            have NE : Hid (Calls Try.prog 18 #[.pointer (some ⟨hb, 0, none⟩), .int .i64 (n : Int)] W2 fun e w' => e = .returned (.bool true) ∧ Below W2.heap.size W2 w') := by
              obtain ⟨N, T, p1, p2, p3⟩ := G2.hp
              exact nested_any p2 n (fun j => nxt (xs j)) p3.last n2 n2
            have HQ : Hid (Below Wa.heap.size Wa W2 ∧ W2.heap[D1]? = some (.deferred (some [])) ∧ W2.heap[D2]? = some (.deferred (some [])) ∧ D1 < D2 ∧ n0 + 3 ≤ D1 ∧ Wa.heap.size = n0 + 3 ∧ n0 = W0.heap.size) := by
              have q1 := H6.out.2.2.1
              have q2 := H6.out.2.2.2.2
              have q3 := (Array.getElem?_eq_some_iff.1 q1).1
              have q4 := HA.out.2.2.2.2
              have q5 := H6.out.2.2.2.1
              exact ⟨BA, (hB.block D1 (by omega)).trans q1, hK2, by omega, by omega, q4.1, q4.2⟩
            clear hB hb2 hK2 G2 BA y3
            gi_wp2_with fail
            refine ⟨trivial, ?_⟩
            refine (callsIn_wide.2 NE.out).mono ?_
            rintro e w8 ⟨rfl, B8⟩
            gi_wp2_with fail
            refine ⟨trivial, ?_⟩
            refine (callsIn_wide.2 (started_any w8)).mono ?_
            rintro e w9 ⟨rfl, B9⟩
            have B29 : Below W2.heap.size W2 w9 := B8.trans (B9.mono B8.size)
            have b2 : Boxed w9 (n0 + 2) 4 (.bool false) := Boxed.below y2 B29
            have k2 := b2.cell
            have z2 := b2.frozen
            have HE : Hid (Boxed (w9.setCell ⟨n0 + 2, 0, none⟩ (.bool true)) (n0 + 2) 4 (.bool true) ∧ Below W0.heap.size W0 (w9.setCell ⟨n0 + 2, 0, none⟩ (.bool true)) ∧ (w9.setCell ⟨n0 + 2, 0, none⟩ (.bool true)).heap[D1]? = some (.deferred (some [])) ∧ (w9.setCell ⟨n0 + 2, 0, none⟩ (.bool true)).heap[D2]? = some (.deferred (some []))) := by
              obtain ⟨q1, q2, q3, q4, q5, q6, q7⟩ := HQ.out
              have r1 := (Array.getElem?_eq_some_iff.1 q2).1
              have r2 := (Array.getElem?_eq_some_iff.1 q3).1
              refine ⟨b2.set _, ((HA.out.2.2.2.1.trans (q1.mono HA.out.2.2.2.1.size)).trans (B29.mono ?_)).setCell (p := ⟨n0 + 2, 0, none⟩) (by show W0.heap.size ≤ n0 + 2; omega) _, (Below.heap_setCell _ _ _ _ (show D1 ≠ n0 + 2 by omega)).trans ((B29.block D1 r1).trans q2), (Below.heap_setCell _ _ _ _ (show D2 ≠ n0 + 2 by omega)).trans ((B29.block D2 r2).trans q3)⟩
              have := q1.size
              omega
            clear B8 B9 B29 b2 y1 y2 k14 k9 kx NE
            gi_wp2_with fail
            refine leaves_marks [D2, D1] _ (by have := HQ.out.2.2.2.1; simp; omega) (fun D hD => ?_) fun w10 g1 g2 g3 g4 g5 => ?_
            · rcases List.mem_cons.1 hD with rfl | hD
              · exact HE.out.2.2.2
              · obtain rfl : D = D1 := by simpa using hD
                exact HE.out.2.2.1
            · have hc5 : w10.cell? ⟨n0 + 2, 0, none⟩ = some (.bool true) := Boxed.cell ((g1 _ (by have := HQ.out.2.2.2; simp; omega)).trans HE.out.1)
              have hB9 := HE.out.2.1
              refine ⟨.bool true, ?_, rfl, ⟨g2.trans hB9.os, g3.trans hB9.tape, g4.trans hB9.output, by have := hB9.size; omega, fun k hk => (g1 k (by have := HQ.out.2.2.2; simp; omega)).trans (hB9.block k hk)⟩⟩
              simp [results, Try.results4, go_sem, hc5]
          case stopB =>
            rintro D2 c W2 hD2 ⟨rfl, hks, hb2, hB⟩ hK2
            have hD2' : b14 + 1 ≤ D2 := by have := HB7.out.2.2.1; omega
            clear cBs HSX HB7 hD2
            have e1 : ((sN + 1 : Nat) : Int) = (sN : Int) + 1 := by omega
            rw [e1] at hb2
            clear e1
            have w6 : IntKind.i64.wrap ((sN : Int) + 1) = (sN : Int) + 1 := by rw [IntKind.wrap_i64]; omega
            have mm : (if (sN : Int) + 1 < (n : Int) then (sN : Int) + 1 else (n : Int)) = (sN : Int) + 1 := by split <;> omega
            have mm2 : min (n : Int) ((sN : Int) + 1) = (sN : Int) + 1 := by omega
            have BA : Below Wa.heap.size Wa W2 := H6.out.1.bel.trans (hB.mono (by have := H6.out.2.2.2.2; have := H6.out.1.bel.size; omega))
            obtain ⟨_, y1, y2, y3⟩ := KX.out W2 BA
            have k14 := hb2.cell
            have k9 := Boxed.cell (v := .int .i64 (n : Int)) (t := 3) ((hB.block b9 (by have := Boxed.lt H6.out.2.1; have := H6.out.2.2.2.2; omega)).trans H6.out.2.1)
            have G2 : Gs Wa W2 xb hb ob md (n + 3 * n) n ((n : Int) + (n : Int)) (PT n xs n) := H6.out.1.mono (by rw [H6.out.2.2.2.2]; exact hB)
            have kx := G2.cells.1
            have NE : Hid (Calls Try.prog 18 #[.pointer (some ⟨hb, 0, none⟩), .int .i64 (n : Int)] W2 fun e w' => e = .returned (.bool true) ∧ Below W2.heap.size W2 w') := by
              obtain ⟨N, T, p1, p2, p3⟩ := G2.hp
              exact nested_any p2 n (fun j => nxt (xs j)) p3.last n2 n2
            have HQ : Hid (Below Wa.heap.size Wa W2 ∧ W2.heap[D1]? = some (.deferred (some [])) ∧ W2.heap[D2]? = some (.deferred (some [])) ∧ D1 < D2 ∧ n0 + 3 ≤ D1 ∧ Wa.heap.size = n0 + 3 ∧ n0 = W0.heap.size) := by
              have q1 := H6.out.2.2.1
              have q2 := H6.out.2.2.2.2
              have q3 := (Array.getElem?_eq_some_iff.1 q1).1
              have q4 := HA.out.2.2.2.2
              have q5 := H6.out.2.2.2.1
              exact ⟨BA, (hB.block D1 (by omega)).trans q1, hK2, by omega, by omega, q4.1, q4.2⟩
            clear hB hb2 hK2 G2 BA y3
            gi_wp2_with fail
            refine ⟨trivial, ?_⟩
            refine (callsIn_wide.2 NE.out).mono ?_
            rintro e w8 ⟨rfl, B8⟩
            gi_wp2_with fail
            refine ⟨trivial, ?_⟩
            refine (callsIn_wide.2 (started_any w8)).mono ?_
            rintro e w9 ⟨rfl, B9⟩
            have B29 : Below W2.heap.size W2 w9 := B8.trans (B9.mono B8.size)
            have b2 : Boxed w9 (n0 + 2) 4 (.bool false) := Boxed.below y2 B29
            have k2 := b2.cell
            have z2 := b2.frozen
            have HE : Hid (Boxed (w9.setCell ⟨n0 + 2, 0, none⟩ (.bool true)) (n0 + 2) 4 (.bool true) ∧ Below W0.heap.size W0 (w9.setCell ⟨n0 + 2, 0, none⟩ (.bool true)) ∧ (w9.setCell ⟨n0 + 2, 0, none⟩ (.bool true)).heap[D1]? = some (.deferred (some [])) ∧ (w9.setCell ⟨n0 + 2, 0, none⟩ (.bool true)).heap[D2]? = some (.deferred (some []))) := by
              obtain ⟨q1, q2, q3, q4, q5, q6, q7⟩ := HQ.out
              have r1 := (Array.getElem?_eq_some_iff.1 q2).1
              have r2 := (Array.getElem?_eq_some_iff.1 q3).1
              refine ⟨b2.set _, ((HA.out.2.2.2.1.trans (q1.mono HA.out.2.2.2.1.size)).trans (B29.mono ?_)).setCell (p := ⟨n0 + 2, 0, none⟩) (by show W0.heap.size ≤ n0 + 2; omega) _, (Below.heap_setCell _ _ _ _ (show D1 ≠ n0 + 2 by omega)).trans ((B29.block D1 r1).trans q2), (Below.heap_setCell _ _ _ _ (show D2 ≠ n0 + 2 by omega)).trans ((B29.block D2 r2).trans q3)⟩
              have := q1.size
              omega
            clear B8 B9 B29 b2 y1 y2 k14 k9 kx NE
            gi_wp2_with fail
            refine leaves_marks [D2, D1] _ (by have := HQ.out.2.2.2.1; simp; omega) (fun D hD => ?_) fun w10 g1 g2 g3 g4 g5 => ?_
            · rcases List.mem_cons.1 hD with rfl | hD
              · exact HE.out.2.2.2
              · obtain rfl : D = D1 := by simpa using hD
                exact HE.out.2.2.1
            · have hc5 : w10.cell? ⟨n0 + 2, 0, none⟩ = some (.bool true) := Boxed.cell ((g1 _ (by have := HQ.out.2.2.2; simp; omega)).trans HE.out.1)
              have hB9 := HE.out.2.1
              refine ⟨.bool true, ?_, rfl, ⟨g2.trans hB9.os, g3.trans hB9.tape, g4.trans hB9.output, by have := hB9.size; omega, fun k hk => (g1 k (by have := HQ.out.2.2.2; simp; omega)).trans (hB9.block k hk)⟩⟩
              simp [results, Try.results4, go_sem, hc5]
        case stop =>
          rintro D c W _ h _
          exact h.elim
      · gi_wp2_with (refine ⟨trivial, ?_⟩; refine (callsIn_wide.2 (hall_any hb _)).mono ?_; rintro e w5 ⟨rfl, rfl⟩)
        obtain ⟨b9, eb9⟩ : ∃ b9, b9 = wr.heap.size := ⟨_, rfl⟩
        obtain ⟨W5, hW5⟩ : ∃ W5, W5 = ((wr.alloc (.cells #[.int .i64 (n : Int)] 3)).alloc (.cells #[.pointer (some ⟨hb, 0, none⟩)] 23)).alloc (.cells #[.int .i64 0] 3) := ⟨_, rfl⟩
        simp only [Nat.add_assoc, Nat.reduceAdd]
        rw [← hW5, ← eb9]
        have H5 : Hid ((Gs Wa W5 xb hb ob md (n + 3 * 0) n ((n : Int) + ((0 : Nat) : Int)) (PT n xs 0) ∧ Boxed W5 b9 3 (.int .i64 (n : Int)) ∧ Boxed W5 (b9 + 1) 23 (.pointer (some ⟨hb, 0, none⟩)) ∧ Boxed W5 (b9 + 2) 3 (.int .i64 ((0 : Nat) : Int))) ∧ W5.heap.size = b9 + 3 ∧ Wa.heap.size ≤ b9) := by
          have B5 : Below wr.heap.size wr W5 := by rw [hW5]; exact (((Below.refl _ _).alloc (Nat.le_refl _) _).alloc (by simp) _).alloc (by simp <;> omega) _
          refine ⟨⟨?_, ?_, ?_, ?_⟩, by rw [hW5, eb9]; simp, by rw [eb9]; exact hS.out.bel.size⟩
          · have := (hS.out.mono B5).imp fun T h => h.all
            simpa using this
          · rw [hW5, eb9]
            exact ((Boxed.new wr _ _).alloc _).alloc _
          · have := (Boxed.new (wr.alloc (.cells #[.int .i64 (n : Int)] 3)) 23 (.pointer (some ⟨hb, 0, none⟩))).alloc (.cells #[.int .i64 0] 3)
            rw [hW5, eb9]
            simpa using this
          · have := Boxed.new ((wr.alloc (.cells #[.int .i64 (n : Int)] 3)).alloc (.cells #[.pointer (some ⟨hb, 0, none⟩)] 23)) 3 (.int .i64 0)
            rw [hW5, eb9]
            simpa using this
        clear hW5 eb9 hS c0 y0 y1 y3
        obtain ⟨X, eX⟩ : ∃ X : Nat → Int × Int, X = fun (j : Nat) => ((j : Int) + 1, xs j) := ⟨_, rfl⟩
        obtain ⟨fa, fcap, fmb, fnn, ff, fit, fke, fva, S5, hX0⟩ := H5.out.1.1.tells0
        have HSX : Hid (HsI W5 Wa.heap.size hb ob fa n fcap fmb fnn ((n : Int) + ((0 : Nat) : Int)) ff fit fke fva ∧ ∀ ys, Gd n ((List.range n).map fun i => (fit (ff i), fke (ff i))).toArray ys → ∀ j, j < n → ys.getD j (0, 0) = X j) := ⟨S5, fun ys hG j hj => by rw [eX]; exact hX0 ys hG j hj⟩
        have HX : Hid (∀ k, X k = ((k : Int) + 1, xs k)) := fun k => by rw [eX]
        have cBs := H5.out.1.2.2.1.cell
        clear S5 hX0 eX
        refine range_X (X := X) (N := n) (lb := #[.pointer (some ⟨b9 + 1, 0, none⟩)]) rfl (hall_at sorts_mk 8 (by omega) (b9 + 1) X HSX.out.2 W5 cBs HSX.out.1)
          (fun k W => Gs Wa W xb hb ob md (n + 3 * k) n ((n : Int) + (k : Int)) (PT n xs k) ∧ Boxed W b9 3 (.int .i64 (n : Int)) ∧ Boxed W (b9 + 1) 23 (.pointer (some ⟨hb, 0, none⟩)) ∧ Boxed W (b9 + 2) 3 (.int .i64 (k : Int)))
          (fun _ _ => False)
          (fun k A B ⟨h1, h2, h3, h4⟩ hB => ⟨h1.mono hB, Boxed.below h2 hB, Boxed.below h3 hB, Boxed.below h4 hB⟩)
          (fun k A l o o' ⟨h1, h2, h3, h4⟩ hl ho hc hw => ⟨h1.putO o' (by have := H5.out.2; omega) ho hc hw, Boxed.putO h2 o' ho hc, Boxed.putO h3 o' ho hc, Boxed.putO h4 o' ho hc⟩)
          (fun c A l o o' h _ _ _ _ => h)
          H5.out.1 (fun a v1 v2 => a2 a 45 46 12 13 v1 v2) ?assign ?body ?done ?stop
        case assign =>
          intro l k W K hk hK
          simp only [a2, List.setIfInBounds_toArray, List.set_cons_zero, List.set_cons_succ] at hK
          gi_wp2_with fail
          exact hK
        case body =>
          intro l k W hk hl hlr ⟨hG, h9, h10, h11⟩
          simp only [a2, List.setIfInBounds_toArray, List.set_cons_zero, List.set_cons_succ]
          rw [HX.out k]
          clear cBs hlr
          have k11 := h11.cell
          have z11 := h11.frozen
          have w6 : IntKind.i64.wrap ((k : Int) + 1) = (k : Int) + 1 := by rw [IntKind.wrap_i64]; omega
          have w7 : IntKind.i64.wrap ((n : Int) + 1) = (n : Int) + 1 := by rw [IntKind.wrap_i64]; omega
          have w8 : IntKind.i64.wrap ((n : Int) + 1 - ((k : Int) + 1)) = (n : Int) - (k : Int) := by rw [IntKind.wrap_i64]; omega
          have w9 : IntKind.i64.wrap ((n : Int) + ((k : Int) + 1)) = (n : Int) + (k : Int) + 1 := by rw [IntKind.wrap_i64]; omega
          have w10 : IntKind.i64.wrap ((k : Int) + 1 - 1) = (k : Int) := by rw [IntKind.wrap_i64]; omega
          obtain ⟨W1, hW1⟩ : ∃ W1, W1 = W.setCell ⟨b9 + 2, 0, none⟩ (.int .i64 ((k : Int) + 1)) := ⟨_, rfl⟩
          have H1 : Hid (Gs Wa W1 xb hb ob md (n + 3 * k) n ((n : Int) + (k : Int)) (PT n xs k) ∧ Boxed W1 b9 3 (.int .i64 (n : Int)) ∧ Boxed W1 (b9 + 1) 23 (.pointer (some ⟨hb, 0, none⟩)) ∧ Boxed W1 (b9 + 2) 3 (.int .i64 ((k : Int) + 1)) ∧ KeepsL W5.heap.size W W1 ∧ Kmk W W1) := by
            rw [hW1]
            exact ⟨hG.box h11 (by unfold ot; decide) (by have := H5.out.2.2; omega) _, h9.other (by omega) _, h10.other (by omega) _, h11.set _, KeepsL.of_from ((KeepsOthers.setCell _ _ _).from _), Kmk.box h11 (by decide) _⟩
          clear hG h9 h10 h11
          have j0 := H1.out.1.cells.1
          have j1 := H1.out.2.1.cell
          have j2 := H1.out.2.2.2.1.cell
          obtain ⟨y0, y1, _, y3⟩ := KX.out W1 H1.out.1.bel
          obtain ⟨b, o, ea, hcell⟩ := HK.out.at y3 (by omega)
          have ck := hcell k (by omega)
          subst ea
          have hkL : k < L1 := by omega
          obtain ⟨x, ex⟩ : ∃ x, x = xs k := ⟨_, rfl⟩
          rw [← ex] at ck
          rw [← ex]
          have HEX : Hid (x = xs k) := ex
          rw [hW1] at j0 j1 j2 y0 ck
          clear hcell ex y1 y3
          have R1 : Hid (Rb W5.heap.size W W1 b9 hb (n : Int) ((k : Int) + 1)) := ⟨H1.out.2.1, H1.out.2.2.1, H1.out.2.2.2.1, H1.out.2.2.2.2.1, H1.out.2.2.2.2.2⟩
          have hx : -9223372036854775808 ≤ x ∧ x ≤ 9223372036854775807 := by rw [HEX.out]; exact HK.out.wf k (by omega)
          have RM : Hid (Calls Try.prog 15 #[.pointer (some ⟨hb, 0, none⟩), .int .i64 ((n : Int) - (k : Int))] W1 fun e w' => (∃ v, e = .returned v) ∧ Hid (Gs Wa w' xb hb ob md (n + 3 * k + 1) (n - 1) ((n : Int) + (k : Int)) (fun T' => ∃ T, PT n xs k T ∧ T' = updT T ((n : Int) - (k : Int)) none) ∧ Rb W5.heap.size W w' b9 hb (n : Int) ((k : Int) + 1))) := by
            refine (H1.out.1.remove1 ((n : Int) - (k : Int)) (by omega) (by omega) (by omega) fun T h => ?_).mono fun e w' ⟨q1, q2, q3⟩ => ⟨q1, q2, R1.out.step q3⟩
            obtain ⟨v, hv⟩ := h.2 (n - k - 1) (by omega)
            have e2 : (((n - k - 1 : Nat) : Int) + 1) = (n : Int) - (k : Int) := by omega
            rw [e2] at hv
            exact ⟨_, v, hv⟩
          have PU : Hid (∀ Wc, Gs Wa Wc xb hb ob md (n + 3 * k + 1) (n - 1) ((n : Int) + (k : Int)) (fun T' => ∃ T, PT n xs k T ∧ T' = updT T ((n : Int) - (k : Int)) none) ∧ Rb W5.heap.size W Wc b9 hb (n : Int) ((k : Int) + 1) → Calls Try.prog 13 #[.pointer (some ⟨hb, 0, none⟩), .int .i64 x, .int .i64 (-1)] Wc fun e w' => e = .returned (.int .i64 ((n : Int) + (k : Int) + 1)) ∧ Hid (Gs Wa w' xb hb ob md (n + 3 * k + 1 + 1) n ((n : Int) + (k : Int) + 1) (fun T' => ∃ T1, (∃ T, PT n xs k T ∧ T1 = updT T ((n : Int) - (k : Int)) none) ∧ T' = updT T1 ((n : Int) + (k : Int) + 1) (some (x, -1))) ∧ Rb W5.heap.size W w' b9 hb (n : Int) ((k : Int) + 1))) := fun Wc ⟨h1, h2⟩ => by
            refine (h1.push x (-1) (by omega) (by omega) (by omega) hx).mono fun e w' ⟨q1, q2, q3⟩ => ⟨q1, ?_, h2.step q3⟩
            rw [Nat.sub_add_cancel (show 1 ≤ n by omega)] at q2
            exact q2
          have UP : Hid (∀ Wc, Gs Wa Wc xb hb ob md (n + 3 * k + 1 + 1) n ((n : Int) + (k : Int) + 1) (fun T' => ∃ T1, (∃ T, PT n xs k T ∧ T1 = updT T ((n : Int) - (k : Int)) none) ∧ T' = updT T1 ((n : Int) + (k : Int) + 1) (some (x, -1))) ∧ Rb W5.heap.size W Wc b9 hb (n : Int) ((k : Int) + 1) → Calls Try.prog 16 #[.pointer (some ⟨hb, 0, none⟩), .int .i64 ((n : Int) + (k : Int) + 1), .int .i64 (wrap64 (x + 1))] Wc fun e w' => e = .returned (.int .i64 0) ∧ Hid (Gs Wa w' xb hb ob md (n + 3 * (k + 1)) n ((n : Int) + ((k + 1 : Nat) : Int)) (PT n xs (k + 1)) ∧ Rb W5.heap.size W w' b9 hb (n : Int) ((k + 1 : Nat) : Int))) := fun Wc ⟨h1, h2⟩ => by
            rw [← nxt_wrap]
            refine (h1.update ((n : Int) + (k : Int) + 1) (nxt x) (by omega) (by omega) (nxt_wf x) fun T ⟨T1, _, e⟩ => ?_).mono fun e w' ⟨q1, q2, q3⟩ => ⟨q1, ?_, ?_⟩
            · exact ⟨x, -1, by rw [e]; unfold updT; rw [if_pos rfl]⟩
            · have e1 : ((k + 1 : Nat) : Int) = (k : Int) + 1 := by omega
              rw [e1, ← Int.add_assoc]
              refine Gs.imp (c := n + 3 * k + 1 + 1 + 1) q2 fun T' ⟨T, v, ⟨T1, ⟨T0, p1, p2⟩, p3⟩, p4⟩ => PT.round (T1 := T1) (T2 := T) (T3 := T') hk (u := -1) (v := v) p1 p2 (by rw [p3, HEX.out]) (by rw [p4, HEX.out])
            · have e1 : ((k + 1 : Nat) : Int) = (k : Int) + 1 := by omega
              rw [e1]
              exact h2.step q3
          clear H1
          gi_wp2_with fail
          rw [← hW1]
          refine ⟨trivial, ?_⟩
          refine (callsIn_wide.2 RM.out).mono ?_
          rintro e w6 ⟨⟨v6, rfl⟩, q6⟩
          have j0' := q6.out.1.cells.1
          clear RM R1 j0 j1 j2 y0 ck hW1
          gi_wp2_with fail
          refine ⟨trivial, ?_⟩
          refine (callsIn_wide.2 (PU.out _ q6.out)).mono ?_
          rintro e w7 ⟨rfl, q7⟩
          have j0 := q7.out.1.cells.1
          have j1 := q7.out.2.1.cell
          have j2 := q7.out.2.2.2.1.cell
          clear PU q6 j0'
          gi_wp2_with fail
          refine ⟨trivial, ?_⟩
          refine (callsIn_wide.2 (UP.out _ q7.out)).mono ?_
          rintro e w8 ⟨rfl, q8⟩
          clear UP q7 j0 j1 j2
          gi_wp2_with fail
          obtain ⟨g1, g2, g3, g4, g5, g6⟩ := q8.out
          exact ⟨g5, g6, g1, g2, g3, g4⟩
        case done =>
          rintro D1 W hD ⟨hG, h9, h10, h11⟩ hK1
          clear cBs
          have j0 := hG.cells.1
          have j9 := h9.cell
          have j11 := h11.cell
          have LN : Hid (∀ q, Calls Try.prog 17 #[.pointer (some ⟨hb, 0, none⟩)] (W.drewN q) fun e w' => e = .returned (.int .i64 (n : Int)) ∧ w' = W.drewN q) := fun q => by
            obtain ⟨N, T, p1, p2, p3⟩ := hG.hp
            exact (p2.keep (W' := W.drewN q) ⟨rfl, rfl, rfl, Nat.le_refl _, fun _ _ => rfl⟩).len
          have HD : Hid (Gs Wa W xb hb ob md (n + 3 * n) n ((n : Int) + (n : Int)) (PT n xs n) ∧ Boxed W b9 3 (.int .i64 (n : Int)) ∧ Boxed W (b9 + 1) 23 (.pointer (some ⟨hb, 0, none⟩)) ∧ W.heap[D1]? = some (.deferred (some [])) ∧ b9 + 3 ≤ D1 ∧ Wa.heap.size ≤ b9) := ⟨hG, h9, h10, hK1, by have := H5.out.2.1; omega, H5.out.2.2⟩
          clear hG h9 h10 h11 hK1 hD H5 HSX HX
          gi_wp2_with fail
          refine wpIn_wide.2 ?_
          go_quiet (exact Calls.quiet_of_same (LN.out _))
          obtain ⟨W6, hW6⟩ : ∃ W6, W6 = W.drewN nq := ⟨_, rfl⟩
          obtain ⟨b14, eb14⟩ : ∃ b14, b14 = W6.heap.size := ⟨_, rfl⟩
          have H6 : Hid (Gs Wa W6 xb hb ob md (n + 3 * n) n ((n : Int) + (n : Int)) (PT n xs n) ∧ Boxed W6 b9 3 (.int .i64 (n : Int)) ∧ W6.heap[D1]? = some (.deferred (some [])) ∧ n0 + 3 ≤ D1 ∧ W6.heap.size = b14) := by
            rw [hW6]
            refine ⟨HD.out.1.mono ⟨rfl, rfl, rfl, Nat.le_refl _, fun _ _ => rfl⟩, HD.out.2.1, HD.out.2.2.2.1, ?_, by rw [eb14, hW6]⟩
            have q1 := HD.out.2.2.2.2
            have q2 := HA.out.2.2.2.2.1
            omega
          have h10 : Boxed W6 (b9 + 1) 23 (.pointer (some ⟨hb, 0, none⟩)) := by rw [hW6]; exact HD.out.2.2.1
          rw [← hW6]
          clear hW6 HD LN j0 j9 j11
          gi_wp2_with fail
          obtain ⟨W7, hW7⟩ : ∃ W7, W7 = W6.alloc (.cells #[.int .i64 0] 3) := ⟨_, rfl⟩
          rw [← hW7, ← eb14]
          have B7 : Below b14 W6 W7 := by rw [hW7, eb14]; exact (Below.refl _ _).alloc (Nat.le_refl _) _
          have hb14 : Boxed W7 b14 3 (.int .i64 ((0 : Nat) : Int)) := by rw [hW7, eb14]; exact Boxed.new _ _ _
          have s7 : W7.heap.size = b14 + 1 := by rw [hW7, eb14]; simp
          have cBs : W7.cell? ⟨b9 + 1, 0, none⟩ = some (.pointer (some ⟨hb, 0, none⟩)) := Boxed.cell ((B7.block _ (by have := h10.lt; omega)).trans h10)
          obtain ⟨sN, hs, hs64⟩ : ∃ sN : Nat, bits .and .i64 stop 63 = (sN : Int) ∧ sN < 64 := by
            have q9 := i64_mask stop 6 (by omega) 63 (by rfl)
            have q10 := Int.emod_nonneg stop (show ((2 ^ 6 : Nat) : Int) ≠ 0 by decide)
            have q11 := Int.emod_lt_of_pos stop (show (0 : Int) < ((2 ^ 6 : Nat) : Int) by decide)
            exact ⟨(stop % ((2 ^ 6 : Nat) : Int)).toNat, by rw [q9]; omega, by omega⟩
          obtain ⟨X2, eX2⟩ : ∃ X : Nat → Int × Int, X = fun (j : Nat) => ((n : Int) + 1 + (j : Int), nxt (xs j)) := ⟨_, rfl⟩
          have G7 : Gs Wa W7 xb hb ob md (n + 3 * n) n ((n : Int) + (n : Int)) (PT n xs n) := H6.out.1.mono (by rw [H6.out.2.2.2.2]; exact B7)
          obtain ⟨N7, T7, p1, p2, p3⟩ := G7.hp
          obtain ⟨ga, gcap, gmb, gnn, gf', git, gke, gva, S7, hX7⟩ := p2.tells n (fun j => nxt (xs j)) p3.last
          have HSX : Hid (HsI W7 Wa.heap.size hb ob ga n gcap gmb gnn ((n : Int) + (n : Int)) gf' git gke gva ∧ ∀ ys, Gd n ((List.range n).map fun i => (git (gf' i), gke (gf' i))).toArray ys → ∀ j, j < n → ys.getD j (0, 0) = X2 j) := ⟨S7, fun ys hG j hj => by rw [eX2]; exact hX7 ys hG j hj⟩
          have HB7 : Hid (Below b14 W6 W7 ∧ Boxed W7 b14 3 (.int .i64 ((0 : Nat) : Int)) ∧ W7.heap.size = b14 + 1 ∧ b14 = W6.heap.size) := ⟨B7, hb14, s7, eb14⟩
          clear S7 hX7 p1 p2 p3 G7 eX2 B7 hb14 s7 hW7 eb14 h10
          refine range_X (X := X2) (N := n) (lb := #[.pointer (some ⟨b9 + 1, 0, none⟩)]) rfl (hall_at sorts_mk 8 (by omega) (b9 + 1) X2 HSX.out.2 W7 cBs HSX.out.1)
            (fun k W => k ≤ sN ∧ Boxed W b14 3 (.int .i64 (k : Int)) ∧ Below b14 W6 W)
            (fun c W => c = .exit 4 ∧ sN + 1 ≤ n ∧ Boxed W b14 3 (.int .i64 ((sN + 1 : Nat) : Int)) ∧ Below b14 W6 W)
            (fun k A B ⟨h1, h2, h3⟩ hB => ⟨h1, Boxed.below h2 hB, h3.trans (hB.mono (by have := h3.size; have := HB7.out.2.2.2; omega))⟩)
            (fun k A l o o' ⟨h1, h2, h3⟩ hl ho hc _ => ⟨h1, Boxed.putO h2 o' ho hc, below_putO h3 o' ho (by have := HB7.out.2.2.1; omega)⟩)
            (fun c A l o o' ⟨h0, h1, h2, h3⟩ hl ho hc _ => ⟨h0, h1, Boxed.putO h2 o' ho hc, below_putO h3 o' ho (by have := HB7.out.2.2.1; omega)⟩)
            ⟨Nat.zero_le _, HB7.out.2.1, HB7.out.1⟩ (fun a v1 v2 => a0 a 91 92 v1 v2) ?assignB ?bodyB ?doneB ?stopB
          case assignB =>
            intro l k W K hk hK
            simp only [a0, List.setIfInBounds_toArray, List.set_cons_zero, List.set_cons_succ] at hK
            gi_wp2_with fail
            first
              | (simp; exact hK)
              | simpa using hK
          case bodyB =>
            intro l k W2 hk hl hlr ⟨hks, hb2, hB⟩
            simp only [a0, List.setIfInBounds_toArray, List.set_cons_zero, List.set_cons_succ]
            clear cBs hlr
            have k14 := hb2.cell
            have z14 := hb2.frozen
            have w6 : IntKind.i64.wrap ((k : Int) + 1) = (k : Int) + 1 := by rw [IntKind.wrap_i64]; omega
            have BA : Below Wa.heap.size Wa (W2.setCell ⟨b14, 0, none⟩ (.int .i64 ((k : Int) + 1))) := by
              have q1 := H6.out.1.bel.size
              have q2 := H6.out.2.2.2.2
              exact (H6.out.1.bel.trans (hB.mono (by omega))).setCell (p := ⟨b14, 0, none⟩) (by show Wa.heap.size ≤ b14; omega) _
            obtain ⟨_, y1, _, _⟩ := KX.out _ BA
            have HQ : Hid (Boxed W2 b14 3 (.int .i64 (k : Int)) ∧ Below b14 W6 W2) := ⟨hb2, hB⟩
            clear hb2 hB BA
            by_cases hlt : k < sN
            · have d1 : ¬ (sN : Int) < (k : Int) + 1 := by omega
              gi_wp2_with fail
              have e1 : ((k + 1 : Nat) : Int) = (k : Int) + 1 := by omega
              exact ⟨KeepsL.of_from ((KeepsOthers.setCell _ _ _).from _), Kmk.box HQ.out.1 (by decide) _, by omega, by first | exact HQ.out.1.set _ | (rw [e1]; exact HQ.out.1.set _), HQ.out.2.setCell (p := ⟨b14, 0, none⟩) (Nat.le_refl _) _⟩
            · have d1 : (sN : Int) < (k : Int) + 1 := by omega
              gi_wp2_with fail
              have e1 : ((sN + 1 : Nat) : Int) = (k : Int) + 1 := by omega
              exact ⟨KeepsL.of_from ((KeepsOthers.setCell _ _ _).from _), rfl, by omega, by first | (rw [e1]; exact HQ.out.1.set _) | (rw [show (sN : Int) + 1 = (k : Int) + 1 by omega]; exact HQ.out.1.set _), HQ.out.2.setCell (p := ⟨b14, 0, none⟩) (Nat.le_refl _) _⟩
          case doneB =>
            rintro D2 W2 hD2 ⟨hks, hb2, hB⟩ hK2
            have hD2' : b14 + 1 ≤ D2 := by have := HB7.out.2.2.1; omega
            clear cBs HSX HB7 hD2
            have w6 : IntKind.i64.wrap ((sN : Int) + 1) = (sN : Int) + 1 := by rw [IntKind.wrap_i64]; omega
            have mm : (if (sN : Int) + 1 < (n : Int) then (sN : Int) + 1 else (n : Int)) = (n : Int) := by split <;> omega
            have mm2 : min (n : Int) ((sN : Int) + 1) = (n : Int) := by omega
            have BA : Below Wa.heap.size Wa W2 := H6.out.1.bel.trans (hB.mono (by have := H6.out.2.2.2.2; have := H6.out.1.bel.size; omega))
            obtain ⟨_, y1, y2, y3⟩ := KX.out W2 BA
            have k14 := hb2.cell
            have k9 := Boxed.cell (v := .int .i64 (n : Int)) (t := 3) ((hB.block b9 (by have := Boxed.lt H6.out.2.1; have := H6.out.2.2.2.2; omega)).trans H6.out.2.1)
            have G2 : Gs Wa W2 xb hb ob md (n + 3 * n) n ((n : Int) + (n : Int)) (PT n xs n) := H6.out.1.mono (by rw [H6.out.2.2.2.2]; exact hB)
            have kx := G2.cells.1
            have NE : Hid (Calls Try.prog 18 #[.pointer (some ⟨hb, 0, none⟩), .int .i64 (n : Int)] W2 fun e w' => e = .returned (.bool true) ∧ Below W2.heap.size W2 w') := by
              obtain ⟨N, T, p1, p2, p3⟩ := G2.hp
              exact nested_any p2 n (fun j => nxt (xs j)) p3.last n2 n2
            have HQ : Hid (Below Wa.heap.size Wa W2 ∧ W2.heap[D1]? = some (.deferred (some [])) ∧ W2.heap[D2]? = some (.deferred (some [])) ∧ D1 < D2 ∧ n0 + 3 ≤ D1 ∧ Wa.heap.size = n0 + 3 ∧ n0 = W0.heap.size) := by
              have q1 := H6.out.2.2.1
              have q2 := H6.out.2.2.2.2
              have q3 := (Array.getElem?_eq_some_iff.1 q1).1
              have q4 := HA.out.2.2.2.2
              have q5 := H6.out.2.2.2.1
              exact ⟨BA, (hB.block D1 (by omega)).trans q1, hK2, by omega, by omega, q4.1, q4.2⟩
            clear hB hb2 hK2 G2 BA y3
            gi_wp2_with fail
            refine ⟨trivial, ?_⟩
            refine (callsIn_wide.2 NE.out).mono ?_
            rintro e w8 ⟨rfl, B8⟩
            gi_wp2_with fail
            refine ⟨trivial, ?_⟩
            refine (callsIn_wide.2 (started_any w8)).mono ?_
            rintro e w9 ⟨rfl, B9⟩
            have B29 : Below W2.heap.size W2 w9 := B8.trans (B9.mono B8.size)
            have b2 : Boxed w9 (n0 + 2) 4 (.bool false) := Boxed.below y2 B29
            have k2 := b2.cell
            have z2 := b2.frozen
            have HE : Hid (Boxed (w9.setCell ⟨n0 + 2, 0, none⟩ (.bool true)) (n0 + 2) 4 (.bool true) ∧ Below W0.heap.size W0 (w9.setCell ⟨n0 + 2, 0, none⟩ (.bool true)) ∧ (w9.setCell ⟨n0 + 2, 0, none⟩ (.bool true)).heap[D1]? = some (.deferred (some [])) ∧ (w9.setCell ⟨n0 + 2, 0, none⟩ (.bool true)).heap[D2]? = some (.deferred (some []))) := by
              obtain ⟨q1, q2, q3, q4, q5, q6, q7⟩ := HQ.out
              have r1 := (Array.getElem?_eq_some_iff.1 q2).1
              have r2 := (Array.getElem?_eq_some_iff.1 q3).1
              refine ⟨b2.set _, ((HA.out.2.2.2.1.trans (q1.mono HA.out.2.2.2.1.size)).trans (B29.mono ?_)).setCell (p := ⟨n0 + 2, 0, none⟩) (by show W0.heap.size ≤ n0 + 2; omega) _, (Below.heap_setCell _ _ _ _ (show D1 ≠ n0 + 2 by omega)).trans ((B29.block D1 r1).trans q2), (Below.heap_setCell _ _ _ _ (show D2 ≠ n0 + 2 by omega)).trans ((B29.block D2 r2).trans q3)⟩
              have := q1.size
              omega
            clear B8 B9 B29 b2 y1 y2 k14 k9 kx NE
            gi_wp2_with fail
            refine leaves_marks [D2, D1] _ (by have := HQ.out.2.2.2.1; simp; omega) (fun D hD => ?_) fun w10 g1 g2 g3 g4 g5 => ?_
            · rcases List.mem_cons.1 hD with rfl | hD
              · exact HE.out.2.2.2
              · obtain rfl : D = D1 := by simpa using hD
                exact HE.out.2.2.1
            · have hc5 : w10.cell? ⟨n0 + 2, 0, none⟩ = some (.bool true) := Boxed.cell ((g1 _ (by have := HQ.out.2.2.2; simp; omega)).trans HE.out.1)
              have hB9 := HE.out.2.1
              refine ⟨.bool true, ?_, rfl, ⟨g2.trans hB9.os, g3.trans hB9.tape, g4.trans hB9.output, by have := hB9.size; omega, fun k hk => (g1 k (by have := HQ.out.2.2.2; simp; omega)).trans (hB9.block k hk)⟩⟩
              simp [results, Try.results4, go_sem, hc5]
          case stopB =>
            rintro D2 c W2 hD2 ⟨rfl, hks, hb2, hB⟩ hK2
            have hD2' : b14 + 1 ≤ D2 := by have := HB7.out.2.2.1; omega
            clear cBs HSX HB7 hD2
            have e1 : ((sN + 1 : Nat) : Int) = (sN : Int) + 1 := by omega
            rw [e1] at hb2
            clear e1
            have w6 : IntKind.i64.wrap ((sN : Int) + 1) = (sN : Int) + 1 := by rw [IntKind.wrap_i64]; omega
            have mm : (if (sN : Int) + 1 < (n : Int) then (sN : Int) + 1 else (n : Int)) = (sN : Int) + 1 := by split <;> omega
            have mm2 : min (n : Int) ((sN : Int) + 1) = (sN : Int) + 1 := by omega
            have BA : Below Wa.heap.size Wa W2 := H6.out.1.bel.trans (hB.mono (by have := H6.out.2.2.2.2; have := H6.out.1.bel.size; omega))
            obtain ⟨_, y1, y2, y3⟩ := KX.out W2 BA
            have k14 := hb2.cell
            have k9 := Boxed.cell (v := .int .i64 (n : Int)) (t := 3) ((hB.block b9 (by have := Boxed.lt H6.out.2.1; have := H6.out.2.2.2.2; omega)).trans H6.out.2.1)
            have G2 : Gs Wa W2 xb hb ob md (n + 3 * n) n ((n : Int) + (n : Int)) (PT n xs n) := H6.out.1.mono (by rw [H6.out.2.2.2.2]; exact hB)
            have kx := G2.cells.1
            have NE : Hid (Calls Try.prog 18 #[.pointer (some ⟨hb, 0, none⟩), .int .i64 (n : Int)] W2 fun e w' => e = .returned (.bool true) ∧ Below W2.heap.size W2 w') := by
              obtain ⟨N, T, p1, p2, p3⟩ := G2.hp
              exact nested_any p2 n (fun j => nxt (xs j)) p3.last n2 n2
            have HQ : Hid (Below Wa.heap.size Wa W2 ∧ W2.heap[D1]? = some (.deferred (some [])) ∧ W2.heap[D2]? = some (.deferred (some [])) ∧ D1 < D2 ∧ n0 + 3 ≤ D1 ∧ Wa.heap.size = n0 + 3 ∧ n0 = W0.heap.size) := by
              have q1 := H6.out.2.2.1
              have q2 := H6.out.2.2.2.2
              have q3 := (Array.getElem?_eq_some_iff.1 q1).1
              have q4 := HA.out.2.2.2.2
              have q5 := H6.out.2.2.2.1
              exact ⟨BA, (hB.block D1 (by omega)).trans q1, hK2, by omega, by omega, q4.1, q4.2⟩
            clear hB hb2 hK2 G2 BA y3
            gi_wp2_with fail
            refine ⟨trivial, ?_⟩
            refine (callsIn_wide.2 NE.out).mono ?_
            rintro e w8 ⟨rfl, B8⟩
            gi_wp2_with fail
            refine ⟨trivial, ?_⟩
            refine (callsIn_wide.2 (started_any w8)).mono ?_
            rintro e w9 ⟨rfl, B9⟩
            have B29 : Below W2.heap.size W2 w9 := B8.trans (B9.mono B8.size)
            have b2 : Boxed w9 (n0 + 2) 4 (.bool false) := Boxed.below y2 B29
            have k2 := b2.cell
            have z2 := b2.frozen
            have HE : Hid (Boxed (w9.setCell ⟨n0 + 2, 0, none⟩ (.bool true)) (n0 + 2) 4 (.bool true) ∧ Below W0.heap.size W0 (w9.setCell ⟨n0 + 2, 0, none⟩ (.bool true)) ∧ (w9.setCell ⟨n0 + 2, 0, none⟩ (.bool true)).heap[D1]? = some (.deferred (some [])) ∧ (w9.setCell ⟨n0 + 2, 0, none⟩ (.bool true)).heap[D2]? = some (.deferred (some []))) := by
              obtain ⟨q1, q2, q3, q4, q5, q6, q7⟩ := HQ.out
              have r1 := (Array.getElem?_eq_some_iff.1 q2).1
              have r2 := (Array.getElem?_eq_some_iff.1 q3).1
              refine ⟨b2.set _, ((HA.out.2.2.2.1.trans (q1.mono HA.out.2.2.2.1.size)).trans (B29.mono ?_)).setCell (p := ⟨n0 + 2, 0, none⟩) (by show W0.heap.size ≤ n0 + 2; omega) _, (Below.heap_setCell _ _ _ _ (show D1 ≠ n0 + 2 by omega)).trans ((B29.block D1 r1).trans q2), (Below.heap_setCell _ _ _ _ (show D2 ≠ n0 + 2 by omega)).trans ((B29.block D2 r2).trans q3)⟩
              have := q1.size
              omega
            clear B8 B9 B29 b2 y1 y2 k14 k9 kx NE
            gi_wp2_with fail
            refine leaves_marks [D2, D1] _ (by have := HQ.out.2.2.2.1; simp; omega) (fun D hD => ?_) fun w10 g1 g2 g3 g4 g5 => ?_
            · rcases List.mem_cons.1 hD with rfl | hD
              · exact HE.out.2.2.2
              · obtain rfl : D = D1 := by simpa using hD
                exact HE.out.2.2.1
            · have hc5 : w10.cell? ⟨n0 + 2, 0, none⟩ = some (.bool true) := Boxed.cell ((g1 _ (by have := HQ.out.2.2.2; simp; omega)).trans HE.out.1)
              have hB9 := HE.out.2.1
              refine ⟨.bool true, ?_, rfl, ⟨g2.trans hB9.os, g3.trans hB9.tape, g4.trans hB9.output, by have := hB9.size; omega, fun k hk => (g1 k (by have := HQ.out.2.2.2; simp; omega)).trans (hB9.block k hk)⟩⟩
              simp [results, Try.results4, go_sem, hc5]
        case stop =>
          rintro D c W _ h _
          exact h.elim
end Go.Proofs.Ytklhenblcgmfhaa
namespace Go.Proofs.Ytklhenblcgmfhaa
open Go.RowKit
set_option linter.unusedVariables false
theorem wf_i64 {n : Int} (h : (Lit.int .i64 n).wf = true) : -9223372036854775808 ≤ n ∧ n ≤ 9223372036854775807 := by
  have hmin : IntKind.i64.min = -9223372036854775808 := rfl
  have hmax : IntKind.i64.max = 9223372036854775807 := rfl
  have h2 : IntKind.i64.min ≤ n ∧ n ≤ IntKind.i64.max := by simpa [Lit.wf] using h
  rw [hmin, hmax] at h2
  exact h2
theorem isl_none (w : World) : ISl w none 0 0 (fun _ => 0) := ⟨Nat.le_refl _, by omega, fun i hi => by omega, .inl rfl⟩
theorem isl_of {w : World} {a : Addr} {len cap : Nat} {zs : List Int} (hl : len ≤ cap) (hm : cap ≤ maxLen) (hz : zs.length = cap) (h : ∀ i, i < zs.length → w.cell? (a.add i) = some (.int .i64 (zs.getD i 0))) (hw : ∀ n ∈ zs, (Lit.int .i64 n).wf = true) : ISl w (some a) len cap (fun i => zs.getD i 0) := by
  refine ⟨hl, by simp only [maxLen] at hm; omega, fun i hi => ?_, ?_⟩
  · have : zs.getD i 0 ∈ zs := by
      rw [List.getD_eq_getElem?_getD, List.getElem?_eq_getElem (by omega)]
      exact List.getElem_mem _
    exact wf_i64 (hw _ this)
  · rcases Nat.eq_zero_or_pos len with e | e
    · exact .inl e
    · obtain ⟨b, off, spot⟩ := a
      have hc := h 0 (by omega)
      have hspot : spot = none := by simpa [Addr.add] using World.cell?_spot hc
      subst hspot
      refine .inr ⟨b, off, rfl, fun i hi => ?_⟩
      have h1 := h i (by omega)
      rw [addr_add] at h1
      exact h1
theorem bsl_none (w : World) : BSl w none 0 0 (fun _ => false) := ⟨Nat.le_refl _, by omega, .inl rfl⟩
theorem bsl_of {w : World} {a : Addr} {len cap : Nat} {B : Nat → Bool} (hl : len ≤ cap) (hm : cap ≤ maxLen) (h : ∀ i, i < cap → w.cell? (a.add i) = some (.bool (B i))) : BSl w (some a) len cap B := by
  refine ⟨hl, by simp only [maxLen] at hm; omega, ?_⟩
  rcases Nat.eq_zero_or_pos len with e | e
  · exact .inl e
  · obtain ⟨b, off, spot⟩ := a
    have hc := h 0 (by omega)
    have hspot : spot = none := by simpa [Addr.add] using World.cell?_spot hc
    subst hspot
    refine .inr ⟨b, off, rfl, fun i hi => ?_⟩
    have h1 := h i (by omega)
    rw [addr_add] at h1
    exact h1
end Go.Proofs.Ytklhenblcgmfhaa
