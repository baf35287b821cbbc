/- Contracts of the program's functions, part 48: own work, joined in build order. -/
import Derived.Test.YtjnfcihichaonaaJ47
namespace Go.Proofs.Ytjnfcihichaonaa
open Go.RowKit Go.Sort
set_option maxRecDepth 100000
set_option linter.unusedVariables false
theorem Mx.cells {W0 W : World} {r0 xb hb0 hb ob : Nat} {md : Int} {tur : Bool} {c n : Nat} {pu : Int} {lo hi : Value} {Lo Hi Lo' Hi' : List Int} (h : Mx W0 r0 W xb hb0 hb ob md tur c n pu lo hi Lo Hi Lo' Hi') : W.cell? ⟨xb, 1, none⟩ = some (.pointer (some ⟨ob, 0, none⟩)) ∧ xb < W.heap.size ∧ ob < W.heap.size ∧ W.cell? ⟨ob, 0, none⟩ = some (.slice none 0 0) ∧ W.cell? ⟨ob, 1, none⟩ = some (.int .i64 0) ∧ W.cell? ⟨ob, 2, none⟩ = some (.int .i64 md) ∧ W.cell? ⟨ob, 3, none⟩ = some (.bool tur) ∧ 0 ≤ md ∧ md ≤ 12 := by
  obtain ⟨N, T, h1, h2, h3⟩ := h.hp
  obtain ⟨q0, q1, q2, q3, _, _⟩ := h2.od.cells
  exact ⟨by simp [World.cell?, h.pair], (Array.getElem?_eq_some_iff.1 h.pair).1, h2.od.lt, q0, q1, q2, q3, h2.od.mod0, h2.od.mod1⟩
theorem Rw.at {base : Nat} {W : World} {a : Option Addr} {n c : Nat} {xs : List Int} (h : Rw base W (.slice a n c) xs) (hn : 0 < xs.length) : ∃ g, a = some ⟨g, 0, none⟩ ∧ g < W.heap.size ∧ ∀ i, i < xs.length → W.cell? ⟨g, i, none⟩ = some (.int .i64 (xs.getD i 0)) := by
  obtain ⟨a', c', e, h1⟩ := h.sl
  injection e with e1 e2 e3
  subst e1
  obtain ⟨g, e, h2⟩ := h1 hn
  exact ⟨g, e, World.block_lt_of_cell? _ _ (h2 0 hn), h2⟩
theorem Rw.alloc {base : Nat} {W : World} {v : Value} {xs : List Int} (h : Rw base W v xs) (o : Obj) : Rw base (W.alloc o) v xs := h.kept fun k hk => by
  obtain ⟨_, cs, e⟩ := h.own hk
  exact Below.heap_alloc _ _ _ (Array.getElem?_eq_some_iff.1 e).1
set_option maxHeartbeats 4000000 in
theorem mixed_any (W0 w : World) (a1 a2 : Option Addr) (L1 c1 L2 c2 n c hb0 ob N : Nat) (md : Int) (tur : Bool) (xs : Nat → Int) (ys : Nat → Bool) (hB : Below W0.heap.size W0 w) (hk : ISl W0 a1 L1 c1 xs) (hw : BSl W0 a2 L2 c2 ys) (hn : n ≤ L1) (hn2 : n ≤ 200) (ho : Ordr w ob (.slice none 0 0) 0 md tur 0 N) (hob : W0.heap.size ≤ ob) (hN : N ≤ 20 * c) (hc : c ≤ 400) :
    Calls Try.prog 22 #[.agg #[.pointer (some ⟨hb0, 0, none⟩), .pointer (some ⟨ob, 0, none⟩)], .slice a1 L1 c1, .slice a2 L2 c2, .int .i64 (n : Int)] w fun e w' => e = .returned (.bool true) ∧ Below W0.heap.size W0 w' := by
  have HK : Hid (ISl W0 a1 L1 c1 xs ∧ BSl W0 a2 L2 c2 ys) := ⟨hk, hw⟩
  have l1 := hk.lim
  have l1' := hk.le
  have l2 := hw.lim
  have l2' := hw.le
  obtain ⟨W1, hW1⟩ : ∃ W1, W1 = w.alloc (.cells #[.pointer (some ⟨hb0, 0, none⟩), .pointer (some ⟨ob, 0, none⟩)] 26) := ⟨_, rfl⟩
  obtain ⟨xb, exb⟩ : ∃ xb, xb = w.heap.size := ⟨_, rfl⟩
  have s1 : W1.heap.size = xb + 1 := by rw [hW1, exb]; simp
  have B1 : Below W0.heap.size W0 W1 := by rw [hW1]; exact hB.alloc hB.size _
  have e1 : W1.heap[xb]? = some (.cells #[.pointer (some ⟨hb0, 0, none⟩), .pointer (some ⟨ob, 0, none⟩)] 26) := by rw [hW1, exb]; exact (MapKept.heap_alloc _ _).1
  have O1 : Ordr W1 ob (.slice none 0 0) 0 md tur 0 N := ho.kept (by rw [hW1]; exact Below.heap_alloc _ _ _ ho.lt)
  have c1' : W1.cell? ⟨xb, 1, none⟩ = some (.pointer (some ⟨ob, 0, none⟩)) := by simp [World.cell?, e1]
  have NW := newI_any ob W0.heap.size W1 B1.size hob
  have HW : Hid (w.alloc (.cells #[.pointer (some ⟨hb0, 0, none⟩), .pointer (some ⟨ob, 0, none⟩)] 26) = W1 ∧ w.heap.size = xb) := ⟨hW1.symm, exb.symm⟩
  have H1 : Hid _ := (⟨s1, B1, e1, O1, hN⟩ : W1.heap.size = xb + 1 ∧ Below W0.heap.size W0 W1 ∧ W1.heap[xb]? = some (.cells #[.pointer (some ⟨hb0, 0, none⟩), .pointer (some ⟨ob, 0, none⟩)] 26) ∧ Ordr W1 ob (.slice none 0 0) 0 md tur 0 N ∧ N ≤ 20 * c)
  have NH : Hid _ := NW
  have ST : Hid (∀ W, Calls Try.prog 12 #[] W fun e w' => e = .returned (.bool true) ∧ Below W.heap.size W w') := fun W => started_any W
  clear hk hw hW1 exb s1 B1 e1 O1 NW ho hN hB
  go_enter Try.func22, Try.ntmps22
  go_wp2_with fail
  rw [HW.out.1, HW.out.2]
  go_wp2_with fail
  refine Calls.mono NH.out ?_
  rintro e w2 ⟨rfl, S2, B2⟩
  obtain ⟨hb, ehb⟩ : ∃ hb, hb = W1.heap.size + 1 := ⟨_, rfl⟩
  obtain ⟨r0, er0⟩ : ∃ r0, r0 = w2.heap.size := ⟨_, rfl⟩
  have M0 : Hid (Mx W0 r0 w2 xb hb0 hb ob md tur (c + 0) 0 ((0 : Nat) : Int) (.slice none 0 0) (.slice none 0 0) [] [] [] []) := by
    obtain ⟨s1, B1, e1, O1, hN⟩ := H1.out
    have hs := B2.size
    have hs0 := B1.size
    refine ⟨(B2.block _ (by omega)).trans e1, ⟨N, fun _ => none, by omega, ⟨⟨none, 0, _, 0, _, _, _, _, by rw [ehb]; exact S2, fun _ a b ha => by omega, fun i k v => ⟨fun e => (by cases e), fun h => (by obtain ⟨b, ⟨j, hj, _⟩, _⟩ := h; omega)⟩⟩, O1.kept (B2.block _ O1.lt), by omega⟩, fun j l u e => (by cases e)⟩, B1.trans (B2.mono B1.size), Rw.nil _ _, Rw.nil _ _, fun k e => (by cases e), ⟨by omega, by omega, by omega⟩, ⟨fun i hi => by simp at hi, fun i hi => by simp at hi, fun h => by simp at h, fun i hi => by simp at hi, fun i hi => by simp at hi⟩⟩
  rw [← ehb]
  clear S2 B2 ehb er0 NH H1 HW c1'
  go_wp2_with fail
  go_loopw [10] (fun t wr => ∃ (i : Nat), i ≤ n ∧ t = .int .i64 (i : Int) ∧ Hid (Mx W0 r0 wr xb hb0 hb ob md tur (c + i) i ((i : Nat) : Int) (.slice none 0 0) (.slice none 0 0) [] [] [] [])) (fun t _ => n - (intOf t).toNat)
  case atStart => exact ⟨0, by omega, rfl, M0⟩
  case round =>
    clear M0
    obtain ⟨i, hin, rfl, hS⟩ := hrel
    by_cases hi : i < n
    · obtain ⟨b, o, rfl, hcell⟩ := HK.out.1.at hS.out.bel (by omega)
      have ck := hcell i (by omega)
      have hr := HK.out.1.wf i (by omega)
      obtain ⟨k, ek⟩ : ∃ k, k = xs i := ⟨_, rfl⟩
      rw [← ek] at ck hr
      have PU : Hid (Calls Try.prog 13 #[.pointer (some ⟨hb, 0, none⟩), .int .i64 k, .int .i64 (i : Int)] wr fun e w' => e = .returned (.int .i64 ((i : Int) + 1)) ∧ Mx W0 r0 w' xb hb0 hb ob md tur (c + i + 1) (i + 1) ((i : Int) + 1) (.slice none 0 0) (.slice none 0 0) [] [] [] []) := hS.out.push k i (by omega) (by omega) (by omega) hr
      have w5 : IntKind.i64.wrap ((i : Int) + 1) = (i : Int) + 1 := by rw [IntKind.wrap_i64]; omega
      clear hS hcell ek hr
      go_wp2_with fail
      refine Calls.mono PU.out ?_
      rintro e W2 ⟨rfl, hM⟩
      have HM : Hid (Mx W0 r0 W2 xb hb0 hb ob md tur (c + (i + 1)) (i + 1) ((i + 1 : Nat) : Int) (.slice none 0 0) (.slice none 0 0) [] [] [] []) := by
        have e2 : ((i + 1 : Nat) : Int) = (i : Int) + 1 := by omega
        rw [e2]; exact hM
      clear hM PU ck
      go_wp2_with fail
      go_roundw
      case rel => exact ⟨i + 1, by omega, by go_num, HM⟩
      case measure => simp [intOf]; omega
    · obtain rfl : n = i := by omega
      clear hi
      go_wp2_with fail
      go_loopw [11, 12, 13] (fun tl th t wr2 => ∃ (i m nl nh cl ch : Nat) (al ah : Option Addr) (Lo Hi : List Int), i ≤ n ∧ m + i = n ∧ nl ≤ i ∧ nh ≤ i ∧ tl = .slice al nl cl ∧ th = .slice ah nh ch ∧ t = .int .i64 (i : Int) ∧ Hid (Lo.length = nl ∧ Hi.length = nh ∧ Mx W0 r0 wr2 xb hb0 hb ob md tur (c + n + i) m (n : Int) (.slice al nl cl) (.slice ah nh ch) Lo Hi Lo Hi)) (fun _ _ t _ => n - (intOf t).toNat)
      case atStart => exact ⟨0, n, 0, 0, 0, 0, none, none, [], [], by omega, by omega, by omega, by omega, rfl, rfl, rfl, ⟨rfl, rfl, hS.out⟩⟩
      case round =>
        clear hS
        obtain ⟨i, m1, nl, nh, cl, ch, al, ah, Lo, Hi, hin, em, hl1, hl2, rfl, rfl, rfl, hS⟩ := hrel
        by_cases hi : i < n
        · obtain ⟨m, rfl⟩ : ∃ m, m1 = m + 1 := ⟨m1 - 1, by omega⟩
          have w5 : IntKind.i64.wrap ((i : Int) + 1) = (i : Int) + 1 := by rw [IntKind.wrap_i64]; omega
          have bel := hS.out.2.2.bel
          by_cases hi2 : i < L2
          · obtain ⟨b, o, rfl, hcell⟩ := HK.out.2.at bel (by omega)
            have ck := hcell i hi2
            clear hcell
            cases ey : ys i with
            | true =>
              rw [ey] at ck
              have PO : Hid (Calls Try.prog 21 #[.pointer (some ⟨hb, 0, none⟩)] wr fun e w' => ∃ j k v, e = .returned (.tuple #[.int .i64 j, .int .i64 k, .int .i64 v, .bool true]) ∧ Mx W0 r0 w' xb hb0 hb ob md tur (c + n + i + 1) m (n : Int) (.slice al nl cl) (.slice ah nh ch) Lo Hi Lo (Hi ++ [k])) := hS.out.2.2.high (by omega) (by omega)
              have HL : Hid (Lo.length = nl ∧ Hi.length = nh) := ⟨hS.out.1, hS.out.2.1⟩
              clear hS bel
              go_wp2_with fail
              refine Calls.mono PO.out ?_
              rintro e W2 ⟨j, k, v, rfl, hM⟩
              have HM : Hid (Mx W0 r0 W2 xb hb0 hb ob md tur (c + n + i + 1) m (n : Int) (.slice al nl cl) (.slice ah nh ch) Lo Hi Lo (Hi ++ [k])) := hM
              clear hM PO
              go_wp2_with (refine (id ?_ : wpList Try.prog _ _ (⟨some 59, _, _, _, _, _⟩ :: _) _ _); refine wp_appI rfl (.tmp 56) (.tmp 58) rfl r0 (.slice ah nh ch) Hi k rfl (HM.out.rhi.alloc _) W2.heap.size rfl (by simp [go_sem]) (by have := HL.out.2; omega) (by have := HM.out.base.2.1; simp; omega) ?_)
              intro v7 w7 H8
              obtain ⟨a8, c8, e8, _⟩ := H8.out.1.sl
              rw [List.length_append, List.length_singleton] at e8
              have e9 : v7 = .slice a8 (nh + 1) c8 := by rw [e8, HL.out.2]
              clear e8
              subst e9
              have HN : Hid (Mx W0 r0 w7 xb hb0 hb ob md tur (c + n + (i + 1)) m (n : Int) (.slice al nl cl) (.slice a8 (nh + 1) c8) Lo (Hi ++ [k]) Lo (Hi ++ [k])) := HM.out.highed H8.out.1 H8.out.2.1 H8.out.2.2
              clear HM H8
              go_wp2_with fail
              go_roundw
              case rel => exact ⟨i + 1, m, nl, nh + 1, cl, c8, al, a8, Lo, Hi ++ [k], by omega, by omega, by omega, by omega, rfl, rfl, by go_num, ⟨HL.out.1, by rw [List.length_append, List.length_singleton, HL.out.2], HN.out⟩⟩
              case measure => simp [intOf]; omega
            | false =>
              rw [ey] at ck
              have PO : Hid (Calls Try.prog 19 #[.pointer (some ⟨hb, 0, none⟩)] wr fun e w' => ∃ j k v, e = .returned (.tuple #[.int .i64 j, .int .i64 k, .int .i64 v, .bool true]) ∧ Mx W0 r0 w' xb hb0 hb ob md tur (c + n + i + 1) m (n : Int) (.slice al nl cl) (.slice ah nh ch) Lo Hi (Lo ++ [k]) Hi) := hS.out.2.2.low (by omega) (by omega)
              have HL : Hid (Lo.length = nl ∧ Hi.length = nh) := ⟨hS.out.1, hS.out.2.1⟩
              clear hS bel
              go_wp2_with fail
              refine Calls.mono PO.out ?_
              rintro e W2 ⟨j, k, v, rfl, hM⟩
              have HM : Hid (Mx W0 r0 W2 xb hb0 hb ob md tur (c + n + i + 1) m (n : Int) (.slice al nl cl) (.slice ah nh ch) Lo Hi (Lo ++ [k]) Hi) := hM
              clear hM PO
              go_wp2_with (refine (id ?_ : wpList Try.prog _ _ (⟨some 70, _, _, _, _, _⟩ :: _) _ _); refine wp_appI rfl (.tmp 67) (.tmp 69) rfl r0 (.slice al nl cl) Lo k rfl (HM.out.rlo.alloc _) W2.heap.size rfl (by simp [go_sem]) (by have := HL.out.1; omega) (by have := HM.out.base.2.1; simp; omega) ?_)
              intro v7 w7 H8
              obtain ⟨a8, c8, e8, _⟩ := H8.out.1.sl
              rw [List.length_append, List.length_singleton] at e8
              have e9 : v7 = .slice a8 (nl + 1) c8 := by rw [e8, HL.out.1]
              clear e8
              subst e9
              have HN : Hid (Mx W0 r0 w7 xb hb0 hb ob md tur (c + n + (i + 1)) m (n : Int) (.slice a8 (nl + 1) c8) (.slice ah nh ch) (Lo ++ [k]) Hi (Lo ++ [k]) Hi) := HM.out.lowed H8.out.1 H8.out.2.1 H8.out.2.2
              clear HM H8
              go_wp2_with fail
              go_roundw
              case rel => exact ⟨i + 1, m, nl + 1, nh, c8, ch, a8, ah, Lo ++ [k], Hi, by omega, by omega, by omega, by omega, rfl, rfl, by go_num, ⟨by rw [List.length_append, List.length_singleton, HL.out.1], HL.out.2, HN.out⟩⟩
              case measure => simp [intOf]; omega
          · have hd2 : decide ((i : Int) < (L2 : Int)) = false := decide_eq_false (by omega)
            have PO : Hid (Calls Try.prog 19 #[.pointer (some ⟨hb, 0, none⟩)] wr fun e w' => ∃ j k v, e = .returned (.tuple #[.int .i64 j, .int .i64 k, .int .i64 v, .bool true]) ∧ Mx W0 r0 w' xb hb0 hb ob md tur (c + n + i + 1) m (n : Int) (.slice al nl cl) (.slice ah nh ch) Lo Hi (Lo ++ [k]) Hi) := hS.out.2.2.low (by omega) (by omega)
            have HL : Hid (Lo.length = nl ∧ Hi.length = nh) := ⟨hS.out.1, hS.out.2.1⟩
            clear hS bel
            go_wp2_with fail
            refine Calls.mono PO.out ?_
            rintro e W2 ⟨j, k, v, rfl, hM⟩
            have HM : Hid (Mx W0 r0 W2 xb hb0 hb ob md tur (c + n + i + 1) m (n : Int) (.slice al nl cl) (.slice ah nh ch) Lo Hi (Lo ++ [k]) Hi) := hM
            clear hM PO
            go_wp2_with (refine (id ?_ : wpList Try.prog _ _ (⟨some 70, _, _, _, _, _⟩ :: _) _ _); refine wp_appI rfl (.tmp 67) (.tmp 69) rfl r0 (.slice al nl cl) Lo k rfl (HM.out.rlo.alloc _) W2.heap.size rfl (by simp [go_sem]) (by have := HL.out.1; omega) (by have := HM.out.base.2.1; simp; omega) ?_)
            intro v7 w7 H8
            obtain ⟨a8, c8, e8, _⟩ := H8.out.1.sl
            rw [List.length_append, List.length_singleton] at e8
            have e9 : v7 = .slice a8 (nl + 1) c8 := by rw [e8, HL.out.1]
            clear e8
            subst e9
            have HN : Hid (Mx W0 r0 w7 xb hb0 hb ob md tur (c + n + (i + 1)) m (n : Int) (.slice a8 (nl + 1) c8) (.slice ah nh ch) (Lo ++ [k]) Hi (Lo ++ [k]) Hi) := HM.out.lowed H8.out.1 H8.out.2.1 H8.out.2.2
            clear HM H8
            go_wp2_with fail
            go_roundw
            case rel => exact ⟨i + 1, m, nl + 1, nh, c8, ch, a8, ah, Lo ++ [k], Hi, by omega, by omega, by omega, by omega, rfl, rfl, by go_num, ⟨by rw [List.length_append, List.length_singleton, HL.out.1], HL.out.2, HN.out⟩⟩
            case measure => simp [intOf]; omega
        · obtain rfl : n = i := by omega
          obtain rfl : m1 = 0 := by omega
          obtain ⟨C, eC⟩ : ∃ C, C = c + n + n := ⟨_, rfl⟩
          rw [← eC] at hS
          clear hi em eC
          go_wp2_with fail
          go_loopw [16] (fun t wr3 => ∃ (j : Nat), 1 ≤ j ∧ j ≤ nl + 1 ∧ t = .int .i64 (j : Int) ∧ Hid (Lo.length = nl ∧ Hi.length = nh ∧ Mx W0 r0 wr3 xb hb0 hb ob md tur (C) 0 (n : Int) (.slice al nl cl) (.slice ah nh ch) Lo Hi Lo Hi)) (fun t _ => nl + 1 - (intOf t).toNat)
          case atStart => exact ⟨1, by omega, by omega, rfl, hS⟩
          case round =>
            clear hS
            obtain ⟨j, hj1, hj2, rfl, hS⟩ := hrel
            by_cases hj : j < nl
            · obtain ⟨g, rfl, hg, hcell⟩ := hS.out.2.2.rlo.at (by have := hS.out.1; omega)
              obtain ⟨q, eq⟩ : ∃ q, j = q + 1 := ⟨j - 1, by omega⟩
              have k1 := hcell j (by have := hS.out.1; omega)
              have k0 := hcell q (by have := hS.out.1; omega)
              have r1 := hS.out.2.2.srt.wl j (by have := hS.out.1; omega)
              have r0' := hS.out.2.2.srt.wl q (by have := hS.out.1; omega)
              have hle := hS.out.2.2.srt.lo q (by have := hS.out.1; omega)
              rw [← eq] at hle
              obtain ⟨x1, ex1⟩ : ∃ x1, x1 = Lo.getD j 0 := ⟨_, rfl⟩
              obtain ⟨x0, ex0⟩ : ∃ x0, x0 = Lo.getD q 0 := ⟨_, rfl⟩
              rw [← ex1] at k1 r1 hle
              rw [← ex0] at k0 r0' hle
              have G1 : ∀ n os, (grow (wr.drewN n) os).cell? ⟨g, j, none⟩ = some (.int .i64 x1) := fun n os => cell_grown hg k1 n os
              have G0 : ∀ n os, (grow (wr.drewN n) os).cell? ⟨g, q, none⟩ = some (.int .i64 x0) := fun n os => cell_grown hg k0 n os
              obtain ⟨r11, r12⟩ := r1
              obtain ⟨r01, r02⟩ := r0'
              have dA : decide (rk md tur x1 < rk md tur x0) = false := decide_eq_false (by omega)
              have w6 : IntKind.i64.wrap ((j : Int) - 1) = (q : Int) := by rw [IntKind.wrap_i64]; omega
              have w5 : IntKind.i64.wrap ((j : Int) + 1) = (j : Int) + 1 := by rw [IntKind.wrap_i64]; omega
              obtain ⟨d1, lx, lo', q0', q1', q2', q3', m0, m1⟩ := hS.out.2.2.cells
              have g1 : ∀ n os, (grow (wr.drewN n) os).cell? ⟨xb, 1, none⟩ = some (.pointer (some ⟨ob, 0, none⟩)) := fun n os => cell_grown lx d1 n os
              have q0 : ∀ n os, (grow (wr.drewN n) os).cell? ⟨ob, 0, none⟩ = some (.slice none 0 0) := fun n os => cell_grown lo' q0' n os
              have q1 : ∀ n os, (grow (wr.drewN n) os).cell? ⟨ob, 1, none⟩ = some (.int .i64 0) := fun n os => cell_grown lo' q1' n os
              have q2 : ∀ n os, (grow (wr.drewN n) os).cell? ⟨ob, 2, none⟩ = some (.int .i64 md) := fun n os => cell_grown lo' q2' n os
              have q3 : ∀ n os, (grow (wr.drewN n) os).cell? ⟨ob, 3, none⟩ = some (.bool tur) := fun n os => cell_grown lo' q3' n os
              have AH : Hid (∀ n os, Calls Try.prog 20 #[.agg #[.slice none 0 0, .int .i64 0, .int .i64 md, .bool tur], .int .i64 x1, .int .i64 x0] (grow (wr.drewN n) os) fun e w'' => e = .returned (.bool false) ∧ ∃ p : GrownBy, w'' = grow (wr.drewN p.n) p.os) := fun n os => by
                have := ahead_is (.slice none 0 0) ⟨_, _, _, rfl⟩ 0 md tur x1 x0 (grow (wr.drewN n) os) m0 m1 (by assumption) (by assumption) (by assumption) (by assumption)
                rw [dA] at this
                exact Calls.grown_of this
              have mixed : Try.prog.follows .mixedOrders = true := by kernel_rfl
              clear d1 lx lo' q0' q1' q2' q3' m0 m1
              have hq : q < nl := by omega
              clear hcell k1 k0 hle ex1 ex0 hg eq
              go_wp2_with fail
              go_quiet_grown (first | (go_at_call 20; exact AH.out _ _))
              have MX : Hid (Lo.length = nl ∧ Hi.length = nh ∧ Mx W0 r0 (grow (wr.drewN nq) osq) xb hb0 hb ob md tur (C) 0 (n : Int) (.slice (some ⟨g, 0, none⟩) nl cl) (.slice ah nh ch) Lo Hi Lo Hi) := ⟨hS.out.1, hS.out.2.1, hS.out.2.2.mono (bel_grow _ _ _)⟩
              clear hS AH
              go_wp2_with fail
              go_roundw
              case rel => exact ⟨j + 1, by omega, by omega, by go_num, MX⟩
              case measure => simp [intOf]; omega
            · clear hj1 hj2
              go_wp2_with fail
              go_loopw [17] (fun t wr3 => ∃ (j : Nat), 1 ≤ j ∧ j ≤ nh + 1 ∧ t = .int .i64 (j : Int) ∧ Hid (Lo.length = nl ∧ Hi.length = nh ∧ Mx W0 r0 wr3 xb hb0 hb ob md tur (C) 0 (n : Int) (.slice al nl cl) (.slice ah nh ch) Lo Hi Lo Hi)) (fun t _ => nh + 1 - (intOf t).toNat)
              case atStart => exact ⟨1, by omega, by omega, rfl, hS⟩
              case round =>
                clear hS
                obtain ⟨j, hj1, hj2, rfl, hS⟩ := hrel
                by_cases hj : j < nh
                · obtain ⟨g, rfl, hg, hcell⟩ := hS.out.2.2.rhi.at (by have := hS.out.2.1; omega)
                  obtain ⟨q, eq⟩ : ∃ q, j = q + 1 := ⟨j - 1, by omega⟩
                  have k1 := hcell j (by have := hS.out.2.1; omega)
                  have k0 := hcell q (by have := hS.out.2.1; omega)
                  have r1 := hS.out.2.2.srt.wh j (by have := hS.out.2.1; omega)
                  have r0' := hS.out.2.2.srt.wh q (by have := hS.out.2.1; omega)
                  have hle := hS.out.2.2.srt.hi q (by have := hS.out.2.1; omega)
                  rw [← eq] at hle
                  obtain ⟨x1, ex1⟩ : ∃ x1, x1 = Hi.getD j 0 := ⟨_, rfl⟩
                  obtain ⟨x0, ex0⟩ : ∃ x0, x0 = Hi.getD q 0 := ⟨_, rfl⟩
                  rw [← ex1] at k1 r1 hle
                  rw [← ex0] at k0 r0' hle
                  have G1 : ∀ n os, (grow (wr.drewN n) os).cell? ⟨g, j, none⟩ = some (.int .i64 x1) := fun n os => cell_grown hg k1 n os
                  have G0 : ∀ n os, (grow (wr.drewN n) os).cell? ⟨g, q, none⟩ = some (.int .i64 x0) := fun n os => cell_grown hg k0 n os
                  obtain ⟨r11, r12⟩ := r1
                  obtain ⟨r01, r02⟩ := r0'
                  have dA : decide (rk md tur x0 < rk md tur x1) = false := decide_eq_false (by omega)
                  have w6 : IntKind.i64.wrap ((j : Int) - 1) = (q : Int) := by rw [IntKind.wrap_i64]; omega
                  have w5 : IntKind.i64.wrap ((j : Int) + 1) = (j : Int) + 1 := by rw [IntKind.wrap_i64]; omega
                  obtain ⟨d1, lx, lo', q0', q1', q2', q3', m0, m1⟩ := hS.out.2.2.cells
                  have g1 : ∀ n os, (grow (wr.drewN n) os).cell? ⟨xb, 1, none⟩ = some (.pointer (some ⟨ob, 0, none⟩)) := fun n os => cell_grown lx d1 n os
                  have q0 : ∀ n os, (grow (wr.drewN n) os).cell? ⟨ob, 0, none⟩ = some (.slice none 0 0) := fun n os => cell_grown lo' q0' n os
                  have q1 : ∀ n os, (grow (wr.drewN n) os).cell? ⟨ob, 1, none⟩ = some (.int .i64 0) := fun n os => cell_grown lo' q1' n os
                  have q2 : ∀ n os, (grow (wr.drewN n) os).cell? ⟨ob, 2, none⟩ = some (.int .i64 md) := fun n os => cell_grown lo' q2' n os
                  have q3 : ∀ n os, (grow (wr.drewN n) os).cell? ⟨ob, 3, none⟩ = some (.bool tur) := fun n os => cell_grown lo' q3' n os
                  have AH : Hid (∀ n os, Calls Try.prog 20 #[.agg #[.slice none 0 0, .int .i64 0, .int .i64 md, .bool tur], .int .i64 x0, .int .i64 x1] (grow (wr.drewN n) os) fun e w'' => e = .returned (.bool false) ∧ ∃ p : GrownBy, w'' = grow (wr.drewN p.n) p.os) := fun n os => by
                    have := ahead_is (.slice none 0 0) ⟨_, _, _, rfl⟩ 0 md tur x0 x1 (grow (wr.drewN n) os) m0 m1 (by assumption) (by assumption) (by assumption) (by assumption)
                    rw [dA] at this
                    exact Calls.grown_of this
                  have mixed : Try.prog.follows .mixedOrders = true := by kernel_rfl
                  clear d1 lx lo' q0' q1' q2' q3' m0 m1
                  have hq : q < nh := by omega
                  clear hcell k1 k0 hle ex1 ex0 hg eq
                  go_wp2_with fail
                  go_quiet_grown (first | (go_at_call 20; exact AH.out _ _))
                  have MX : Hid (Lo.length = nl ∧ Hi.length = nh ∧ Mx W0 r0 (grow (wr.drewN nq) osq) xb hb0 hb ob md tur (C) 0 (n : Int) (.slice al nl cl) (.slice (some ⟨g, 0, none⟩) nh ch) Lo Hi Lo Hi) := ⟨hS.out.1, hS.out.2.1, hS.out.2.2.mono (bel_grow _ _ _)⟩
                  clear hS AH
                  go_wp2_with fail
                  go_roundw
                  case rel => exact ⟨j + 1, by omega, by omega, by go_num, MX⟩
                  case measure => simp [intOf]; omega
                · clear hj1 hj2
                  go_wp2_with fail
                  have hl0 := hS.out.1
                  have hh0 := hS.out.2.1
                  by_cases hz : 0 < nl ∧ 0 < nh
                  · obtain ⟨z1, z2⟩ := hz
                    obtain ⟨g, rfl, hg, hcell⟩ := hS.out.2.2.rlo.at (by omega)
                    obtain ⟨g', rfl, hg', hcell'⟩ := hS.out.2.2.rhi.at (by omega)
                    obtain ⟨p, ep⟩ : ∃ p, nl = p + 1 := ⟨nl - 1, by omega⟩
                    obtain ⟨p', ep'⟩ : ∃ p', nh = p' + 1 := ⟨nh - 1, by omega⟩
                    have k1 := hcell p (by omega)
                    have k0 := hcell' p' (by omega)
                    have r1 := hS.out.2.2.srt.wl p (by omega)
                    have r0' := hS.out.2.2.srt.wh p' (by omega)
                    have hle := hS.out.2.2.srt.mid (by omega) (by omega)
                    rw [show Lo.length - 1 = p by omega, show Hi.length - 1 = p' by omega] at hle
                    obtain ⟨x1, ex1⟩ : ∃ x1, x1 = Lo.getD p 0 := ⟨_, rfl⟩
                    obtain ⟨x0, ex0⟩ : ∃ x0, x0 = Hi.getD p' 0 := ⟨_, rfl⟩
                    rw [← ex1] at k1 r1 hle
                    rw [← ex0] at k0 r0' hle
                    have G1 : ∀ n os, (grow (wr.drewN n) os).cell? ⟨g, p, none⟩ = some (.int .i64 x1) := fun n os => cell_grown hg k1 n os
                    have G0 : ∀ n os, (grow (wr.drewN n) os).cell? ⟨g', p', none⟩ = some (.int .i64 x0) := fun n os => cell_grown hg' k0 n os
                    obtain ⟨r11, r12⟩ := r1
                    obtain ⟨r01, r02⟩ := r0'
                    have dA : decide (rk md tur x0 < rk md tur x1) = false := decide_eq_false (by omega)
                    have w6 : IntKind.i64.wrap ((nl : Int) - 1) = (p : Int) := by rw [IntKind.wrap_i64]; omega
                    have w7 : IntKind.i64.wrap ((nh : Int) - 1) = (p' : Int) := by rw [IntKind.wrap_i64]; omega
                    have d1 : decide ((0 : Int) < (nl : Int)) = true := decide_eq_true (by omega)
                    have d2 : decide ((0 : Int) < (nh : Int)) = true := decide_eq_true (by omega)
                    have d3 : decide (0 < nl) = true := decide_eq_true (by omega)
                    have d4 : decide (0 < nh) = true := decide_eq_true (by omega)
                    obtain ⟨d1, lx, lo', q0', q1', q2', q3', m0, m1⟩ := hS.out.2.2.cells
                    have g1 : ∀ n os, (grow (wr.drewN n) os).cell? ⟨xb, 1, none⟩ = some (.pointer (some ⟨ob, 0, none⟩)) := fun n os => cell_grown lx d1 n os
                    have q0 : ∀ n os, (grow (wr.drewN n) os).cell? ⟨ob, 0, none⟩ = some (.slice none 0 0) := fun n os => cell_grown lo' q0' n os
                    have q1 : ∀ n os, (grow (wr.drewN n) os).cell? ⟨ob, 1, none⟩ = some (.int .i64 0) := fun n os => cell_grown lo' q1' n os
                    have q2 : ∀ n os, (grow (wr.drewN n) os).cell? ⟨ob, 2, none⟩ = some (.int .i64 md) := fun n os => cell_grown lo' q2' n os
                    have q3 : ∀ n os, (grow (wr.drewN n) os).cell? ⟨ob, 3, none⟩ = some (.bool tur) := fun n os => cell_grown lo' q3' n os
                    have AH : Hid (∀ n os, Calls Try.prog 20 #[.agg #[.slice none 0 0, .int .i64 0, .int .i64 md, .bool tur], .int .i64 x0, .int .i64 x1] (grow (wr.drewN n) os) fun e w'' => e = .returned (.bool false) ∧ ∃ p : GrownBy, w'' = grow (wr.drewN p.n) p.os) := fun n os => by
                      have := ahead_is (.slice none 0 0) ⟨_, _, _, rfl⟩ 0 md tur x0 x1 (grow (wr.drewN n) os) m0 m1 (by assumption) (by assumption) (by assumption) (by assumption)
                      rw [dA] at this
                      exact Calls.grown_of this
                    have mixed : Try.prog.follows .mixedOrders = true := by kernel_rfl
                    clear d1 lx lo' q0' q1' q2' q3' m0 m1
                    have hp1 : p < nl := by omega
                    have hp2 : p' < nh := by omega
                    clear hcell hcell' k1 k0 hle ex1 ex0 hg hg' hl0 hh0 ep ep'
                    go_wp2_with fail
                    go_quiet_grown (first | (go_at_call 20; exact AH.out _ _))
                    have MX : Hid (Mx W0 r0 (grow (wr.drewN nq) osq) xb hb0 hb ob md tur (C) 0 (n : Int) (.slice (some ⟨g, 0, none⟩) nl cl) (.slice (some ⟨g', 0, none⟩) nh ch) Lo Hi Lo Hi) := hS.out.2.2.mono (bel_grow _ _ _)
                    clear hS AH
                    obtain ⟨N9, T9, hN9, hp9, hb9⟩ := MX.out.hp
                    have LN : Hid _ := hp9.len
                    have HB : Hid (Below W0.heap.size W0 _) := MX.out.bel
                    clear MX hp9 hb9 hN9
                    go_wp2_with (first | (go_at_call 17; refine Calls.mono LN.out ?_; rintro e w8 ⟨rfl, rfl⟩) | (go_at_call 12; refine Calls.mono (ST.out _) ?_; rintro e w9 ⟨rfl, hB9⟩))
                    go_ret
                    exact ⟨rfl, HB.out.trans (hB9.mono HB.out.size)⟩
                  · by_cases z1 : 0 < nl
                    · have z2 : nh = 0 := by omega
                      subst z2
                      have d1 : decide ((0 : Int) < (nl : Int)) = true := decide_eq_true (by omega)
                      have d3 : decide (0 < nl) = true := decide_eq_true (by omega)
                      clear hl0 hh0 hz
                      go_wp2_with fail
                      go_quiet (fail)
                      have MX : Hid (Mx W0 r0 (wr.drewN nq) xb hb0 hb ob md tur (C) 0 (n : Int) (.slice al nl cl) (.slice ah 0 ch) Lo Hi Lo Hi) := hS.out.2.2.mono (bel_drewN (Below.refl _ _) _)
                      clear hS
                      obtain ⟨N9, T9, hN9, hp9, hb9⟩ := MX.out.hp
                      have LN : Hid _ := hp9.len
                      have HB : Hid (Below W0.heap.size W0 _) := MX.out.bel
                      clear MX hp9 hb9 hN9
                      go_wp2_with (first | (go_at_call 17; refine Calls.mono LN.out ?_; rintro e w8 ⟨rfl, rfl⟩) | (go_at_call 12; refine Calls.mono (ST.out _) ?_; rintro e w9 ⟨rfl, hB9⟩))
                      go_ret
                      exact ⟨rfl, HB.out.trans (hB9.mono HB.out.size)⟩
                    · have z2 : nl = 0 := by omega
                      subst z2
                      clear hl0 hh0 hz z1
                      go_wp2_with fail
                      go_quiet (fail)
                      have MX : Hid (Mx W0 r0 (wr.drewN nq) xb hb0 hb ob md tur (C) 0 (n : Int) (.slice al 0 cl) (.slice ah nh ch) Lo Hi Lo Hi) := hS.out.2.2.mono (bel_drewN (Below.refl _ _) _)
                      clear hS
                      obtain ⟨N9, T9, hN9, hp9, hb9⟩ := MX.out.hp
                      have LN : Hid _ := hp9.len
                      have HB : Hid (Below W0.heap.size W0 _) := MX.out.bel
                      clear MX hp9 hb9 hN9
                      go_wp2_with (first | (go_at_call 17; refine Calls.mono LN.out ?_; rintro e w8 ⟨rfl, rfl⟩) | (go_at_call 12; refine Calls.mono (ST.out _) ?_; rintro e w9 ⟨rfl, hB9⟩))
                      go_ret
                      exact ⟨rfl, HB.out.trans (hB9.mono HB.out.size)⟩
end Go.Proofs.Ytjnfcihichaonaa
