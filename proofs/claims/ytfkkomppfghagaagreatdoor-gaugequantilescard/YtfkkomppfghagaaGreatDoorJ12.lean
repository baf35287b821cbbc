/- Contracts of the program's functions, part 12: own work, joined in build order. -/
import Derived.Test.YtfkkomppfghagaaGreatDoorJ11
import Derived.Deep.Cut
import Derived.Deep.CutRange
import Derived.Deep.OwnRows
import Derived.Shelf.SlIterI.Nil
import Derived.Shelf.SortM.Plain
import Derived.Shelf.SortM.SortNone
import Derived.Ground.GgzProg
import Derived.Ground.SlgmProg
import Derived.Test.YtfkkomppfghagaaGreatDoorRows
namespace Go.Proofs.YtfkkomppfghagaaGreatDoor
open Go.RowKit
set_option maxRecDepth 100000
set_option linter.unusedVariables false
theorem bel_drew {B : Nat} {a w : World} (h : Below B a w) : Below B a w.drew := ⟨h.os, h.tape, h.output, h.size, h.block⟩
theorem rt_slices {w : World} {v : Value} {p q : Nat} (h : Rt w v p q) : ∃ a n c a' n' c', v = .agg #[.slice a n c, .slice a' n' c'] := by
  obtain ⟨a, n, c, a', n', c', e, _⟩ := h.raw
  exact ⟨a, n, c, a', n', c', e⟩
def MkB (W : World) (p q : Nat) (e : Ending) (w' : World) : Prop := ∃ (a : Option Addr) (n c : Nat) (a' : Option Addr) (n' c' : Nat), e = .returned (.agg #[.slice a n c, .slice a' n' c']) ∧ Hid (Rt w' (.agg #[.slice a n c, .slice a' n' c']) p q ∧ Below W.heap.size W w')
theorem mkb_of {W w : World} (hb : Below W.heap.size W w) {p q : Nat} {e : Ending} {w' : World} (h : MakesR w p q e w') : MkB W p q e w' := by
  obtain ⟨v, rfl, hv, hb'⟩ := h
  obtain ⟨a, n, c, a', n', c', rfl⟩ := rt_slices hv
  exact ⟨a, n, c, a', n', c', rfl, hv, bel_go hb hb'⟩
def MkC (W : World) (p q : Nat) (ok : Bool) (e : Ending) (w' : World) : Prop := ∃ (a : Option Addr) (n c : Nat) (a' : Option Addr) (n' c' : Nat), e = .returned (.tuple #[.agg #[.slice a n c, .slice a' n' c'], .bool ok]) ∧ Hid (Rt w' (.agg #[.slice a n c, .slice a' n' c']) p q ∧ Below W.heap.size W w')
theorem mkc_of {W w : World} (hb : Below W.heap.size W w) {p q : Nat} {ok : Bool} {e : Ending} {w' : World} (h : MakesRB w p q ok e w') : MkC W p q ok e w' := by
  obtain ⟨v, rfl, hv, hb'⟩ := h
  obtain ⟨a, n, c, a', n', c', rfl⟩ := rt_slices hv
  exact ⟨a, n, c, a', n', c', rfl, hv, bel_go hb hb'⟩
set_option maxHeartbeats 16000000 in
theorem jain_walk (Res : Nat → Nat → Bool → Prop) (g n cap : Nat) (E E' : Nat → Value) (X Y N D : Nat → Nat) (w : World) (F : Fq n X Y N D) (hc : n ≤ cap) (hc2 : cap ≤ 9223372036854775807) (he : ∀ i, i < n → w.cell? ⟨g, i * 2, none⟩ = some (E i) ∧ w.cell? ⟨g, i * 2 + 1, none⟩ = some (E' i) ∧ Rt w (.agg #[E i, E' i]) (X i) (Y i)) (hg : g < w.heap.size) (hT : Tab w)
    (LS : ∀ p q, Fc p q (nu2 N D n) (pr1 D n * pr1 D n) 31 → ∃ A B a b x y ok, Res x y ok ∧ (∀ v u w, Rt w v (sumPQ X Y n).1 (sumPQ X Y n).2 → Rt w u (sumPQ X Y n).1 (sumPQ X Y n).2 → Tab w → Calls Tryz.prog 36 #[v, u] w (MakesR w A B)) ∧
      (∀ v w, Rt w v p q → Tab w → Calls Tryz.prog 24 #[v, .int .i64 (n : Int)] w (MakesRB w a b true)) ∧
      (∀ v u w, Rt w v A B → Rt w u a b → Tab w → Calls Tryz.prog 38 #[v, u] w (MakesRB w x y ok))) :
    Calls Tryz.prog 13 #[.slice (some ⟨g, 0, none⟩) n cap] w fun e w' => ∃ x y ok, Res x y ok ∧ MakesRB w x y ok e w' := by
  obtain ⟨w0, hw0⟩ : ∃ w0, w0 = (w.alloc (.cells #[.slice none 0 0, .slice none 0 0] 47)).alloc (.cells #[.slice none 0 0, .slice none 0 0] 47) := ⟨_, rfl⟩
  have ba : Below w.heap.size w w0 := by rw [hw0]; exact bel_al (bel_al (bel_refl w))
  have S0 : Hid (SumS w w0 w.heap.size g n E E' X Y 0 1 none 0 0 none 0 0) := by
    refine ⟨rt_zero _, ?_, ?_, ?_, ?_, ?_, ?_, ?_, ?_, fun i hi => ⟨cell_later ba (he i hi).1, cell_later ba (he i hi).2.1, (he i hi).2.2.mono ba⟩, ba, hg, Nat.le_refl _⟩ <;> rw [hw0] <;> simp [go_sem]
  have FF : Hid (Fq n X Y N D) := F
  have HL : Hid _ := LS
  have HT : Hid (Tab w) := hT
  have FC0 : Hid (Fc 0 1 (nu2 N D 0) (pr1 D 0 * pr1 D 0) 31) := ⟨by simp, by simp, by simp [pr1], by simp [nu2], P_pos _, Nat.lt_of_lt_of_le (by rw [P_one]; omega) (P_le (show 1 ≤ 31 by omega))⟩
  have hn15 : n ≤ 15 := F.few
  have HG0 : Hid (g < w.heap.size) := hg
  clear he hT ba hg F LS
  go_enter Tryz.func13, Tryz.ntmps13
  go_wp2_with fail
  rw [← hw0]
  obtain ⟨b, hb⟩ : ∃ b, b = w.heap.size := ⟨_, rfl⟩
  rw [← hb] at S0
  rw [← hb]
  clear hw0 hb
  go_loopw [12] (fun t wr => ∃ (i p q : Nat) (a : Option Addr) (m c : Nat) (a' : Option Addr) (m' c' : Nat), i ≤ n ∧ t = .int .i64 (i : Int) ∧ Fc p q (nu2 N D i) (pr1 D i * pr1 D i) 31 ∧ SumS w wr b g n E E' X Y p q a m c a' m' c') (fun t _ => n - (intOf t).toNat)
  case atStart => exact ⟨0, _, _, _, _, _, _, _, _, by omega, rfl, FC0.out, S0.out⟩
  case round =>
    clear S0
    obtain ⟨i, p, q, a, m, c, a', m', c', hi, rfl, hF, hS⟩ := hrel
    have S1 : Hid _ := hS
    have HF : Hid _ := hF
    clear hS hF
    by_cases hin : i < n
    · obtain ⟨p1, m1, d1, p2, m2, d2, ev, _, _⟩ := (S1.out.el i hin).2.2.raw
      have e1 : E i = .slice p1 m1 d1 := by simp at ev; exact ev.1
      have e2 : E' i = .slice p2 m2 d2 := by simp at ev; exact ev.2
      have z0 := (S1.out.el i hin).1
      have z1 := (S1.out.el i hin).2.1
      rw [e1] at z0
      rw [e2] at z1
      have hR := (S1.out.el i hin).2.2
      rw [e1, e2] at hR
      have bl := bel_al (o := .cells #[.slice p1 m1 d1, .slice p2 m2 d2] 47) (bel_refl wr)
      have S2 : Hid _ := S1.out.go bl
      have HR : Hid _ := hR.mono bl
      clear e1 e2 ev hR bl
      obtain ⟨A, B, p', q', f', cM, cA⟩ := FF.out.square hin HF.out
      go_upto_region 5 with fail
      obtain ⟨w5, hw⟩ : ∃ w5, w5 = wr.alloc (.cells #[.slice p1 m1 d1, .slice p2 m2 d2] 47) := ⟨_, rfl⟩
      obtain ⟨b6, hb6⟩ : ∃ b6, b6 = wr.heap.size := ⟨_, rfl⟩
      have k6 : w5.cell? ⟨b6, 0, none⟩ = some (.slice p1 m1 d1) := by rw [hw, hb6]; simp [go_sem]
      have k7 : w5.cell? ⟨b6, 1, none⟩ = some (.slice p2 m2 d2) := by rw [hw, hb6]; simp [go_sem]
      rw [← hw] at S2 HR
      rw [← hw, ← hb6]
      have y0 := S2.out.c0
      have y1 := S2.out.c1
      have x0 := S2.out.f0
      have x1 := S2.out.f1
      have KC : Hid (∀ w9, Below w5.heap.size w5 w9 → w9.cell? ⟨b6, 0, none⟩ = some (.slice p1 m1 d1) ∧ w9.cell? ⟨b6, 1, none⟩ = some (.slice p2 m2 d2) ∧ w9.cell? ⟨b + 1, 0, none⟩ = some (.slice a m c) ∧ w9.cell? ⟨b + 1, 1, none⟩ = some (.slice a' m' c') ∧ w9.frozen? ⟨b + 1, 0, none⟩ = false ∧ w9.frozen? ⟨b + 1, 1, none⟩ = false) := fun w9 h9 => ⟨cell_later h9 k6, cell_later h9 k7, (S2.out.go h9).c0, (S2.out.go h9).c1, (S2.out.go h9).f0, (S2.out.go h9).f1⟩
      have CM : Hid (∀ w9, Below w5.heap.size w5 w9 → Calls Tryz.prog 36 #[.agg #[.slice p1 m1 d1, .slice p2 m2 d2], .agg #[.slice p1 m1 d1, .slice p2 m2 d2]] w9 (MkB w5 A B)) := fun w9 h9 => (cM _ w9 (HR.out.mono h9) (HT.out.go (bel_go S2.out.bel h9))).mono fun _ _ h => mkb_of h9 h
      have CA : Hid (∀ (r : Option Addr) (k d : Nat) (r' : Option Addr) (k' d' : Nat) (w9 : World), Hid (Rt w9 (.agg #[.slice r k d, .slice r' k' d']) A B ∧ Below w5.heap.size w5 w9) → Calls Tryz.prog 35 #[.agg #[.slice a m c, .slice a' m' c'], .agg #[.slice r k d, .slice r' k' d']] w9 (MkB w5 p' q')) := fun r k d r' k' d' w9 h9 => (cA _ _ w9 (S2.out.go h9.out.2).rt h9.out.1 (HT.out.go (bel_go S2.out.bel h9.out.2))).mono fun _ _ h => mkb_of h9.out.2 h
      have FN : Hid (Fc p' q' (nu2 N D (i + 1)) (pr1 D (i + 1) * pr1 D (i + 1)) 31) := f'
      clear hw hb6 z0 z1 HR f' cM cA HF S1
      go_region_with (first
        | (go_at_call 36; refine Calls.mono (CM.out _ (show Below _ _ _ from (by with_reducible exact bel_drew (Below.refl _ _)))) ?_; rintro e w6 ⟨r1, i1, j1, r2, i2, j2, rfl, hM⟩; obtain ⟨c6, c7, c0, c1, g0, g1⟩ := KC.out _ hM.out.2)
        | (go_at_call 35; refine Calls.mono (CA.out _ _ _ _ _ _ _ hM) ?_; rintro e w7 ⟨r3, i3, j3, r4, i4, j4, rfl, hA⟩; obtain ⟨l6, l7, l0, l1, m0, m1⟩ := KC.out _ hA.out.2))
      all_goals
        go_wp2_with fail
        go_roundw
        case rel => exact ⟨i + 1, p', q', _, _, _, _, _, _, by omega, by go_num, FN.out, (S2.out.go hA.out.2).set hA.out.1⟩
        case measure => simp [intOf]; omega
    obtain rfl : i = n := by omega
    obtain ⟨A, B, ia, ib, x, y, ok, hres, cM, cI, cD⟩ := HL.out p q HF.out
    have HX : Hid (∀ j, j < i → RL (X j) ∧ RL (Y j) ∧ RL (sumPQ X Y j).1 ∧ RL (sumPQ X Y j).2) := fun j hj => ⟨((FF.out.fc j hj).rs1 (by omega)).l, ((FF.out.fc j hj).rs2 (by omega)).l, ((FF.out.sum j (by omega)).rs1 (by omega)).l, ((FF.out.sum j (by omega)).rs2 (by omega)).l⟩
    have CS : Hid (Calls Tryz.prog 37 #[.slice (some ⟨g, 0, none⟩) i cap] wr (MakesR wr (sumPQ X Y i).1 (sumPQ X Y i).2)) := ratSumG_any g i cap E E' X Y wr (by omega) hc hc2 (fun j hj => S1.out.el j hj) HX.out (Nat.lt_of_lt_of_le HG0.out S1.out.bel.size) (HT.out.go S1.out.bel)
    have CI : Hid _ := cI
    have CM0 : Hid _ := cM
    have CD0 : Hid _ := cD
    have HR : Hid (Res x y ok) := hres
    clear cM cI cD hres HL FC0 HX HF
    go_upto_region 8 with (go_at_call 37; refine CS.out.mono ?_; rintro e w7 ⟨v7, rfl, hv7, hb7⟩; obtain ⟨r1, i1, j1, r2, i2, j2, rfl⟩ := rt_slices hv7)
    have bl7 := bel_al (o := .cells #[.slice r1 i1 j1, .slice r2 i2 j2] 47) (bel_refl w7)
    obtain ⟨w8, hw8⟩ : ∃ w8, w8 = w7.alloc (.cells #[.slice r1 i1 j1, .slice r2 i2 j2] 47) := ⟨_, rfl⟩
    obtain ⟨b7, hb7'⟩ : ∃ b7, b7 = w7.heap.size := ⟨_, rfl⟩
    have k0 : w8.cell? ⟨b7, 0, none⟩ = some (.slice r1 i1 j1) := by rw [hw8, hb7']; simp [go_sem]
    have k1 : w8.cell? ⟨b7, 1, none⟩ = some (.slice r2 i2 j2) := by rw [hw8, hb7']; simp [go_sem]
    rw [← hw8] at bl7
    have S8 : Hid _ := (S1.out.go hb7).go bl7
    have R7 : Hid _ := hv7.mono bl7
    have y0 := S8.out.c0
    have y1 := S8.out.c1
    have CI8 : Hid (Calls Tryz.prog 24 #[.agg #[.slice a m c, .slice a' m' c'], .int .i64 (i : Int)] w8 (MakesRB w8 ia ib true)) := CI.out _ w8 S8.out.rt (HT.out.go S8.out.bel)
    rw [← hw8, ← hb7']
    clear hw8 hb7' bl7 hb7 hv7 S1 CS CI
    go_upto_region 9 with (go_at_call 24; refine CI8.out.mono ?_; rintro e w9 ⟨v9, rfl, hv9, hb9⟩; obtain ⟨r3, i3, j3, r4, i4, j4, rfl⟩ := rt_slices hv9)
    have bl9 := bel_al (o := .cells #[.slice r3 i3 j3, .slice r4 i4 j4] 47) (bel_refl w9)
    obtain ⟨wa, hwa⟩ : ∃ wa, wa = w9.alloc (.cells #[.slice r3 i3 j3, .slice r4 i4 j4] 47) := ⟨_, rfl⟩
    obtain ⟨b8, hb8⟩ : ∃ b8, b8 = w9.heap.size := ⟨_, rfl⟩
    have k2 : wa.cell? ⟨b8, 0, none⟩ = some (.slice r3 i3 j3) := by rw [hwa, hb8]; simp [go_sem]
    have k3 : wa.cell? ⟨b8, 1, none⟩ = some (.slice r4 i4 j4) := by rw [hwa, hb8]; simp [go_sem]
    rw [← hwa] at bl9
    have b8a := bel_go hb9 bl9
    have SA : Hid _ := S8.out.go b8a
    have R7a : Hid _ := R7.out.mono b8a
    have R9a : Hid _ := hv9.mono bl9
    have l0 := cell_later b8a k0
    have l1 := cell_later b8a k1
    have z0 := SA.out.r0
    have z1 := SA.out.r1
    have f0 := SA.out.g0
    have f1 := SA.out.g1
    rw [← hwa, ← hb8]
    have KC : Hid (∀ w', Below wa.heap.size wa w' → w'.cell? ⟨b7, 0, none⟩ = some (.slice r1 i1 j1) ∧ w'.cell? ⟨b7, 1, none⟩ = some (.slice r2 i2 j2) ∧ w'.cell? ⟨b8, 0, none⟩ = some (.slice r3 i3 j3) ∧ w'.cell? ⟨b8, 1, none⟩ = some (.slice r4 i4 j4) ∧ w'.cell? ⟨b, 0, none⟩ = some (.slice none 0 0) ∧ w'.cell? ⟨b, 1, none⟩ = some (.slice none 0 0) ∧ w'.frozen? ⟨b, 0, none⟩ = false ∧ w'.frozen? ⟨b, 1, none⟩ = false) := fun w' h' => ⟨cell_later h' l0, cell_later h' l1, cell_later h' k2, cell_later h' k3, (SA.out.go h').r0, (SA.out.go h').r1, (SA.out.go h').g0, (SA.out.go h').g1⟩
    have CM : Hid (∀ w', Below wa.heap.size wa w' → Calls Tryz.prog 36 #[.agg #[.slice r1 i1 j1, .slice r2 i2 j2], .agg #[.slice r1 i1 j1, .slice r2 i2 j2]] w' (MkB wa A B)) := fun w' h' => (CM0.out _ _ w' (R7a.out.mono h') (R7a.out.mono h') (HT.out.go (bel_go SA.out.bel h'))).mono fun _ _ h => mkb_of h' h
    have CD : Hid (∀ (s : Option Addr) (k d : Nat) (s' : Option Addr) (k' d' : Nat) (w' : World), Hid (Rt w' (.agg #[.slice s k d, .slice s' k' d']) A B ∧ Below wa.heap.size wa w') → Calls Tryz.prog 38 #[.agg #[.slice s k d, .slice s' k' d'], .agg #[.slice r3 i3 j3, .slice r4 i4 j4]] w' (MkC wa x y ok)) := fun s k d s' k' d' w' h' => (CD0.out _ _ w' h'.out.1 (R9a.out.mono h'.out.2) (HT.out.go (bel_go SA.out.bel h'.out.2))).mono fun _ _ h => mkc_of h'.out.2 h
    clear hwa hb8 bl9 b8a R7 R7a R9a S8 CI8 CM0 CD0 hv9 hb9 y0 y1 k0 k1
    go_region_with (first
      | (go_at_call 36; refine Calls.mono (CM.out _ (show Below _ _ _ from (by with_reducible exact bel_drew (Below.refl _ _)))) ?_; rintro e w6 ⟨s1, i5, j5, s2, i6, j6, rfl, hM⟩; obtain ⟨c0, c1, c2, c3, c4, c5, c6, c7⟩ := KC.out _ hM.out.2)
      | (go_at_call 38; refine Calls.mono (CD.out _ _ _ _ _ _ _ hM) ?_; rintro e wb ⟨s3, i7, j7, s4, i8, j8, rfl, hD⟩; obtain ⟨d0, d1, d2, d3, d4, d5, d6, d7⟩ := KC.out _ hD.out.2))
    all_goals
      have Z : Hid _ := rat_put (w0 := w) (v := .slice s3 i7 j7) (u := .slice s4 i8 j8) d4 d5 hD.out.1 (bel_go SA.out.bel hD.out.2) SA.out.lo
      go_wp2_with fail
      exact bodyPost_ret (v := .tuple #[.agg #[.slice s3 i7 j7, .slice s4 i8 j8], .bool ok]) (by simp [results, Tryz.results13, go_sem, d4, d5]) rfl ⟨_, _, _, HR.out, _, rfl, Z.out.1, Z.out.2⟩
theorem jain_any (g n cap : Nat) (E E' : Nat → Value) (X Y N D : Nat → Nat) (w : World) (F : Fq n X Y N D) (hc : n ≤ cap) (hc2 : cap ≤ 9223372036854775807) (he : ∀ i, i < n → w.cell? ⟨g, i * 2, none⟩ = some (E i) ∧ w.cell? ⟨g, i * 2 + 1, none⟩ = some (E' i) ∧ Rt w (.agg #[E i, E' i]) (X i) (Y i)) (hg : g < w.heap.size) (hT : Tab w) :
    Calls Tryz.prog 13 #[.slice (some ⟨g, 0, none⟩) n cap] w fun e w' => ∃ x y ok, (ok = decide (0 < nu2 N D n) ∧ RS x ∧ RS y ∧ (nu2 N D n = 0 → x = 0 ∧ y = 1) ∧ (0 < nu2 N D n → Fc x y (nu1 N D n * nu1 N D n) (nu2 N D n * n) 64)) ∧ MakesRB w x y ok e w' := by
  refine jain_walk _ g n cap E E' X Y N D w F hc hc2 he hg hT fun p q f => ?_
  obtain ⟨A, B, a, b, f2, c1, c2, c3, c4⟩ := F.last f
  by_cases h0 : nu2 N D n = 0
  · refine ⟨A, B, a, b, 0, 1, false, ⟨by simp [h0], rs_few (by omega), rs_few (by omega), fun _ => ⟨rfl, rfl⟩, fun h => by omega⟩, c1, c2, c4 (by rw [h0, Nat.zero_mul])⟩
  have hn0 : 0 < n := Nat.pos_of_ne_zero fun e => h0 (by rw [e]; rfl)
  have hp : 0 < nu2 N D n * n := Nat.mul_pos (by omega) hn0
  obtain ⟨x, y, f3, c5⟩ := c3 hp
  exact ⟨A, B, a, b, x, y, true, ⟨by simp; omega, f3.rs1 (by omega), f3.rs2 (by omega), fun h => by omega, fun _ => f3⟩, c1, c2, c5⟩
def sumG : List Nat → Nat
  | [] => 0
  | d :: r => d + sumG r
theorem sumG_app (L M : List Nat) : sumG (L ++ M) = sumG L + sumG M := by
  induction L with
  | nil => simp [sumG]
  | cons d r ih => simp only [List.cons_append, sumG, ih]; omega
theorem sumG_le {L : List Nat} {m : Nat} (h : ∀ d ∈ L, d ≤ m) : sumG L ≤ L.length * m := by
  induction L with
  | nil => simp [sumG]
  | cons d r ih =>
    have h1 := ih fun x hx => h x (List.mem_cons_of_mem _ hx)
    have h2 := h d (List.mem_cons_self ..)
    rw [sumG, List.length_cons, Nat.add_mul, Nat.one_mul]
    omega
def gaF (n b : Nat) (v : Value) (mb : Nat) : Nat → Value := fun i => if i = 0 then .int .i64 (n : Int) else if i = 1 then .int .i64 (b : Int) else if i = 2 then v else .map (some mb)
structure Gau (W : World) (g mb : Nat) (L : List Nat) (B : Nat) : Prop where
  row : ∃ a n c, W.rowIs g 77 4 (gaF L.length B (.slice a n c) mb) ∧ IsNat W (.agg #[.slice a n c]) (sumG L)
  mp : McG W mb L
  few : L.length ≤ 1000
  del : ∀ d ∈ L, d ≤ 9223372036854775807
  byt : B ≤ 65536 * L.length
theorem Gau.lt {W : World} {g mb : Nat} {L : List Nat} {B : Nat} (h : Gau W g mb L B) : g < W.heap.size ∧ mb < W.heap.size := by
  obtain ⟨a, n, c, h1, _⟩ := h.row
  exact ⟨h1.lt, h.mp.lt⟩
theorem Gau.go {W W' : World} {g mb : Nat} {L : List Nat} {B : Nat} (h : Gau W g mb L B) (hb : Below W.heap.size W W') : Gau W' g mb L B := by
  obtain ⟨a, n, c, h1, h2⟩ := h.row
  exact ⟨⟨a, n, c, h1.of_block (hb.block _ h1.lt), h2.mono hb⟩, h.mp.go hb, h.few, h.del, h.byt⟩
theorem Gau.fb {S : Nat → Prop} {W W' : World} {g mb : Nat} {L : List Nat} {B : Nat} (h : Gau W g mb L B) (f : Fb S W W') (hn : ∀ k, S k → Odd W k) (h1 : ¬ S g) (h2 : ¬ S mb) : Gau W' g mb L B := by
  obtain ⟨a, n, c, k1, k2⟩ := h.row
  exact ⟨⟨a, n, c, k1.of_block (f.block _ k1.lt h1), k2.fb f hn⟩, h.mp.kept (f.block _ h.mp.lt h2), h.few, h.del, h.byt⟩
theorem gaRow_odd {W : World} {g n b mb : Nat} {v : Value} (hv : isSl v) (h1 : W.rowIs g 77 4 (gaF n b v mb)) : Odd W g := by
  obtain ⟨v1, v2, v3, rfl⟩ := hv
  intro i q z hc
  obtain ⟨cs, hb, hs, hf⟩ := h1
  simp only [World.cell?, hb] at hc
  have hi : i < 4 := by
    rcases Nat.lt_or_ge i 4 with e | e
    · exact e
    simp [Array.getElem?_eq_none (show cs.size ≤ i by omega)] at hc
  have e := hf i hi
  simp [e] at hc
  unfold gaF at hc
  split at hc
  · cases hc; rfl
  split at hc
  · cases hc; rfl
  split at hc <;> cases hc
theorem Gau.odd {W : World} {g mb : Nat} {L : List Nat} {B : Nat} (h : Gau W g mb L B) : ∀ k, k = g ∨ k = mb → Odd W k := by
  obtain ⟨a, n, c, h1, _⟩ := h.row
  rintro k (rfl | rfl)
  · exact gaRow_odd ⟨_, _, _, rfl⟩ h1
  intro i q z hc
  obtain ⟨es, cl, hb⟩ := h.mp.block
  simp [World.cell?, hb] at hc
theorem Gau.ne {W : World} {g mb : Nat} {L : List Nat} {B : Nat} (h : Gau W g mb L B) : g ≠ mb := by
  rintro rfl
  obtain ⟨a, n, c, ⟨cs, hb, _⟩, _⟩ := h.row
  obtain ⟨es, cl, hb'⟩ := h.mp.block
  rw [hb] at hb'
  cases hb'
set_option maxHeartbeats 1000000 in
theorem gnew_any (w : World) : Calls Tryz.prog 7 #[] w fun e w' => ∃ g mb, e = .returned (.pointer (some ⟨g, 0, none⟩)) ∧ w.heap.size ≤ g ∧ w.heap.size ≤ mb ∧ Gau w' g mb [] 0 ∧ Below w.heap.size w w' := by
  have hmm := @run_makeMap Tryz.prog
  go_enter Tryz.func7, Tryz.ntmps7
  go_wp2_with fail
  go_ret
  have hs1 : (w.alloc (.map #[] 0)).heap.size = w.heap.size + 1 := Array.size_push _
  have B0 : Below w.heap.size w (w.alloc (.map #[] 0)) := (Below.refl _ _).alloc (Nat.le_refl _) _
  have M0 := McG.made w
  have B1 : Below (w.alloc (.map #[] 0)).heap.size (w.alloc (.map #[] 0)) ((w.alloc (.map #[] 0)).alloc (.cells #[.int .i64 0, .int .i64 0, .slice none 0 0, .map (some w.heap.size)] 77)) := (Below.refl _ _).alloc (Nat.le_refl _) _
  refine ⟨_, w.heap.size, rfl, by omega, Nat.le_refl _, ⟨⟨none, 0, 0, ?_, isNat_zero _⟩, M0.go B1, Nat.zero_le _, (fun d hd => by cases hd), Nat.zero_le _⟩, bel_go B0 B1⟩
  have h := World.rowIs_alloc (w.alloc (.map #[] 0)) #[.int .i64 0, .int .i64 0, .slice none 0 0, .map (some w.heap.size)] 77 (gaF 0 0 (.slice none 0 0) w.heap.size) (fun i hi => by
    match i, hi with
    | 0, _ => rfl
    | 1, _ => rfl
    | 2, _ => rfl
    | 3, _ => rfl)
  rw [hs1] at h
  exact h
theorem gaF_put {n' b' : Nat} {v' : Value} {mb : Nat} {f : Nat → Value} (h : ∀ i, i < 4 → f i = gaF n' b' v' mb i) {W : World} {g : Nat} (r : W.rowIs g 77 4 f) : W.rowIs g 77 4 (gaF n' b' v' mb) := r.congr h
theorem fits_few {x : Nat} (h : x < 340282366920938463463374607431768211456) : Fits x := (RS.mk (Nat.lt_of_lt_of_le (show x < P 2 from h) (P_le (by omega)))).fits
theorem gadd_end {w W2 w7 : World} {g mb n b x : Nat} {v : Value} (hv : isSl v) (h : Hid (W2.rowIs g 77 4 (gaF n b v mb) ∧ Fb (fun k => k = g) w W2)) {r : Option Addr} {k j : Nat} (hA : Hid (IsNat w7 (.agg #[.slice r k j]) x ∧ Below W2.heap.size W2 w7)) :
    Hid ((w7.setCell ⟨g, 2, none⟩ (.slice r k j)).rowIs g 77 4 (gaF n b (.slice r k j) mb) ∧ IsNat (w7.setCell ⟨g, 2, none⟩ (.slice r k j)) (.agg #[.slice r k j]) x ∧ Fb (fun k => k = g) w (w7.setCell ⟨g, 2, none⟩ (.slice r k j))) := by
  have r7 := h.out.1.of_block (hA.out.2.block _ h.out.1.lt)
  have f7 : Fb (fun k => k = g) w7 (w7.setCell ⟨g, 2, none⟩ (.slice r k j)) := (Fb.refl (fun k => k = g) w7).set (x := ⟨g, 2, none⟩) rfl _
  refine ⟨gaF_put (fun i hi => ?_) (r7.set 2 (.slice r k j)), hA.out.1.fb f7 (fun k' e => e ▸ gaRow_odd hv r7), (h.out.2.go hA.out.2).trans f7⟩
  match i, hi with
  | 0, _ => simp [gaF]
  | 1, _ => simp [gaF]
  | 2, _ => simp [gaF]
  | 3, _ => simp [gaF]
theorem gadd_fin {w wc W' : World} {g mb d s : Nat} {L : List Nat} {B : Nat} {r : Option Addr} {k j : Nat} (GA : Hid (Gau w g mb L B)) (hcu : Hid (wc.rowIs g 77 4 (gaF (L.length + 1) (B + s) (.slice r k j) mb) ∧ IsNat wc (.agg #[.slice r k j]) (sumG L + d) ∧ Fb (fun k => k = g) w wc)) (HM : Hid (McG wc mb L ∧ McG W' mb (L ++ [d]) ∧ wc.grownBy W' (some mb))) (hl : L.length < 1000) (hd : d ≤ 9223372036854775807) (hs : s ≤ 65536) : Gau W' g mb (L ++ [d]) (B + s) := by
  obtain ⟨h1, h2, h3⟩ := hcu.out
  obtain ⟨m1, m2, m3⟩ := HM.out
  have hfb : Fb (fun x => x = mb) wc W' := ⟨m3.os, m3.tape, m3.output, m3.size, fun i hi hn => m3.block i hi fun e => hn (by cases e; rfl)⟩
  have hodd : ∀ x, x = mb → Odd wc x := by
    rintro x rfl i q z hc
    obtain ⟨es, cl, hb⟩ := m1.block
    simp [World.cell?, hb] at hc
  refine ⟨⟨r, k, j, ?_, ?_⟩, m2, by simp; omega, fun x hx => ?_, ?_⟩
  · rw [List.length_append, List.length_singleton]
    exact h1.of_block (hfb.block _ h1.lt GA.out.ne)
  · rw [sumG_app]
    exact h2.fb hfb hodd
  · rcases List.mem_append.1 hx with e | e
    · exact GA.out.del x e
    rw [List.mem_singleton.1 e]; exact hd
  have := GA.out.byt
  rw [List.length_append, List.length_singleton]
  omega
set_option maxHeartbeats 4000000 in
theorem gadd_yes (g mb d s : Nat) (L : List Nat) (B : Nat) (w : World) (h : Gau w g mb L B) (hd : d ≤ 9223372036854775807) (hs : 1 ≤ s) (hs2 : s ≤ 65536) (hl : L.length < 1000) :
    Calls Tryz.prog 11 #[.pointer (some ⟨g, 0, none⟩), .int .i64 (d : Int), .int .i64 (s : Int)] w fun e w' => e = .returned (.int .i64 0) ∧ Gau w' g mb (L ++ [d]) (B + s) ∧ Fb (fun k => k = g ∨ k = mb) w w' := by
  obtain ⟨a, n, c, hr, hn⟩ := h.row
  have hby := h.byt
  have c0 := hr.cell (i := 0) (by omega)
  have c1 := hr.cell (i := 1) (by omega)
  have f0 := hr.frozen 0
  have f1 := hr.frozen 1
  simp only [gaF, if_true, if_false, Nat.one_ne_zero] at c0 c1
  have GA : Hid (Gau w g mb L B) := h
  have d0 : ¬ ((d : Int) < 0) := by omega
  have s0 : ¬ ((s : Int) < 1) := by omega
  have s1 : ¬ ((s : Int) > 65536) := by omega
  obtain ⟨W2, hW2⟩ : ∃ W2, W2 = (w.setCell ⟨g, 0, none⟩ (.int .i64 ((L.length : Int) + 1))).setCell ⟨g, 1, none⟩ (.int .i64 ((B : Int) + (s : Int))) := ⟨_, rfl⟩
  have F2 : Fb (fun k => k = g) w W2 := by rw [hW2]; exact ((Fb.refl (fun k => k = g) w).set (x := ⟨g, 0, none⟩) rfl _).set (x := ⟨g, 1, none⟩) rfl _
  have hodd : ∀ k, k = g → Odd w k := fun k e => h.odd k (.inl e)
  have N2 := hn.fb F2 hodd
  have R2 : W2.rowIs g 77 4 (gaF (L.length + 1) (B + s) (.slice a n c) mb) := by
    rw [hW2]
    refine gaF_put (fun i hi => ?_) ((hr.set 0 (.int .i64 ((L.length : Int) + 1))).set 1 (.int .i64 ((B : Int) + (s : Int))))
    match i, hi with
    | 0, _ => simp [gaF]
    | 1, _ => simp [gaF]
    | 2, _ => simp [gaF]
    | 3, _ => simp [gaF]
  have HS : Hid (Fits (sumG L) ∧ Fits d) := by
    have := sumG_le h.del
    have h2 : L.length * 9223372036854775807 ≤ 1000 * 9223372036854775807 := Nat.mul_le_mul (by omega) (Nat.le_refl _)
    exact ⟨fits_few (by omega), fits_few (by omega)⟩
  have KC : Hid (∀ w', Below W2.heap.size W2 w' → w'.cell? ⟨g, 2, none⟩ = some (.slice a n c) ∧ w'.frozen? ⟨g, 2, none⟩ = false) := fun w' h' => by
    have r := R2.of_block (h'.block _ R2.lt)
    exact ⟨r.cell (i := 2) (by omega), r.frozen 2⟩
  have hwr : IntKind.u64.wrap (d : Int) = (d : Int) := by rw [IntKind.wrap_u64]; omega
  have CO : Hid (∀ w', Below W2.heap.size W2 w' → Calls Tryz.prog 27 #[.int .u64 (IntKind.u64.wrap (d : Int))] w' fun e w9 => ∃ (r : Option Addr) (k j : Nat), e = .returned (.agg #[.slice r k j]) ∧ Hid (IsNat w9 (.agg #[.slice r k j]) d ∧ Below W2.heap.size W2 w9)) := fun w' h' => by
    rw [hwr]
    refine (of_any d w' (by omega)).mono fun e w9 ⟨v, ev, hv, hb⟩ => ?_
    obtain ⟨r, k, j, e1⟩ := hv.isAgg
    subst e1
    exact ⟨r, k, j, ev, hv, bel_go h' hb⟩
  have CA : Hid (∀ (r : Option Addr) (k j : Nat) w', Hid (IsNat w' (.agg #[.slice r k j]) d ∧ Below W2.heap.size W2 w') → Calls Tryz.prog 26 #[.agg #[.slice a n c], .agg #[.slice r k j]] w' fun e w9 => ∃ (r : Option Addr) (k j : Nat), e = .returned (.agg #[.slice r k j]) ∧ Hid (IsNat w9 (.agg #[.slice r k j]) (sumG L + d) ∧ Below W2.heap.size W2 w9)) := fun r k j w' h' => (add_any _ _ (sumG L) d w' (N2.mono h'.out.2) h'.out.1 HS.out.1 HS.out.2).mono fun e w9 ⟨v, ev, hv, hb⟩ => by
    obtain ⟨r, k, j, e1⟩ := hv.isAgg
    subst e1
    exact ⟨r, k, j, ev, hv, bel_go h'.out.2 hb⟩
  have HR2 : Hid (W2.rowIs g 77 4 (gaF (L.length + 1) (B + s) (.slice a n c) mb) ∧ Fb (fun k => k = g) w W2) := ⟨R2, F2⟩
  have q2 := R2.cell (i := 2) (by omega)
  have p2 := R2.frozen 2
  have k2 : gaF (L.length + 1) (B + s) (.slice a n c) mb 2 = .slice a n c := rfl
  rw [k2] at q2
  clear h hr hn F2 hodd N2 R2 HS k2 hwr
  go_enter Tryz.func11, Tryz.ntmps11
  go_upto_region 7 with fail
  rw [← hW2]
  clear hW2 c0 c1 f0 f1
  go_cut [6] from 34 to 44 (fun s6 wx => s6 = .int .i64 0 ∧ ∃ (r : Option Addr) (k j : Nat), Hid (wx.rowIs g 77 4 (gaF (L.length + 1) (B + s) (.slice r k j) mb) ∧ IsNat wx (.agg #[.slice r k j]) (sumG L + d) ∧ Fb (fun k => k = g) w wx))
  case first =>
    go_region_with (first
      | (go_at_call 27; refine Calls.mono (CO.out _ (show Below _ _ _ from (by with_reducible exact bel_drew (Below.refl _ _)))) ?_; rintro e w6 ⟨r1, i1, j1, rfl, hM⟩; obtain ⟨m0, m1⟩ := KC.out _ hM.out.2)
      | (go_at_call 26; refine Calls.mono (CA.out _ _ _ _ hM) ?_; rintro e w7 ⟨r2, i2, j2, rfl, hA⟩; obtain ⟨l0, l1⟩ := KC.out _ hA.out.2))
    all_goals
      go_wp2_with fail
      go_meet
      refine ⟨rfl, r2, i2, j2, ?_⟩
      exact gadd_end ⟨_, _, _, rfl⟩ HR2 hA
  case rest =>
    obtain ⟨rfl, r, k, j, hcu⟩ := hcut
    have hm : McG wc mb L := GA.out.mp.kept (hcu.out.2.2.block mb GA.out.mp.lt (fun e => GA.out.ne e.symm))
    have c3 := hcu.out.1.cell (i := 3) (by omega)
    have k3 : gaF (L.length + 1) (B + s) (.slice r k j) mb 3 = .map (some mb) := rfl
    rw [k3] at c3
    have lk := hm.look Tryz.underlying73 (by rfl) (i := (d : Int)) (by omega) (by omega)
    obtain ⟨W', hst, hm', hg⟩ := hm.store (by omega) Tryz.underlying73 hd (z := (cntL L (d : Int) : Int) + 1) rfl
    have hcl : cntL L (d : Int) ≤ 1000 := Nat.le_trans (cntL_le L _) (by omega)
    have HM : Hid (McG wc mb L ∧ McG W' mb (L ++ [d]) ∧ wc.grownBy W' (some mb)) := ⟨hm, hm', hg⟩
    clear hm hm' hg k3 KC CO CA HR2 q2 p2
    go_wp2_with fail
    go_ret
    refine ⟨rfl, gadd_fin GA hcu HM (by omega) hd (by omega), ?_⟩
    refine ⟨HM.out.2.2.os.trans hcu.out.2.2.os, HM.out.2.2.tape.trans hcu.out.2.2.tape, HM.out.2.2.output.trans hcu.out.2.2.output, Nat.le_trans hcu.out.2.2.size HM.out.2.2.size, fun i hi hn => ?_⟩
    exact (HM.out.2.2.block i (Nat.lt_of_lt_of_le hi hcu.out.2.2.size) (fun e => hn (.inr (by cases e; rfl)))).trans (hcu.out.2.2.block i hi fun e => hn (.inl e))
set_option maxHeartbeats 1000000 in
theorem gadd_arg (g : Nat) (d s : Int) (w : World) (hd : d < 0) :
    Calls Tryz.prog 11 #[.pointer (some ⟨g, 0, none⟩), .int .i64 d, .int .i64 s] w fun e w' => e = .returned (.int .i64 1) ∧ w' = w := by
  go_enter Tryz.func11, Tryz.ntmps11
  go_wp2_with fail
  go_ret
  exact ⟨rfl, rfl⟩
set_option maxHeartbeats 400000 in
theorem num18_any (z : Int) (w : World) : Calls Tryz.prog 10 #[.int .i64 z] w fun e w' => e = .returned (.int .i64 z) ∧ w' = w := by
  go_enter Tryz.func10, Tryz.ntmps10
  go_wp2_with fail
  go_ret
  exact ⟨rfl, rfl⟩
def ZIn (w : World) (a : Option Addr) (n : Nat) (z : Nat → Int) : Prop := n = 0 ∨ ∃ g o, a = some ⟨g, o, none⟩ ∧ ∀ i, i < n → w.cell? ⟨g, o + i, none⟩ = some (.int .i64 (z i))
theorem ZIn.go {w w' : World} {a : Option Addr} {n : Nat} {z : Nat → Int} (h : ZIn w a n z) (hb : Below w.heap.size w w') : ZIn w' a n z := by
  rcases h with e | ⟨g, o, e, h⟩
  · exact .inl e
  exact .inr ⟨g, o, e, fun i hi => cell_later hb (h i hi)⟩
theorem ZIn.at {w : World} {a : Option Addr} {n : Nat} {z : Nat → Int} (h : ZIn w a n z) {i : Nat} (hi : i < n) : ∃ g o, a = some ⟨g, o, none⟩ ∧ w.cell? ⟨g, o + i, none⟩ = some (.int .i64 (z i)) := by
  rcases h with e | ⟨g, o, e, h⟩
  · omega
  exact ⟨g, o, e, h i hi⟩
theorem i64_and62 (n : Int) : bits .and .i64 n 4611686018427387903 = n % 4611686018427387904 := by
  have h127 : (BitVec.ofInt 64 4611686018427387903).toNat = 2 ^ 62 - 1 := by decide
  have key : (BitVec.ofInt 64 n &&& BitVec.ofInt 64 4611686018427387903).toNat = (n % ((2 ^ 64 : Nat) : Int)).toNat % 2 ^ 62 := by
    rw [BitVec.toNat_and, BitVec.toNat_ofInt, h127, Nat.and_two_pow_sub_one_eq_mod]
  show IntKind.i64.wrap ((BitVec.ofInt 64 n &&& BitVec.ofInt 64 4611686018427387903).toNat : Nat) = n % 4611686018427387904
  rw [key, IntKind.wrap_i64]
  omega
def dlN (x : Int) : Nat := (x % 4611686018427387904).toNat
theorem dlN_le (x : Int) : dlN x ≤ 4611686018427387903 := by unfold dlN; omega
def dlL (z : Nat → Int) (i : Nat) : List Nat := (List.range i).map fun j => dlN (z j)
theorem dlL_len (z : Nat → Int) (i : Nat) : (dlL z i).length = i := by simp [dlL]
theorem dlL_succ (z : Nat → Int) (i : Nat) : dlL z (i + 1) = dlL z i ++ [dlN (z i)] := by simp [dlL, List.range_succ]
structure Fil (w0 w : World) (g mb : Nat) (L : List Nat) : Prop where
  ga : Gau w g mb L L.length
  lo : w0.heap.size ≤ g ∧ w0.heap.size ≤ mb
  bel : Below w0.heap.size w0 w
set_option maxHeartbeats 4000000 in
theorem filled_any (a0 : Option Addr) (n cap : Nat) (z : Nat → Int) (w : World) (h : ZIn w a0 n z) (hn : n ≤ 100) :
    Calls Tryz.prog 17 #[.slice a0 n cap] w fun e w' => ∃ g mb, e = .returned (.pointer (some ⟨g, 0, none⟩)) ∧ Fil w w' g mb (dlL z n) := by
  have HI : Hid (ZIn w a0 n z) := h
  clear h
  go_enter Tryz.func17, Tryz.ntmps17
  go_wp2_with fail
  refine Calls.mono (gnew_any w) ?_
  rintro e w1 ⟨g, mb, rfl, hg, hmb, hG1, hb1⟩
  have F1 : Hid (Fil w w1 g mb (dlL z 0)) := ⟨hG1, ⟨hg, hmb⟩, hb1⟩
  clear hg hmb hG1 hb1
  go_wp2_with fail
  go_loopw [4] (fun t wr => ∃ (i : Nat), i ≤ n ∧ t = .int .i64 (i : Int) ∧ Fil w wr g mb (dlL z i)) (fun t _ => n - (RowKit.intOf t).toNat)
  case atStart => exact ⟨0, by omega, rfl, F1.out⟩
  case round =>
    clear F1
    obtain ⟨i, hi, rfl, hF⟩ := hrel
    have F2 : Hid (Fil w wr g mb (dlL z i)) := hF
    clear hF
    by_cases hin : i < n
    · have h100 : i < 100 := by omega
      obtain ⟨gs, o, rfl, c0⟩ := (HI.out.go F2.out.bel).at hin
      have hm : bits .and .i64 (z i) 4611686018427387903 = (dlN (z i) : Int) := by rw [i64_and62]; unfold dlN; omega
      have CA : Hid (Calls Tryz.prog 11 #[.pointer (some ⟨g, 0, none⟩), .int .i64 (dlN (z i) : Int), .int .i64 1] wr fun e w' => e = .returned (.int .i64 0) ∧ Gau w' g mb (dlL z i ++ [dlN (z i)]) ((dlL z i).length + 1) ∧ Fb (fun k => k = g ∨ k = mb) wr w') := gadd_yes g mb (dlN (z i)) 1 (dlL z i) (dlL z i).length wr F2.out.ga (by have := dlN_le (z i); omega) (by omega) (by omega) (by rw [dlL_len]; omega)
      go_wp2_with fail
      with_reducible refine Calls.mono CA.out ?_
      rintro e w2 ⟨rfl, hG, hf⟩
      have F3 : Hid (Fil w w2 g mb (dlL z (i + 1))) := by
        rw [dlL_succ]
        refine ⟨?_, F2.out.lo, Below.trans F2.out.bel (hf.below (lb := w.heap.size) F2.out.bel.size (fun k e => by rcases e with rfl | rfl; exact F2.out.lo.1; exact F2.out.lo.2))⟩
        rw [List.length_append, List.length_singleton]
        exact hG
      clear hG hf CA c0 hm
      go_wp2_with fail
      go_roundw
      case rel => exact ⟨i + 1, by omega, by go_num, F3.out⟩
      case measure => simp [RowKit.intOf]; omega
    obtain rfl : i = n := by omega
    go_wp2_with fail
    go_ret
    exact ⟨g, mb, rfl, F2.out⟩
end Go.Proofs.YtfkkomppfghagaaGreatDoor
namespace Go.Proofs
open Go.Shelf
def Tryz.keysG_ren : Go.Shelf.Ren := ⟨fun | 7 => 79 | 10 => 103 | n => n, fun | 23 => 73 | 26 => 3 | 3 => 3 | 28 => 137 | 0 => 0 | 27 => 136 | 33 => 160 | 4 => 4 | n => n, fun | n => n⟩
theorem Tryz.keysG : Go.Proofs.SlLaysZI.n7 Tryz.prog Tryz.keysG_ren := {
  mixed := by kernel_rfl
  f7 := ⟨Tryz.f79.name, by decide, Tryz.func79.trans (congrArg some (by kernel_rfl))⟩
  f10 := ⟨Tryz.f103.name, by decide, Tryz.func103.trans (congrArg some (by kernel_rfl))⟩
  t0 := Tryz.underlying0
  a0 := Tryz.isAgg0
  z0 := Tryz.sizeOf0
  v0 := Tryz.zeroValue0
  t4 := Tryz.underlying4
  a4 := Tryz.isAgg4
  z4 := Tryz.sizeOf4
  v4 := Tryz.zeroValue4
  t23 := Tryz.underlying73
  a23 := Tryz.isAgg73
  z23 := Tryz.sizeOf73
  v23 := Tryz.zeroValue73
  t26 := Tryz.underlying3
  a26 := Tryz.isAgg3
  z26 := Tryz.sizeOf3
  v26 := Tryz.zeroValue3
  t27 := Tryz.underlying136
  a27 := Tryz.isAgg136
  z27 := Tryz.sizeOf136
  v27 := Tryz.zeroValue136
  t28 := Tryz.underlying137
  a28 := Tryz.isAgg137
  z28 := Tryz.sizeOf137
  v28 := Tryz.zeroValue137
  t33 := Tryz.underlying160
  a33 := Tryz.isAgg160
  z33 := Tryz.sizeOf160
  v33 := Tryz.zeroValue160 }
def Tryz.sortedG_ren : Go.Shelf.Ren := ⟨fun | 6 => 78 | 8 => 101 | 9 => 102 | 11 => 128 | 13 => 54 | 12 => 129 | 23 => 86 | 24 => 87 | 14 => 140 | 15 => 141 | 16 => 142 | 17 => 143 | 18 => 144 | 19 => 145 | 20 => 146 | 21 => 147 | 22 => 148 | 25 => 153 | 26 => 154 | 27 => 155 | 28 => 156 | 29 => 157 | 30 => 158 | 31 => 160 | n => n, fun | 26 => 3 | 28 => 137 | 24 => 34 | 0 => 0 | 3 => 3 | 37 => 109 | 48 => 147 | 50 => 82 | 4 => 4 | 40 => 196 | 39 => 195 | 45 => 60 | 5 => 5 | 9 => 9 | 51 => 205 | 55 => 209 | 57 => 211 | 58 => 212 | 33 => 160 | n => n, fun | n => n⟩
theorem Tryz.sortedG : Go.Proofs.SlLaysZI.n6 Tryz.prog Tryz.sortedG_ren := {
  mixed := by kernel_rfl
  f6 := ⟨Tryz.f78.name, by decide, Tryz.func78.trans (congrArg some (by kernel_rfl))⟩
  f8 := ⟨Tryz.f101.name, by decide, Tryz.func101.trans (congrArg some (by kernel_rfl))⟩
  f11 := ⟨Tryz.f128.name, by decide, Tryz.func128.trans (congrArg some (by kernel_rfl))⟩
  t0 := Tryz.underlying0
  a0 := Tryz.isAgg0
  z0 := Tryz.sizeOf0
  v0 := Tryz.zeroValue0
  t24 := Tryz.underlying34
  a24 := Tryz.isAgg34
  z24 := Tryz.sizeOf34
  v24 := Tryz.zeroValue34
  t26 := Tryz.underlying3
  a26 := Tryz.isAgg3
  z26 := Tryz.sizeOf3
  v26 := Tryz.zeroValue3
  t28 := Tryz.underlying137
  a28 := Tryz.isAgg137
  z28 := Tryz.sizeOf137
  v28 := Tryz.zeroValue137
  i26 := by kernel_rfl }
def Tryz.sortG_ren : Go.Shelf.Ren := ⟨fun | 5 => 102 | 8 => 54 | 7 => 129 | 19 => 86 | 20 => 87 | 10 => 140 | 11 => 141 | 12 => 142 | 13 => 143 | 14 => 144 | 15 => 145 | 16 => 146 | 17 => 147 | 18 => 148 | 30 => 153 | 31 => 154 | 32 => 155 | 33 => 156 | 34 => 157 | 35 => 158 | 40 => 160 | n => n, fun | 23 => 34 | 25 => 3 | 3 => 3 | 32 => 109 | 22 => 34 | 0 => 0 | 44 => 147 | 46 => 82 | 4 => 4 | 36 => 196 | 35 => 195 | 41 => 60 | 5 => 5 | 9 => 9 | 53 => 205 | 57 => 209 | 63 => 211 | 64 => 212 | n => n, fun | n => n⟩
theorem Tryz.sortG : Go.Proofs.SlLaysM.n5 Tryz.prog Tryz.sortG_ren := {
  mixed := by kernel_rfl
  f5 := ⟨Tryz.f102.name, by decide, Tryz.func102.trans (congrArg some (by kernel_rfl))⟩
  f7 := ⟨Tryz.f129.name, by decide, Tryz.func129.trans (congrArg some (by kernel_rfl))⟩
  f8 := Tryz.func54.trans (congrArg some (by kernel_rfl))
  f10 := ⟨Tryz.f140.name, by decide, Tryz.func140.trans (congrArg some (by kernel_rfl))⟩
  f11 := ⟨Tryz.f141.name, by decide, Tryz.func141.trans (congrArg some (by kernel_rfl))⟩
  f12 := ⟨Tryz.f142.name, by decide, Tryz.func142.trans (congrArg some (by kernel_rfl))⟩
  f13 := ⟨Tryz.f143.name, by decide, Tryz.func143.trans (congrArg some (by kernel_rfl))⟩
  f14 := ⟨Tryz.f144.name, by decide, Tryz.func144.trans (congrArg some (by kernel_rfl))⟩
  f15 := ⟨Tryz.f145.name, by decide, Tryz.func145.trans (congrArg some (by kernel_rfl))⟩
  f16 := ⟨Tryz.f146.name, by decide, Tryz.func146.trans (congrArg some (by kernel_rfl))⟩
  f17 := ⟨Tryz.f147.name, by decide, Tryz.func147.trans (congrArg some (by kernel_rfl))⟩
  f18 := ⟨Tryz.f148.name, by decide, Tryz.func148.trans (congrArg some (by kernel_rfl))⟩
  f19 := Tryz.func86.trans (congrArg some (by kernel_rfl))
  f20 := Tryz.func87.trans (congrArg some (by kernel_rfl))
  f30 := ⟨Tryz.f153.name, by decide, Tryz.func153.trans (congrArg some (by kernel_rfl))⟩
  f31 := Tryz.func154.trans (congrArg some (by kernel_rfl))
  f32 := Tryz.func155.trans (congrArg some (by kernel_rfl))
  f33 := ⟨Tryz.f156.name, by decide, Tryz.func156.trans (congrArg some (by kernel_rfl))⟩
  f34 := ⟨Tryz.f157.name, by decide, Tryz.func157.trans (congrArg some (by kernel_rfl))⟩
  f35 := ⟨Tryz.f158.name, by decide, Tryz.func158.trans (congrArg some (by kernel_rfl))⟩
  f40 := ⟨Tryz.f160.name, by decide, Tryz.func160.trans (congrArg some (by kernel_rfl))⟩
  t0 := Tryz.underlying0
  a0 := Tryz.isAgg0
  z0 := Tryz.sizeOf0
  v0 := Tryz.zeroValue0
  t3 := Tryz.underlying3
  a3 := Tryz.isAgg3
  z3 := Tryz.sizeOf3
  v3 := Tryz.zeroValue3
  t4 := Tryz.underlying4
  a4 := Tryz.isAgg4
  z4 := Tryz.sizeOf4
  v4 := Tryz.zeroValue4
  t5 := Tryz.underlying5
  a5 := Tryz.isAgg5
  z5 := Tryz.sizeOf5
  v5 := Tryz.zeroValue5
  t9 := Tryz.underlying9
  a9 := Tryz.isAgg9
  z9 := Tryz.sizeOf9
  v9 := Tryz.zeroValue9
  t22 := Tryz.underlying34
  a22 := Tryz.isAgg34
  z22 := Tryz.sizeOf34
  v22 := Tryz.zeroValue34
  t23 := Tryz.underlying34
  a23 := Tryz.isAgg34
  z23 := Tryz.sizeOf34
  v23 := Tryz.zeroValue34
  t25 := Tryz.underlying3
  a25 := Tryz.isAgg3
  z25 := Tryz.sizeOf3
  v25 := Tryz.zeroValue3
  t32 := Tryz.underlying109
  a32 := Tryz.isAgg109
  z32 := Tryz.sizeOf109
  v32 := Tryz.zeroValue109
  t35 := Tryz.underlying195
  a35 := Tryz.isAgg195
  z35 := Tryz.sizeOf195
  v35 := Tryz.zeroValue195
  t36 := Tryz.underlying196
  a36 := Tryz.isAgg196
  z36 := Tryz.sizeOf196
  v36 := Tryz.zeroValue196
  t41 := Tryz.underlying60
  a41 := Tryz.isAgg60
  z41 := Tryz.sizeOf60
  v41 := Tryz.zeroValue60
  t44 := Tryz.underlying147
  a44 := Tryz.isAgg147
  z44 := Tryz.sizeOf147
  v44 := Tryz.zeroValue147
  t46 := Tryz.underlying82
  a46 := Tryz.isAgg82
  z46 := Tryz.sizeOf82
  v46 := Tryz.zeroValue82
  t53 := Tryz.underlying205
  a53 := Tryz.isAgg205
  z53 := Tryz.sizeOf205
  v53 := Tryz.zeroValue205
  t57 := Tryz.underlying209
  a57 := Tryz.isAgg209
  z57 := Tryz.sizeOf209
  v57 := Tryz.zeroValue209
  t63 := Tryz.underlying211
  a63 := Tryz.isAgg211
  z63 := Tryz.sizeOf211
  v63 := Tryz.zeroValue211
  t64 := Tryz.underlying212
  a64 := Tryz.isAgg212
  z64 := Tryz.sizeOf212
  v64 := Tryz.zeroValue212 }
end Go.Proofs
namespace Go.Proofs.YtfkkomppfghagaaGreatDoor
open Go.RowKit Go.Maps Go.Sort Go.Shelf
set_option maxRecDepth 100000
set_option linter.unusedVariables false
theorem Tryz.sortsG (m : Nat) : AnyZI.SortsIn Tryz.prog Tryz.sortedG_ren Fence.wide m :=
  ⟨fun blk off cap ss W hH hblk hsz => callsIn_wide.2 (AnyM.slices_Sort_int Tryz.sortG blk off cap ss W hH hblk hsz),
   fun p cap W => callsIn_wide.2 (AnyM.slices_Sort_int_none Tryz.sortG p cap W)⟩
theorem keysG_of {W : World} {mb n : Nat} {D : DataW Unit} {L : List Nat} (hown : W.ownsMap Tryz.prog 3 RiG mb n D) (hn : n ≤ L.length) (hm : ∀ i : Int, Maps.has D (.int .i64 i) = true ↔ 0 < cntL L i) {ss : List Int} (hp : ss.Perm (intKeys D)) : KeysG L (ss.mergeSort (fun x y => decide (x ≤ y))) ∧ (ss.mergeSort (fun x y => decide (x ≤ y))).length = ss.length := by
  have K := Maps.int_keyed Tryz.underlying3
  obtain ⟨es, hD, hpw, _⟩ := hown.entries K
  obtain ⟨es', hD', hko⟩ := hown.keysOf
  obtain rfl : es = es' := by rw [hD] at hD'; simpa using hD'
  have hsz := hown.size_le
  subst hD
  have hk : ∀ p ∈ es, ∃ x, p.1 = .int .i64 x := fun p hp => by obtain ⟨v, hv⟩ := hko p hp; obtain ⟨x, _, hx, _⟩ := Maps.keyOf_i64 Tryz.underlying3 hv; exact ⟨x, hx⟩
  have hnd : (intKeys (.map es)).Nodup := by
    show (es.map fun p => Go.intOf p.1).Nodup
    refine List.pairwise_map.2 (hpw.imp_of_mem fun {p q} hp' hq' hne e => hne ?_)
    obtain ⟨a, ha⟩ := hk p hp'
    obtain ⟨b, hb⟩ := hk q hq'
    rw [ha, hb] at e ⊢
    exact congrArg _ e
  have hmem : ∀ x, x ∈ intKeys (.map es) ↔ Maps.has (.map es) (.int .i64 x) = true := fun x => by
    rw [has_eq, List.any_eq_true]
    show x ∈ es.map (fun p => Go.intOf p.1) ↔ _
    rw [List.mem_map]
    constructor
    · rintro ⟨p, hp', rfl⟩
      obtain ⟨a, ha⟩ := hk p hp'
      exact ⟨p, hp', by rw [ha]; simp [Lit.sameKey, Go.intOf]⟩
    rintro ⟨p, hp', hs⟩
    obtain ⟨a, ha⟩ := hk p hp'
    rw [ha] at hs
    exact ⟨p, hp', by rw [ha]; simpa [Lit.sameKey, Go.intOf] using hs⟩
  have hpm := (List.mergeSort_perm ss (fun x y => decide (x ≤ y))).trans hp
  have hlen : (ss.mergeSort (fun x y => decide (x ≤ y))).length = ss.length := (List.mergeSort_perm ss _).length_eq
  refine ⟨⟨fun x => by rw [hpm.mem_iff, hmem x, hm x], ?_, ?_⟩, hlen⟩
  · have tr : ∀ a b c : Int, decide (a ≤ b) = true → decide (b ≤ c) = true → decide (a ≤ c) = true := fun a b c h1 h2 => by simp only [decide_eq_true_eq] at *; omega
    have tt : ∀ a b : Int, (decide (a ≤ b) || decide (b ≤ a)) = true := fun a b => by simp only [Bool.or_eq_true, decide_eq_true_eq]; omega
    have h1 := List.pairwise_mergeSort tr tt ss
    have h2 : (ss.mergeSort (fun x y => decide (x ≤ y))).Nodup := hpm.nodup_iff.2 hnd
    refine (h1.and h2).imp fun {a b} ⟨e1, e2⟩ => ?_
    simp only [decide_eq_true_eq] at e1
    omega
  rw [hpm.length_eq]
  have : (intKeys (.map es)).length = Maps.size (.map es) := by
    show (es.map _).length = es.length
    rw [List.length_map]
  omega
set_option maxHeartbeats 2000000 in
theorem ranked_any (g mb : Nat) (L : List Nat) (B : Nat) (w : World) (h : Gau w g mb L B) :
    Calls Tryz.prog 48 #[.pointer (some ⟨g, 0, none⟩)] w fun e w' => ∃ (v : Value) (ss : List Int), e = .returned v ∧ KeysG L ss ∧ w'.ownsRow w.heap.size 3 1 v ss.length (ss.map encZ) ∧ Below w.heap.size w w' := by
  refine (callsIn_wide (n := 6)).1 ?_
  obtain ⟨D, n, hown, hln, hat, hhas⟩ := h.mp
  obtain ⟨a0, n0, c0, hr, _⟩ := h.row
  have c3 := hr.cell (i := 3) (by omega)
  have k3 : gaF L.length B (.slice a0 n0 c0) mb 3 = .map (some mb) := rfl
  rw [k3] at c3
  have hfew := h.few
  have hbl := hown.lt
  have hsz := hown.size_le
  have hmax : Maps.size D ≤ maxLen := by simp only [maxLen]; omega
  have hbytes : Maps.size D * 8 ≤ 140737488355328 := by omega
  have hseq : SeqGives Fence.wide 2 Tryz.prog 103 #[.pointer (some ⟨w.heap.size, 0, none⟩)] encZ (fun ss => ss.Perm (intKeys D)) (Maps.size D) (w.alloc (.cells #[.map (some mb)] 73)) :=
    AnyZI.keys_gives (ρ := Tryz.keysG_ren) { Tryz.keysG with } Fence.wide _ trivial rfl (by omega) w.heap.size mb n D _ (by simp) (by simp) (by
      obtain ⟨es, clock, hb, Ft, hs, hD⟩ := hown
      exact ⟨es, clock, (Below.heap_alloc _ _ mb hbl).trans hb, Ft, hs, hD⟩)
  have cK : ∀ mb W, CallsIn Fence.wide 5 Tryz.prog 79 #[.map mb] W fun e w' => e = .returned (.func (.func 103) #[] #[.pointer (some ⟨W.heap.size, 0, none⟩)]) ∧ w' = W.alloc (.cells #[.map mb] 73) := fun mb W => AnyZI.keys_in Tryz.keysG Fence.wide 5 trivial rfl mb W
  have cS := AnyZI.sorted_in Tryz.sortedG Fence.wide 5 trivial trivial trivial trivial rfl (by omega) (Tryz.sortsG _) (enters_of Tryz.func102 (by kernel_rfl) rfl) 103 #[.pointer (some ⟨w.heap.size, 0, none⟩)] trivial (enters_of Tryz.func103 (by kernel_rfl) rfl) _ _ hmax hbytes _ hseq
  change CallsIn _ _ Tryz.prog 78 _ _ _ at cS
  have hfK : Fence.wide.fn 79 := trivial
  have hfS : Fence.wide.fn 78 := trivial
  have KO : Hid (w.ownsMap Tryz.prog 3 RiG mb n D ∧ n ≤ L.length ∧ (∀ i : Int, Maps.has D (.int .i64 i) = true ↔ 0 < cntL L i)) := ⟨hown, hln, hhas⟩
  clear hr hown h k3 hat hhas hln
  refine callsIn_of_wp Tryz.func48 rfl trivial ?_ rfl
  simp only [Tryz.ntmps48, List.size_toArray, List.length_cons, List.length_nil, Nat.reduceAdd, Nat.reduceSub, Array.replicate_succ, Array.replicate_zero, List.push_toArray, List.append_toArray, List.nil_append, List.cons_append]
  gi_wp2_with (first
    | (gi_at_call 79; refine (cK _ _).mono ?_; rintro e w' ⟨rfl, rfl⟩)
    | (gi_at_call 78; refine cS.mono ?_; rintro e w' ⟨v, ss, rfl, hS, hrow, hnil, hb⟩))
  go_ret
  obtain ⟨hk, hlen⟩ := keysG_of KO.out.1 KO.out.2.1 KO.out.2.2 hS
  exact ⟨v, _, rfl, hk, by rw [hlen]; exact ownsRow_base_a hrow (by simp), ((Below.refl _ w).alloc (Nat.le_refl _) _).trans (hb.mono (by simp))⟩
end Go.Proofs.YtfkkomppfghagaaGreatDoor
namespace Go.Proofs.YtfkkomppfghagaaGreatDoor
open Go.RowKit
set_option maxRecDepth 100000
set_option linter.unusedVariables false
def qfG (c : Int → Nat) : List Int → Int → Int × Bool
  | [], _ => (0, false)
  | d :: r, pl => if pl - (c d : Int) ≤ 0 then (d, true) else qfG c r (pl - (c d : Int))
theorem qfG_cons (c : Int → Nat) (d : Int) (r : List Int) (pl : Int) : qfG c (d :: r) pl = if pl - (c d : Int) ≤ 0 then (d, true) else qfG c r (pl - (c d : Int)) := rfl
def plG (n : Nat) (p q : Int) : Int := max 1 (((n : Int) * p + q - 1) / q)
theorem plG_pos (n : Nat) (p q : Int) : 1 ≤ plG n p q := Int.le_max_left _ _
theorem rowI_sl {base : Nat} {W : World} {v : Value} {ss : List Int} (h : W.ownsRow base 3 1 v ss.length (ss.map encZ)) : ∃ a cap, v = .slice a ss.length cap ∧ ss.length ≤ cap ∧ cap ≤ 9223372036854775807 ∧ (0 < ss.length → ∃ g, a = some ⟨g, 0, none⟩ ∧ ∀ i, (hi : i < ss.length) → W.cell? ⟨g, i, none⟩ = some (.int .i64 (ss[i]))) := by
  rcases h.2 with ⟨e, e0⟩ | ⟨g, cap, cur, e, hb', hg, h1, h2, h3, h4⟩
  · refine ⟨none, 0, by rw [e]; congr 1; omega, by omega, by omega, fun h => by omega⟩
  refine ⟨_, cap, e, h1, by simp only [maxLen] at h2; omega, fun _ => ⟨g, rfl, fun i hi => ?_⟩⟩
  have q4 := congrArg (fun l => l[i]?) h4
  simp only [Nat.mul_one] at q4
  rw [List.getElem?_take_of_lt hi, Array.getElem?_toList] at q4
  simp only [World.cell?, hg]
  simp [q4, hi, encZ]
set_option maxHeartbeats 4000000 in
theorem quantile_any (g mb : Nat) (L : List Nat) (B : Nat) (v : Value) (ss : List Int) (base : Nat) (p q : Int) (w : World) (h : Gau w g mb L B) (hk : KeysG L ss) (hv : w.ownsRow base 3 1 v ss.length (ss.map encZ)) (hp : 0 ≤ p) (hpq : p ≤ 2147483648) (hq : 1 ≤ q) (hq2 : q ≤ 2147483648) :
    Calls Tryz.prog 47 #[.pointer (some ⟨g, 0, none⟩), v, .int .i64 p, .int .i64 q] w fun e w' => e = .returned (.tuple #[.int .i64 (qfG (cntL L) ss (plG L.length p q)).1, .bool (qfG (cntL L) ss (plG L.length p q)).2]) ∧ w' = w := by
  obtain ⟨a, cap, rfl, hc1, hc2, hcel⟩ := rowI_sl hv
  obtain ⟨a0, n0, c0, hr, _⟩ := h.row
  have c3 := hr.cell (i := 3) (by omega)
  have k3 : gaF L.length B (.slice a0 n0 c0) mb 3 = .map (some mb) := rfl
  rw [k3] at c3
  have e0 := hr.cell (i := 0) (by omega)
  have k0 : gaF L.length B (.slice a0 n0 c0) mb 0 = .int .i64 (L.length : Int) := rfl
  rw [k0] at e0
  have hfew := h.few
  have hlen := hk.len
  have HB : Hid (∀ x ∈ ss, -9223372036854775808 ≤ x ∧ x ≤ 9223372036854775807) := fun x hx => by
    obtain ⟨d, hd, e⟩ := cntL_pos.1 ((hk.mem x).1 hx)
    have := h.del d hd
    omega
  have LK : Hid (McG w mb L) := h.mp
  have CE : Hid (0 < ss.length → ∃ g, a = some ⟨g, 0, none⟩ ∧ ∀ i, (hi : i < ss.length) → w.cell? ⟨g, i, none⟩ = some (.int .i64 (ss[i]))) := hcel
  have hmul : (L.length : Int) * p ≤ 1000 * 2147483648 := Int.mul_le_mul (by omega) hpq hp (by omega)
  have hmul0 : 0 ≤ (L.length : Int) * p := Int.mul_nonneg (by omega) hp
  obtain ⟨m, hm⟩ : ∃ m, m = (L.length : Int) * p := ⟨_, rfl⟩
  rw [← hm] at hmul hmul0
  have hq0 : ¬ q = 0 := by omega
  have P0 : Hid (1 ≤ plG L.length p q ∧ plG L.length p q ≤ 3000000000000) := by
    refine ⟨plG_pos _ _ _, ?_⟩
    unfold plG
    rw [← hm]
    have h1 : (m + q - 1) / q ≤ m + q - 1 := Int.ediv_le_self _ (by omega)
    omega
  clear hv h hr hk hcel k3 k0
  go_enter Tryz.func47, Tryz.ntmps47
  go_upto_region 2 with fail
  rw [show max 1 (((L.length : Int) * p + q - 1) / q) = plG L.length p q from rfl]
  obtain ⟨P, hP⟩ : ∃ P, P = plG L.length p q := ⟨_, rfl⟩
  rw [← hP] at P0 ⊢
  have HP : Hid (P = plG L.length p q) := hP
  clear hm hmul hmul0 hP e0
  go_wp2_with fail
  go_loopw [28, 10] (fun t pv wr => ∃ (i : Nat) (pl : Int), i ≤ ss.length ∧ t = .int .i64 (i : Int) ∧ pv = .int .i64 pl ∧ 1 ≤ pl ∧ pl ≤ 3000000000000 ∧ qfG (cntL L) (ss.drop i) pl = qfG (cntL L) ss P ∧ wr = w) (fun t _ _ => ss.length - (intOf t).toNat)
  case atStart => exact ⟨0, P, by omega, rfl, rfl, P0.out.1, P0.out.2, rfl, rfl⟩
  case round =>
    obtain ⟨i, pl, hi, rfl, rfl, hl1, hl2, he, rfl⟩ := hrel
    by_cases hin : i < ss.length
    · obtain ⟨gr, rfl, hcel⟩ := CE.out (by omega)
      have z := hcel i hin
      obtain ⟨d, hd⟩ : ∃ d, d = ss[i] := ⟨_, rfl⟩
      have hb := HB.out d (by rw [hd]; exact List.getElem_mem hin)
      have hdr : ss.drop i = d :: ss.drop (i + 1) := by rw [hd]; exact List.drop_eq_getElem_cons hin
      rw [hdr] at he
      rw [← hd] at z
      have lk := LK.out.look Tryz.underlying73 (by rfl) (i := d) hb.1 hb.2
      have hcl : cntL L d ≤ 1000 := Nat.le_trans (cntL_le L _) hfew
      have HE : Hid (qfG (cntL L) (d :: ss.drop (i + 1)) pl = qfG (cntL L) ss P) := he
      clear he hdr hd hcel
      by_cases hle : pl - (cntL L d : Int) ≤ 0
      · go_wp2_with fail
        have e := HE.out
        rw [qfG_cons, if_pos hle] at e
        exact bodyPost_ret (v := .tuple #[.int .i64 d, .bool true]) (by simp [results, Tryz.results47, go_sem]) rfl ⟨by rw [← HP.out, ← e], rfl⟩
      go_wp2_with fail
      go_roundw
      case rel =>
        have e := HE.out
        rw [qfG_cons, if_neg hle] at e
        exact ⟨i + 1, _, by omega, by go_num, rfl, by omega, by omega, e, by trivial⟩
      case measure => simp [intOf]; omega
    obtain rfl : i = ss.length := by omega
    rw [List.drop_length] at he
    have HE : Hid _ := he
    clear he
    go_wp2_with fail
    exact bodyPost_ret (v := .tuple #[.int .i64 0, .bool false]) (by simp [results, Tryz.results47, go_sem]) rfl ⟨by rw [← HP.out, ← HE.out]; rfl, rfl⟩
end Go.Proofs.YtfkkomppfghagaaGreatDoor
namespace Go.Proofs.YtfkkomppfghagaaGreatDoor
open Go.RowKit
set_option maxRecDepth 100000
set_option linter.unusedVariables false
structure SY (w0 w : World) (N M : List (Value × Nat)) (F G : List (Value × Nat × Nat)) (C : List (Nat × Nat × Value)) (Z : List Nat) : Prop where
  sx : SX w0 w N M F G C
  fzs : ∀ b ∈ Z, (∀ i, w.frozen? ⟨b, i, none⟩ = false) ∧ w0.heap.size ≤ b ∧ b < w.heap.size
def Sto1 (R : Nat) (w : World) (v : Value) (w' : World) : Prop := ∃ u, v = .agg #[u] ∧ w' = w.setCell ⟨R, 0, none⟩ u
section
variable {w0 w : World} {N M : List (Value × Nat)} {F G : List (Value × Nat × Nat)} {C : List (Nat × Nat × Value)} {Z : List Nat}
theorem sy_start (w : World) : SY w w [] [] [] [] [] [] := ⟨sx_start w, fun _ h => by cases h⟩
theorem SY.bel (h : SY w0 w N M F G C Z) : Below w0.heap.size w0 w := h.sx.bel
theorem SY.go (h : SY w0 w N M F G C Z) {w' : World} (hb : Below w.heap.size w w') : SY w0 w' N M F G C Z :=
  ⟨h.sx.go hb, fun b hz => ⟨fun i => (hb.frozen (p := ⟨b, i, none⟩) (h.fzs b hz).2.2).trans ((h.fzs b hz).1 i), (h.fzs b hz).2.1, Nat.lt_of_lt_of_le (h.fzs b hz).2.2 hb.size⟩⟩
theorem SY.at (h : SY w0 w N M F G C Z) (v : Value) (x : Nat) (hm : (v, x) ∈ N := by simp) : IsNat w v x := h.sx.nats _ hm
theorem SY.rat (h : SY w0 w N M F G C Z) (v : Value) (x : Nat) (hm : (v, x) ∈ M := by simp) : RNat w v x := h.sx.rnats _ hm
theorem SY.fr (h : SY w0 w N M F G C Z) (v : Value) (p q : Nat) (hm : (v, p, q) ∈ F := by simp) : Rt w v p q := h.sx.frs _ hm
theorem SY.cel (h : SY w0 w N M F G C Z) (b i : Nat) (u : Value) (hm : (b, i, u) ∈ C := by simp) : w.cell? ⟨b, i, none⟩ = some u := h.sx.cells _ hm
theorem SY.cell (h : SY w0 w N M F G C Z) (b : Nat) (u : Value) (hm : (b, 0, u) ∈ C := by simp) : w.cell? ⟨b, 0, none⟩ = some u := h.sx.cells _ hm
theorem SY.fz (h : SY w0 w N M F G C Z) (b i : Nat) (hm : b ∈ Z := by simp) : w.frozen? ⟨b, i, none⟩ = false := (h.fzs b hm).1 i
theorem SY.lo (h : SY w0 w N M F G C Z) (b : Nat) (hm : b ∈ Z := by simp) : w0.heap.size ≤ b := (h.fzs b hm).2.1
theorem SY.lt (h : SY w0 w N M F G C Z) (b : Nat) (hm : b ∈ Z := by simp) : b < w.heap.size := (h.fzs b hm).2.2
theorem SY.addN (h : SY w0 w N M F G C Z) {v : Value} {x : Nat} (hv : IsNat w v x) : SY w0 w ((v, x) :: N) M F G C Z := ⟨h.sx.addN hv, h.fzs⟩
theorem SY.addF (h : SY w0 w N M F G C Z) {v : Value} {x y : Nat} (hv : Rt w v x y) : SY w0 w N M ((v, x, y) :: F) G C Z := ⟨h.sx.addF hv, h.fzs⟩
theorem SY.addC (h : SY w0 w N M F G C Z) {b i : Nat} {v : Value} (hv : w.cell? ⟨b, i, none⟩ = some v) : SY w0 w N M F G ((b, i, v) :: C) Z := ⟨h.sx.addC hv, h.fzs⟩
theorem SY.addZ (h : SY w0 w N M F G C Z) {b : Nat} (hv : ∀ i, w.frozen? ⟨b, i, none⟩ = false) (h1 : w0.heap.size ≤ b) (h2 : b < w.heap.size) : SY w0 w N M F G C (b :: Z) :=
  ⟨h.sx, fun x hx => by
    rcases List.mem_cons.1 hx with e | e
    · subst e; exact ⟨hv, h1, h2⟩
    exact h.fzs x e⟩
theorem SY.box1 (h : SY w0 w N M F G C Z) (u : Value) (t : TypeId) (g : Nat) (hg : g = w.heap.size) : SY w0 (w.alloc (.cells #[u] t)) N M F G ((g, 0, u) :: C) (g :: Z) := by
  subst hg
  have k := h.go (w' := w.alloc (.cells #[u] t)) (bel_al (Below.refl _ _))
  exact SY.addZ ⟨h.sx.box1 u t _ rfl, k.fzs⟩ (fun i => by simp [go_sem]) h.bel.size (by simp)
theorem SY.box (h : SY w0 w N M F G C Z) (u u' : Value) (t : TypeId) (g : Nat) (hg : g = w.heap.size) : SY w0 (w.alloc (.cells #[u, u'] t)) N M F G ((g, 0, u) :: (g, 1, u') :: C) (g :: Z) := by
  subst hg
  have k := h.go (w' := w.alloc (.cells #[u, u'] t)) (bel_al (Below.refl _ _))
  exact SY.addZ ⟨h.sx.box u u' t _ rfl, k.fzs⟩ (fun i => by simp [go_sem]) h.bel.size (by simp)
theorem SY.set (h : SY w0 w N M F G C Z) {b i : Nat} {a : Option Addr} {n c : Nat} (hc : w.cell? ⟨b, i, none⟩ = some (.slice a n c)) (hlo : w0.heap.size ≤ b) (C' : List (Nat × Nat × Value)) (hC : ∀ p ∈ C', p ∈ C ∧ p.1 ≠ b) (u : Value) : SY w0 (w.setCell ⟨b, i, none⟩ u) N M F G C' Z :=
  ⟨h.sx.set hc hlo C' hC u, fun x hx => ⟨fun j => by rw [World.frozen?_setCell]; exact (h.fzs x hx).1 j, (h.fzs x hx).2.1, by simpa [go_sem] using (h.fzs x hx).2.2⟩⟩
theorem SY.ret1 (h : SY w0 w N M F G C Z) {r : Nat} {v : Value} {x : Nat} (hc : w.cell? ⟨r, 0, none⟩ = some (.slice none 0 0)) (hz : r ∈ Z) (hv : IsNat w v x) (u : Value) : IsNat (w.setCell ⟨r, 0, none⟩ u) v x ∧ Below w0.heap.size w0 (w.setCell ⟨r, 0, none⟩ u) :=
  ⟨hv.setCell (no_int_slice hc) u, h.bel.setCell (p := ⟨r, 0, none⟩) (h.lo r hz) u⟩
end
end Go.Proofs.YtfkkomppfghagaaGreatDoor
