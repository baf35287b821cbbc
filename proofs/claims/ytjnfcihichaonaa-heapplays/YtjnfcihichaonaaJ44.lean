/- Contracts of the program's functions, part 44: own work, joined in build order. -/
import Derived.Test.YtjnfcihichaonaaJ43
import Derived.Deep.CutRange
namespace Go.Proofs.Ytjnfcihichaonaa
open Go.RowKit
set_option maxRecDepth 100000
set_option linter.unusedVariables false
theorem mask1 (x : Int) : bits .and .i64 x 1 = 0 ∨ bits .and .i64 x 1 = 1 := by
  have h := i64_mask x 1 (by omega) 1 (by rfl)
  have e : ((2 ^ 1 : Nat) : Int) = 2 := rfl
  rw [e] at h
  omega
theorem cell_back {W0 W W' : World} {p : Addr} (h : Below W0.heap.size W0 W) (h' : Below W0.heap.size W0 W') (hp : p.block < W0.heap.size) : W'.cell? p = W.cell? p := (h'.cell hp).trans (h.cell hp).symm
set_option maxHeartbeats 8000000 in
theorem hplays_any (W0 : World) (mod : Int) (tur : Bool) (a : Option Addr) (L0 cp : Nat) (F : Nat → Nat → Int) (hs : OSl W0 a L0 cp F) (hm1 : -9223372036854775808 ≤ mod) (hm2 : mod ≤ 9223372036854775807) :
    Calls Try.prog 3 #[.int .i64 mod, .bool tur, .slice a L0 cp] W0 fun e w' => e = .returned (.bool true) ∧ Below W0.heap.size W0 w' := by
  have HS : Hid (OSl W0 a L0 cp F) := hs
  have hl1 := hs.le
  have hl2 := hs.lim
  obtain ⟨m2, em2, r1, r2⟩ : ∃ m2, IntKind.i64.wrap (mod + 1) = m2 ∧ -9223372036854775808 ≤ m2 ∧ m2 ≤ 9223372036854775807 := ⟨_, rfl, by rw [IntKind.wrap_i64]; omega, by rw [IntKind.wrap_i64]; omega⟩
  have MD : Hid _ := made_hp mod tur 0 W0 hm1 hm2 (by omega) (by omega)
  have ME : Hid (∀ W, Calls Try.prog 9 #[.int .i64 m2, .bool (!tur), .int .i64 0] W fun e w' => ∃ hb ob md, e = .returned (.agg #[.pointer (some ⟨hb, 0, none⟩), .pointer (some ⟨ob, 0, none⟩)]) ∧ Hp W.heap.size w' hb ob (.slice none 0 0) 0 md (!tur) 0 0 0 0 (fun _ => none) ∧ (0 ≤ md ∧ md ≤ 12) ∧ Below W.heap.size W w') := fun W => made_hp m2 (!tur) 0 W r1 r2 (by omega) (by omega)
  have NN : Hid (∀ W, Calls Try.prog 10 #[.nilFunc] W fun e w' => e = .returned (.pointer none) ∧ w' = W) := fun W => newNil W
  have ST : Hid (∀ W, Calls Try.prog 12 #[] W fun e w' => e = .returned (.bool true) ∧ Below W.heap.size W w') := fun W => started_any W
  clear hs r1 r2
  go_enter Try.func3, Try.ntmps3
  go_wp2_with fail
  refine Calls.mono MD.out ?_
  rintro e w1 ⟨h0, o0, md0, rfl, hp0, _, B1⟩
  have H0 : Hid (Hp W0.heap.size w1 h0 o0 (.slice none 0 0) 0 md0 tur 0 0 0 0 (fun _ => none) ∧ Below W0.heap.size W0 w1) := ⟨hp0, B1⟩
  clear hp0 B1 MD
  go_wp2_with fail
  refine Calls.mono (ME.out w1) ?_
  rintro e w2 ⟨h1, o1, md1, rfl, hp1, _, B2⟩
  obtain ⟨W3, hW3⟩ : ∃ W3, W3 = w2.alloc (.cells #[.pointer (some ⟨h0, 0, none⟩), .pointer (some ⟨o0, 0, none⟩), .pointer (some ⟨h1, 0, none⟩), .pointer (some ⟨o1, 0, none⟩)] 26) := ⟨_, rfl⟩
  obtain ⟨lb, elb⟩ : ∃ lb, lb = w2.heap.size := ⟨_, rfl⟩
  have B3 : Below w2.heap.size w2 W3 := by rw [hW3]; exact (Below.refl _ _).alloc (Nat.le_refl _) _
  have R3 : W3.rowIs lb 26 4 (prF h0 o0 h1 o1) := by
    rw [hW3, elb]
    refine World.rowIs_alloc w2 #[.pointer (some ⟨h0, 0, none⟩), .pointer (some ⟨o0, 0, none⟩), .pointer (some ⟨h1, 0, none⟩), .pointer (some ⟨o1, 0, none⟩)] _ _ fun i hi => ?_
    have hi' : i < 4 := hi
    match i, hi' with
    | 0, _ => rfl
    | 1, _ => rfl
    | 2, _ => rfl
    | 3, _ => rfl
  have M0 : Hid (Two W0 W3 lb h0 o0 h1 o1 md0 md1 tur (!tur) 0) := by
    have sy : Syn (fun _ => none) [] 0 := ⟨rfl, fun i k v => ⟨fun e => (by cases e), fun e => (by cases e)⟩, fun p q hp => (by simp at hp)⟩
    have hob : ∀ {base W hb ob lv nx md tur lies N n pu T}, Hp base W hb ob lv nx md tur lies N n pu T → base ≤ ob := fun h => by
      obtain ⟨_, _, _, _, _, _, _, _, h9, _⟩ := h.ex
      exact h9.ge.2.1
    have A2 := H0.out.1.keep B2
    have b0 := H0.out.2.size
    have A : Lz W0 w2 h0 o0 md0 tur 0 0 0 0 (fun _ => none) 0 (.slice none 0 0) [] := ⟨A2, Tr.nil _ _, H0.out.2.trans (B2.mono b0), hob H0.out.1⟩
    have C : Lz W0 w2 h1 o1 md1 (!tur) 0 0 0 0 (fun _ => none) 0 (.slice none 0 0) [] := ⟨hp1.weakB b0, Tr.nil _ _, H0.out.2.trans (B2.mono b0), Nat.le_trans b0 (hob hp1)⟩
    have dis : ∀ k, Bk w2 h0 o0 k → ¬ Bk w2 h1 o1 k := fun k hk hk2 => by
      have e1 := (H0.out.1.bk_keep (fun k o e _ _ => B2.block k (Array.getElem?_eq_some_iff.1 e).1) k).1 hk
      have e2 := (H0.out.1.bk_lt e1).2
      have e3 := (hp1.bk_lt hk2).1
      omega
    obtain ⟨q1, q2⟩ := C.beside (Fr.of_below B3 A.hp) dis
    exact ⟨R3, ⟨0, 0, 0, _, _, [], A.mono B3, sy, by omega, by omega⟩, ⟨0, 0, 0, _, _, [], q1, sy, by omega, by omega⟩, q2⟩
  have HW3 : Hid (w2.alloc (.cells #[.pointer (some ⟨h0, 0, none⟩), .pointer (some ⟨o0, 0, none⟩), .pointer (some ⟨h1, 0, none⟩), .pointer (some ⟨o1, 0, none⟩)] 26) = W3 ∧ w2.heap.size = lb) := ⟨hW3.symm, elb.symm⟩
  have z0 : W3.cell? ⟨lb, 0, none⟩ = some (.pointer (some ⟨h0, 0, none⟩)) := R3.cell (i := 0) (by omega)
  have z2 : W3.cell? ⟨lb, 2, none⟩ = some (.pointer (some ⟨h1, 0, none⟩)) := R3.cell (i := 2) (by omega)
  clear hp1 B2 H0 hW3 elb B3 R3 ME em2
  go_upto_region 2 with fail
  rw [HW3.out.1, HW3.out.2]
  go_wp2_with fail
  refine Calls.mono (NN.out W3) ?_
  rintro e w4 ⟨rfl, rfl⟩
  go_wp2_with fail
  go_loopw [8] (fun t wr => ∃ (i : Nat), i ≤ L0 ∧ i ≤ 400 ∧ t = .int .i64 (i : Int) ∧ Hid (Two W0 wr lb h0 o0 h1 o1 md0 md1 tur (!tur) i)) (fun t _ => L0 + 400 - (intOf t).toNat)
  case atStart => exact ⟨0, by omega, by omega, rfl, M0⟩
  case round =>
    clear M0 HW3 z0 z2 NN
    obtain ⟨i, hi1, hi2, rfl, hS⟩ := hrel
    by_cases hi : i < L0 ∧ i < 400
    · obtain ⟨hi3, hi4⟩ := hi
      obtain ⟨b, o, rfl, k0, k1, k2, k3, k4⟩ := HS.out.at hS.out.bel hi3
      have lb0 : b < W0.heap.size := by
        obtain ⟨b', o', e', hc', _⟩ := HS.out.at (Below.refl _ _) hi3
        cases e'
        exact World.block_lt_of_cell? _ _ hc'
      obtain ⟨oj, eoj⟩ : ∃ x, x = F i 0 := ⟨_, rfl⟩
      rw [← eoj] at k0
      obtain ⟨kd, ekd⟩ : ∃ x, x = F i 1 := ⟨_, rfl⟩
      rw [← ekd] at k1
      obtain ⟨K, eK⟩ : ∃ x, x = F i 2 := ⟨_, rfl⟩
      rw [← eK] at k2
      obtain ⟨V, eV⟩ : ∃ x, x = F i 3 := ⟨_, rfl⟩
      rw [← eV] at k3
      obtain ⟨It, eIt⟩ : ∃ x, x = F i 4 := ⟨_, rfl⟩
      rw [← eIt] at k4
      have rK := HS.out.wf i 2 hi3 (by omega)
      have rI := HS.out.wf i 4 hi3 (by omega)
      rw [← eK] at rK
      rw [← eIt] at rI
      clear eoj ekd eK eV eIt
      have w5 : IntKind.i64.wrap ((i : Int) + 1) = (i : Int) + 1 := by rw [IntKind.wrap_i64]; omega
      have z0 : wr.cell? ⟨lb, 0, none⟩ = some (.pointer (some ⟨h0, 0, none⟩)) := hS.out.row.cell (i := 0) (by omega)
      have z1 : wr.cell? ⟨lb, 1, none⟩ = some (.pointer (some ⟨o0, 0, none⟩)) := hS.out.row.cell (i := 1) (by omega)
      have z2 : wr.cell? ⟨lb, 2, none⟩ = some (.pointer (some ⟨h1, 0, none⟩)) := hS.out.row.cell (i := 2) (by omega)
      have z3 : wr.cell? ⟨lb, 3, none⟩ = some (.pointer (some ⟨o1, 0, none⟩)) := hS.out.row.cell (i := 3) (by omega)
      have hd1 : decide ((i : Int) < (L0 : Int)) = true := decide_eq_true (by omega)
      have hd2 : decide ((i : Int) < 400) = true := decide_eq_true (by omega)
      have hi5 : (i : Int) < (L0 : Int) := by omega
      have PL0 : Hid (∀ W', (W' = wr ∨ W' = wr.drew) → Calls Try.prog 11 #[.agg #[.pointer (some ⟨h0, 0, none⟩), .pointer (some ⟨o0, 0, none⟩)], .agg #[.int .i64 oj, .int .i64 kd, .int .i64 K, .int .i64 V, .int .i64 It]] W' fun e w' => e = .returned (.bool true) ∧ Hid (Two W0 w' lb h0 o0 h1 o1 md0 md1 tur (!tur) (i + 1)) ∧ w'.cell? ⟨lb, 0, none⟩ = some (.pointer (some ⟨h0, 0, none⟩)) ∧ w'.cell? ⟨lb, 1, none⟩ = some (.pointer (some ⟨o0, 0, none⟩)) ∧ w'.cell? ⟨lb, 2, none⟩ = some (.pointer (some ⟨h1, 0, none⟩)) ∧ w'.cell? ⟨lb, 3, none⟩ = some (.pointer (some ⟨o1, 0, none⟩)) ∧ w'.cell? ⟨b, o + i * 5, none⟩ = some (.int .i64 oj) ∧ w'.cell? ⟨b, o + i * 5 + 1, none⟩ = some (.int .i64 kd) ∧ w'.cell? ⟨b, o + i * 5 + 2, none⟩ = some (.int .i64 K) ∧ w'.cell? ⟨b, o + i * 5 + 3, none⟩ = some (.int .i64 V) ∧ w'.cell? ⟨b, o + i * 5 + 4, none⟩ = some (.int .i64 It)) := fun W' hW' => by
        have B9 : Below wr.heap.size wr W' := by rcases hW' with rfl | rfl; exact Below.refl _ _; exact bel_drew (Below.refl _ _)
        refine ((hS.out.mono B9).play0 oj kd K V It (by omega) rK rI).mono ?_
        rintro e w' ⟨rfl, h9⟩
        obtain ⟨b', o', e', q0, q1, q2, q3, q4⟩ := HS.out.at h9.bel hi3
        cases e'
        refine ⟨rfl, h9, h9.row.cell (i := 0) (by omega), h9.row.cell (i := 1) (by omega), h9.row.cell (i := 2) (by omega), h9.row.cell (i := 3) (by omega), ?_, ?_, ?_, ?_, ?_⟩
        · exact (cell_back hS.out.bel h9.bel lb0).trans k0
        · exact (cell_back hS.out.bel h9.bel lb0).trans k1
        · exact (cell_back hS.out.bel h9.bel lb0).trans k2
        · exact (cell_back hS.out.bel h9.bel lb0).trans k3
        · exact (cell_back hS.out.bel h9.bel lb0).trans k4
      have PL1 : Hid (∀ W', (W' = wr ∨ W' = wr.drew) → Calls Try.prog 11 #[.agg #[.pointer (some ⟨h1, 0, none⟩), .pointer (some ⟨o1, 0, none⟩)], .agg #[.int .i64 oj, .int .i64 kd, .int .i64 K, .int .i64 V, .int .i64 It]] W' fun e w' => e = .returned (.bool true) ∧ Hid (Two W0 w' lb h0 o0 h1 o1 md0 md1 tur (!tur) (i + 1)) ∧ w'.cell? ⟨lb, 0, none⟩ = some (.pointer (some ⟨h0, 0, none⟩)) ∧ w'.cell? ⟨lb, 1, none⟩ = some (.pointer (some ⟨o0, 0, none⟩)) ∧ w'.cell? ⟨lb, 2, none⟩ = some (.pointer (some ⟨h1, 0, none⟩)) ∧ w'.cell? ⟨lb, 3, none⟩ = some (.pointer (some ⟨o1, 0, none⟩)) ∧ w'.cell? ⟨b, o + i * 5, none⟩ = some (.int .i64 oj) ∧ w'.cell? ⟨b, o + i * 5 + 1, none⟩ = some (.int .i64 kd) ∧ w'.cell? ⟨b, o + i * 5 + 2, none⟩ = some (.int .i64 K) ∧ w'.cell? ⟨b, o + i * 5 + 3, none⟩ = some (.int .i64 V) ∧ w'.cell? ⟨b, o + i * 5 + 4, none⟩ = some (.int .i64 It)) := fun W' hW' => by
        have B9 : Below wr.heap.size wr W' := by rcases hW' with rfl | rfl; exact Below.refl _ _; exact bel_drew (Below.refl _ _)
        refine ((hS.out.mono B9).play1 oj kd K V It (by omega) rK rI).mono ?_
        rintro e w' ⟨rfl, h9⟩
        obtain ⟨b', o', e', q0, q1, q2, q3, q4⟩ := HS.out.at h9.bel hi3
        cases e'
        refine ⟨rfl, h9, h9.row.cell (i := 0) (by omega), h9.row.cell (i := 1) (by omega), h9.row.cell (i := 2) (by omega), h9.row.cell (i := 3) (by omega), ?_, ?_, ?_, ?_, ?_⟩
        · exact (cell_back hS.out.bel h9.bel lb0).trans k0
        · exact (cell_back hS.out.bel h9.bel lb0).trans k1
        · exact (cell_back hS.out.bel h9.bel lb0).trans k2
        · exact (cell_back hS.out.bel h9.bel lb0).trans k3
        · exact (cell_back hS.out.bel h9.bel lb0).trans k4
      clear hS lb0
      rcases mask1 oj with hm | hm
      · clear PL1
        go_wp2_with fail
        rename_i hz
        go_region_held3 (fun w9 => w9.cell? ⟨lb, 0, none⟩ = some (.pointer (some ⟨h0, 0, none⟩)) ∧ w9.cell? ⟨lb, 1, none⟩ = some (.pointer (some ⟨o0, 0, none⟩)) ∧ w9.cell? ⟨lb, 2, none⟩ = some (.pointer (some ⟨h1, 0, none⟩)) ∧ w9.cell? ⟨lb, 3, none⟩ = some (.pointer (some ⟨o1, 0, none⟩)) ∧ w9.cell? ⟨b, o + i * 5, none⟩ = some (.int .i64 oj) ∧ w9.cell? ⟨b, o + i * 5 + 1, none⟩ = some (.int .i64 kd) ∧ w9.cell? ⟨b, o + i * 5 + 2, none⟩ = some (.int .i64 K) ∧ w9.cell? ⟨b, o + i * 5 + 3, none⟩ = some (.int .i64 V) ∧ w9.cell? ⟨b, o + i * 5 + 4, none⟩ = some (.int .i64 It)) (first | (simp [go_sem, *]; done) | (trace_state; fail))
          (first
            | (go_at_call 11; refine Calls.mono (PL0.out _ ?hb) ?_; (case hb => first | exact .inl rfl | exact .inr rfl); rintro e W5 ⟨rfl, HM, v0, v1, v2, v3, v4, v5, v6, v7, v8⟩))
        refine hz _ _ ?_
        clear PL0 z0 z1 z2 z3 k0 k1 k2 k3 k4 v0 v1 v2 v3 v4 v5 v6 v7 v8
        go_wp2_with fail
        go_roundw
        case rel => exact ⟨i + 1, by omega, by omega, by go_num, HM⟩
        case measure => simp [intOf]; omega
      · clear PL0
        go_wp2_with fail
        rename_i hz
        go_region_held3 (fun w9 => w9.cell? ⟨lb, 0, none⟩ = some (.pointer (some ⟨h0, 0, none⟩)) ∧ w9.cell? ⟨lb, 1, none⟩ = some (.pointer (some ⟨o0, 0, none⟩)) ∧ w9.cell? ⟨lb, 2, none⟩ = some (.pointer (some ⟨h1, 0, none⟩)) ∧ w9.cell? ⟨lb, 3, none⟩ = some (.pointer (some ⟨o1, 0, none⟩)) ∧ w9.cell? ⟨b, o + i * 5, none⟩ = some (.int .i64 oj) ∧ w9.cell? ⟨b, o + i * 5 + 1, none⟩ = some (.int .i64 kd) ∧ w9.cell? ⟨b, o + i * 5 + 2, none⟩ = some (.int .i64 K) ∧ w9.cell? ⟨b, o + i * 5 + 3, none⟩ = some (.int .i64 V) ∧ w9.cell? ⟨b, o + i * 5 + 4, none⟩ = some (.int .i64 It)) (first | (simp [go_sem, *]; done) | (trace_state; fail))
          (first
            | (go_at_call 11; refine Calls.mono (PL1.out _ ?hb) ?_; (case hb => first | exact .inl rfl | exact .inr rfl); rintro e W5 ⟨rfl, HM, v0, v1, v2, v3, v4, v5, v6, v7, v8⟩))
        refine hz _ _ ?_
        clear PL1 z0 z1 z2 z3 k0 k1 k2 k3 k4 v0 v1 v2 v3 v4 v5 v6 v7 v8
        go_wp2_with fail
        go_roundw
        case rel => exact ⟨i + 1, by omega, by omega, by go_num, HM⟩
        case measure => simp [intOf]; omega
    · have HB : Hid (Below W0.heap.size W0 wr) := hS.out.bel
      clear hS
      by_cases h1' : i < L0
      · have hd1 : decide ((i : Int) < (L0 : Int)) = true := decide_eq_true (by omega)
        have hd2 : decide ((i : Int) < 400) = false := decide_eq_false (by omega)
        go_wp2_with (first | (go_at_call 12; refine Calls.mono (ST.out _) ?_; rintro e w9 ⟨rfl, hB9⟩))
        go_ret
        exact ⟨rfl, HB.out.trans (hB9.mono HB.out.size)⟩
      · have hd1 : decide ((i : Int) < (L0 : Int)) = false := decide_eq_false (by omega)
        go_wp2_with (first | (go_at_call 12; refine Calls.mono (ST.out _) ?_; rintro e w9 ⟨rfl, hB9⟩))
        go_ret
        exact ⟨rfl, HB.out.trans (hB9.mono HB.out.size)⟩
end Go.Proofs.Ytjnfcihichaonaa
