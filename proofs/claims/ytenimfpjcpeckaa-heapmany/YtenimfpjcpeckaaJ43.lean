/- Contracts of the program's functions, part 43: own work, joined in build order. -/
import Derived.Test.YtenimfpjcpeckaaJ42
namespace Go.Proofs.Ytenimfpjcpeckaa
open Go.RowKit Go.Sort
set_option maxRecDepth 100000
set_option linter.unusedVariables false
theorem bel_grow (W : World) (n : Nat) (os : Array Obj) : Below W.heap.size W (grow (W.drewN n) os) :=
  ⟨rfl, rfl, rfl, by simp [grow], fun k hk => by
    show (W.heap ++ os)[k]? = W.heap[k]?
    rw [Array.getElem?_append_left hk]⟩
set_option maxHeartbeats 4000000 in
theorem many_any (n step mod : Int) (w : World) (h1 : -9223372036854775808 ≤ mod) (h2 : mod ≤ 9223372036854775807) :
    Calls Try.prog 8 #[.int .i64 n, .int .i64 step, .int .i64 mod] w fun e w' => e = .returned (.bool true) ∧ Below w.heap.size w w' := by
  obtain ⟨K, eK, hK⟩ : ∃ K : Nat, bits .and .i64 n 2047 = (K : Int) ∧ K ≤ 2047 := by
    have h := i64_mask n 11 (by omega) 2047 (by rfl)
    have e : ((2 ^ 11 : Nat) : Int) = 2048 := rfl
    rw [e] at h
    exact ⟨(n % 2048).toNat, by rw [h]; omega, by omega⟩
  obtain ⟨s, es, hs⟩ : ∃ s : Nat, bits .and .i64 step 1023 = (s : Int) ∧ s ≤ 1023 := by
    have h := i64_mask step 10 (by omega) 1023 (by rfl)
    have e : ((2 ^ 10 : Nat) : Int) = 1024 := rfl
    rw [e] at h
    exact ⟨(step % 1024).toNat, by rw [h]; omega, by omega⟩
  have MD : Hid (Calls Try.prog 9 #[.int .i64 mod, .bool false, .int .i64 0] w (Made w false 0)) := made_any mod false 0 w h1 h2 (by omega) (by omega)
  have ST : Hid (∀ W, Calls Try.prog 12 #[] W fun e w' => e = .returned (.bool true) ∧ Below W.heap.size W w') := fun W => started_any W
  go_enter Try.func8, Try.ntmps8
  go_wp2_with fail
  refine Calls.mono MD.out ?_
  rintro e w1 ⟨hb, ob, mb, md, rfl, S1, O1, B1⟩
  obtain ⟨W2, hW2⟩ : ∃ W2, W2 = w1.alloc (.cells #[.pointer (some ⟨hb, 0, none⟩), .pointer (some ⟨ob, 0, none⟩)] 26) := ⟨_, rfl⟩
  obtain ⟨xb, exb⟩ : ∃ xb, xb = w1.heap.size := ⟨_, rfl⟩
  have M0 : Hid (Mn w W2 xb hb ob md 0 ((0 : Nat) : Int) (fun _ _ _ => True)) := by
    have kept : ∀ k, k < w1.heap.size → W2.heap[k]? = w1.heap[k]? := fun k hk => by rw [hW2]; exact Below.heap_alloc _ _ k hk
    refine ⟨by rw [hW2, exb]; exact (MapKept.heap_alloc _ _).1, by rw [exb]; exact B1.size, ⟨none, 0, mb, 0, fun _ => 0, fun _ => 0, fun _ => 0, fun _ => 0, 0, S1.keep fun k o e _ _ => kept k (Array.getElem?_eq_some_iff.1 e).1, O1.kept (kept _ O1.lt), fun a b ha => by omega, by omega, trivial⟩, by rw [hW2]; exact B1.alloc B1.size _⟩
  have MDm : Hid (0 ≤ md ∧ md ≤ 12) := ⟨O1.mod0, O1.mod1⟩
  have HW2 : Hid (w1.alloc (.cells #[.pointer (some ⟨hb, 0, none⟩), .pointer (some ⟨ob, 0, none⟩)] 26) = W2 ∧ w1.heap.size = xb) := ⟨hW2.symm, exb.symm⟩
  clear S1 O1 B1 MD hW2 exb
  go_wp2_with fail
  rw [HW2.out.1, HW2.out.2]
  go_loopw [8] (fun t wr => ∃ (i : Nat), i ≤ K ∧ t = .int .i64 (i : Int) ∧ Hid (Mn w wr xb hb ob md i ((i : Nat) : Int) (fun _ _ _ => True))) (fun t _ => K - (intOf t).toNat)
  case atStart => exact ⟨0, by omega, rfl, M0⟩
  case round =>
    clear M0
    obtain ⟨i, hiK, rfl, hS⟩ := hrel
    by_cases hin : i < K
    · obtain ⟨c0, c1, ⟨N0, c5⟩, z5⟩ := hS.out.cells
      obtain ⟨P, eP⟩ : ∃ P, P = i * s := ⟨_, rfl⟩
      have hP : P ≤ 2094081 := by rw [eP]; exact Nat.mul_le_mul (by omega : i ≤ 2047) hs
      have hmul : (i : Int) * (s : Int) = (P : Int) := by rw [eP]; simp
      have w1 : IntKind.i64.wrap (P : Int) = (P : Int) := by rw [IntKind.wrap_i64]; omega
      obtain ⟨k, ek⟩ : ∃ k, k = P % 1009 := ⟨_, rfl⟩
      have w2 : (P : Int).tmod 1009 = (k : Int) := by rw [ek, Int.tmod_eq_emod_of_nonneg (by omega)]; omega
      have w3 : IntKind.i64.wrap (k : Int) = (k : Int) := by rw [IntKind.wrap_i64]; omega
      have w4 : (P : Int) % 1009 = (k : Int) := by omega
      have w5 : IntKind.i64.wrap ((i : Int) + 1) = (i : Int) + 1 := by rw [IntKind.wrap_i64]; omega
      have PU : Hid (Calls Try.prog 13 #[.pointer (some ⟨hb, 0, none⟩), .int .i64 (k : Int), .int .i64 (i : Int)] (wr.setCell ⟨ob, 5, none⟩ (.int .i64 0)) fun e w' => (∃ v, e = .returned (.int .i64 v)) ∧ Mn w w' xb hb ob md (i + 1) ((i + 1 : Nat) : Int) (fun _ _ _ => True) ∧ ∃ M : Nat, w'.cell? ⟨ob, 5, none⟩ = some (.int .i64 (M : Int)) ∧ ∀ d, i < 2 ^ d → M ≤ 12 * d + 12) := hS.out.push (k : Int) (by omega) (by omega) (by omega)
      have AK : Hid (∀ W, Calls Try.prog 26 #[.int .i64 (i : Int)] W fun e w' => (∃ d : Nat, e = .returned (.int .i64 ((12 * d + 12 : Nat) : Int)) ∧ i < 2 ^ d ∧ d ≤ 20) ∧ w' = W) := fun W => asked_any i (by omega) W
      clear eP ek hS
      go_wp2_with fail
      refine Calls.mono PU.out ?_
      rintro e W2 ⟨⟨v, rfl⟩, hM, M, y5, hfew⟩
      obtain ⟨y0, y1, _, _⟩ := hM.cells
      have HM : Hid (Mn w W2 xb hb ob md (i + 1) ((i + 1 : Nat) : Int) (fun _ _ _ => True)) := hM
      have HF : Hid (∀ d, i < 2 ^ d → M ≤ 12 * d + 12) := hfew
      clear hM hfew PU c0 c1 c5 z5
      go_wp2_with fail
      rename_i hz
      go_region_held3 (fun w9 => w9.cell? ⟨xb, 1, none⟩ = some (.pointer (some ⟨ob, 0, none⟩)) ∧ w9.cell? ⟨ob, 5, none⟩ = some (.int .i64 (M : Int))) (first | (simp [go_sem, *]; done) | (trace_state; fail))
        (first
          | (go_at_call 26; refine Calls.mono (AK.out _) ?_; rintro e w8 ⟨⟨d, rfl, hd, hd20⟩, rfl⟩; have hle : ¬ ((12 * d + 12 : Nat) : Int) < (M : Int) := (by have := HF.out d hd; omega); have hle2 : ((12 * d + 12 : Nat) : Int) = 12 * (d : Int) + 12 := (by omega); rw [hle2] at hle))
      refine hz _ _ ?_
      have MX : Hid (Mn w W2.drew xb hb ob md (i + 1) ((i + 1 : Nat) : Int) (fun _ _ _ => True)) := HM.out.mono (bel_drew (Below.refl _ _))
      clear HM HF AK y0 y1 y5
      go_wp2_with fail
      go_roundw
      case rel => exact ⟨i + 1, by omega, by go_num, MX⟩
      case measure => simp [intOf]; omega
    · obtain rfl : K = i := by omega
      have M1 : Hid (Mn w wr xb hb ob md K ((K : Nat) : Int) (fun f it ke => 0 < 0 → Rst md K 0 0 f it ke)) := hS.out.weak (fun _ _ _ _ h => absurd h (by omega))
      clear hS hin
      go_wp2_with fail
      go_loopw [9, 10, 11] (fun tl tf t wr2 => ∃ (i m : Nat) (last frm : Int), i ≤ K ∧ m = K - i ∧ tl = .int .i64 last ∧ tf = .int .i64 frm ∧ t = .int .i64 (i : Int) ∧ -9223372036854775808 ≤ last ∧ last ≤ 9223372036854775807 ∧ Hid (Mn w wr2 xb hb ob md m (K : Int) (fun f it ke => 0 < i → Rst md m last frm f it ke))) (fun _ _ t _ => K - (intOf t).toNat)
      case atStart => exact ⟨0, K, 0, 0, by omega, by omega, rfl, rfl, rfl, by omega, by omega, M1⟩
      case round =>
        clear M1
        obtain ⟨i, m1, last, frm, hiK, em1, rfl, rfl, rfl, hl1, hl2, hS⟩ := hrel
        by_cases hin : i < K
        · obtain ⟨m, em⟩ : ∃ m, m1 = m + 1 := ⟨m1 - 1, by omega⟩
          subst em
          obtain ⟨c0, c1, ⟨N0, c5⟩, z5⟩ := hS.out.cells
          have PO : Hid _ := hS.out.pop (by omega)
          have w5 : IntKind.i64.wrap ((i : Int) + 1) = (i : Int) + 1 := by rw [IntKind.wrap_i64]; omega
          have w6 : IntKind.i64.wrap ((K : Int) - (i : Int)) = (K : Int) - (i : Int) := by rw [IntKind.wrap_i64]; omega
          clear hS
          go_wp2_with fail
          refine Calls.mono PO.out ?_
          rintro e W2 ⟨it', k', v', rfl, ⟨hk1, hk2⟩, hq, hM, M, y5, hfew⟩
          obtain ⟨y0, y1, _, _⟩ := hM.cells
          have HO : Hid (∃ N : Nat, Ordr W2 ob (.slice none 0 0) 0 md false 0 N) := by
            obtain ⟨_, _, _, _, _, _, _, _, N, _, hO, _⟩ := hM.ex
            exact ⟨N, hO⟩
          have HM : Hid (Mn w W2 xb hb ob md m (K : Int) (fun f it ke => True → Rst md m k' it' f it ke)) := hM
          have HF : Hid (∀ d, m < 2 ^ d → M ≤ 12 * d + 12) := hfew
          clear hM hfew PO c0 c1 c5 z5
          obtain ⟨A, eA⟩ : ∃ A : Int, A = ((12 * digs (m + 1) + 12 : Nat) : Int) := ⟨_, rfl⟩
          have hle : decide (A < (M : Int)) = false := decide_eq_false (by have := HF.out (digs (m + 1)) (by have := digs_lt (m + 1); omega); omega)
          have mixed : Try.prog.follows .mixedOrders = true := by kernel_rfl
          obtain ⟨N9, hO9⟩ := HO.out
          obtain ⟨o0, o1, o2, o3, _, _⟩ := hO9.cells
          have lo := hO9.lt
          have lx := World.block_lt_of_cell? _ _ y1
          have g1 : ∀ n os, (grow (W2.drewN n) os).cell? ⟨xb, 1, none⟩ = some (.pointer (some ⟨ob, 0, none⟩)) := fun n os => cell_grown lx y1 n os
          have g5 : ∀ n os, (grow (W2.drewN n) os).cell? ⟨ob, 5, none⟩ = some (.int .i64 (M : Int)) := fun n os => cell_grown lo y5 n os
          have q0 : ∀ n os, (grow (W2.drewN n) os).cell? ⟨ob, 0, none⟩ = some (.slice none 0 0) := fun n os => cell_grown lo o0 n os
          have q1 : ∀ n os, (grow (W2.drewN n) os).cell? ⟨ob, 1, none⟩ = some (.int .i64 0) := fun n os => cell_grown lo o1 n os
          have q2 : ∀ n os, (grow (W2.drewN n) os).cell? ⟨ob, 2, none⟩ = some (.int .i64 md) := fun n os => cell_grown lo o2 n os
          have q3 : ∀ n os, (grow (W2.drewN n) os).cell? ⟨ob, 3, none⟩ = some (.bool false) := fun n os => cell_grown lo o3 n os
          clear hO9 o0 o1 o2 o3 lo lx y0
          by_cases hi0 : i = 0
          · have hgt : decide ((0 : Int) < (i : Int)) = false := decide_eq_false (by omega)
            have hgt2 : decide (0 < i) = false := decide_eq_false (by omega)
            have AQ : Hid (∀ n, Calls Try.prog 26 #[.int .i64 ((K : Int) - (i : Int))] (W2.drewN n) fun e w' => e = .returned (.int .i64 A) ∧ ∃ q, w' = (W2.drewN n).drewN q) := fun n => by
              rw [show (K : Int) - (i : Int) = ((m + 1 : Nat) : Int) by omega, eA]
              exact (asked_is (m + 1) (by omega) _).mono fun e w' ⟨e1, e2⟩ => ⟨e1, 0, by rw [e2]; rfl⟩
            clear hq eA hi0 g1 g5 q0 q1 q2 q3
            go_wp2_with fail
            go_quiet (first | (go_at_call_of 26 (Value.int IntKind.i64 ((K : Int) - (i : Int))); exact Calls.quiet_of (AQ.out _)))
            have MX : Hid (Mn w (W2.drewN nq) xb hb ob md m (K : Int) (fun f it ke => 0 < i + 1 → Rst md m k' it' f it ke)) := (HM.out.weak (fun _ _ _ h _ => h trivial)).mono (bel_drewN (Below.refl _ _) _)
            clear HM HF
            go_wp2_with fail
            go_roundw
            case rel => exact ⟨i + 1, m, k', it', by omega, by omega, rfl, rfl, by go_num, hk1, hk2, MX⟩
            case measure => simp [intOf]; omega
          · clear y1 y5
            have hq' := hq (by omega)
            have hgt : decide ((0 : Int) < (i : Int)) = true := decide_eq_true (by omega)
            have hgt2 : decide (0 < i) = true := decide_eq_true (by omega)
            have AK : Hid (∀ n os, Calls Try.prog 26 #[.int .i64 ((K : Int) - (i : Int))] (grow (W2.drewN n) os) fun e w'' => e = .returned (.int .i64 A) ∧ ∃ p : GrownBy, w'' = grow (W2.drewN p.n) p.os) := fun n os => by
              rw [show (K : Int) - (i : Int) = ((m + 1 : Nat) : Int) by omega, eA]
              exact Calls.grown_of ((asked_is (m + 1) (by omega) _).mono fun e w' ⟨e1, e2⟩ => ⟨e1, 0, #[], by rw [e2, grow_empty]; rfl⟩)
            have AH : Hid (∀ x y n os, -9223372036854775808 ≤ x → x ≤ 9223372036854775807 → -9223372036854775808 ≤ y → y ≤ 9223372036854775807 → Calls Try.prog 20 #[.agg #[.slice none 0 0, .int .i64 0, .int .i64 md, .bool false], .int .i64 x, .int .i64 y] (grow (W2.drewN n) os) fun e w'' => e = .returned (.bool (decide (rk md false x < rk md false y))) ∧ ∃ p : GrownBy, w'' = grow (W2.drewN p.n) p.os) := fun x y n os a1 a2 a3 a4 => Calls.grown_of (ahead_is (.slice none 0 0) ⟨_, _, _, rfl⟩ 0 md false x y _ MDm.out.1 MDm.out.2 a1 a2 a3 a4)
            have dA : decide (rk md false k' < rk md false last) = false := decide_eq_false (by omega)
            clear hq eA
            by_cases hlt : rk md false last < rk md false k'
            · have dB : decide (rk md false last < rk md false k') = true := decide_eq_true hlt
              clear hlt hq'
              go_wp2_with fail
              go_quiet_grown (first | (go_at_call_of 26 (Value.int IntKind.i64 ((K : Int) - (i : Int))); exact AK.out _ _) | (go_at_call 20; exact AH.out _ _ _ _ (by assumption) (by assumption) (by assumption) (by assumption)))
              have MX : Hid (Mn w (grow (W2.drewN nq) osq) xb hb ob md m (K : Int) (fun f it ke => 0 < i + 1 → Rst md m k' it' f it ke)) := (HM.out.weak (fun _ _ _ h _ => h trivial)).mono (bel_grow _ _ _)
              clear HM HF
              go_wp2_with fail
              go_roundw
              case rel => exact ⟨i + 1, m, k', it', by omega, by omega, rfl, rfl, by go_num, hk1, hk2, MX⟩
              case measure => simp [intOf]; omega
            · have dB : decide (rk md false last < rk md false k') = false := decide_eq_false hlt
              have hfi : decide (it' < frm) = false := decide_eq_false (by omega)
              clear hlt hq'
              go_wp2_with fail
              go_quiet_grown (first | (go_at_call_of 26 (Value.int IntKind.i64 ((K : Int) - (i : Int))); exact AK.out _ _) | (go_at_call 20; exact AH.out _ _ _ _ (by assumption) (by assumption) (by assumption) (by assumption)))
              have MX : Hid (Mn w (grow (W2.drewN nq) osq) xb hb ob md m (K : Int) (fun f it ke => 0 < i + 1 → Rst md m k' it' f it ke)) := (HM.out.weak (fun _ _ _ h _ => h trivial)).mono (bel_grow _ _ _)
              clear HM HF
              go_wp2_with fail
              go_roundw
              case rel => exact ⟨i + 1, m, k', it', by omega, by omega, rfl, rfl, by go_num, hk1, hk2, MX⟩
              case measure => simp [intOf]; omega
        · obtain rfl : K = i := by omega
          obtain rfl : m1 = 0 := by omega
          clear em1 hin
          obtain ⟨c0, c1, _, _⟩ := hS.out.cells
          have LN : Hid (Calls Try.prog 17 #[.pointer (some ⟨hb, 0, none⟩)] wr fun e w' => e = .returned (.int .i64 0) ∧ w' = wr) := by
            obtain ⟨_, _, _, _, _, _, _, _, _, h9, _⟩ := hS.out.ex
            exact lenI_any wr h9
          have HB : Hid (Below w.heap.size w wr) := hS.out.bel
          clear hS
          go_wp2_with (first | (go_at_call 17; refine Calls.mono LN.out ?_; rintro e w8 ⟨rfl, rfl⟩) | (go_at_call 12; refine Calls.mono (ST.out _) ?_; rintro e w9 ⟨rfl, hB9⟩))
          go_ret
          exact ⟨rfl, HB.out.trans (hB9.mono HB.out.size)⟩
end Go.Proofs.Ytenimfpjcpeckaa
