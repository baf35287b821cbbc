/- Contracts of the program's functions, part 4: own work, joined in build order. -/
import Derived.Test.YtmghkkaoblkmpaaJ3
namespace Go.Proofs.Ytmghkkaoblkmpaa
open Go.RowKit
set_option maxRecDepth 100000
set_option linter.unusedVariables false
theorem Try.infoI : (Try.prog.info? 3).map (fun i => (i.zero, i.size, i.bytes)) = some (some (.int .i64 0), 1, 8) := by kernel_rfl
theorem makeI_at (L C : Int) (n m : Nat) (hL : L = n) (hC : C = m) (hnm : n ≤ m) (hm : m ≤ 1099511627776) (w : World) :
    (Instr.makeSlice 27 (.int .i64 L) (.int .i64 C)).run Try.prog w = .ok (.slice (some ⟨w.heap.size, 0, none⟩) n m) (w.alloc (.cells (madeCells #[(.int .i64 0)] m) 3)) := by
  obtain ⟨i, hi, hz, hs, hb⟩ := info_parts Try.infoI
  subst hL hC
  rw [run_make w 27 3 i (.int .i64 0) Try.underlying27 hi hz .i64 .i64 n m (by omega) (by omega) (by rw [hb]; omega) (by omega), hs]
  simp [Value.cells]
theorem cutI (p : Option Addr) (len cap l n : Nat) (h2 : l + n ≤ cap) : ∃ q : Option Addr, (∀ b, p = some ⟨b, 0, none⟩ → l < cap → q = some ⟨b, l, none⟩) ∧
    ∀ (L H : Int) (w : World), L = l → H = (l : Int) + n → (Instr.slice 27 (.slice p len cap) (some (.int .i64 L)) (some (.int .i64 H)) none).run Try.prog w = .ok (.slice q n (cap - l)) w := by
  refine ⟨if cap = l then p else p.map (·.add l), fun b e h3 => ?_, fun L H w eL eH => ?_⟩
  · subst e
    rw [if_neg (by omega)]
    simp only [Option.map_some, Option.some.injEq]
    unfold Addr.add
    split <;> simp_all
  · subst eL eH
    rw [run_slice_lh (P := Try.prog) (kl := .i64) (kh := .i64) (l := (l : Int)) (h := (l : Int) + n) (ht := by kernel_rfl) (h0 := by omega) (h1 := by omega) (h2 := by omega)]
    have hz : (sizeOf (Try.prog.elem 27)).run Try.prog w = .ok 1 w := by kernel_rfl
    rw [hz]
    rw [show ((l : Int) + (n : Int)).toNat = l + n by omega]
    simp only [Result.andThen, sliced, Int.toNat_natCast, Nat.mul_one, Nat.add_sub_cancel_left]
theorem fromI (p : Option Addr) (len cap l : Nat) (h1 : l ≤ len) : ∃ q : Option Addr, (∀ b, p = some ⟨b, 0, none⟩ → l < cap → q = some ⟨b, l, none⟩) ∧
    ∀ (L : Int) (w : World), L = l → (Instr.slice 27 (.slice p len cap) (some (.int .i64 L)) none none).run Try.prog w = .ok (.slice q (len - l) (cap - l)) w := by
  refine ⟨if cap = l then p else p.map (·.add l), fun b e h3 => ?_, fun L w eL => ?_⟩
  · subst e
    rw [if_neg (by omega)]
    simp only [Option.map_some, Option.some.injEq]
    unfold Addr.add
    split <;> simp_all
  · subst eL
    rw [run_slice_l (P := Try.prog) (kl := .i64) (l := (l : Int)) (ht := by kernel_rfl) (h0 := by omega) (h1 := by omega)]
    have hz : (sizeOf (Try.prog.elem 27)).run Try.prog w = .ok 1 w := by kernel_rfl
    rw [hz]
    simp only [Result.andThen, sliced, Int.toNat_natCast, Nat.mul_one]
theorem uptoI (p : Option Addr) (len cap h : Nat) (h2 : h ≤ cap) : ∃ q : Option Addr, (∀ b, p = some ⟨b, 0, none⟩ → 0 < cap → q = some ⟨b, 0, none⟩) ∧
    ∀ (H : Int) (w : World), H = h → (Instr.slice 27 (.slice p len cap) none (some (.int .i64 H)) none).run Try.prog w = .ok (.slice q h cap) w := by
  refine ⟨if cap = 0 then p else p.map (·.add 0), fun b e h3 => ?_, fun H w eH => ?_⟩
  · subst e
    rw [if_neg (by omega)]
    simp only [Option.map_some, Option.some.injEq]
    unfold Addr.add
    split <;> simp_all
  · subst eH
    rw [run_slice_h (P := Try.prog) (kh := .i64) (h := (h : Int)) (ht := by kernel_rfl) (h0 := by omega) (h2 := by omega)]
    have hz : (sizeOf (Try.prog.elem 27)).run Try.prog w = .ok 1 w := by kernel_rfl
    rw [hz]
    simp only [Result.andThen, sliced, Int.toNat_natCast, Nat.zero_mul, Nat.sub_zero]
theorem sizeI : (Try.prog.info? 3).map (·.size) = some 1 := by kernel_rfl
set_option maxHeartbeats 2000000 in
theorem rowI_any (r g N f c m : Nat) (xs : List Int) (w : World) (h : RI w r g N f c xs) (hc : xs.length = c) (hm : c ≤ m) (hm2 : m ≤ 1099511627776) :
    Calls Try.prog 37 #[.pointer (some ⟨r, 0, none⟩), .int .i64 (m : Int)] w fun e w' => e = .returned (.slice (some ⟨w.heap.size, 0, none⟩) m m) ∧ w'.rowIs w.heap.size 3 m (fun j => Value.int .i64 (xs.getD j (0 : Int))) ∧ Below w.heap.size w w' := by
  obtain ⟨p, ep⟩ : ∃ p, p = pt g N := ⟨_, rfl⟩
  have c0 : w.cell? ⟨r, 0, none⟩ = some (.slice p N N) := by rw [ep]; exact h.hd.cell (i := 0) (by omega)
  have c1 := h.c1
  have c2 := h.c2
  have hf := h.fl'
  have hl := h.lim
  have hcN := h.cl
  obtain ⟨fr, hfr⟩ : ∃ fr, fr = min c (N - f) := ⟨_, rfl⟩
  have hfr1 : fr ≤ c := by omega
  have hfr2 : f + fr ≤ N := by omega
  have hfr3 : fr < c → N = f + fr := by omega
  have mn : (if (N : Int) - (f : Int) < (c : Int) then (N : Int) - (f : Int) else (c : Int)) = (fr : Int) := by split <;> omega
  have wr1 : IntKind.i64.wrap ((f : Int) + (fr : Int)) = (f : Int) + (fr : Int) := by rw [IntKind.wrap_i64]; omega
  have wr2 : IntKind.i64.wrap ((c : Int) - (fr : Int)) = (c : Int) - (fr : Int) := by rw [IntKind.wrap_i64]; omega
  obtain ⟨q1, hq1, s1⟩ := cutI p N N f fr hfr2
  obtain ⟨q2, hq2, s2⟩ := fromI (some ⟨w.heap.size, 0, none⟩) m m fr (by omega)
  obtain ⟨q3, hq3, s3⟩ := uptoI p N N (c - fr) (by omega)
  have S1 := fun w' => s1 (f : Int) ((f : Int) + (fr : Int)) w' rfl rfl
  have S2 := fun w' => s2 (fr : Int) w' rfl
  have S3 := fun w' => s3 ((c : Int) - (fr : Int)) w' (by omega)
  have mk := makeI_at (m : Int) (m : Int) m m rfl rfl (Nat.le_refl _) hm2
  have C1 : 0 < fr → q1 = some ⟨g, f, none⟩ ∧ ∀ j, j < fr → w.cell? ((⟨g, f, none⟩ : Addr).add j) = some (Value.int .i64 (xs.getD j (0 : Int))) := fun h0 => by
    have hN : 0 < N := by omega
    refine ⟨hq1 g (by rw [ep, pt_pos hN]) (by omega), fun j hj => ?_⟩
    have := h.at (i := j) (by omega)
    rw [Nat.mod_eq_of_lt (by omega)] at this
    rw [addr_add]
    exact this
  have C2 : 0 < c - fr → q3 = some ⟨g, 0, none⟩ ∧ ∀ j, j < c - fr → w.cell? ((⟨g, 0, none⟩ : Addr).add j) = some (Value.int .i64 (xs.getD (fr + j) (0 : Int))) := fun h0 => by
    have hN : 0 < N := by omega
    have hf := h.fl hN
    have hN2 : N = f + fr := hfr3 (by omega)
    refine ⟨hq3 g (by rw [ep, pt_pos hN]) hN, fun j hj => ?_⟩
    have := h.at (i := fr + j) (by omega)
    rw [show f + (fr + j) = j + N by omega, Nat.add_mod_right, Nat.mod_eq_of_lt (show j < N by omega)] at this
    rw [addr_add, Nat.zero_add]
    exact this
  have D2 : 0 < c - fr → q2 = some ⟨w.heap.size, fr, none⟩ := fun h0 => hq2 _ rfl (by omega)
  have B0 : Below w.heap.size w (w.alloc (.cells (madeCells #[(.int .i64 0)] m) 3)) := (Below.refl _ _).alloc (Nat.le_refl _) _
  have R0 := World.rowIs_made w (.int .i64 0) m 3
  have e0 : (w.alloc (.cells (madeCells #[(.int .i64 0)] m) 3)).cell? ⟨r, 0, none⟩ = some (.slice p N N) := cell_later B0 c0
  have e1 := cell_later B0 c1
  have e2 := cell_later B0 c2
  have hrl := h.rlt
  have HH : Hid (RI w r g N f c xs ∧ xs.length = c) := ⟨h, hc⟩
  have K1 : Hid _ := C1
  have K2 : Hid _ := C2
  have K3 : Hid _ := D2
  have K4 : Hid (Below w.heap.size w (w.alloc (.cells (madeCells #[(.int .i64 0)] m) 3))) := B0
  have K5 : Hid ((w.alloc (.cells (madeCells #[(.int .i64 0)] m) 3)).rowIs w.heap.size 3 m (fun _ => (.int .i64 0))) := R0
  clear h hc ep hfr hfr3 hq1 hq2 hq3 s1 s2 s3 C1 C2 D2 B0 R0
  go_enter Try.func37, Try.ntmps37
  go_wp2_with fail
  go_quiet (fail)
  go_wp2_with fail
  go_region_held3 (fun w' => w'.cell? ⟨r, 0, none⟩ = some (.slice p N N) ∧ w'.cell? ⟨r, 1, none⟩ = some (.int .i64 (f : Int)) ∧ w'.cell? ⟨r, 2, none⟩ = some (.int .i64 (c : Int))) (first | (simp [go_sem, *]; done) | (trace_state; fail))
    (first
      | (refine step_copy rfl (.tmp 24) (.tmp 39) 27 27 rfl 3 Try.underlying27 sizeI _ _ _ _ _ _ rfl rfl w.heap.size 0 m (fun _ => (.int .i64 0)) (fun j => Value.int .i64 (xs.getD j (0 : Int))) 3 K5.out (by omega) (fun h0 => ⟨rfl, _, (K1.out h0).1, fun j hj => cell_later (bel_drew (bel_drewN K4.out _)) ((K1.out h0).2 j hj)⟩) (by omega) (fun _ => rfl) w.heap.size w (bel_drew (bel_drewN K4.out _)) (Nat.le_refl _) ?_; intro w4 H4; have x0 := cell_later H4.out.2 c0; have x1 := cell_later H4.out.2 c1; have x2 := cell_later H4.out.2 c2))
  clear e0 e1 e2 S1
  go_wp2_with fail
  go_region_held3 (fun w' => w'.cell? ⟨r, 0, none⟩ = some (.slice p N N) ∧ w'.cell? ⟨r, 1, none⟩ = some (.int .i64 (f : Int)) ∧ w'.cell? ⟨r, 2, none⟩ = some (.int .i64 (c : Int))) (first | (simp [go_sem, *]; done) | (trace_state; fail))
    (first
      | (refine step_copy rfl (.tmp 43) (.tmp 54) 27 27 rfl 3 Try.underlying27 sizeI _ _ _ _ _ _ rfl rfl w.heap.size fr m (laid (fun _ => (.int .i64 0)) 0 (fun j => Value.int .i64 (xs.getD j (0 : Int))) fr) (fun j => Value.int .i64 (xs.getD (fr + j) (0 : Int))) 3 H4.out.1 (by omega) (fun h0 => ⟨K3.out h0, _, (K2.out h0).1, fun j hj => cell_later (bel_drew H4.out.2) ((K2.out h0).2 j hj)⟩) (by omega) (fun _ => rfl) w.heap.size w (bel_drew H4.out.2) (Nat.le_refl _) ?_; intro w5 H5; have y0 := cell_later H5.out.2 c0; have y1 := cell_later H5.out.2 c1; have y2 := cell_later H5.out.2 c2))
  go_wp2_with fail
  go_ret
  refine ⟨rfl, H5.out.1.congr fun j hj => ?_, H5.out.2⟩
  have hlen := HH.out.2
  unfold laid
  by_cases h1 : j < fr
  · rw [if_neg (by omega), if_pos (by omega), Nat.sub_zero]
  · by_cases h2 : j < c
    · rw [if_pos (by omega)]
      show Value.int .i64 (xs.getD (fr + (j - fr)) (0 : Int)) = _
      rw [show fr + (j - fr) = j by omega]
    · rw [if_neg (by omega), if_neg (by omega)]
      simp [show xs.length ≤ j by omega]
end Go.Proofs.Ytmghkkaoblkmpaa
