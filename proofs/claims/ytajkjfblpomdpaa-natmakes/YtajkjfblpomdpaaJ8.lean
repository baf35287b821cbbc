/- Contracts of the program's functions, part 8: own work, joined in build order. -/
import Derived.Test.YtajkjfblpomdpaaJ7
namespace Go.Proofs.Ytajkjfblpomdpaa
open Go.RowKit
set_option maxRecDepth 100000
set_option linter.unusedVariables false
/-- n bytes, and the marks behind. -/
def wideM (D : Nat → Nat) (n : Nat) : Nat → Nat := fun j => if j < n then D j else five (j - n)
set_option maxHeartbeats 1000000 in
theorem wide_marks (a : Option Addr) (n cap : Nat) (D : Nat → Nat) (w : World) (h : BSl w a n cap D) (hn : n ≤ 600) (hnil : a = none → cap = 0) :
    Calls Try.prog 5 #[.slice a n cap] w fun e w' => ∃ g c, e = .returned (.slice (some ⟨g, 0, none⟩) n c) ∧ w.heap.size ≤ g ∧ ByteRow w' g c (n + 5) (wideM D n) ∧ c ≤ 9223372036854775807 ∧ Below w.heap.size w w' := by
  have HA : Hid (BSl w a n cap D) := h
  have step : ∀ (v1 : Value) (w1 : World), OR w1 5 w.heap.size v1 n (bt D) → Below w.heap.size w w1 → True := fun _ _ _ _ => trivial
  clear h step
  rcases a with _ | ad
  · obtain rfl := hnil rfl
    have hn0 : n = 0 := by
      rcases HA.out.2.2.2 with e | ⟨b, o, e, _⟩
      · exact e
      · cases e
    subst hn0
    obtain ⟨i5, hi5, hz5, hs5, hb5⟩ := info_parts Try.info5
    go_enter Try.func5, Try.ntmps5
    go_wp2_with (first
      | (refine (id ?_ : wpList Try.prog _ _ (⟨some 6, _, _, _, _, _⟩ :: _) _ _); refine wpList_append_own_none rfl (.tmp 4) (.tmp 5) 23 rfl w.heap.size 5 i5 1 Try.underlying23 hi5 (.slice none 0 0) 0 [] rfl (World.ownsRow_nil _ _ _ _) rfl ?_)
      | (refine (id ?_ : wpList Try.prog _ _ (⟨some 9, _, _, _, _, _⟩ :: _) _ _); refine hold ?_))
    intro _
    refine wpList_append_bs rfl (.tmp 7) (.tmp 8) rfl w.heap.size _ 0 D rfl (OR.nil _ _ _ _) ⟨w.heap.size, 0, none⟩ 5 5 five rfl ?_ (by omega) ?_ ?_
    · intro j hj
      match j, hj with
      | 0, _ => simp [bt, five, Addr.add]
      | 1, _ => simp [bt, five, Addr.add]
      | 2, _ => simp [bt, five, Addr.add]
      | 3, _ => simp [bt, five, Addr.add]
      | 4, _ => simp [bt, five, Addr.add]
    · simp
    intro v2 w2 hO hg
    rcases hO with ⟨_, h0⟩ | ⟨g, c, f, rfl, k1, k2, k3, k4, k5⟩
    · omega
    have I2 : Hid (w.heap.size ≤ g ∧ ByteRow w2 g c (0 + 5) (wideM D 0) ∧ c ≤ 9223372036854775807 ∧ Below w.heap.size w w2) := ⟨k1, ⟨⟨f, k4, fun i hi => k5 i (by omega)⟩, k2⟩, by simp only [maxLen] at k3; omega, ((Below.refl _ _).alloc (Nat.le_refl _) _).grown hg (by simp) (fun k hk => by cases hk)⟩
    have hsl := slice_bh g 0 (0 + 5) c 0 (by omega)
    clear hg k1 k3 k4 k5
    go_wp2_with fail
    go_ret
    exact ⟨g, c, rfl, I2.out⟩
  · obtain ⟨f5, hf5⟩ : ∃ f5 : Nat → Nat, f5 = D := ⟨_, rfl⟩
    clear hf5 f5
    have hcs : ∀ j, j < n → w.cell? (ad.add j) = some (bt D j) := by
      intro j hj
      obtain ⟨b, o, e, hw⟩ := HA.out.2.2.2.resolve_left (by omega)
      cases e
      have h3 : (⟨b, o, none⟩ : Addr).add j = ⟨b, o + j, none⟩ := by unfold Addr.add; split <;> simp_all
      rw [h3]
      exact hw j hj
    have HC : Hid _ := hcs
    clear hcs
    go_enter Try.func5, Try.ntmps5
    go_wp2_with (refine (id ?_ : wpList Try.prog _ _ (⟨some 6, _, _, _, _, _⟩ :: _) _ _); refine hold ?_)
    intro _
    refine wpList_append_bs rfl (.tmp 4) (.tmp 5) rfl w.heap.size _ 0 D rfl (OR.nil _ _ _ _) ad n cap D rfl HC.out (by omega) (Nat.le_refl _) ?_
    intro v1 w1 hO1 hg1
    have hO1' : OR w1 5 w.heap.size v1 n (bt D) := by
      have := hO1
      rw [Nat.zero_add] at this
      exact this.congr fun i hi => by show Value.int .u8 (((if i < 0 then D i else D (i - 0) : Nat)) : Int) = _; rw [if_neg (by omega)]; rfl
    have I1 : Hid (OR w1 5 w.heap.size v1 n (bt D) ∧ Below w.heap.size w w1) := ⟨hO1', (Below.refl _ _).grown hg1 (Nat.le_refl _) (fun k hk => by cases hk)⟩
    clear hO1 hO1' hg1
    go_wp2_with (refine (id ?_ : wpList Try.prog _ _ (⟨some 9, _, _, _, _, _⟩ :: _) _ _); refine hold ?_)
    intro _
    refine wpList_append_bs rfl (.tmp 7) (.tmp 8) rfl w.heap.size _ n D rfl (I1.out.1.below ((Below.refl _ _).alloc (Nat.le_refl _) _)) ⟨w1.heap.size, 0, none⟩ 5 5 five rfl ?_ (by omega) ?_ ?_
    · intro j hj
      match j, hj with
      | 0, _ => simp [bt, five, Addr.add]
      | 1, _ => simp [bt, five, Addr.add]
      | 2, _ => simp [bt, five, Addr.add]
      | 3, _ => simp [bt, five, Addr.add]
      | 4, _ => simp [bt, five, Addr.add]
    · simp
      have := I1.out.2.size
      omega
    intro v2 w2 hO hg
    rcases hO with ⟨_, h0⟩ | ⟨g, c, f, rfl, k1, k2, k3, k4, k5⟩
    · omega
    have I2 : Hid (w.heap.size ≤ g ∧ ByteRow w2 g c (n + 5) (wideM D n) ∧ c ≤ 9223372036854775807 ∧ Below w.heap.size w w2) := ⟨k1, ⟨⟨f, k4, fun i hi => k5 i (by omega)⟩, k2⟩, by simp only [maxLen] at k3; omega, (I1.out.2.alloc I1.out.2.size _).grown hg (by have := I1.out.2.size; simp; omega) (fun k hk => own_ge I1.out.1 hk)⟩
    have hsl := slice_bh g 0 (n + 5) c n (by omega)
    clear hg k1 k3 k4 k5
    go_wp2_with fail
    go_ret
    exact ⟨g, c, rfl, I2.out⟩
/-- n bytes lie in w from b's cell o on. -/
def Bys (w : World) (b o n : Nat) (D : Nat → Nat) : Prop := ∀ i, i < n → w.cell? ⟨b, o + i, none⟩ = some (.int .u8 ((D i : Nat) : Int))
theorem conv_bys {w : World} {g o n c : Nat} {D : Nat → Nat} (h : Bys w g o n D) : (convert 23 9 (.slice (some ⟨g, o, none⟩) n c)).run Try.prog w = .ok (.string (strOf D n)) w := by
  refine run_convert_bytes_arg (P := Try.prog) w 23 5 (by kernel_rfl) (by kernel_rfl) g o n c _ (by simp) (fun i hi => ?_) 9 (by kernel_rfl)
  rw [h i hi]
  simp [List.getD, hi]
theorem conv_none (p : Option Addr) (c : Nat) (D : Nat → Nat) (w : World) : (convert 23 9 (.slice p 0 c)).run Try.prog w = .ok (.string (strOf D 0)) w := by
  rw [run_convert_bytes_string w 23 9 5 p 0 c (by kernel_rfl) (by kernel_rfl) (by kernel_rfl)]
  rcases p with _ | p
  · simp [Conv.bytesToString]
    rfl
  · simp [Conv.bytesToString, loadCells]
    rfl
theorem Bys.mono {w w' : World} {g o n : Nat} {D : Nat → Nat} (h : Bys w g o n D) (hb : Below w.heap.size w w') : Bys w' g o n D := fun i hi => cell_later hb (h i hi)
def FiveIs (w : World) (v : Value) : Prop := ∃ g, v = .slice (some ⟨g, 0, none⟩) 5 5 ∧ Bys w g 0 5 five
def sFive : Spec := ⟨fun w v => FiveIs w v, ⟨fun ⟨g, e, h⟩ hb => ⟨g, e, h.mono hb⟩, fun {w v p} ⟨g, e, h⟩ hp u => ⟨g, e, fun i hi => by
  have hne : (⟨g, 0 + i, none⟩ : Addr) ≠ p := fun e => hp _ _ (e ▸ h i hi)
  exact (World.cell?_setCell_other (h := hne.symm) ..).trans (h i hi)⟩⟩⟩
theorem five_new (w : World) (t : TypeId) : Bys (w.alloc (.cells #[.int .u8 201, .int .u8 202, .int .u8 203, .int .u8 204, .int .u8 205] t)) w.heap.size 0 5 five := by
  intro i hi
  match i, hi with
  | 0, _ => simp [five]
  | 1, _ => simp [five]
  | 2, _ => simp [five]
  | 3, _ => simp [five]
  | 4, _ => simp [five]
set_option maxHeartbeats 4000000 in
theorem kept_true (g c n : Nat) (a : Option Addr) (cap : Nat) (D : Nat → Nat) (w : World) (hW : ByteRow w g c (n + 5) (wideM D n)) (hB : BSl w a n cap D) (hn : n ≤ 600) (hc : c ≤ 9223372036854775807) (hnil : a = none → cap = 0) :
    Calls Try.prog 13 #[.slice (some ⟨g, 0, none⟩) n c, .slice a n cap] w fun e w' => e = .returned (.bool true) ∧ Below w.heap.size w w' := by
  have B1 : Bys w g 0 n D := fun i hi => by
    rw [Nat.zero_add, hW.cell (show i < n + 5 by omega), wideM, if_pos hi]
  have B2 : Bys w g n 5 five := fun i hi => by
    rw [hW.cell (show n + i < n + 5 by omega), wideM, if_neg (by omega), Nat.add_sub_cancel_left]
  have hcn : n + 5 ≤ c := hW.2
  have C1 : Hid (∀ w', Below w.heap.size w w' → (convert 23 9 (.slice (some ⟨g, 0, none⟩) n c)).run Try.prog w' = .ok (.string (strOf D n)) w') := fun w' hb => conv_bys (B1.mono hb)
  have C2 : Hid (∀ w', Below w.heap.size w w' → (convert 23 9 (.slice a n cap)).run Try.prog w' = .ok (.string (strOf D n)) w') := fun w' hb => by
    rcases a with _ | ad
    · obtain rfl : n = 0 := by
        rcases hB.2.2.2 with e | ⟨b, o, e, _⟩
        · exact e
        · cases e
      obtain rfl := hnil rfl
      exact conv_none none 0 D w'
    · rcases Nat.eq_zero_or_pos n with e | e
      · subst e
        exact conv_none (some ad) cap D w'
      · obtain ⟨b, o, e1, hw⟩ := hB.2.2.2.resolve_left (by omega)
        cases e1
        exact conv_bys (Bys.mono (fun i hi => hw i hi) hb)
  have C3 : Hid (∀ w', Below w.heap.size w w' → (convert 23 9 (.slice (some ⟨g, n, none⟩) 5 (c - n))).run Try.prog w' = .ok (.string (strOf five 5)) w') := fun w' hb => conv_bys (B2.mono hb)
  have hn5 : IntKind.i64.wrap ((n : Int) + 5) = (n : Int) + 5 := by rw [IntKind.wrap_i64]; omega
  have sl1 : Hid (∀ w, (Instr.slice 23 (.slice (some ⟨g, 0, none⟩) n c) none (some (.int .i64 ((n : Int) + 5))) none).run Try.prog w = .ok (.slice (some ⟨g, 0, none⟩) (n + 5) c) w) := fun w => slice_bh g 0 n c (n + 5) (by omega) w
  have sl2 : Hid (∀ w, (Instr.slice 23 (.slice (some ⟨g, 0, none⟩) (n + 5) c) (some (.int .i64 (n : Int))) none none).run Try.prog w = .ok (.slice (some ⟨g, n, none⟩) 5 (c - n)) w) := fun w => by
    have := slice_bl g 0 (n + 5) c n (by omega) (by omega) w
    rw [Nat.zero_add, Nat.add_sub_cancel_left] at this
    exact this
  clear hW hB B1 B2
  go_enter Try.func13, Try.ntmps13
  go_wp2_with fail
  refine wp_region_inv (JB w [sEq (.slice (some ⟨g, 0, none⟩) n c), sEq (.string (strOf D n)), sEq (.slice a n cap), sEq (.string (strOf D n)), sEq (.bool true), sEq (.bool true), sEq (.slice (some ⟨g, 0, none⟩) n c), sEq (.int .i64 (n : Int)), sEq (.int .i64 ((n : Int) + 5)), sEq (.slice (some ⟨g, 0, none⟩) (n + 5) c), sEq (.int .i64 (n : Int)), sEq (.slice (some ⟨g, n, none⟩) 5 (c - n)), sEq (.string (strOf five 5)), sFive, sEq (.string (strOf five 5)), sEq (.bool true), sEq (.bool true), sEq (.bool true)] []) 25 (by kernel_rfl) rfl (by kernel_rfl) (JB.start _ _ _) (fun HG HN => ⟨?_, ?_, ?_, ?_, ?_, ?_, ?_, ?_, ?_, ?_, ?_, ?_, ?_, ?_, ?_, ?_, ?_, ?_, trivial⟩) ?_
  · intro L vs ac w' hJ hF hP hL
    have q0 : (ac.tmps[0]?).getD undef = .slice (some ⟨g, 0, none⟩) n c := hF.old 0 rfl
    exact run_val (v := .slice (some ⟨g, 0, none⟩) n c) rfl (by simp [execOp, go_sem, q0]) ⟨_, rfl, hJ.step hL rfl (Below.refl _ _) (by exact rfl)⟩
  · intro L vs ac w' hJ hF hP hL
    have p0 : L 0 = true := hP ⟨0, .data⟩ (by simp) rfl
    have s0 : vs 0 = .slice (some ⟨g, 0, none⟩) n c := hJ.sp 0 p0
    have q8 := hF.slot 0 8 rfl p0
    have cv := C1.out _ hJ.bel
    exact run_val (v := .string (strOf D n)) rfl (by simp [execOp, go_sem, q8, s0, cv]) ⟨_, rfl, hJ.step hL rfl (Below.refl _ _) (by exact rfl)⟩
  · intro L vs ac w' hJ hF hP hL
    have q1 : (ac.tmps[1]?).getD undef = .slice a n cap := hF.old 1 rfl
    exact run_val (v := .slice a n cap) rfl (by simp [execOp, go_sem, q1]) ⟨_, rfl, hJ.step hL rfl (Below.refl _ _) (by exact rfl)⟩
  · intro L vs ac w' hJ hF hP hL
    have p2 : L 2 = true := hP ⟨2, .data⟩ (by simp) rfl
    have s2 : vs 2 = .slice a n cap := hJ.sp 2 p2
    have q10 := hF.slot 2 10 rfl p2
    have cv := C2.out _ hJ.bel
    exact run_val (v := .string (strOf D n)) rfl (by simp [execOp, go_sem, q10, s2, cv]) ⟨_, rfl, hJ.step hL rfl (Below.refl _ _) (by exact rfl)⟩
  · intro L vs ac w' hJ hF hP hL
    have p1 : L 1 = true := hP ⟨1, .data⟩ (by simp) rfl
    have s1 : vs 1 = .string (strOf D n) := hJ.sp 1 p1
    have q9 := hF.slot 1 9 rfl p1
    have p3 : L 3 = true := hP ⟨3, .data⟩ (by simp) rfl
    have s3 : vs 3 = .string (strOf D n) := hJ.sp 3 p3
    have q11 := hF.slot 3 11 rfl p3
    exact run_val (v := .bool true) rfl (by simp [execOp, go_sem, q9, s1, q11, s3]) ⟨_, rfl, hJ.step hL rfl (Below.refl _ _) (by exact rfl)⟩
  · intro L vs ac w' hJ hF hP hL
    have p4 : L 4 = true := hP ⟨4, .data⟩ (by simp) rfl
    have s4 : vs 4 = .bool true := hJ.sp 4 p4
    have q12 := hF.slot 4 12 rfl p4
    exact run_val (v := .bool true) rfl (by simp [execOp, go_sem, q12, s4]) ⟨_, rfl, hJ.step hL rfl (Below.refl _ _) (by exact rfl)⟩
  · intro L vs ac w' hJ hF hP hL
    have q0 : (ac.tmps[0]?).getD undef = .slice (some ⟨g, 0, none⟩) n c := hF.old 0 rfl
    exact run_val (v := .slice (some ⟨g, 0, none⟩) n c) (hF.wants 25 HN HG _ 5 true true rfl rfl (hP ⟨5, .guard⟩ (by simp) rfl) (hJ.sp 5 (hP ⟨5, .guard⟩ (by simp) rfl))) (by simp [execOp, go_sem, q0]) ⟨_, rfl, hJ.step hL rfl (Below.refl _ _) (by exact rfl)⟩
  · intro L vs ac w' hJ hF hP hL
    have q5 : (ac.tmps[5]?).getD undef = .int .i64 (n : Int) := hF.old 5 rfl
    exact run_val (v := .int .i64 (n : Int)) (hF.wants 25 HN HG _ 5 true true rfl rfl (hP ⟨5, .guard⟩ (by simp) rfl) (hJ.sp 5 (hP ⟨5, .guard⟩ (by simp) rfl))) (by simp [execOp, go_sem, q5]) ⟨_, rfl, hJ.step hL rfl (Below.refl _ _) (by exact rfl)⟩
  · intro L vs ac w' hJ hF hP hL
    have p7 : L 7 = true := hP ⟨7, .data⟩ (by simp) rfl
    have s7 : vs 7 = .int .i64 (n : Int) := hJ.sp 7 p7
    have q15 := hF.slot 7 15 rfl p7
    exact run_val (v := .int .i64 ((n : Int) + 5)) (hF.wants 25 HN HG _ 5 true true rfl rfl (hP ⟨5, .guard⟩ (by simp) rfl) (hJ.sp 5 (hP ⟨5, .guard⟩ (by simp) rfl))) (by simp [execOp, go_sem, q15, s7, hn5]) ⟨_, rfl, hJ.step hL rfl (Below.refl _ _) (by exact rfl)⟩
  · intro L vs ac w' hJ hF hP hL
    have p6 : L 6 = true := hP ⟨6, .data⟩ (by simp) rfl
    have s6 : vs 6 = .slice (some ⟨g, 0, none⟩) n c := hJ.sp 6 p6
    have q14 := hF.slot 6 14 rfl p6
    have p8 : L 8 = true := hP ⟨8, .data⟩ (by simp) rfl
    have s8 : vs 8 = .int .i64 ((n : Int) + 5) := hJ.sp 8 p8
    have q16 := hF.slot 8 16 rfl p8
    have cv := sl1.out w'
    exact run_val (v := .slice (some ⟨g, 0, none⟩) (n + 5) c) (hF.wants 25 HN HG _ 5 true true rfl rfl (hP ⟨5, .guard⟩ (by simp) rfl) (hJ.sp 5 (hP ⟨5, .guard⟩ (by simp) rfl))) (by simp [execOp, go_sem, q14, s6, q16, s8, cv]) ⟨_, rfl, hJ.step hL rfl (Below.refl _ _) (by exact rfl)⟩
  · intro L vs ac w' hJ hF hP hL
    have q5 : (ac.tmps[5]?).getD undef = .int .i64 (n : Int) := hF.old 5 rfl
    exact run_val (v := .int .i64 (n : Int)) (hF.wants 25 HN HG _ 5 true true rfl rfl (hP ⟨5, .guard⟩ (by simp) rfl) (hJ.sp 5 (hP ⟨5, .guard⟩ (by simp) rfl))) (by simp [execOp, go_sem, q5]) ⟨_, rfl, hJ.step hL rfl (Below.refl _ _) (by exact rfl)⟩
  · intro L vs ac w' hJ hF hP hL
    have p9 : L 9 = true := hP ⟨9, .data⟩ (by simp) rfl
    have s9 : vs 9 = .slice (some ⟨g, 0, none⟩) (n + 5) c := hJ.sp 9 p9
    have q17 := hF.slot 9 17 rfl p9
    have p10 : L 10 = true := hP ⟨10, .data⟩ (by simp) rfl
    have s10 : vs 10 = .int .i64 (n : Int) := hJ.sp 10 p10
    have q18 := hF.slot 10 18 rfl p10
    have cv := sl2.out w'
    exact run_val (v := .slice (some ⟨g, n, none⟩) 5 (c - n)) (hF.wants 25 HN HG _ 5 true true rfl rfl (hP ⟨5, .guard⟩ (by simp) rfl) (hJ.sp 5 (hP ⟨5, .guard⟩ (by simp) rfl))) (by simp [execOp, go_sem, q17, s9, q18, s10, cv]) ⟨_, rfl, hJ.step hL rfl (Below.refl _ _) (by exact rfl)⟩
  · intro L vs ac w' hJ hF hP hL
    have p11 : L 11 = true := hP ⟨11, .data⟩ (by simp) rfl
    have s11 : vs 11 = .slice (some ⟨g, n, none⟩) 5 (c - n) := hJ.sp 11 p11
    have q19 := hF.slot 11 19 rfl p11
    have cv := C3.out _ hJ.bel
    exact run_val (v := .string (strOf five 5)) (hF.wants 25 HN HG _ 5 true true rfl rfl (hP ⟨5, .guard⟩ (by simp) rfl) (hJ.sp 5 (hP ⟨5, .guard⟩ (by simp) rfl))) (by simp [execOp, go_sem, q19, s11, cv]) ⟨_, rfl, hJ.step hL rfl (Below.refl _ _) (by exact rfl)⟩
  · intro L vs ac w' hJ hF hP hL
    exact run_val (v := (.slice (some ⟨w'.heap.size, 0, none⟩) 5 5)) (w' := w'.alloc (.cells #[.int .u8 201, .int .u8 202, .int .u8 203, .int .u8 204, .int .u8 205] 5)) (hF.wants 25 HN HG _ 5 true true rfl rfl (hP ⟨5, .guard⟩ (by simp) rfl) (hJ.sp 5 (hP ⟨5, .guard⟩ (by simp) rfl))) (by simp [execOp, go_sem]) ⟨_, rfl, hJ.step hL rfl (bel_al (Below.refl _ _)) (by exact ⟨_, rfl, five_new _ _⟩)⟩
  · intro L vs ac w' hJ hF hP hL
    have p13 : L 13 = true := hP ⟨13, .data⟩ (by simp) rfl
    have s13 : FiveIs w' (vs 13) := hJ.sp 13 p13
    have q21 := hF.slot 13 21 rfl p13
    obtain ⟨g5, e1, e2⟩ := s13
    have cv := conv_bys (c := 5) e2
    exact run_val (v := .string (strOf five 5)) (hF.wants 25 HN HG _ 5 true true rfl rfl (hP ⟨5, .guard⟩ (by simp) rfl) (hJ.sp 5 (hP ⟨5, .guard⟩ (by simp) rfl))) (by simp [execOp, go_sem, q21, e1, cv]) ⟨_, rfl, hJ.step hL rfl (Below.refl _ _) (by exact rfl)⟩
  · intro L vs ac w' hJ hF hP hL
    have p12 : L 12 = true := hP ⟨12, .data⟩ (by simp) rfl
    have s12 : vs 12 = .string (strOf five 5) := hJ.sp 12 p12
    have q20 := hF.slot 12 20 rfl p12
    have p14 : L 14 = true := hP ⟨14, .data⟩ (by simp) rfl
    have s14 : vs 14 = .string (strOf five 5) := hJ.sp 14 p14
    have q22 := hF.slot 14 22 rfl p14
    exact run_val (v := .bool true) (hF.wants 25 HN HG _ 5 true true rfl rfl (hP ⟨5, .guard⟩ (by simp) rfl) (hJ.sp 5 (hP ⟨5, .guard⟩ (by simp) rfl))) (by simp [execOp, go_sem, q20, s12, q22, s14]) ⟨_, rfl, hJ.step hL rfl (Below.refl _ _) (by exact rfl)⟩
  · intro L vs ac w' hJ hF hP hL
    have p5 : L 5 = true := hP ⟨5, .data⟩ (by simp) rfl
    have s5 : vs 5 = .bool true := hJ.sp 5 p5
    have q13 := hF.slot 5 13 rfl p5
    have p15 : L 15 = true := hP ⟨15, .data⟩ (by simp) rfl
    have s15 : vs 15 = .bool true := hJ.sp 15 p15
    have q23 := hF.slot 15 23 rfl p15
    exact run_val (v := .bool true) rfl (by simp [execOp, go_sem, q13, s5, q23, s15]) ⟨_, rfl, hJ.step hL rfl (Below.refl _ _) (by exact rfl)⟩
  · intro L vs ac w' hJ hF hP hL
    have p16 : L 16 = true := hP ⟨16, .data⟩ (by simp) rfl
    have s16 : vs 16 = .bool true := hJ.sp 16 p16
    have q24 := hF.slot 16 24 rfl p16
    exact run_val (v := .bool true) rfl (by simp [execOp, go_sem, q24, s16]) ⟨_, rfl, hJ.step hL rfl (Below.refl _ _) (by exact rfl)⟩
  intro L vs w' hA hJ
  have s17 : vs 17 = .bool true := hJ.sp 17 (hA 17 (by simp))
  simp only [putL, Act.put, List.setIfInBounds_toArray, List.set_cons_zero, List.set_cons_succ, Nat.reduceAdd]
  simp only [s17]
  go_wp2_with fail
  go_ret
  exact ⟨rfl, hJ.bel⟩
end Go.Proofs.Ytajkjfblpomdpaa
namespace Go.Proofs.Ytajkjfblpomdpaa
open Go.RowKit
set_option maxRecDepth 100000
set_option linter.unusedVariables false
set_option maxHeartbeats 1000000 in
theorem rtrimmed_made (b o : Nat) (w : World) :
    Calls Try.prog 26 #[.slice (some ⟨b, o, none⟩) 0 0] w (RMakes w 0) := by
  go_enter Try.func26, Try.ntmps26
  go_wp2_with fail
  refine wp_loop_rounds 1 ?_
  rw [rounds_succ]
  go_wp2_with fail
  exact bodyPost_ret (v := .agg #[.slice (some ⟨b, o, none⟩) 0 0]) (by simp [results, Try.results26, go_sem]) rfl ⟨_, rfl, ⟨_, 0, 0, fun _ => 0, rfl, ⟨Nat.le_refl _, by omega, fun i hi => absurd hi (by omega), .inl rfl⟩, fun i hi => absurd hi (by omega), fun h => absurd h (by omega), rfl⟩, (Below.refl _ _).alloc (Nat.le_refl _) _⟩
theorem rtrimmed_row (b o n : Nat) (F : Nat → Nat) (w : World) (h : Sl w (some ⟨b, o, none⟩) n n F) (hd : Dg F n) (hn : n ≤ 1099511627776) :
    Calls Try.prog 26 #[.slice (some ⟨b, o, none⟩) n n] w (RMakes w (U F n)) := by
  by_cases h0 : n = 0
  · subst h0
    exact rtrimmed_made b o w
  · exact rtrimmed_any _ n n F w h hd hn fun e => absurd e h0
end Go.Proofs.Ytajkjfblpomdpaa
namespace Go.Proofs.Ytajkjfblpomdpaa
open Go.RowKit
set_option maxRecDepth 100000
set_option linter.unusedVariables false
theorem U_put (H : Nat → Nat) (q N e : Nat) (hq : q < N) : U (put H q e) N + H q * B q = U H N + e * B q := by
  obtain ⟨t, rfl⟩ : ∃ t, N = q + 1 + t := ⟨N - (q + 1), by omega⟩
  rw [U_split _ (q + 1), U_split H (q + 1), U_succ, U_succ, put_same, U_congr (F := put H q e) (G := H) (n := q) fun i hi => put_other _ _ (by omega),
    U_congr (F := fun i => put H q e (q + 1 + i)) (G := fun i => H (q + 1 + i)) fun i hi => put_other _ _ (by omega)]
  omega
theorem tm_le {f g h c : Nat} (hf : f < 4294967296) (hg : g < 4294967296) (hh : h < 4294967296) (hc : c < 4294967296) : f * g + h + c < 18446744073709551616 := by
  have : f * g ≤ 4294967295 * 4294967295 := Nat.mul_le_mul (by omega) (by omega)
  omega
theorem tm_eq {u' u h b s f g c T fb : Nat} (e1 : u' + h * b = u + s % 4294967296 * b) (hs : s = f * g + h + c) (e2 : u + c * b = T) (hfb : f * b * g = fb) : u' + s / 4294967296 * (b * 4294967296) = T + fb := by
  have h1 := Nat.div_add_mod s 4294967296
  have h2 : s * b = (4294967296 * (s / 4294967296) + s % 4294967296) * b := by rw [h1]
  have h3 : s * b = (f * g + h + c) * b := by rw [hs]
  grind
/-- i rows of a product are laid, and k digits of the next one; c is carried. -/
structure Tm (F : Nat → Nat) (n : Nat) (G : Nat → Nat) (m i k c : Nat) (H : Nat → Nat) : Prop where
  eq : U H (n + m) + c * B (i + k) = U F i * U G m + F i * B i * U G k
  dg : Dg H (n + m)
  top : ∀ j, i + m ≤ j → H j = 0
  car : c < 4294967296
theorem Tm.step {F G H : Nat → Nat} {n m i k c : Nat} (h : Tm F n G m i k c H) (hi : i < n) (hk : k < m) (hf : F i < 4294967296) (hg : G k < 4294967296) :
    Tm F n G m i (k + 1) ((F i * G k + H (i + k) + c) / 4294967296) (put H (i + k) ((F i * G k + H (i + k) + c) % 4294967296)) := by
  have hl := tm_le hf hg (h.dg (i + k) (by omega)) h.car
  refine ⟨?_, fun j hj => ?_, fun j hj => ?_, by omega⟩
  · rw [show i + (k + 1) = i + k + 1 by omega, B_succ, U_succ, Nat.mul_add, ← Nat.add_assoc]
    refine tm_eq (U_put H (i + k) (n + m) _ (by omega)) rfl h.eq ?_
    rw [B_add]
    grind
  · unfold put
    split
    · exact Nat.mod_lt _ (by decide)
    · exact h.dg j hj
  · rw [put_other _ _ (by omega)]
    exact h.top j hj
theorem Tm.next {F G H : Nat → Nat} {n m i c : Nat} (h : Tm F n G m i m c H) (hi : i < n) : Tm F n G m (i + 1) 0 0 (put H (i + m) c) := by
  refine ⟨?_, fun j hj => ?_, fun j hj => ?_, by omega⟩
  · have h1 := U_put H (i + m) (n + m) c (by omega)
    rw [h.top (i + m) (by omega)] at h1
    have h2 := h.eq
    rw [U_succ, U_zero]
    grind
  · unfold put
    split
    · exact h.car
    · exact h.dg j hj
  · rw [put_other _ _ (by omega)]
    exact h.top j (by omega)
theorem Tm.again {F G H : Nat → Nat} {n m i : Nat} (h : Tm F n G m i 0 0 H) : Tm F n G m i 0 0 H := h
set_option maxHeartbeats 2000000 in
theorem rtimes_any (v u : Value) (x y : Nat) (w : World) (h : RNat w v x) (k : RNat w u y) (hx : RFits x) (hy : RFits y) :
    Calls Try.prog 18 #[v, u] w (RMakes w (x * y)) := by
  obtain ⟨ax, n, cap, rfl⟩ := h.isAgg
  obtain ⟨ay, m, cap', rfl⟩ := k.isAgg
  obtain ⟨F, hs, hd, h1, hv⟩ := h.open
  obtain ⟨G, ks, kd, k1, kv⟩ := k.open
  have hn : n ≤ 4294967296 := rfits_len (hv.symm ▸ hx) h1
  have hm : m ≤ 4294967296 := rfits_len (kv.symm ▸ hy) k1
  have HH : Hid (Sl w ax n cap F ∧ Dg F n ∧ U F n = x ∧ Sl w ay m cap' G ∧ Dg G m ∧ U G m = y) := ⟨hs, hd, hv, ks, kd, kv⟩
  clear hs hd h1 hv ks kd k1 kv h k hx hy
  have mk := make_at ((n : Int) + (m : Int)) ((n : Int) + (m : Int)) (n + m) (n + m) (by omega) (by omega) (Nat.le_refl _) (by omega)
  go_enter Try.func18, Try.ntmps18
  go_wp2_with fail
  clear mk
  obtain ⟨w0, hw0⟩ : ∃ w0, w0 = (((w.alloc (.cells #[.slice ax n cap] 31)).alloc (.cells #[.slice ay m cap'] 31)).alloc (.cells #[.slice none 0 0] 31)).alloc (.cells (zeros (n + m)) 22) := ⟨_, rfl⟩
  have c1 : w0.cell? ⟨w.heap.size, 0, none⟩ = some (.slice ax n cap) := by rw [hw0]; simp [go_sem]
  have c2 : w0.cell? ⟨w.heap.size + 1, 0, none⟩ = some (.slice ay m cap') := by rw [hw0]; simp [go_sem]
  have c3 : w0.cell? ⟨w.heap.size + 1 + 1, 0, none⟩ = some (.slice none 0 0) := by rw [hw0]; simp [go_sem]
  have f3 : w0.frozen? ⟨w.heap.size + 1 + 1, 0, none⟩ = false := by rw [hw0]; simp [go_sem]
  have R0 : Row w0 (w.heap.size + 1 + 1 + 1) (n + m) (fun _ => 0) := by rw [hw0]; exact row_zeros_at _ _ _ (by simp)
  have HB : Hid (Below w.heap.size w w0) := by rw [hw0]; exact ((bel_alloc2 _ _ _).alloc (by simp <;> omega) _).alloc (by simp <;> omega) _
  rw [← hw0]
  clear hw0
  have CC : Hid _ := And.intro c1 (And.intro c2 (And.intro c3 f3))
  clear c1 c2 c3 f3
  go_loopw [6] (fun t wr => ∃ (i : Nat) (H : Nat → Nat), i ≤ n ∧ t = .int .i64 (i : Int) ∧ Hid (Row wr (w.heap.size + 1 + 1 + 1) (n + m) H ∧ Tm F n G m i 0 0 H ∧ w0.grownBy wr (some (w.heap.size + 1 + 1 + 1)))) (fun t _ => n - (intOf t).toNat)
  case atStart => exact ⟨0, fun _ => 0, by omega, rfl, ⟨R0, ⟨by rw [U_zeros fun _ _ => rfl, U_zero, U_zero]; omega, fun j _ => by show 0 < _; omega, fun _ _ => rfl, by omega⟩, World.grownBy.refl _ _⟩⟩
  case round =>
    clear R0
    obtain ⟨i, H0, hi, rfl, hP0⟩ := hrel
    have d1 : wr.cell? ⟨w.heap.size, 0, none⟩ = some (.slice ax n cap) := hP0.out.2.2.cell CC.out.1 (by simp only [ne_eq, Option.some.injEq]; omega)
    by_cases him : i < n
    · have him' : (i : Int) < n := by omega
      have P0 : Hid _ := hP0.out
      go_wp2_with fail
      clear d1 hP0
      go_loopw [7, 8] (fun q t wq => ∃ (k c : Nat) (H : Nat → Nat), k ≤ m ∧ t = .int .i64 (k : Int) ∧ q = .int .u64 (c : Int) ∧ Hid (Row wq (w.heap.size + 1 + 1 + 1) (n + m) H ∧ Tm F n G m i k c H ∧ w0.grownBy wq (some (w.heap.size + 1 + 1 + 1)))) (fun _ t _ => m - (intOf t).toNat)
      case atStart => exact ⟨0, 0, H0, by omega, rfl, rfl, P0.out⟩
      case round =>
        clear P0
        obtain ⟨k, c, H, hk, rfl, rfl, hP⟩ := hrel
        have hcx : wr.cell? ⟨w.heap.size, 0, none⟩ = some (.slice ax n cap) := hP.out.2.2.cell CC.out.1 (by simp only [ne_eq, Option.some.injEq]; omega)
        have hcy : wr.cell? ⟨w.heap.size + 1, 0, none⟩ = some (.slice ay m cap') := hP.out.2.2.cell CC.out.2.1 (by simp only [ne_eq, Option.some.injEq]; omega)
        by_cases hkm : k < m
        · have hkm' : (k : Int) < m := by omega
          obtain ⟨b, o, rfl, hw⟩ := HH.out.1.at i him
          obtain ⟨b', o', rfl, hw'⟩ := HH.out.2.2.2.1.at k hkm
          have hc0 := hw i him
          have hc0' := hw' k hkm
          have hb : b < w.heap.size := World.block_lt_of_cell? _ _ hc0
          have hb' : b' < w.heap.size := World.block_lt_of_cell? _ _ hc0'
          have e1 : wr.cell? ⟨b, o + i, none⟩ = some (.int .u64 (F i : Nat)) := hP.out.2.2.cell (cell_later HB.out hc0) (by simp only [ne_eq, Option.some.injEq]; omega)
          have e2 : wr.cell? ⟨b', o' + k, none⟩ = some (.int .u64 (G k : Nat)) := hP.out.2.2.cell (cell_later HB.out hc0') (by simp only [ne_eq, Option.some.injEq]; omega)
          have e3 : wr.cell? ⟨w.heap.size + 1 + 1 + 1, i + k, none⟩ = some (.int .u64 (H (i + k) : Nat)) := hP.out.1.cell (by omega)
          have e4 : wr.frozen? ⟨w.heap.size + 1 + 1 + 1, i + k, none⟩ = false := hP.out.1.frozen _
          have wr1 : IntKind.i64.wrap ((i : Int) + (k : Int)) = (i : Int) + (k : Int) := by rw [IntKind.wrap_i64]; omega
          have hik : i + k < n + m := by omega
          have hF := HH.out.2.1 i him
          have hG := HH.out.2.2.2.2.1 k hkm
          have hl := tm_le hF hG (hP.out.2.1.dg (i + k) hik) hP.out.2.1.car
          have S : Hid _ := And.intro (hP.out.1.set (i + k) (show (F i * G k + H (i + k) + c) % 4294967296 < 18446744073709551616 by omega)) (And.intro (hP.out.2.1.step him hkm hF hG) (grown_set _ hP.out.2.2 (i + k) (.int .u64 (((F i * G k + H (i + k) + c) % 4294967296 : Nat) : Int))))
          obtain ⟨p, hp⟩ : ∃ p, p = F i * G k := ⟨_, rfl⟩
          have m1 : IntKind.u64.wrap (((F i : Nat) : Int) * ((G k : Nat) : Int)) = (p : Int) := by rw [← Int.natCast_mul, ← hp]; exact wrapU_nat _ (by omega)
          rw [← hp] at S hl
          have hh : H (i + k) ≤ p + H (i + k) + c := by omega
          obtain ⟨z, hz⟩ : ∃ z, z = H (i + k) := ⟨_, rfl⟩
          rw [← hz] at S hl hh e3
          have m2 : IntKind.u64.wrap ((p : Int) + (z : Int)) = (p : Int) + (z : Int) := by rw [IntKind.wrap_u64]; omega
          have m3 : IntKind.u64.wrap ((p : Int) + (z : Int) + (c : Int)) = (p : Int) + (z : Int) + (c : Int) := by rw [IntKind.wrap_u64]; omega
          clear hw hw' hc0 hc0' hp hz hP hh
          go_wp2_with fail
          go_region
          go_wp2_with fail
          have hz1 : ((p : Int) + (z : Int) + (c : Int)) % 4294967296 = (((p + z + c) % 4294967296 : Nat) : Int) := by omega
          have hz2 : ((p : Int) + (z : Int) + (c : Int)) / 4294967296 = (((p + z + c) / 4294967296 : Nat) : Int) := by omega
          rw [hz1, hz2]
          go_roundw
          case rel => exact ⟨k + 1, _, _, by omega, by go_num, rfl, ⟨S.out.1, S.out.2.1, grown_drew S.out.2.2 1⟩⟩
          case measure => simp [intOf]; omega
        · obtain rfl : k = m := by omega
          have e3 : wr.cell? ⟨w.heap.size + 1 + 1 + 1, i + k, none⟩ = some (.int .u64 (H (i + k) : Nat)) := hP.out.1.cell (by omega)
          have e4 : wr.frozen? ⟨w.heap.size + 1 + 1 + 1, i + k, none⟩ = false := hP.out.1.frozen _
          have wr1 : IntKind.i64.wrap ((i : Int) + (k : Int)) = (i : Int) + (k : Int) := by rw [IntKind.wrap_i64]; omega
          have hik : i + k < n + k := by omega
          have S : Hid _ := And.intro (hP.out.1.set (i + k) (show c < 18446744073709551616 by have := hP.out.2.1.car; omega)) (And.intro (hP.out.2.1.next him) (grown_set _ hP.out.2.2 (i + k) (.int .u64 ((c : Nat) : Int))))
          clear hP
          go_wp2_with fail
          go_roundw
          case rel => exact ⟨i + 1, _, by omega, by go_num, S.out⟩
          case measure => simp [intOf]; omega
    · obtain rfl : i = n := by omega
      have B0 : Hid (Below w.heap.size w wr) := HB.out.grown hP0.out.2.2 HB.out.size (fun k hk => by cases hk; omega)
      have hcr : wr.cell? ⟨w.heap.size + 1 + 1, 0, none⟩ = some (.slice none 0 0) := hP0.out.2.2.cell CC.out.2.2.1 (by simp)
      have hfr : wr.frozen? ⟨w.heap.size + 1 + 1, 0, none⟩ = false := (World.frozen?_of_block (hP0.out.2.2.block _ (World.block_lt_of_cell? _ _ CC.out.2.2.1) (by simp))).trans CC.out.2.2.2
      go_wp2_with fail
      refine (rtrimmed_row _ 0 (i + m) H0 wr (by have := hP0.out.1.sl (o := 0) (n := i + m) (cap := i + m) (by omega) (Nat.le_refl _) (by omega); rw [fro_zero] at this; exact this) hP0.out.2.1.dg (by omega)).mono ?_
      rintro e w3 ⟨v3, rfl, hv3, hb3⟩
      have he := hP0.out.2.1.eq
      rw [HH.out.2.2.1, HH.out.2.2.2.2.2, U_zero, Nat.mul_zero, Nat.zero_mul, Nat.add_zero, Nat.add_zero] at he
      rw [he] at hv3
      have hcr3 : w3.cell? ⟨w.heap.size + 1 + 1, 0, none⟩ = some (.slice none 0 0) := cell_later hb3 hcr
      have hfr3 : w3.frozen? ⟨w.heap.size + 1 + 1, 0, none⟩ = false := (hb3.frozen (World.block_lt_of_cell? _ _ hcr)).trans hfr
      obtain ⟨a3, n3, cap3, rfl⟩ := hv3.isAgg
      have HV3 : Hid (RNat w3 (.agg #[.slice a3 n3 cap3]) (x * y)) := hv3
      have B3 : Hid (Below w.heap.size w w3) := bel_go B0.out hb3
      clear hv3 hb3 hcr hfr he
      go_wp2_with fail
      refine bodyPost_ret (v := .agg #[.slice a3 n3 cap3]) (by simp [results, Try.results18, go_sem, hcr3]) rfl ⟨_, rfl, ?_, B3.out.setCell (by show _ ≤ _ + 1 + 1; omega) _⟩
      exact HV3.out.setCell (no_int_slice hcr3) _
end Go.Proofs.Ytajkjfblpomdpaa
namespace Go.Proofs.Ytajkjfblpomdpaa
open Go.RowKit
set_option maxRecDepth 100000
set_option linter.unusedVariables false
theorem decVal_lt {s : ByteArray} : ∀ {i : Nat}, Digits s i → decVal s i < 10 ^ i
  | 0, _ => by simp [decVal]
  | i + 1, h => by
    have h1 := decVal_lt (i := i) fun j hj => h j (by omega)
    have h2 := h i (by omega)
    rw [decVal, Nat.pow_succ]
    omega
theorem ten_B : 10 ^ 401 ≤ B 42 := by unfold B; decide +kernel
theorem rfits_ten {x i : Nat} (h : x < 10 ^ i) (hi : i ≤ 401) : RFits x :=
  rfits_of (n := 42) (Nat.lt_of_lt_of_le h (Nat.le_trans (Nat.pow_le_pow_right (by decide) hi) ten_B)) (by omega)
/-- Where Parse stands: its two boxes, the number so far. -/
structure PS (w wr : World) (ax : Option Addr) (nx cx X : Nat) : Prop where
  c1 : wr.cell? ⟨w.heap.size, 0, none⟩ = some (.slice none 0 0)
  f1 : wr.frozen? ⟨w.heap.size, 0, none⟩ = false
  c2 : wr.cell? ⟨w.heap.size + 1, 0, none⟩ = some (.slice ax nx cx)
  f2 : wr.frozen? ⟨w.heap.size + 1, 0, none⟩ = false
  num : RNat wr (.agg #[.slice ax nx cx]) X
  bel : Below w.heap.size w wr
theorem PS.mono {w wr w' : World} {ax : Option Addr} {nx cx X : Nat} (h : PS w wr ax nx cx X) (hb : Below wr.heap.size wr w') : PS w w' ax nx cx X :=
  ⟨cell_later hb h.c1, (hb.frozen (World.block_lt_of_cell? _ _ h.c1)).trans h.f1, cell_later hb h.c2, (hb.frozen (World.block_lt_of_cell? _ _ h.c2)).trans h.f2, h.num.mono hb, bel_go h.bel hb⟩
theorem PS.set {w wr : World} {ax a4 : Option Addr} {nx cx X n4 c4 Y : Nat} (h : PS w wr ax nx cx X) (hv : RNat wr (.agg #[.slice a4 n4 c4]) Y) : PS w (wr.setCell ⟨w.heap.size + 1, 0, none⟩ (.slice a4 n4 c4)) a4 n4 c4 Y := by
  have h1 := h.c1
  have h2 := h.c2
  have h3 := h.f1
  have h4 := h.f2
  refine ⟨?_, ?_, ?_, ?_, hv.setCell (no_int_slice h2) _, h.bel.setCell (by show _ ≤ _ + 1; omega) _⟩
  all_goals simp [go_sem, *]
set_option maxHeartbeats 2000000 in
theorem rparse_any (s : ByteArray) (w : World) (h0 : 0 < s.size) (h1 : s.size ≤ 400) :
    Calls Try.prog 7 #[.string s] w fun e w' => (Digits s s.size → ∃ v, e = .returned (.tuple #[v, .bool true]) ∧ RNat w' v (decVal s s.size) ∧ Below w.heap.size w w') ∧ (¬ Digits s s.size → e = .returned (.tuple #[.agg #[.slice none 0 0], .bool false]) ∧ Below w.heap.size w w') := by
  have hz : decide ((s.size : Int) < 1) = false := decide_eq_false (by omega)
  have hgt : decide (400 < (s.size : Int)) = false := decide_eq_false (by omega)
  go_enter Try.func7, Try.ntmps7
  go_wp2_with fail
  obtain ⟨w0, hw0⟩ : ∃ w0, w0 = (w.alloc (.cells #[.slice none 0 0] 31)).alloc (.cells #[.slice none 0 0] 31) := ⟨_, rfl⟩
  have c1 : w0.cell? ⟨w.heap.size, 0, none⟩ = some (.slice none 0 0) := by rw [hw0]; simp [go_sem]
  have c2 : w0.cell? ⟨w.heap.size + 1, 0, none⟩ = some (.slice none 0 0) := by rw [hw0]; simp [go_sem]
  have f1 : w0.frozen? ⟨w.heap.size, 0, none⟩ = false := by rw [hw0]; simp [go_sem]
  have f2 : w0.frozen? ⟨w.heap.size + 1, 0, none⟩ = false := by rw [hw0]; simp [go_sem]
  have HB : Hid (Below w.heap.size w w0) := by rw [hw0]; exact bel_alloc2 _ _ _
  rw [← hw0]
  clear hw0
  go_loopw [5] (fun t wr => ∃ (i : Nat) (ax : Option Addr) (nx cx : Nat), i ≤ s.size ∧ t = .int .i64 (i : Int) ∧ Hid (PS w wr ax nx cx (decVal s i) ∧ Digits s i)) (fun t _ => s.size - (intOf t).toNat)
  case atStart => exact ⟨0, none, 0, 0, by omega, rfl, ⟨⟨c1, f1, c2, f2, rnat_zero _, HB.out⟩, fun i hi => absurd hi (by omega)⟩⟩
  case round =>
    obtain ⟨i, ax, nx, cx, hi, rfl, HH⟩ := hrel
    clear c1 c2 f1 f2 HB
    have hcb := HH.out.1.c1
    have hfb := HH.out.1.f1
    have hcx := HH.out.1.c2
    have hfx := HH.out.1.f2
    by_cases hii : i < s.size
    · have hc := sb_at hii
      have hc2 := sb_lt s i
      by_cases hlo : sb s i < 48
      · have t1 : decide (((sb s i : Nat) : Int) < 48) = true := decide_eq_true (by omega)
        have HN : Hid (¬ Digits s s.size) := fun hh => by have := hh i hii; omega
        clear hlo
        go_wp2_with fail
        refine bodyPost_ret (v := .tuple #[.agg #[.slice none 0 0], .bool false]) (by simp [results, Try.results7, go_sem, hcb]) rfl ⟨fun hh => absurd hh HN.out, fun _ => ⟨rfl, ?_⟩⟩
        exact HH.out.1.bel.setCell (Nat.le_refl _) _
      · have t1 : decide (((sb s i : Nat) : Int) < 48) = false := decide_eq_false (by omega)
        by_cases hhi : 57 < sb s i
        · have t2 : decide (57 < ((sb s i : Nat) : Int)) = true := decide_eq_true (by omega)
          have HN : Hid (¬ Digits s s.size) := fun hh => by have := hh i hii; omega
          go_wp2_with fail
          refine bodyPost_ret (v := .tuple #[.agg #[.slice none 0 0], .bool false]) (by simp [results, Try.results7, go_sem, hcb]) rfl ⟨fun hh => absurd hh HN.out, fun _ => ⟨rfl, ?_⟩⟩
          exact HH.out.1.bel.setCell (Nat.le_refl _) _
        · have t2 : decide (57 < ((sb s i : Nat) : Int)) = false := decide_eq_false (by omega)
          obtain ⟨d, hd⟩ : ∃ d, sb s i = d + 48 := ⟨sb s i - 48, by omega⟩
          have HD : Hid _ := hd
          have hd9 : d ≤ 9 := by omega
          have hlt := decVal_lt HH.out.2
          obtain ⟨X, hX⟩ : ∃ X, X = decVal s i := ⟨_, rfl⟩
          have hstep : X * 10 + d = decVal s (i + 1) := by rw [hX, decVal, HD.out]; omega
          have hdg : Digits s (i + 1) := fun j hj => by
            rcases Nat.lt_or_ge j i with hh | hh
            · exact HH.out.2 j hh
            · obtain rfl : j = i := by omega
              rw [HD.out]
              omega
          have hlt1 : X * 10 + d < 10 ^ (i + 1) := by rw [hstep]; exact decVal_lt hdg
          rw [← hX] at hlt
          have K0 : Hid (PS w wr ax nx cx X) := by rw [hX]; exact HH.out.1
          have ST : Hid (X * 10 + d = decVal s (i + 1) ∧ Digits s (i + 1) ∧ RFits X ∧ RFits (X * 10) ∧ RFits d ∧ RFits 10) := ⟨hstep, hdg, rfits_ten hlt (by omega), rfits_ten (Nat.lt_of_le_of_lt (Nat.le_add_right _ _) hlt1) (by omega), rfits_of (n := 1) (by rw [B_one]; omega) (by omega), rfits_of (n := 1) (by rw [B_one]; omega) (by omega)⟩
          have WD : Hid (IntKind.u8.wrap (d : Int) = (d : Int) ∧ IntKind.u64.wrap (d : Int) = (d : Int)) := ⟨by rw [IntKind.wrap_u8]; omega, wrapU_nat _ (by omega)⟩
          clear hstep hdg hlt hlt1 hX hcb hfb
          go_wp2_with fail
          go_region_with
            (first
              | (go_at_call 10; have zz := K0; clear zz; refine Calls.mono (rof_any 10 _ (by omega)) ?_; rintro e w1 ⟨v1, rfl, hv1, hb1⟩; have K1 : Hid (PS w w1 ax nx cx X ∧ RNat w1 v1 10) := (by first | exact ⟨K0.out.mono hb1, hv1⟩ | exact ⟨K0.out.mono (bel_undrew hb1), hv1⟩); have q1 := K1.out.1.c2; clear hb1 hv1 K0)
              | (go_at_call 18; refine Calls.mono (rtimes_any _ _ X 10 _ (K1.out.1.num) (K1.out.2) ST.out.2.2.1 ST.out.2.2.2.2.2) ?_; rintro e w2 ⟨v2, rfl, hv2, hb2⟩; have K2 : Hid (PS w w2 ax nx cx X ∧ RNat w2 v2 (X * 10)) := (by first | exact ⟨K1.out.1.mono hb2, hv2⟩ | exact ⟨K1.out.1.mono (bel_undrew hb2), hv2⟩); have q2 := K2.out.1.c2; clear hb2 hv2 K1 q1)
              | (go_at_call 10; have zz := K2; clear zz; rw [WD.out.1, WD.out.2]; refine Calls.mono (rof_any d _ (by omega)) ?_; rintro e w3 ⟨v3, rfl, hv3, hb3⟩; have K3 : Hid (PS w w3 ax nx cx X ∧ RNat w3 v2 (X * 10) ∧ RNat w3 v3 d) := (by first | exact ⟨K2.out.1.mono hb3, K2.out.2.mono hb3, hv3⟩ | exact ⟨K2.out.1.mono (bel_undrew hb3), K2.out.2.mono (bel_undrew hb3), hv3⟩); have q3 := K3.out.1.c2; clear hb3 hv3 K2 q2)
              | (go_at_call 17; refine Calls.mono (rplus_any _ _ (X * 10) d _ (K3.out.2.1) (K3.out.2.2) ST.out.2.2.2.1 ST.out.2.2.2.2.1) ?_; rintro e w4 ⟨v4, rfl, hv4, hb4⟩; obtain ⟨a4, n4, c4, rfl⟩ := hv4.isAgg; have K4 : Hid (PS w w4 ax nx cx X ∧ RNat w4 (.agg #[.slice a4 n4 c4]) (X * 10 + d)) := (by first | exact ⟨K3.out.1.mono hb4, hv4⟩ | exact ⟨K3.out.1.mono (bel_undrew hb4), hv4⟩); have q4 := K4.out.1.c2; have q5 := K4.out.1.f2; clear hb4 hv4 K3 q3))
          all_goals go_wp2_with fail
          all_goals
            go_roundw
            case rel => exact ⟨i + 1, a4, n4, c4, by omega, by go_num, ⟨ST.out.1 ▸ K4.out.1.set K4.out.2, ST.out.2.1⟩⟩
            case measure => simp [intOf]; omega
    · obtain rfl : i = s.size := by omega
      have HH2 : Hid _ := HH.out
      clear HH
      go_wp2_with fail
      refine bodyPost_ret (v := .tuple #[.agg #[.slice ax nx cx], .bool true]) (by simp [results, Try.results7, go_sem, hcb]) rfl ⟨fun _ => ⟨_, rfl, HH2.out.1.num.setCell (no_int_slice hcb) _, HH2.out.1.bel.setCell (Nat.le_refl _) _⟩, fun hh => absurd HH2.out.2 hh⟩
set_option maxHeartbeats 1000000 in
theorem rparse_bad (s : ByteArray) (w : World) (h1 : s.size = 0 ∨ 400 < s.size) (h2 : s.size ≤ 1099511627776) :
    Calls Try.prog 7 #[.string s] w fun e w' => e = .returned (.tuple #[.agg #[.slice none 0 0], .bool false]) ∧ Below w.heap.size w w' := by
  have ba : Below w.heap.size w (w.alloc (Obj.cells #[Value.slice none 0 0] 31)) := (Below.refl _ _).alloc (Nat.le_refl _) _
  have HA : Hid _ := ba
  clear ba
  by_cases h0 : s.size = 0
  · have hz : decide ((s.size : Int) < 1) = true := decide_eq_true (by omega)
    have H0 : Hid _ := h0
    clear h0 h1
    go_enter Try.func7, Try.ntmps7
    go_wp2_with fail
    exact bodyPost_ret (v := .tuple #[.agg #[.slice none 0 0], .bool false]) (by simp [results, Try.results7, go_sem]) rfl ⟨rfl, by first | exact HA.out | exact HA.out.setCell (Nat.le_refl _) _⟩
  · have hz : decide ((s.size : Int) < 1) = false := decide_eq_false (by omega)
    have hgt : decide (400 < (s.size : Int)) = true := decide_eq_true (by omega)
    clear h0 h1
    go_enter Try.func7, Try.ntmps7
    go_wp2_with fail
    exact bodyPost_ret (v := .tuple #[.agg #[.slice none 0 0], .bool false]) (by simp [results, Try.results7, go_sem]) rfl ⟨rfl, by first | exact HA.out | exact HA.out.setCell (Nat.le_refl _) _⟩
end Go.Proofs.Ytajkjfblpomdpaa
namespace Go.Proofs.Ytajkjfblpomdpaa
open Go.RowKit
set_option maxRecDepth 100000
set_option linter.unusedVariables false
theorem P_B (n : Nat) : P n = B (2 * n) := by
  rw [P, B, Nat.pow_mul]
theorem Mid.rfits {x : Nat} (h : Mid x) : RFits x := rfits_of (n := 2 * 75) (by rw [← P_B]; exact h.lt) (by omega)
theorem ten_P : 10 ^ 401 ≤ P 21 := by unfold P; decide +kernel
theorem tx_ten {x i : Nat} (h : x < 10 ^ i) (hi : i ≤ 401) : Tx x :=
  tx_of (Nat.lt_of_lt_of_le h (Nat.le_trans (Nat.pow_le_pow_right (by decide) hi) ten_P)) (by omega)
set_option maxHeartbeats 1000000 in
theorem parse_none (s : ByteArray) (w : World) (h1 : s.size = 0 ∨ 400 < s.size) (h2 : s.size ≤ 9223372036854775807) : Calls Try.prog 6 #[.string s] w (Makes2 w 0 false) := by
  have fin : ∀ w', Below w.heap.size w w' → Makes2 w 0 false (.returned (.tuple #[.agg #[.slice none 0 0], .bool false])) w' := fun w' hb => ⟨_, rfl, isNat_zero _, hb⟩
  rcases h1 with h1 | h1
  · have hz : ((s.size : Int) == 0) = true := by simp [h1]
    have HH : Hid (s.size = 0) := h1
    clear h1
    go_enter Try.func6, Try.ntmps6
    go_wp2_with fail
    refine bodyPost_ret (v := .tuple #[.agg #[.slice none 0 0], .bool false]) (by simp [results, Try.results6, go_sem]) rfl (fin _ ?_)
    exact bel_al (bel_refl w)
  · have hz : ((s.size : Int) == 0) = false := beq_eq_false_iff_ne.2 (by omega)
    have hgt : decide (400 < (s.size : Int)) = true := decide_eq_true (by omega)
    go_enter Try.func6, Try.ntmps6
    go_wp2_with fail
    refine bodyPost_ret (v := .tuple #[.agg #[.slice none 0 0], .bool false]) (by simp [results, Try.results6, go_sem]) rfl (fin _ ?_)
    exact bel_al (bel_refl w)
def RMakes2 (w : World) (x : Nat) (ok : Bool) (e : Ending) (w' : World) : Prop := ∃ v, e = .returned (.tuple #[v, .bool ok]) ∧ RNat w' v x ∧ Below w.heap.size w w'
set_option maxHeartbeats 1000000 in
theorem rparse_none (s : ByteArray) (w : World) (h1 : s.size = 0 ∨ 400 < s.size) (h2 : s.size ≤ 9223372036854775807) : Calls Try.prog 7 #[.string s] w (RMakes2 w 0 false) := by
  have fin : ∀ w', Below w.heap.size w w' → RMakes2 w 0 false (.returned (.tuple #[.agg #[.slice none 0 0], .bool false])) w' := fun w' hb => ⟨_, rfl, rnat_zero _, hb⟩
  rcases h1 with h1 | h1
  · have hz : decide ((s.size : Int) < 1) = true := decide_eq_true (by omega)
    have hz2 : decide (s.size < 1) = true := decide_eq_true (by omega)
    have HH : Hid (s.size = 0) := h1
    clear h1
    go_enter Try.func7, Try.ntmps7
    go_wp2_with fail
    refine bodyPost_ret (v := .tuple #[.agg #[.slice none 0 0], .bool false]) (by simp [results, Try.results7, go_sem]) rfl (fin _ ?_)
    exact bel_al (bel_refl w)
  · have hz : decide ((s.size : Int) < 1) = false := decide_eq_false (by omega)
    have hgt : decide (400 < (s.size : Int)) = true := decide_eq_true (by omega)
    go_enter Try.func7, Try.ntmps7
    go_wp2_with fail
    refine bodyPost_ret (v := .tuple #[.agg #[.slice none 0 0], .bool false]) (by simp [results, Try.results7, go_sem]) rfl (fin _ ?_)
    exact bel_al (bel_refl w)
theorem parse_both (s : ByteArray) (hs : s.size ≤ 9223372036854775807) : ∃ (x : Nat) (ok : Bool), Tx x ∧ RFits x ∧ (∀ w, Calls Try.prog 6 #[.string s] w (Makes2 w x ok)) ∧ ∀ w, Calls Try.prog 7 #[.string s] w (RMakes2 w x ok) := by
  by_cases h : s.size = 0 ∨ 400 < s.size
  · exact ⟨0, false, tx_word (by omega), rfits_ten (i := 1) (by omega) (by omega), fun w => parse_none s w h hs, fun w => rparse_none s w h hs⟩
  · by_cases hd : Digits s s.size
    · have hl := decVal_lt hd
      exact ⟨decVal s s.size, true, tx_ten hl (by omega), rfits_ten hl (by omega), fun w => (parse_any s w (by omega) (by omega)).mono fun e w' hh => hh.1 hd, fun w => (rparse_any s w (by omega) (by omega)).mono fun e w' hh => hh.1 hd⟩
    · refine ⟨0, false, tx_word (by omega), rfits_ten (i := 1) (by omega) (by omega), fun w => (parse_any s w (by omega) (by omega)).mono fun e w' hh => ?_, fun w => (rparse_any s w (by omega) (by omega)).mono fun e w' hh => ?_⟩
      · obtain ⟨e1, e2⟩ := hh.2 hd
        exact ⟨_, e1, isNat_zero _, e2⟩
      · obtain ⟨e1, e2⟩ := hh.2 hd
        exact ⟨_, e1, rnat_zero _, e2⟩
/-- What NatMakes keeps: the bytes that it was handed, and its own copy. -/
structure MK (w0 w : World) (g c n : Nat) (a : Option Addr) (cap : Nat) (D : Nat → Nat) : Prop where
  row : ByteRow w g c (n + 5) (wideM D n)
  sl : BSl w a n cap D
  bel : Below w0.heap.size w0 w
theorem MK.go {w0 w w' : World} {g c n : Nat} {a : Option Addr} {cap : Nat} {D : Nat → Nat} (h : MK w0 w g c n a cap D) (hb : Below w.heap.size w w') : MK w0 w' g c n a cap D :=
  ⟨h.row.below hb, h.sl.mono hb, bel_go h.bel hb⟩
theorem MK.wide {w0 w : World} {g c n : Nat} {a : Option Addr} {cap : Nat} {D : Nat → Nat} (h : MK w0 w g c n a cap D) (hc : c ≤ 9223372036854775807) : BSl w (some ⟨g, 0, none⟩) n c D :=
  ⟨by have := h.row.2; omega, hc, h.sl.2.2.1, .inr ⟨g, 0, rfl, fun i hi => by rw [Nat.zero_add, h.row.cell (show i < n + 5 by omega), wideM, if_pos hi]⟩⟩
set_option maxHeartbeats 4000000 in
theorem natMakes_true (n : Nat) (a : Option Addr) (len cap : Nat) (D : Nat → Nat) (s : ByteArray) (i : Int) (w : World) (hn : n < 18446744073709551616) (hB : BSl w a len cap D) (hnil : a = none → cap = 0) (hs : s.size ≤ 9223372036854775807) (hi0 : -9223372036854775808 ≤ i) (hi1 : i ≤ 9223372036854775807) :
    Calls Try.prog 3 #[.int .u64 (n : Int), .slice a len cap, .string s, .int .i64 i] w fun e w' => e = .returned (.bool true) ∧ Below w.heap.size w w' := by
  obtain ⟨x, ok, hxt, hxr, P1, P2⟩ := parse_both s hs
  have HP : Hid _ := And.intro hxt (And.intro hxr (And.intro P1 P2))
  clear hxt hxr P1 P2
  have HB : Hid (BSl w a len cap D ∧ (a = none → cap = 0)) := ⟨hB, hnil⟩
  clear hB hnil hs
  go_enter Try.func3, Try.ntmps3
  go_wp2_with fail
  refine (cut_any a len cap D w HB.out.1).mono ?_
  rintro e w0 ⟨⟨m, rfl, hm, hm6⟩, hw0⟩
  rw [hw0]
  clear hw0 w0
  have HM : Hid (BSl w a m cap D) := hm
  clear hm
  go_wp2_with fail
  refine (wide_marks a m cap D w HM.out hm6 HB.out.2).mono ?_
  rintro e w1 ⟨g, c, rfl, hg, hrow, hc, hb1⟩
  have K1 : Hid (MK w w1 g c m a cap D) := ⟨hrow, HM.out.mono hb1, hb1⟩
  clear hrow hb1 hg
  go_wp2_with fail
  refine (HP.out.2.2.1 w1).mono ?_
  rintro e w2 ⟨v2, rfl, hv2, hb2⟩
  obtain ⟨a2, n2, c2, rfl⟩ := hv2.isAgg
  have K2 : Hid (MK w w2 g c m a cap D) := K1.out.go hb2
  have S2 : Hid _ := ((sr_start w2).nat hv2).box (.slice a2 n2 c2) 27 _ rfl
  clear hv2 hb2 K1
  go_wp2_with fail
  obtain ⟨w3, hw3⟩ : ∃ w3, w3 = w2.alloc (Obj.cells #[Value.slice a2 n2 c2] 27) := ⟨_, rfl⟩
  obtain ⟨bx, hbx⟩ : ∃ bx, bx = w2.heap.size := ⟨_, rfl⟩
  rw [← hw3, ← hbx] at S2
  rw [← hw3, ← hbx]
  clear hw3 hbx
  refine (HP.out.2.2.2 w3).mono ?_
  rintro e w4 ⟨v4, rfl, hv4, hb4⟩
  obtain ⟨a4, n4, c4, rfl⟩ := hv4.isAgg
  have S4 : Hid _ := ((S2.out.go hb4).rnat hv4).box (.slice a4 n4 c4) 31 _ rfl
  clear hv4 hb4 S2
  go_wp2_with fail
  obtain ⟨w5, hw5⟩ : ∃ w5, w5 = w4.alloc (Obj.cells #[Value.slice a4 n4 c4] 31) := ⟨_, rfl⟩
  obtain ⟨by', hby⟩ : ∃ by', by' = w4.heap.size := ⟨_, rfl⟩
  rw [← hw5, ← hby] at S4
  rw [← hw5, ← hby]
  clear hw5 hby
  have K5 : Hid (MK w w5 g c m a cap D) := K2.out.go S4.out.bel
  clear K2
  refine (of_any n _ hn).mono ?_
  rintro e w6 ⟨v6, rfl, hv6, hb6⟩
  obtain ⟨a6, n6, c6, rfl⟩ := hv6.isAgg
  have S6 : Hid _ := (S4.out.go hb6).nat hv6
  have K6 : Hid _ := K5.out.go hb6
  clear hv6 hb6 S4 K5
  go_wp2_with fail
  refine (rof_any n _ hn).mono ?_
  rintro e w7 ⟨v7, rfl, hv7, hb7⟩
  obtain ⟨a7, n7, c7, rfl⟩ := hv7.isAgg
  have S7 : Hid _ := (S6.out.go hb7).rnat hv7
  have K7 : Hid _ := K6.out.go hb7
  clear hv7 hb7 S6 K6
  go_wp2_with fail
  refine (told_true _ _ n i _ (S7.out.at (.agg #[.slice a6 n6 c6]) n) (S7.out.rat (.agg #[.slice a7 n7 c7]) n) (tx_word (by omega)) (rfits_of (n := 2) (by show n < 4294967296 ^ 2; omega) (by omega)) hi0 hi1).mono ?_
  rintro e w8 ⟨rfl, hb8⟩
  have S8 : Hid _ := S7.out.go hb8
  have K8 : Hid _ := K7.out.go hb8
  clear hb8 S7 K7
  go_wp2_with fail
  refine (fromBytes_any _ m c D _ (K8.out.wide hc) (by omega)).mono ?_
  rintro e w9 ⟨v9, rfl, hv9, hb9⟩
  obtain ⟨a9, n9, c9, rfl⟩ := hv9.isAgg
  have S9 : Hid _ := (S8.out.go hb9).nat hv9
  have K9 : Hid _ := K8.out.go hb9
  clear hv9 hb9 S8 K8
  go_wp2_with fail
  refine (rfromBytes_any _ m cap D _ K9.out.sl (by omega)).mono ?_
  rintro e w10 ⟨v10, rfl, hv10, hb10⟩
  obtain ⟨a10, n10, c10, rfl⟩ := hv10.isAgg
  have S10 : Hid _ := (S9.out.go hb10).rnat hv10
  have K10 : Hid _ := K9.out.go hb10
  have MM : Hid (Mid (BV D m)) := ⟨BV_P HM.out.2.2.1 hm6⟩
  clear hv10 hb10 S9 K9
  go_wp2_with fail
  refine (told_true _ _ (BV D m) i _ (S10.out.at (.agg #[.slice a9 n9 c9]) (BV D m)) (S10.out.rat (.agg #[.slice a10 n10 c10]) (BV D m)) MM.out.tx MM.out.rfits hi0 hi1).mono ?_
  rintro e w11 ⟨rfl, hb11⟩
  have S11 : Hid _ := S10.out.go hb11
  have K11 : Hid _ := K10.out.go hb11
  have d1 := S11.out.cell bx (.slice a2 n2 c2)
  have d2 := S11.out.cell by' (.slice a4 n4 c4)
  clear hb11 S10 K10
  go_wp2_with fail
  refine (told_true _ _ x i _ (S11.out.at (.agg #[.slice a2 n2 c2]) x) (S11.out.rat (.agg #[.slice a4 n4 c4]) x) HP.out.1 HP.out.2.1 hi0 hi1).mono ?_
  rintro e w12 ⟨rfl, hb12⟩
  have K12 : Hid _ := K11.out.go hb12
  clear hb12 S11 K11 d1 d2
  go_wp2_with fail
  refine (kept_true g c m a cap D _ K12.out.row K12.out.sl hm6 hc HB.out.2).mono ?_
  rintro e w13 ⟨rfl, hb13⟩
  have K13 : Hid _ := K12.out.go hb13
  clear hb13 K12
  go_wp2_with fail
  refine (told_true _ _ 0 i _ (isNat_zero _) (rnat_zero _) (tx_word (by omega)) (rfits_ten (i := 1) (by omega) (by omega)) hi0 hi1).mono ?_
  rintro e w14 ⟨rfl, hb14⟩
  have K14 : Hid _ := K13.out.go hb14
  clear hb14 K13
  go_wp2_with fail
  refine (started_true _).mono ?_
  rintro e w15 ⟨rfl, hb15⟩
  have K15 : Hid _ := K14.out.go hb15
  clear hb15 K14
  go_wp2_with fail
  go_ret
  exact ⟨rfl, K15.out.bel⟩
end Go.Proofs.Ytajkjfblpomdpaa
