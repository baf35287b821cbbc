/- Contracts of the program's functions, part 18: own work, joined in build order. -/
import Derived.Test.YtfkkomppfghagaaGreatDoorJ17
import Derived.Handy
import Derived.Laws.Bits64b
import Derived.Laws.Cover1
import Derived.Maps.AppendAt
import Derived.Laws.AppendOwnNone
import Derived.Deep.Slices
import Derived.Deep.Grids
import Derived.ChangeSlices
import Derived.ProofKit
import Derived.SizedLaws
import Derived.OpenShut
namespace Go.Proofs.YtfkkomppfghagaaGreatDoor
open Go.RowKit
set_option maxRecDepth 100000
set_option linter.unusedVariables false
def em : ByteArray := ⟨#[]⟩
def FC (s : ByteArray) (b i f : Nat) (u : Nat → Value) : Act := { tmps := #[.string s, u 1, .pointer (some ⟨b, 0, none⟩), u 3, .int .i64 (i : Int), .int .i64 (f : Int), u 6, u 7, u 8, u 9, u 10, u 11, u 12, u 13, u 14, u 15, u 16, u 17, u 18, u 19, u 20, u 21, u 22, u 23, u 24, u 25, u 26, u 27, u 28, u 29, u 30, u 31, u 32, u 33, u 34, u 35, u 36, u 37, u 38, u 39, u 40, u 41, u 42, u 43, u 44, u 45, u 46, u 47, u 48, u 49, u 50, u 51, u 52, u 53, u 54, u 55, u 56, u 57, u 58, u 59, u 60, u 61, u 62, u 63, u 64, u 65, u 66, u 67, u 68, u 69, u 70, u 71, u 72, u 73, u 74, u 75, u 76, u 77, u 78, u 79, u 80, u 81, u 82, u 83, u 84, u 85, u 86, u 87, u 88, u 89, u 90, u 91, u 92, u 93, u 94, u 95, u 96, u 97, u 98, u 99, u 100, u 101, u 102, u 103, u 104, u 105, u 106, u 107, u 108, u 109, u 110, u 111, u 112, u 113, u 114, u 115, u 116, u 117, u 118, u 119, u 120, u 121, u 122, u 123, u 124], defers := [] }
set_option maxHeartbeats 4000000 in
theorem same_true (v u : Value) (x : Nat) (w : World) (h : IsNat w v x) (k : RNat w u x) (hx : Fits x) (hr : RFits x) :
    Calls Tryz.prog 46 #[v, u] w fun e w' => e = .returned (.bool true) ∧ Below w.heap.size w w' := by
  obtain ⟨ap, mp, cp, rfl⟩ := h.isAgg
  obtain ⟨aq, mq, cq, rfl⟩ := k.isAgg
  have HX : Hid (Fits x ∧ RFits x) := ⟨hx, hr⟩
  have S0 : Hid _ := ((((sr_start w).nat h).rnat k).box (.slice ap mp cp) 45 _ rfl).box (.slice aq mq cq) 51 _ rfl
  clear h k hx hr
  go_enter Tryz.func46, Tryz.ntmps46
  go_wp2_with fail
  have hsz : (w.alloc (Obj.cells #[Value.slice ap mp cp] 45)).heap.size = w.heap.size + 1 := by simp
  rw [hsz] at S0
  clear hsz
  obtain ⟨w2, hw2⟩ : ∃ w2, w2 = (w.alloc (Obj.cells #[Value.slice ap mp cp] 45)).alloc (Obj.cells #[Value.slice aq mq cq] 51) := ⟨_, rfl⟩
  obtain ⟨b, hb⟩ : ∃ b, b = w.heap.size := ⟨_, rfl⟩
  rw [← hw2, ← hb] at S0
  rw [← hw2, ← hb]
  clear hw2 hb
  refine wp_region_inv (JB w2 [sNat (x), sBy (x), sEq (.string (byteText (x))), sR (x), sBy (x), sEq (.string (byteText (x))), sEq (.bool true), sEq (.bool true), sNat (x), sEq (.int .i64 ((bitLen x : Nat) : Int)), sR (x), sEq (.int .i64 ((bitLen x : Nat) : Int)), sEq (.bool true), sEq (.bool true), sEq (.bool true)] []) 19 (by kernel_rfl) rfl (by kernel_rfl) (JB.start _ _ _) (fun HG HN => ⟨?_, ?_, ?_, ?_, ?_, ?_, ?_, ?_, ?_, ?_, ?_, ?_, ?_, ?_, ?_, trivial⟩) ?_
  · intro L vs a w' hJ hF hP hL
    have q2 : (a.tmps[2]?).getD undef = .pointer (some ⟨b, 0, none⟩) := hF.old 2 rfl
    have cb := cell_later hJ.bel (S0.out.cell (b) (.slice ap mp cp))
    exact run_val (v := .agg #[.slice ap mp cp]) rfl (by simp [execOp, go_sem, q2, cb]) ⟨_, rfl, hJ.step hL rfl (Below.refl _ _) (by exact ((S0.out.at (.agg #[.slice ap mp cp]) (x)).mono hJ.bel))⟩
  · intro L vs a w' hJ hF hP hL
    have p0 : L 0 = true := hP ⟨0, .data⟩ (by simp) rfl
    have s0 : IsNat w' (vs 0) (x) := hJ.sp 0 p0
    have q5 := hF.slot 0 5 rfl p0
    refine run_call (f := 74) (args := #[vs 0]) rfl (by simp [go_sem, q5]) (bytes_any _ x _ s0 HX.out.1) ?_
    rintro e w2 ⟨gb, rfl, hg, hR, hb⟩
    exact ⟨_, rfl, _, rfl, hJ.step hL rfl hb (by exact ⟨gb, rfl, fun i hi => hR.cell hi⟩)⟩
  · intro L vs a w' hJ hF hP hL
    have p1 : L 1 = true := hP ⟨1, .data⟩ (by simp) rfl
    have s1 : ByIs w' (vs 1) (x) := hJ.sp 1 p1
    have q6 := hF.slot 1 6 rfl p1
    obtain ⟨gb, e1, e2⟩ := s1
    have cv := conv_by e2
    exact run_val (v := .string (byteText (x))) rfl (by simp [execOp, go_sem, q6, e1, cv]) ⟨_, rfl, hJ.step hL rfl (Below.refl _ _) (by exact rfl)⟩
  · intro L vs a w' hJ hF hP hL
    have q3 : (a.tmps[3]?).getD undef = .pointer (some ⟨b + 1, 0, none⟩) := hF.old 3 rfl
    have cb := cell_later hJ.bel (S0.out.cell (b + 1) (.slice aq mq cq))
    exact run_val (v := .agg #[.slice aq mq cq]) rfl (by simp [execOp, go_sem, q3, cb]) ⟨_, rfl, hJ.step hL rfl (Below.refl _ _) (by exact ((S0.out.rat (.agg #[.slice aq mq cq]) (x)).mono hJ.bel))⟩
  · intro L vs a w' hJ hF hP hL
    have p3 : L 3 = true := hP ⟨3, .data⟩ (by simp) rfl
    have s3 : RNat w' (vs 3) (x) := hJ.sp 3 p3
    have q8 := hF.slot 3 8 rfl p3
    refine run_call (f := 75) (args := #[vs 3]) rfl (by simp [go_sem, q8]) (rbytes_any _ x _ s3 HX.out.2) ?_
    rintro e w2 ⟨gb, rfl, hg, hR, hb⟩
    exact ⟨_, rfl, _, rfl, hJ.step hL rfl hb (by exact ⟨gb, rfl, fun i hi => hR.cell hi⟩)⟩
  · intro L vs a w' hJ hF hP hL
    have p4 : L 4 = true := hP ⟨4, .data⟩ (by simp) rfl
    have s4 : ByIs w' (vs 4) (x) := hJ.sp 4 p4
    have q9 := hF.slot 4 9 rfl p4
    obtain ⟨gb, e1, e2⟩ := s4
    have cv := conv_by e2
    exact run_val (v := .string (byteText (x))) rfl (by simp [execOp, go_sem, q9, e1, cv]) ⟨_, rfl, hJ.step hL rfl (Below.refl _ _) (by exact rfl)⟩
  · intro L vs a w' hJ hF hP hL
    have p2 : L 2 = true := hP ⟨2, .data⟩ (by simp) rfl
    have s2 : vs 2 = .string (byteText (x)) := hJ.sp 2 p2
    have q7 := hF.slot 2 7 rfl p2
    have p5 : L 5 = true := hP ⟨5, .data⟩ (by simp) rfl
    have s5 : vs 5 = .string (byteText (x)) := hJ.sp 5 p5
    have q10 := hF.slot 5 10 rfl p5
    exact run_val (v := .bool true) rfl (by simp [execOp, go_sem, q7, s2, q10, s5]) ⟨_, rfl, hJ.step hL rfl (Below.refl _ _) (by exact rfl)⟩
  · intro L vs a w' hJ hF hP hL
    have p6 : L 6 = true := hP ⟨6, .data⟩ (by simp) rfl
    have s6 : vs 6 = .bool true := hJ.sp 6 p6
    have q11 := hF.slot 6 11 rfl p6
    exact run_val (v := .bool true) rfl (by simp [execOp, go_sem, q11, s6]) ⟨_, rfl, hJ.step hL rfl (Below.refl _ _) (by exact rfl)⟩
  · intro L vs a w' hJ hF hP hL
    have q2 : (a.tmps[2]?).getD undef = .pointer (some ⟨b, 0, none⟩) := hF.old 2 rfl
    have cb := cell_later hJ.bel (S0.out.cell (b) (.slice ap mp cp))
    exact run_val (v := .agg #[.slice ap mp cp]) (hF.wants 19 HN HG _ 7 true true rfl rfl (hP ⟨7, .guard⟩ (by simp) rfl) (hJ.sp 7 (hP ⟨7, .guard⟩ (by simp) rfl))) (by simp [execOp, go_sem, q2, cb]) ⟨_, rfl, hJ.step hL rfl (Below.refl _ _) (by exact ((S0.out.at (.agg #[.slice ap mp cp]) (x)).mono hJ.bel))⟩
  · intro L vs a w' hJ hF hP hL
    have p8 : L 8 = true := hP ⟨8, .data⟩ (by simp) rfl
    have s8 : IsNat w' (vs 8) (x) := hJ.sp 8 p8
    have q13 := hF.slot 8 13 rfl p8
    refine run_call (f := 76) (args := #[vs 8]) (hF.wants 19 HN HG _ 7 true true rfl rfl (hP ⟨7, .guard⟩ (by simp) rfl) (hJ.sp 7 (hP ⟨7, .guard⟩ (by simp) rfl))) (by simp [go_sem, q13]) (len_any _ x _ s8 HX.out.1) ?_
    rintro e w2 ⟨rfl, hb⟩
    exact ⟨_, rfl, _, rfl, hJ.step hL rfl hb (by exact rfl)⟩
  · intro L vs a w' hJ hF hP hL
    have q3 : (a.tmps[3]?).getD undef = .pointer (some ⟨b + 1, 0, none⟩) := hF.old 3 rfl
    have cb := cell_later hJ.bel (S0.out.cell (b + 1) (.slice aq mq cq))
    exact run_val (v := .agg #[.slice aq mq cq]) (hF.wants 19 HN HG _ 7 true true rfl rfl (hP ⟨7, .guard⟩ (by simp) rfl) (hJ.sp 7 (hP ⟨7, .guard⟩ (by simp) rfl))) (by simp [execOp, go_sem, q3, cb]) ⟨_, rfl, hJ.step hL rfl (Below.refl _ _) (by exact ((S0.out.rat (.agg #[.slice aq mq cq]) (x)).mono hJ.bel))⟩
  · intro L vs a w' hJ hF hP hL
    have p10 : L 10 = true := hP ⟨10, .data⟩ (by simp) rfl
    have s10 : RNat w' (vs 10) (x) := hJ.sp 10 p10
    have q15 := hF.slot 10 15 rfl p10
    refine run_call (f := 77) (args := #[vs 10]) (hF.wants 19 HN HG _ 7 true true rfl rfl (hP ⟨7, .guard⟩ (by simp) rfl) (hJ.sp 7 (hP ⟨7, .guard⟩ (by simp) rfl))) (by simp [go_sem, q15]) (rlen_any _ x _ s10 HX.out.2) ?_
    rintro e w2 ⟨rfl, hb⟩
    exact ⟨_, rfl, _, rfl, hJ.step hL rfl hb (by exact rfl)⟩
  · intro L vs a w' hJ hF hP hL
    have p9 : L 9 = true := hP ⟨9, .data⟩ (by simp) rfl
    have s9 : vs 9 = .int .i64 ((bitLen x : Nat) : Int) := hJ.sp 9 p9
    have q14 := hF.slot 9 14 rfl p9
    have p11 : L 11 = true := hP ⟨11, .data⟩ (by simp) rfl
    have s11 : vs 11 = .int .i64 ((bitLen x : Nat) : Int) := hJ.sp 11 p11
    have q16 := hF.slot 11 16 rfl p11
    exact run_val (v := .bool true) (hF.wants 19 HN HG _ 7 true true rfl rfl (hP ⟨7, .guard⟩ (by simp) rfl) (hJ.sp 7 (hP ⟨7, .guard⟩ (by simp) rfl))) (by simp [execOp, go_sem, q14, s9, q16, s11]) ⟨_, rfl, hJ.step hL rfl (Below.refl _ _) (by exact rfl)⟩
  · intro L vs a w' hJ hF hP hL
    have p7 : L 7 = true := hP ⟨7, .data⟩ (by simp) rfl
    have s7 : vs 7 = .bool true := hJ.sp 7 p7
    have q12 := hF.slot 7 12 rfl p7
    have p12 : L 12 = true := hP ⟨12, .data⟩ (by simp) rfl
    have s12 : vs 12 = .bool true := hJ.sp 12 p12
    have q17 := hF.slot 12 17 rfl p12
    exact run_val (v := .bool true) rfl (by simp [execOp, go_sem, q12, s7, q17, s12]) ⟨_, rfl, hJ.step hL rfl (Below.refl _ _) (by exact rfl)⟩
  · intro L vs a w' hJ hF hP hL
    have p13 : L 13 = true := hP ⟨13, .data⟩ (by simp) rfl
    have s13 : vs 13 = .bool true := hJ.sp 13 p13
    have q18 := hF.slot 13 18 rfl p13
    exact run_val (v := .bool true) rfl (by simp [execOp, go_sem, q18, s13]) ⟨_, rfl, hJ.step hL rfl (Below.refl _ _) (by exact rfl)⟩
  intro L vs w' hA hJ
  have s14 : vs 14 = .bool true := hJ.sp 14 (hA 14 (by simp))
  simp only [putL, Act.put, List.setIfInBounds_toArray, List.set_cons_zero, List.set_cons_succ, Nat.reduceAdd]
  simp only [s14]
  go_wp2_with fail
  go_ret
  exact ⟨rfl, (S0.out.go hJ.bel).bel⟩
set_option maxHeartbeats 400000 in
theorem same3_true (v u : Value) (p q : Nat) (w : World) (h : Rt w v p q) (k : RRt w u p q) (hp : RS p) (hq : RS q) :
    Calls Tryz.prog 15 #[v, u] w fun e w' => e = .returned (.bool true) ∧ Below w.heap.size w w' := by
  obtain ⟨a, n, c, a', n', c', e0, _, _⟩ := h.raw
  subst e0
  obtain ⟨d, m, g, d', m', g', e1, k1, k2⟩ := k
  subst e1
  obtain ⟨w0, hw0⟩ : ∃ w0, w0 = (w.alloc (.cells #[.slice a n c, .slice a' n' c'] 47)).alloc (.cells #[.slice d m g, .slice d' m' g'] 53) := ⟨_, rfl⟩
  have ba : Below w.heap.size w w0 := by rw [hw0]; exact bel_al (bel_al (bel_refl w))
  have e0 : w0.cell? ⟨w.heap.size + 1, 0, none⟩ = some (.slice d m g) := by rw [hw0]; simp [go_sem]
  have e1 : w0.cell? ⟨w.heap.size + 1, 1, none⟩ = some (.slice d' m' g') := by rw [hw0]; simp [go_sem]
  have HH : Hid (Rt w0 (.agg #[.slice a n c, .slice a' n' c']) p q ∧ RNat w0 (.agg #[.slice d m g]) p ∧ RNat w0 (.agg #[.slice d' m' g']) q ∧ RS p ∧ RS q ∧ Below w.heap.size w w0) := ⟨h.mono ba, k1.mono ba, k2.mono ba, hp, hq, ba⟩
  clear h k1 k2 hp hq ba
  go_enter Tryz.func15, Tryz.ntmps15
  go_wp2_with fail
  rw [← hw0]
  clear hw0
  refine (parts_any _ p q _ HH.out.1 HH.out.2.2.2.2.1.fits).mono ?_
  rintro e w1 ⟨v1, u1, rfl, hv1, hu1, hb1⟩
  obtain ⟨a1, n1, c1, rfl⟩ := hv1.isAgg
  obtain ⟨a2, n2, c2, rfl⟩ := hu1.isAgg
  obtain ⟨w2, hw2⟩ : ∃ w2, w2 = (w1.alloc (.cells #[.slice a1 n1 c1] 45)).alloc (.cells #[.slice a2 n2 c2] 45) := ⟨_, rfl⟩
  have b12 : Below w1.heap.size w1 w2 := by rw [hw2]; exact bel_al (bel_al (bel_refl w1))
  have b2 : Below w0.heap.size w0 w2 := bel_go hb1 b12
  have d0 := cell_later b2 e0
  have d1 := cell_later b2 e1
  have x0 : w2.cell? ⟨w1.heap.size, 0, none⟩ = some (.slice a1 n1 c1) := by rw [hw2]; simp [go_sem]
  have x1 : w2.cell? ⟨w1.heap.size + 1, 0, none⟩ = some (.slice a2 n2 c2) := by rw [hw2]; simp [go_sem]
  have I2 : Hid (IsNat w2 (.agg #[.slice a1 n1 c1]) p ∧ IsNat w2 (.agg #[.slice a2 n2 c2]) q ∧ RNat w2 (.agg #[.slice d m g]) p ∧ RNat w2 (.agg #[.slice d' m' g']) q ∧ Below w.heap.size w w2) := ⟨hv1.mono b12, hu1.mono b12, HH.out.2.1.mono b2, HH.out.2.2.1.mono b2, bel_go HH.out.2.2.2.2.2 b2⟩
  clear hv1 hu1 hb1 b12 b2 e0 e1
  rw [hw2] at d0 d1 x0 x1
  go_wp2_with fail
  rw [← hw2] at d0 d1 x0 x1
  rw [← hw2]
  clear hw2
  refine (same_true _ _ p _ I2.out.1 I2.out.2.2.1 HH.out.2.2.2.1.fits HH.out.2.2.2.1.rfits).mono ?_
  rintro e w3 ⟨rfl, hb3⟩
  have y1 := cell_later hb3 x1
  have f1 := cell_later hb3 d1
  have I3 : Hid (IsNat w3 (.agg #[.slice a2 n2 c2]) q ∧ RNat w3 (.agg #[.slice d' m' g']) q ∧ Below w.heap.size w w3) := ⟨I2.out.2.1.mono hb3, I2.out.2.2.2.1.mono hb3, bel_go I2.out.2.2.2.2 hb3⟩
  clear hb3 I2 x0 x1 d0 d1
  go_wp2_with fail
  refine (same_true _ _ q _ I3.out.1 I3.out.2.1 HH.out.2.2.2.2.1.fits HH.out.2.2.2.2.1.rfits).mono ?_
  rintro e w4 ⟨rfl, hb4⟩
  have B4 : Hid (Below w.heap.size w w4) := bel_go I3.out.2.2 hb4
  clear hb4
  go_wp2_with fail
  go_ret
  exact ⟨rfl, B4.out⟩
def dst (a b : Nat) : Nat := (a - b) + (b - a)
def Fw2 (base : Nat) (W : World) (v : Value) (L : List (Value × Value)) : Prop := W.ownsRow base 53 2 v L.length (fcs L)
theorem Fw2.nil (base : Nat) (W : World) : Fw2 base W (.slice none 0 0) [] := ⟨rfl, .inl ⟨rfl, rfl⟩⟩
theorem Fw2.own {base : Nat} {W : World} {v : Value} {L : List (Value × Value)} (h : Fw2 base W v L) {k : Nat} (hk : v.ownBlock = some k) : base ≤ k ∧ ∃ cs, W.heap[k]? = some (.cells cs 53) := by
  rcases h.2 with ⟨e, _⟩ | ⟨g, cap', cur, e, hb', hg, _⟩
  · rw [e] at hk
    cases hk
  rw [e] at hk
  cases hk
  exact ⟨hb', cur, hg⟩
theorem Fw2.kept {base : Nat} {W W' : World} {v : Value} {L : List (Value × Value)} (h : Fw2 base W v L) (hk : ∀ k, v.ownBlock = some k → W'.heap[k]? = W.heap[k]?) : Fw2 base W' v L := by
  refine ⟨h.1, h.2.imp id ?_⟩
  rintro ⟨g, cap, cur, e, hb, hg, rest⟩
  exact ⟨g, cap, cur, e, hb, (hk g (by rw [e]; rfl)).trans hg, rest⟩
theorem Fw2.below {base : Nat} {W W' : World} {v : Value} {L : List (Value × Value)} (h : Fw2 base W v L) (hB : Below W.heap.size W W') : Fw2 base W' v L := h.kept fun k hk => by
  obtain ⟨_, cs, e⟩ := h.own hk
  exact hB.block _ (Array.getElem?_eq_some_iff.1 e).1
theorem Tryz.infoFr2 : (Tryz.prog.info? 53).map (fun i => (i.zero, i.size, i.bytes)) = some (some (.agg #[.slice none 0 0, .slice none 0 0]), 2, 48) := by kernel_rfl
theorem Fw2.sl {base : Nat} {W : World} {v : Value} {L : List (Value × Value)} (h : Fw2 base W v L) : ∃ a cap, v = .slice a L.length cap ∧ L.length ≤ cap ∧ cap ≤ 9223372036854775807 ∧ (0 < L.length → ∃ g, a = some ⟨g, 0, none⟩ ∧ g < W.heap.size ∧ base ≤ g ∧ ∀ i, (hi : i < L.length) → W.cell? ⟨g, i * 2, none⟩ = some (L[i].1) ∧ W.cell? ⟨g, i * 2 + 1, none⟩ = some (L[i].2)) := by
  rcases h.2 with ⟨e, e0⟩ | ⟨g, cap, cur, e, hb', hg, h1, h2, h3, h4⟩
  · refine ⟨none, 0, by rw [e]; congr 1; omega, by omega, by omega, fun h => by omega⟩
  refine ⟨_, cap, e, h1, by simp only [maxLen] at h2; omega, fun _ => ⟨g, rfl, (Array.getElem?_eq_some_iff.1 hg).1, hb', fun i hi => ?_⟩⟩
  have e4 : ∀ j, j < L.length * 2 → cur[j]? = (fcs L)[j]? := fun j hj => by
    have q4 := congrArg (fun l => l[j]?) h4
    rw [List.getElem?_take_of_lt hj, Array.getElem?_toList] at q4
    exact q4
  obtain ⟨f1, f2⟩ := fcs_get L i hi
  have a1 := e4 (i * 2) (by omega)
  have a2 := e4 (i * 2 + 1) (by omega)
  rw [f1] at a1
  rw [f2] at a2
  simp only [World.cell?, hg]
  simp [a1, a2]
theorem odd_slices {W : World} {k : Nat} {cur : Array Value} {t : TypeId} (hc : W.heap[k]? = some (.cells cur t)) (hi : ∀ x ∈ cur.toList, isSl x) : Odd W k := by
  intro i kk n e
  have e2 : cur[i]? = some (.int kk n) := by simpa [World.cell?, hc] using e
  obtain ⟨hl, hv⟩ := Array.getElem?_eq_some_iff.1 e2
  obtain ⟨a, m, c, hm⟩ := hi _ (Array.getElem_mem_toList hl)
  rw [hv] at hm
  cases hm
theorem isSl_zeros (n : Nat) : ∀ x ∈ (Builtin.zeroCells (Value.agg #[.slice none 0 0, .slice none 0 0]).cells n).toList, isSl x := by
  intro x hx
  simp [Builtin.zeroCells, Value.cells] at hx
  obtain ⟨j, _, hx⟩ := hx
  rcases (show j % 2 = 0 ∨ j % 2 = 1 by omega) with e | e <;> simp [e] at hx <;> exact ⟨none, 0, 0, hx.symm⟩
structure Fo (base : Nat) (W : World) (v : Value) (L : List (Value × Value)) : Prop where
  row : Fw base W v L
  odd : ∀ k, v.ownBlock = some k → ∃ cur, W.heap[k]? = some (.cells cur 47) ∧ ∀ x ∈ cur.toList, isSl x
theorem Fo.nil (base : Nat) (W : World) : Fo base W (.slice none 0 0) [] := ⟨Fw.nil _ _, fun k h => by cases h⟩
theorem Fo.kept {base : Nat} {W W' : World} {v : Value} {L : List (Value × Value)} (h : Fo base W v L) (hk : ∀ k, v.ownBlock = some k → W'.heap[k]? = W.heap[k]?) : Fo base W' v L := by
  refine ⟨h.row.kept hk, fun k e => ?_⟩
  obtain ⟨cur, hc, hi⟩ := h.odd k e
  exact ⟨cur, (hk k e).trans hc, hi⟩
theorem Fo.below {base : Nat} {W W' : World} {v : Value} {L : List (Value × Value)} (h : Fo base W v L) (hB : Below W.heap.size W W') : Fo base W' v L := h.kept fun k hk => by
  obtain ⟨_, cs, e⟩ := h.row.own hk
  exact hB.block _ (Array.getElem?_eq_some_iff.1 e).1
theorem Fo.oddK {base : Nat} {W : World} {v : Value} {L : List (Value × Value)} (h : Fo base W v L) : ∀ k, some k = v.ownBlock → Odd W k := fun k e => by
  obtain ⟨cur, hc, hi⟩ := h.odd k e.symm
  exact odd_slices hc hi
theorem app_fo (w : World) (ty : TypeId) (base : Nat) (v : Value) (L : List (Value × Value)) (hown : Fo base w v L) (b : Nat) (y : Value × Value) (h0 : w.cell? ⟨b, 0, none⟩ = some y.1) (h1 : w.cell? ⟨b, 1, none⟩ = some y.2) (s0 : isSl y.1) (s1 : isSl y.2) (hlim : L.length ≤ 1000000) (hb : base ≤ w.heap.size) :
    ∃ v' w', (Builtin.append_ #[28, 28] ty #[v, .slice (some ⟨b, 0, none⟩) 1 1]).run Tryz.prog w = .ok v' w' ∧ Fo base w' v' (L ++ [y]) ∧ w.grownBy w' v.ownBlock ∧ (v'.ownBlock = v.ownBlock ∨ v'.ownBlock = some w.heap.size) := by
  obtain ⟨i, hi, hz, hsz, hby⟩ := info_parts Tryz.infoFr
  have hnews : ∀ j u, (fcs [y])[j]? = some u → w.cell? ((⟨b, 0, none⟩ : Addr).add j) = some u := fun j u hj => by
    rw [ax_addF, Nat.zero_add]
    match j, hj with
    | 0, hj => cases hj; exact h0
    | 1, hj => cases hj; exact h1
    | j + 2, hj => simp [fcs] at hj
  have onek : ∀ x ∈ fcs [y], isSl x := fun x hx => by
    simp [fcs] at hx
    rcases hx with rfl | rfl
    · exact s0
    exact s1
  have one : ∀ u ∈ fcs [y], u.oneCell' = true := fun u hu => by
    obtain ⟨a, n, c, rfl⟩ := onek u hu
    rfl
  have hl1 : (fcs [y]).length = 1 * 2 := by rw [fcs_len]; rfl
  obtain ⟨v', w', hr, r1, r2, _, r4⟩ := run_append_own_at (P := Tryz.prog) w base 28 ty 47 i _ 2 48 Tryz.underlying28 hi hz hsz hby rfl (by omega) v _ _ hown.row ⟨b, 0, none⟩ 1 1 (fcs [y]) rfl hnews one (by simp only [maxLen]; omega) (by omega) hb
  refine ⟨v', w', hr, ⟨?_, ?_⟩, r2, r4⟩
  · show World.ownsRow _ _ _ _ _ _ _
    rw [List.length_append, fcs_app]
    exact r1
  intro g' hg'
  rcases hown.row.2 with ⟨e, e0⟩ | ⟨g, cap, cur, e, hbg, hg, hnc, hcm, hcs, htake⟩
  · subst e
    have q := run_append_nil (P := Tryz.prog) w 28 ty 47 i _ Tryz.underlying28 hi hz ⟨b, 0, none⟩ 1 1 (fcs [y]) (by rw [hsz]; exact hl1) hnews (by omega) (by omega) (by rw [hby]; omega)
    rw [hr] at q
    injection q with q1 q2
    rw [q1] at hg'
    cases hg'
    rw [q2]
    refine ⟨_, heap_alloc_new w.drew _, fun x hx => ?_⟩
    rw [Array.toList_append, List.mem_append] at hx
    rcases hx with hx | hx
    · exact onek x (by simpa using hx)
    exact isSl_zeros _ x hx
  subst e
  obtain ⟨c2, hc2, hi2⟩ := hown.odd g rfl
  rw [hg] at hc2
  injection hc2 with hc2
  injection hc2 with hc2
  subst hc2
  by_cases hroom : L.length + 1 ≤ cap
  · have q := run_append_room (P := Tryz.prog) w 28 ty 47 i Tryz.underlying28 hi g L.length cap cur hg ⟨b, 0, none⟩ 1 1 (fcs [y]) (by rw [hsz]; exact hl1) hnews one hroom (by rw [hsz, hl1, hcs]; omega)
    rw [hr] at q
    injection q with q1 q2
    rw [q1] at hg'
    cases hg'
    rw [q2]
    refine ⟨_, setRow_heap w g cur _ 47 _ hg, fun x hx => ?_⟩
    rw [List.mem_append, List.mem_append] at hx
    rcases hx with (hx | hx) | hx
    · exact hi2 x (List.mem_of_mem_take hx)
    · exact onek x hx
    exact hi2 x (List.mem_of_mem_drop hx)
  have holds : ∀ j u, (fcs L)[j]? = some u → w.cell? ((⟨g, 0, none⟩ : Addr).add j) = some u := World.ownsRow.cells (g := g) hown.row rfl
  have q := run_append_grow (P := Tryz.prog) w 28 ty 47 i _ Tryz.underlying28 hi hz ⟨g, 0, none⟩ L.length cap (fcs L) (by rw [hsz]; exact fcs_len L) holds ⟨b, 0, none⟩ 1 1 (fcs [y]) (by rw [hsz]; exact hl1) hnews (by omega) (by omega) (by rw [hby]; exact growslice_fits (by omega) (by omega))
  rw [hr] at q
  injection q with q1 q2
  rw [q1] at hg'
  cases hg'
  rw [q2]
  refine ⟨_, heap_alloc_new w.drew _, ?_⟩
  intro x hx
  rw [Array.toList_append, List.mem_append, Array.toList_append, List.mem_append] at hx
  rcases hx with (hx | hx) | hx
  · exact hi2 x (List.mem_of_mem_take (by rw [htake]; simpa using hx))
  · exact onek x (by simpa using hx)
  exact isSl_zeros _ x hx
theorem wp_appF {w : World} {ops : Array Oper} {rest : List Oper} {o : Oper} {a : Act} {Q : Exit → Act → World → Prop} (hgd : o.guard = none) (s x : Operand)
    (ho : o.op = .call { callee := .builtin .append, args := #[s, x], argTypes := #[28, 28] }) (base : Nat) (v : Value) (L : List (Value × Value)) (hs : a.eval s = v) (hown : Fo base w v L)
    (b : Nat) (y : Value × Value) (hx : a.eval x = .slice (some ⟨b, 0, none⟩) 1 1) (h0 : w.cell? ⟨b, 0, none⟩ = some y.1) (h1 : w.cell? ⟨b, 1, none⟩ = some y.2) (s0 : isSl y.1) (s1 : isSl y.2) (hlim : L.length ≤ 1000000) (hb : base ≤ w.heap.size)
    (h : ∀ v' w', Hid (Fo base w' v' (L ++ [y]) ∧ w.grownBy w' v.ownBlock) → wpList Tryz.prog ops Q rest (a.put o.dst v') w') : wpList Tryz.prog ops Q (o :: rest) a w := by
  refine wpList_plain hgd fun K hK => ?_
  obtain ⟨v', w', hr, h2, h3, h4⟩ := app_fo w o.type base v L hown b y h0 h1 s0 s1 hlim hb
  unfold Oper.wp execOp
  simp only [ho, resolve, invoke, builtin, Sem.run_bind, Sem.run_pure, Result.andThen_ok, List.map_toArray, List.map_cons, List.map_nil, hs, hx, hr]
  exact hK _ _ (h v' w' ⟨h2, h3⟩)
structure Fo2 (base : Nat) (W : World) (v : Value) (L : List (Value × Value)) : Prop where
  row : Fw2 base W v L
  odd : ∀ k, v.ownBlock = some k → ∃ cur, W.heap[k]? = some (.cells cur 53) ∧ ∀ x ∈ cur.toList, isSl x
theorem Fo2.nil (base : Nat) (W : World) : Fo2 base W (.slice none 0 0) [] := ⟨Fw2.nil _ _, fun k h => by cases h⟩
theorem Fo2.kept {base : Nat} {W W' : World} {v : Value} {L : List (Value × Value)} (h : Fo2 base W v L) (hk : ∀ k, v.ownBlock = some k → W'.heap[k]? = W.heap[k]?) : Fo2 base W' v L := by
  refine ⟨h.row.kept hk, fun k e => ?_⟩
  obtain ⟨cur, hc, hi⟩ := h.odd k e
  exact ⟨cur, (hk k e).trans hc, hi⟩
theorem Fo2.below {base : Nat} {W W' : World} {v : Value} {L : List (Value × Value)} (h : Fo2 base W v L) (hB : Below W.heap.size W W') : Fo2 base W' v L := h.kept fun k hk => by
  obtain ⟨_, cs, e⟩ := h.row.own hk
  exact hB.block _ (Array.getElem?_eq_some_iff.1 e).1
theorem Fo2.oddK {base : Nat} {W : World} {v : Value} {L : List (Value × Value)} (h : Fo2 base W v L) : ∀ k, some k = v.ownBlock → Odd W k := fun k e => by
  obtain ⟨cur, hc, hi⟩ := h.odd k e.symm
  exact odd_slices hc hi
theorem app_fo2 (w : World) (ty : TypeId) (base : Nat) (v : Value) (L : List (Value × Value)) (hown : Fo2 base w v L) (b : Nat) (y : Value × Value) (h0 : w.cell? ⟨b, 0, none⟩ = some y.1) (h1 : w.cell? ⟨b, 1, none⟩ = some y.2) (s0 : isSl y.1) (s1 : isSl y.2) (hlim : L.length ≤ 1000000) (hb : base ≤ w.heap.size) :
    ∃ v' w', (Builtin.append_ #[29, 29] ty #[v, .slice (some ⟨b, 0, none⟩) 1 1]).run Tryz.prog w = .ok v' w' ∧ Fo2 base w' v' (L ++ [y]) ∧ w.grownBy w' v.ownBlock ∧ (v'.ownBlock = v.ownBlock ∨ v'.ownBlock = some w.heap.size) := by
  obtain ⟨i, hi, hz, hsz, hby⟩ := info_parts Tryz.infoFr2
  have hnews : ∀ j u, (fcs [y])[j]? = some u → w.cell? ((⟨b, 0, none⟩ : Addr).add j) = some u := fun j u hj => by
    rw [ax_addF, Nat.zero_add]
    match j, hj with
    | 0, hj => cases hj; exact h0
    | 1, hj => cases hj; exact h1
    | j + 2, hj => simp [fcs] at hj
  have onek : ∀ x ∈ fcs [y], isSl x := fun x hx => by
    simp [fcs] at hx
    rcases hx with rfl | rfl
    · exact s0
    exact s1
  have one : ∀ u ∈ fcs [y], u.oneCell' = true := fun u hu => by
    obtain ⟨a, n, c, rfl⟩ := onek u hu
    rfl
  have hl1 : (fcs [y]).length = 1 * 2 := by rw [fcs_len]; rfl
  obtain ⟨v', w', hr, r1, r2, _, r4⟩ := run_append_own_at (P := Tryz.prog) w base 29 ty 53 i _ 2 48 Tryz.underlying29 hi hz hsz hby rfl (by omega) v _ _ hown.row ⟨b, 0, none⟩ 1 1 (fcs [y]) rfl hnews one (by simp only [maxLen]; omega) (by omega) hb
  refine ⟨v', w', hr, ⟨?_, ?_⟩, r2, r4⟩
  · show World.ownsRow _ _ _ _ _ _ _
    rw [List.length_append, fcs_app]
    exact r1
  intro g' hg'
  rcases hown.row.2 with ⟨e, e0⟩ | ⟨g, cap, cur, e, hbg, hg, hnc, hcm, hcs, htake⟩
  · subst e
    have q := run_append_nil (P := Tryz.prog) w 29 ty 53 i _ Tryz.underlying29 hi hz ⟨b, 0, none⟩ 1 1 (fcs [y]) (by rw [hsz]; exact hl1) hnews (by omega) (by omega) (by rw [hby]; omega)
    rw [hr] at q
    injection q with q1 q2
    rw [q1] at hg'
    cases hg'
    rw [q2]
    refine ⟨_, heap_alloc_new w.drew _, fun x hx => ?_⟩
    rw [Array.toList_append, List.mem_append] at hx
    rcases hx with hx | hx
    · exact onek x (by simpa using hx)
    exact isSl_zeros _ x hx
  subst e
  obtain ⟨c2, hc2, hi2⟩ := hown.odd g rfl
  rw [hg] at hc2
  injection hc2 with hc2
  injection hc2 with hc2
  subst hc2
  by_cases hroom : L.length + 1 ≤ cap
  · have q := run_append_room (P := Tryz.prog) w 29 ty 53 i Tryz.underlying29 hi g L.length cap cur hg ⟨b, 0, none⟩ 1 1 (fcs [y]) (by rw [hsz]; exact hl1) hnews one hroom (by rw [hsz, hl1, hcs]; omega)
    rw [hr] at q
    injection q with q1 q2
    rw [q1] at hg'
    cases hg'
    rw [q2]
    refine ⟨_, setRow_heap w g cur _ 53 _ hg, fun x hx => ?_⟩
    rw [List.mem_append, List.mem_append] at hx
    rcases hx with (hx | hx) | hx
    · exact hi2 x (List.mem_of_mem_take hx)
    · exact onek x hx
    exact hi2 x (List.mem_of_mem_drop hx)
  have holds : ∀ j u, (fcs L)[j]? = some u → w.cell? ((⟨g, 0, none⟩ : Addr).add j) = some u := World.ownsRow.cells (g := g) hown.row rfl
  have q := run_append_grow (P := Tryz.prog) w 29 ty 53 i _ Tryz.underlying29 hi hz ⟨g, 0, none⟩ L.length cap (fcs L) (by rw [hsz]; exact fcs_len L) holds ⟨b, 0, none⟩ 1 1 (fcs [y]) (by rw [hsz]; exact hl1) hnews (by omega) (by omega) (by rw [hby]; exact growslice_fits (by omega) (by omega))
  rw [hr] at q
  injection q with q1 q2
  rw [q1] at hg'
  cases hg'
  rw [q2]
  refine ⟨_, heap_alloc_new w.drew _, ?_⟩
  intro x hx
  rw [Array.toList_append, List.mem_append, Array.toList_append, List.mem_append] at hx
  rcases hx with (hx | hx) | hx
  · exact hi2 x (List.mem_of_mem_take (by rw [htake]; simpa using hx))
  · exact onek x (by simpa using hx)
  exact isSl_zeros _ x hx
theorem wp_appF2 {w : World} {ops : Array Oper} {rest : List Oper} {o : Oper} {a : Act} {Q : Exit → Act → World → Prop} (hgd : o.guard = none) (s x : Operand)
    (ho : o.op = .call { callee := .builtin .append, args := #[s, x], argTypes := #[29, 29] }) (base : Nat) (v : Value) (L : List (Value × Value)) (hs : a.eval s = v) (hown : Fo2 base w v L)
    (b : Nat) (y : Value × Value) (hx : a.eval x = .slice (some ⟨b, 0, none⟩) 1 1) (h0 : w.cell? ⟨b, 0, none⟩ = some y.1) (h1 : w.cell? ⟨b, 1, none⟩ = some y.2) (s0 : isSl y.1) (s1 : isSl y.2) (hlim : L.length ≤ 1000000) (hb : base ≤ w.heap.size)
    (h : ∀ v' w', Hid (Fo2 base w' v' (L ++ [y]) ∧ w.grownBy w' v.ownBlock) → wpList Tryz.prog ops Q rest (a.put o.dst v') w') : wpList Tryz.prog ops Q (o :: rest) a w := by
  refine wpList_plain hgd fun K hK => ?_
  obtain ⟨v', w', hr, h2, h3, h4⟩ := app_fo2 w o.type base v L hown b y h0 h1 s0 s1 hlim hb
  unfold Oper.wp execOp
  simp only [ho, resolve, invoke, builtin, Sem.run_bind, Sem.run_pure, Result.andThen_ok, List.map_toArray, List.map_cons, List.map_nil, hs, hx, hr]
  exact hK _ _ (h v' w' ⟨h2, h3⟩)
end Go.Proofs.YtfkkomppfghagaaGreatDoor
namespace Go.Proofs.YtfkkomppfghagaaGreatDoor
open Go.RowKit Go.ChangeShapes
set_option maxRecDepth 100000
set_option linter.unusedVariables false
theorem i64_and65535G (n : Int) : bits .and .i64 n 65535 = n % 65536 := by
  have h127 : (BitVec.ofInt 64 65535).toNat = 2 ^ 16 - 1 := by decide
  have key : (BitVec.ofInt 64 n &&& BitVec.ofInt 64 65535).toNat = (n % ((2 ^ 64 : Nat) : Int)).toNat % 2 ^ 16 := by
    rw [BitVec.toNat_and, BitVec.toNat_ofInt, h127, Nat.and_two_pow_sub_one_eq_mod]
  show IntKind.i64.wrap ((BitVec.ofInt 64 n &&& BitVec.ofInt 64 65535).toNat : Nat) = n % 65536
  rw [key, IntKind.wrap_i64]
  omega
theorem i64_and4095G (n : Int) : bits .and .i64 n 4095 = n % 4096 := by
  have h127 : (BitVec.ofInt 64 4095).toNat = 2 ^ 12 - 1 := by decide
  have key : (BitVec.ofInt 64 n &&& BitVec.ofInt 64 4095).toNat = (n % ((2 ^ 64 : Nat) : Int)).toNat % 2 ^ 12 := by
    rw [BitVec.toNat_and, BitVec.toNat_ofInt, h127, Nat.and_two_pow_sub_one_eq_mod]
  show IntKind.i64.wrap ((BitVec.ofInt 64 n &&& BitVec.ofInt 64 4095).toNat : Nat) = n % 4096
  rw [key, IntKind.wrap_i64]
  omega
def AbIn (w : World) (a : Option Addr) (n : Nat) (F : Nat → Nat → Int) : Prop :=
  n = 0 ∨ ∃ g o, a = some ⟨g, o, none⟩ ∧ ∀ i, i < n → ∀ j, j < 2 → w.cell? ⟨g, o + i * 2 + j, none⟩ = some (.int .i64 (F i j))
theorem AbIn.at {w w' : World} {a : Option Addr} {n : Nat} {F : Nat → Nat → Int} (h : AbIn w a n F) (hb : Below w.heap.size w w') {i : Nat} (hi : i < n) : ∃ g o, a = some ⟨g, o, none⟩ ∧ w'.cell? ⟨g, o + i * 2, none⟩ = some (.int .i64 (F i 0)) ∧ w'.cell? ⟨g, o + i * 2 + 1, none⟩ = some (.int .i64 (F i 1)) := by
  rcases h with e | ⟨g, o, e, h⟩
  · omega
  exact ⟨g, o, e, cell_later hb (h i hi 0 (by omega)), cell_later hb (h i hi 1 (by omega))⟩
theorem ab_add_more (a : Addr) (m j : Nat) : (a.add m).add j = a.add (m + j) := by
  unfold Addr.add
  rcases Nat.eq_zero_or_pos m with e | e
  · subst e; simp
  rcases Nat.eq_zero_or_pos j with e2 | e2
  · subst e2; simp
  rw [if_neg (by omega), if_neg (by omega), if_neg (by omega)]
  simp [Nat.add_assoc]
theorem ab_steps {K : Nat} {H : Type} {enc : TypeId × Value → H} {P : Program} {w : World} {base : Nat} {spare : Nat → Bool} {held : Bool} {t e c : TypeId} {fuel : Nat} {cs : List Value} {x : DataW H × List MemPlace}
    (ht : P.underlying t = some (.slice e)) (he : P.underlying e = some (.array K c)) (ce : P.cellsOf e = K) (cc : P.cellsOf c = 1) (hc : P.underlying c = some (.int .i64)) (h : DataW.trod enc P w base spare held fuel t cs = some x) :
    cs = [.slice none 0 0] ∨ ∃ (a : Addr) (len cap : Nat), cs = [.slice (some a) len cap] ∧ len ≤ cap ∧ cap ≤ maxLen ∧ ∀ i j, i < len → j < K → ∃ v, w.cell? (a.add (i * K + j)) = some (.int .i64 v) ∧ (Lit.int .i64 v).wf = true := by
  rcases Deep.open_slice ht h with ⟨h0, _⟩ | ⟨a, len, cap, m, n, D, Pl, rfl, hb, hl, hm, hmm, _, hx⟩
  · exact .inl h0
  refine .inr ⟨a, len, cap, rfl, hl, hm, fun i j hi hj => ?_⟩
  have hlm : len ≤ m := by rw [hmm]; split <;> omega
  obtain ⟨cs', h1, h2⟩ := hx i (by omega)
  rw [ce] at h1
  obtain ⟨_, hlen, hcell⟩ := World.cells?_some h1
  obtain ⟨xs, k, _, _, _, hxl, hff⟩ := DataW.trod_array he h2
  have g := hff j hj
  rw [cc, Nat.mul_one] at g
  have hxj : ∃ y, xs[j]? = some y := ⟨_, List.getElem?_eq_getElem (by omega)⟩
  obtain ⟨y, hy⟩ := hxj
  rw [hy] at g
  obtain ⟨v, hv, _, hw⟩ := DataW.trod_int hc g
  refine ⟨v, ?_, hw⟩
  have e1 := hcell j hj
  rw [ab_add_more] at e1
  rw [e1]
  have e2 := congrArg (fun l => l[0]?) hv
  simpa using e2
theorem ab_of {w : World} {a : Addr} {len : Nat} (h : ∀ i j, i < len → j < 2 → ∃ v, w.cell? (a.add (i * 2 + j)) = some (.int .i64 v) ∧ (Lit.int .i64 v).wf = true) :
    ∃ F, AbIn w (some a) len F := by
  refine ⟨fun i j => intOf ((w.cell? (a.add (i * 2 + j))).getD undef), ?_⟩
  rcases Nat.eq_zero_or_pos len with e | e
  · exact .inl e
  obtain ⟨b, off, spot⟩ := a
  obtain ⟨v, hc, _⟩ := h 0 0 e (by omega)
  have hspot : spot = none := by simpa [Addr.add] using World.cell?_spot hc
  subst hspot
  refine .inr ⟨b, off, rfl, fun i hi j hj => ?_⟩
  obtain ⟨v, hv, _⟩ := h i j hi hj
  rw [ax_addF] at hv
  have e3 : off + i * 2 + j = off + (i * 2 + j) := by omega
  rw [e3, hv]
  show some (Value.int IntKind.i64 v) = some (Value.int IntKind.i64 (intOf ((w.cell? (Addr.add ⟨b, off, none⟩ (i * 2 + j))).getD undef)))
  rw [ax_addF, hv]
  rfl
theorem pairs_of {H : Type} {enc : TypeId × Value → H} {w : World} {base : Nat} {spare : Nat → Bool} {held : Bool} {fuel : Nat} {a : Option Addr} {len cap : Nat} {x : DataW H × List MemPlace} (h : DataW.trod enc Tryz.prog w base spare held fuel 23 (Value.slice a len cap).cells.toList = some x) : (∃ F, AbIn w a len F) ∧ len ≤ cap ∧ cap ≤ maxLen := by
  rcases ab_steps (K := 2) Tryz.underlying23 Tryz.underlying78 (by kernel_rfl) (by kernel_rfl) Tryz.underlying3 h with hcs | ⟨y, l, c, hcs, hl, hm, hcell⟩
  · simp [Value.cells] at hcs
    obtain ⟨rfl, rfl, rfl⟩ := hcs
    exact ⟨⟨fun _ _ => 0, .inl rfl⟩, by omega, by simp [maxLen]⟩
  simp [Value.cells] at hcs
  obtain ⟨rfl, rfl, rfl⟩ := hcs
  exact ⟨ab_of hcell, hl, hm⟩
end Go.Proofs.YtfkkomppfghagaaGreatDoor
namespace Go.Proofs.YtfkkomppfghagaaGreatDoor
open Go.RowKit
set_option maxRecDepth 100000
set_option linter.unusedVariables false
end Go.Proofs.YtfkkomppfghagaaGreatDoor
