/- Contracts of the program's functions, part 15: own work, joined in build order. -/
import Derived.Test.YtfkkomppfghagaaGreatDoorJ14
import Derived.ArgAppend
import Derived.Laws.AppendOwnNone
namespace Go.Proofs.YtfkkomppfghagaaGreatDoor
open Go.RowKit
set_option maxRecDepth 100000
set_option linter.unusedVariables false
def mulP (p q x y : Nat) : Nat := p / Nat.gcd p y * (x / Nat.gcd x q)
def mulQ (p q x y : Nat) : Nat := q / Nat.gcd x q * (y / Nat.gcd p y)
theorem mul_low {p q x y : Nat} (hq : 0 < q) (hy : 0 < y) (h1 : Nat.gcd p q = 1) (h2 : Nat.gcd x y = 1) : Nat.gcd (mulP p q x y) (mulQ p q x y) = 1 ∧ 0 < mulQ p q x y ∧ mulP p q x y * (q * y) = p * x * mulQ p q x y := by
  have l0 : 0 < Nat.gcd p y := Nat.gcd_pos_of_pos_right _ hy
  have r0 : 0 < Nat.gcd x q := Nat.gcd_pos_of_pos_right _ hq
  obtain ⟨a, ha⟩ := Nat.gcd_dvd_left p y
  obtain ⟨b, hb⟩ := Nat.gcd_dvd_right p y
  obtain ⟨c, hc⟩ := Nat.gcd_dvd_left x q
  obtain ⟨d, hd⟩ := Nat.gcd_dvd_right x q
  have cab : Nat.Coprime (p / Nat.gcd p y) (y / Nat.gcd p y) := by
    have := Nat.gcd_div (Nat.gcd_dvd_left p y) (Nat.gcd_dvd_right p y)
    rw [Nat.div_self l0] at this
    exact this
  have ccd : Nat.Coprime (x / Nat.gcd x q) (q / Nat.gcd x q) := by
    have := Nat.gcd_div (Nat.gcd_dvd_left x q) (Nat.gcd_dvd_right x q)
    rw [Nat.div_self r0] at this
    exact this
  unfold mulP mulQ
  generalize Nat.gcd p y = l at *
  generalize Nat.gcd x q = r at *
  have e1 : p / l = a := by rw [ha, Nat.mul_div_cancel_left _ l0]
  have e2 : y / l = b := by rw [hb, Nat.mul_div_cancel_left _ l0]
  have e3 : x / r = c := by rw [hc, Nat.mul_div_cancel_left _ r0]
  have e4 : q / r = d := by rw [hd, Nat.mul_div_cancel_left _ r0]
  rw [e1, e2] at cab
  rw [e3, e4] at ccd
  rw [e1, e2, e3, e4]
  have h1' : Nat.Coprime p q := h1
  have h2' : Nat.Coprime x y := h2
  have k1 : Nat.Coprime a d := (h1'.coprime_dvd_left ⟨l, by rw [ha, Nat.mul_comm]⟩).coprime_dvd_right ⟨r, by rw [hd, Nat.mul_comm]⟩
  have k2 : Nat.Coprime c b := (h2'.coprime_dvd_left ⟨r, by rw [hc, Nat.mul_comm]⟩).coprime_dvd_right ⟨l, by rw [hb, Nat.mul_comm]⟩
  refine ⟨Nat.Coprime.mul_left (Nat.Coprime.mul_right k1 cab) (Nat.Coprime.mul_right ccd k2), Nat.mul_pos ?_ ?_, ?_⟩
  · rcases Nat.eq_zero_or_pos d with e | e
    · rw [e] at hd; omega
    exact e
  · rcases Nat.eq_zero_or_pos b with e | e
    · rw [e] at hb; omega
    exact e
  rw [ha, hb, hc, hd]
  grind
set_option maxHeartbeats 8000000 in
theorem ratMul_any (v u : Value) (p q x y : Nat) (w : World) (h : Rt w v p q) (k : Rt w u x y) (hp : RS p) (hq : RS q) (hx : RS x) (hy : RS y) (hT : Tab w) :
    Calls Tryz.prog 36 #[v, u] w (MakesR w (mulP p q x y) (mulQ p q x y)) := by
  obtain ⟨p1, n1, c1, p2, n2, c2, e0, _, _⟩ := h.raw
  subst e0
  obtain ⟨p3, n3, c3, p4, n4, c4, e1, _, _⟩ := k.raw
  subst e1
  have low := mul_low h.pos k.pos h.low k.low
  have S0 : Hid _ := ((((sx_start w).addF h).addF k).box (.slice p1 n1 c1) (.slice p2 n2 c2) 47 _ rfl).box (.slice p3 n3 c3) (.slice p4 n4 c4) 47 _ rfl
  simp only [World.size_alloc] at S0
  have S1 : Hid _ := S0.out.box (.slice none 0 0) (.slice none 0 0) 47 _ rfl
  simp only [World.size_alloc] at S1
  obtain ⟨w0, hw0⟩ : ∃ w0, w0 = ((w.alloc (.cells #[.slice p1 n1 c1, .slice p2 n2 c2] 47)).alloc (.cells #[.slice p3 n3 c3, .slice p4 n4 c4] 47)).alloc (.cells #[.slice none 0 0, .slice none 0 0] 47) := ⟨_, rfl⟩
  have f6 : w0.frozen? ⟨w.heap.size + 1 + 1, 0, none⟩ = false := by rw [hw0]; simp [go_sem]
  have f7 : w0.frozen? ⟨w.heap.size + 1 + 1, 1, none⟩ = false := by rw [hw0]; simp [go_sem]
  have HH : Hid (RS p ∧ RS q ∧ RS x ∧ RS y ∧ Tab w) := ⟨hp, hq, hx, hy, hT⟩
  have l0 : 0 < Nat.gcd p y := Nat.gcd_pos_of_pos_right _ k.pos
  have r0 : 0 < Nat.gcd x q := Nat.gcd_pos_of_pos_right _ h.pos
  have hl : RS (Nat.gcd p y) := hy.le (Nat.gcd_le_right _ k.pos)
  have hr : RS (Nat.gcd x q) := hq.le (Nat.gcd_le_right _ h.pos)
  have d1 : RS (p / Nat.gcd p y) := hp.le (Nat.div_le_self _ _)
  have d2 : RS (x / Nat.gcd x q) := hx.le (Nat.div_le_self _ _)
  have d3 : RS (q / Nat.gcd x q) := hq.le (Nat.div_le_self _ _)
  have d4 : RS (y / Nat.gcd p y) := hy.le (Nat.div_le_self _ _)
  have HL : Hid (0 < Nat.gcd p y ∧ 0 < Nat.gcd x q ∧ RS (Nat.gcd p y) ∧ RS (Nat.gcd x q) ∧ RS (p / Nat.gcd p y) ∧ RS (x / Nat.gcd x q) ∧ RS (q / Nat.gcd x q) ∧ RS (y / Nat.gcd p y)) := ⟨l0, r0, hl, hr, d1, d2, d3, d4⟩
  have HM : Hid (Nat.gcd (mulP p q x y) (mulQ p q x y) = 1 ∧ 0 < mulQ p q x y ∧ Fits (mulP p q x y)) := ⟨low.1, low.2.1, fits_P (d1.mul d2) (by omega)⟩
  clear h k hp hq hx hy hT low l0 r0 hl hr d1 d2 d3 d4 S0
  go_enter Tryz.func36, Tryz.ntmps36
  go_wp2_with fail
  rw [← hw0] at S1
  rw [← hw0]
  obtain ⟨b2, hb2⟩ : ∃ b2, b2 = w.heap.size := ⟨_, rfl⟩
  have HB : Hid (w.heap.size ≤ b2 + 1 + 1) := by show _ ≤ _; omega
  rw [← hb2] at S1 f6 f7
  rw [← hb2]
  clear hw0 hb2
  have FZ : Hid (w0.frozen? ⟨b2 + 1 + 1, 0, none⟩ = false ∧ w0.frozen? ⟨b2 + 1 + 1, 1, none⟩ = false) := ⟨f6, f7⟩
  clear f6 f7
  refine (parts_any _ p q _ (S1.out.fr (.agg #[.slice p1 n1 c1, .slice p2 n2 c2]) p q) HH.out.2.1.fits).mono ?_
  rintro e v5w ⟨v5, v6, rfl, hv, hu, hb⟩
  obtain ⟨a5, n5, c5, rfl⟩ := hv.isAgg
  obtain ⟨a6, n6, c6, rfl⟩ := hu.isAgg
  have hbb := bel_go hb (bel_al (o := .cells #[.slice a6 n6 c6] 45) (bel_al (o := .cells #[.slice a5 n5 c5] 45) (bel_refl _)))
  have FZ : Hid (((v5w.alloc (.cells #[.slice a5 n5 c5] 45)).alloc (.cells #[.slice a6 n6 c6] 45)).frozen? ⟨b2 + 1 + 1, 0, none⟩ = false ∧ ((v5w.alloc (.cells #[.slice a5 n5 c5] 45)).alloc (.cells #[.slice a6 n6 c6] 45)).frozen? ⟨b2 + 1 + 1, 1, none⟩ = false) := ⟨(hbb.frozen (World.block_lt_of_cell? _ _ (S1.out.cel (b2 + 1 + 1) 0 (.slice none 0 0)))).trans FZ.out.1, (hbb.frozen (World.block_lt_of_cell? _ _ (S1.out.cel (b2 + 1 + 1) 1 (.slice none 0 0)))).trans FZ.out.2⟩
  have S2 : Hid _ := ((((S1.out.go hb).addN hv).addN hu).box1 (.slice a5 n5 c5) 45 _ rfl).box1 (.slice a6 n6 c6) 45 _ rfl
  clear hv hu hb hbb S1
  simp only [World.size_alloc] at S2
  have z3 := S2.out.cel (b2 + 1) 0 (.slice p3 n3 c3)
  have z4 := S2.out.cel (b2 + 1) 1 (.slice p4 n4 c4)
  go_wp2_with fail
  obtain ⟨w5, hw⟩ : ∃ w5, w5 = (v5w.alloc (.cells #[.slice a5 n5 c5] 45)).alloc (.cells #[.slice a6 n6 c6] 45) := ⟨_, rfl⟩
  obtain ⟨b5, hb⟩ : ∃ b5, b5 = v5w.heap.size := ⟨_, rfl⟩
  rw [← hw, ← hb] at S2
  rw [← hw] at FZ
  rw [← hw, ← hb]
  clear hw hb
  obtain ⟨b6, hb⟩ : ∃ b6, b6 = b5 + 1 := ⟨_, rfl⟩
  rw [← hb] at S2
  rw [← hb]
  clear hb
  clear z3 z4
  refine (parts_any _ x y _ (S2.out.fr (.agg #[.slice p3 n3 c3, .slice p4 n4 c4]) x y) HH.out.2.2.2.1.fits).mono ?_
  rintro e v7w ⟨v7, v8, rfl, hv, hu, hb⟩
  obtain ⟨a7, n7, c7, rfl⟩ := hv.isAgg
  obtain ⟨a8, n8, c8, rfl⟩ := hu.isAgg
  have hbb := bel_go hb (bel_al (o := .cells #[.slice a8 n8 c8] 45) (bel_al (o := .cells #[.slice a7 n7 c7] 45) (bel_refl _)))
  have FZ : Hid (((v7w.alloc (.cells #[.slice a7 n7 c7] 45)).alloc (.cells #[.slice a8 n8 c8] 45)).frozen? ⟨b2 + 1 + 1, 0, none⟩ = false ∧ ((v7w.alloc (.cells #[.slice a7 n7 c7] 45)).alloc (.cells #[.slice a8 n8 c8] 45)).frozen? ⟨b2 + 1 + 1, 1, none⟩ = false) := ⟨(hbb.frozen (World.block_lt_of_cell? _ _ (S2.out.cel (b2 + 1 + 1) 0 (.slice none 0 0)))).trans FZ.out.1, (hbb.frozen (World.block_lt_of_cell? _ _ (S2.out.cel (b2 + 1 + 1) 1 (.slice none 0 0)))).trans FZ.out.2⟩
  have S3 : Hid _ := ((((S2.out.go hb).addN hv).addN hu).box1 (.slice a7 n7 c7) 45 _ rfl).box1 (.slice a8 n8 c8) 45 _ rfl
  clear hv hu hb hbb S2
  simp only [World.size_alloc] at S3
  go_wp2_with fail
  obtain ⟨w7, hw⟩ : ∃ w7, w7 = (v7w.alloc (.cells #[.slice a7 n7 c7] 45)).alloc (.cells #[.slice a8 n8 c8] 45) := ⟨_, rfl⟩
  obtain ⟨b7, hb⟩ : ∃ b7, b7 = v7w.heap.size := ⟨_, rfl⟩
  rw [← hw, ← hb] at S3
  rw [← hw] at FZ
  rw [← hw, ← hb]
  clear hw hb
  obtain ⟨b8, hb⟩ : ∃ b8, b8 = b7 + 1 := ⟨_, rfl⟩
  rw [← hb] at S3
  rw [← hb]
  clear hb
  refine wp_region_inv (JB w7 [sNat (p), sNat (y), sNat (Nat.gcd p y), sNat (x), sNat (q), sNat (Nat.gcd x q), sAny, sAny, sAny, sAny] [(6, 8, 2), (7, 9, 5)]) 46 (by kernel_rfl) rfl (by kernel_rfl) (JB.start _ _ _) (fun HG HN => ⟨?_, ?_, ?_, ?_, ?_, ?_, ?_, ?_, ?_, ?_, trivial⟩) ?_
  · intro L vs a w' hJ hF hP hL
    have q5 : (a.tmps[5]?).getD undef = .pointer (some ⟨b5, 0, none⟩) := hF.old 5 rfl
    have cb := cell_later hJ.bel (S3.out.cell (b5) (.slice a5 n5 c5))
    exact run_val (v := .agg #[.slice a5 n5 c5]) rfl (by simp [execOp, go_sem, q5, cb]) ⟨_, rfl, hJ.step hL rfl (Below.refl _ _) (by exact ((S3.out.at (.agg #[.slice a5 n5 c5]) (p)).mono hJ.bel))⟩
  · intro L vs a w' hJ hF hP hL
    have q8 : (a.tmps[8]?).getD undef = .pointer (some ⟨b8, 0, none⟩) := hF.old 8 rfl
    have cb := cell_later hJ.bel (S3.out.cell (b8) (.slice a8 n8 c8))
    exact run_val (v := .agg #[.slice a8 n8 c8]) rfl (by simp [execOp, go_sem, q8, cb]) ⟨_, rfl, hJ.step hL rfl (Below.refl _ _) (by exact ((S3.out.at (.agg #[.slice a8 n8 c8]) (y)).mono hJ.bel))⟩
  · intro L vs a w' hJ hF hP hL
    have p0 : L 0 = true := hP ⟨0, .data⟩ (by simp) rfl
    have s0 : IsNat w' (vs 0) (p) := hJ.sp 0 p0
    have q23 := hF.slot 0 23 rfl p0
    have p1 : L 1 = true := hP ⟨1, .data⟩ (by simp) rfl
    have s1 : IsNat w' (vs 1) (y) := hJ.sp 1 p1
    have q24 := hF.slot 1 24 rfl p1
    refine run_call (f := 69) (args := #[vs 0, vs 1]) rfl (by simp [go_sem, q23, q24]) (gcd_any _ _ p y _ s0 s1 HH.out.1.p198 HH.out.2.2.2.1.p198 (HH.out.2.2.2.2.go (bel_go S3.out.bel hJ.bel))) ?_
    rintro e w2 ⟨v, rfl, hv, hb⟩
    exact ⟨_, rfl, _, rfl, hJ.step hL rfl hb (by exact hv)⟩
  · intro L vs a w' hJ hF hP hL
    have q7 : (a.tmps[7]?).getD undef = .pointer (some ⟨b7, 0, none⟩) := hF.old 7 rfl
    have cb := cell_later hJ.bel (S3.out.cell (b7) (.slice a7 n7 c7))
    exact run_val (v := .agg #[.slice a7 n7 c7]) rfl (by simp [execOp, go_sem, q7, cb]) ⟨_, rfl, hJ.step hL rfl (Below.refl _ _) (by exact ((S3.out.at (.agg #[.slice a7 n7 c7]) (x)).mono hJ.bel))⟩
  · intro L vs a w' hJ hF hP hL
    have q6 : (a.tmps[6]?).getD undef = .pointer (some ⟨b6, 0, none⟩) := hF.old 6 rfl
    have cb := cell_later hJ.bel (S3.out.cell (b6) (.slice a6 n6 c6))
    exact run_val (v := .agg #[.slice a6 n6 c6]) rfl (by simp [execOp, go_sem, q6, cb]) ⟨_, rfl, hJ.step hL rfl (Below.refl _ _) (by exact ((S3.out.at (.agg #[.slice a6 n6 c6]) (q)).mono hJ.bel))⟩
  · intro L vs a w' hJ hF hP hL
    have p3 : L 3 = true := hP ⟨3, .data⟩ (by simp) rfl
    have s3 : IsNat w' (vs 3) (x) := hJ.sp 3 p3
    have q26 := hF.slot 3 26 rfl p3
    have p4 : L 4 = true := hP ⟨4, .data⟩ (by simp) rfl
    have s4 : IsNat w' (vs 4) (q) := hJ.sp 4 p4
    have q27 := hF.slot 4 27 rfl p4
    refine run_call (f := 69) (args := #[vs 3, vs 4]) rfl (by simp [go_sem, q26, q27]) (gcd_any _ _ x q _ s3 s4 HH.out.2.2.1.p198 HH.out.2.1.p198 (HH.out.2.2.2.2.go (bel_go S3.out.bel hJ.bel))) ?_
    rintro e w2 ⟨v, rfl, hv, hb⟩
    exact ⟨_, rfl, _, rfl, hJ.step hL rfl hb (by exact hv)⟩
  · intro L vs a w' hJ hF hP hL
    exact run_val (v := .pointer (some ⟨w'.heap.size, 0, none⟩)) (w' := w'.alloc (.cells #[.slice none 0 0] 45)) rfl (by simp [execOp, go_sem]) ⟨_, rfl, hJ.alloc hL rfl rfl _⟩
  · intro L vs a w' hJ hF hP hL
    exact run_val (v := .pointer (some ⟨w'.heap.size, 0, none⟩)) (w' := w'.alloc (.cells #[.slice none 0 0] 45)) rfl (by simp [execOp, go_sem]) ⟨_, rfl, hJ.alloc hL rfl rfl _⟩
  · intro L vs a w' hJ hF hP hL
    have p6 : L 6 = true := hP ⟨6, .data⟩ (by simp) rfl
    have q9 := hF.slot 6 9 rfl p6
    have p2 : L 2 = true := hP ⟨2, .data⟩ (by simp) rfl
    have s2 : IsNat w' (vs 2) (Nat.gcd p y) := hJ.sp 2 p2
    have q25 := hF.slot 2 25 rfl p2
    obtain ⟨bk, e1, e2, e3, e4, e5, e6⟩ := hJ.bx (6, 8, 2) (by simp) p6
    have e7 := e5 hL
    obtain ⟨aa, nn, cc, e8⟩ := s2.isAgg
    exact run_unit (w' := w'.setCell ⟨bk, 0, none⟩ (.slice aa nn cc)) rfl (by simp [execOp, go_sem, q9, q25, e1, e8, e7, e4]) ⟨undef, rfl, hJ.store (b := (6, 8, 2)) (by simp) hL p6 p2 (by decide) rfl e1 e8⟩
  · intro L vs a w' hJ hF hP hL
    have p7 : L 7 = true := hP ⟨7, .data⟩ (by simp) rfl
    have q10 := hF.slot 7 10 rfl p7
    have p5 : L 5 = true := hP ⟨5, .data⟩ (by simp) rfl
    have s5 : IsNat w' (vs 5) (Nat.gcd x q) := hJ.sp 5 p5
    have q28 := hF.slot 5 28 rfl p5
    obtain ⟨bk, e1, e2, e3, e4, e5, e6⟩ := hJ.bx (7, 9, 5) (by simp) p7
    have e7 := e5 hL
    obtain ⟨aa, nn, cc, e8⟩ := s5.isAgg
    exact run_unit (w' := w'.setCell ⟨bk, 0, none⟩ (.slice aa nn cc)) rfl (by simp [execOp, go_sem, q10, q28, e1, e8, e7, e4]) ⟨undef, rfl, hJ.store (b := (7, 9, 5)) (by simp) hL p7 p5 (by decide) rfl e1 e8⟩
  intro L vs w' hA hJ
  have s2 : IsNat w' (vs 2) (Nat.gcd p y) := hJ.sp 2 (hA 2 (by simp))
  have s5 : IsNat w' (vs 5) (Nat.gcd x q) := hJ.sp 5 (hA 5 (by simp))
  obtain ⟨bk6, eb6, ge6, lt6, fz6, _, e6⟩ := hJ.bx (6, 8, 2) (by simp) (hA 6 (by simp))
  obtain ⟨_, u6, eu6, ce6⟩ := e6 (hA 8 (by simp))
  clear e6
  obtain ⟨bk7, eb7, ge7, lt7, fz7, _, e6⟩ := hJ.bx (7, 9, 5) (by simp) (hA 7 (by simp))
  obtain ⟨_, u7, eu7, ce7⟩ := e6 (hA 9 (by simp))
  clear e6
  simp only [putL, Act.put, List.setIfInBounds_toArray, List.set_cons_zero, List.set_cons_succ, Nat.reduceAdd]
  obtain ⟨a9, n9, c9, q1⟩ := s2.isAgg
  obtain ⟨a10, n10, c10, q2⟩ := s5.isAgg
  rw [q1] at s2 eu6
  rw [q2] at s5 eu7
  obtain rfl : u6 = .slice a9 n9 c9 := by simpa using eu6.symm
  obtain rfl : u7 = .slice a10 n10 c10 := by simpa using eu7.symm
  simp only [eb6, eb7]
  obtain ⟨w9, ew⟩ : ∃ w9, w9 = w' := ⟨_, rfl⟩
  obtain ⟨b9, e1⟩ : ∃ b9, b9 = bk6 := ⟨_, rfl⟩
  obtain ⟨b10, e2⟩ : ∃ b10, b10 = bk7 := ⟨_, rfl⟩
  have FZ : Hid (w'.frozen? ⟨b2 + 1 + 1, 0, none⟩ = false ∧ w'.frozen? ⟨b2 + 1 + 1, 1, none⟩ = false) := ⟨(hJ.bel.frozen (World.block_lt_of_cell? _ _ (S3.out.cel (b2 + 1 + 1) 0 (.slice none 0 0)))).trans FZ.out.1, (hJ.bel.frozen (World.block_lt_of_cell? _ _ (S3.out.cel (b2 + 1 + 1) 1 (.slice none 0 0)))).trans FZ.out.2⟩
  have S4 : Hid _ := ((((S3.out.go hJ.bel).addN s2).addN s5).addC ce6).addC ce7
  rw [← ew, ← e1, ← e2] at S4
  rw [← ew] at FZ
  rw [← ew, ← e1, ← e2]
  clear ew e1 e2 q1 q2 s2 s5 eu6 eu7 eb6 eb7 ce6 ce7 ge6 ge7 lt6 lt7 fz6 fz7 hJ hA S3
  go_wp2_with fail
  refine wp_region_inv (JB w9 [sNat (p), sNat (Nat.gcd p y), sNat (p / Nat.gcd p y), sNat (x), sNat (Nat.gcd x q), sNat (x / Nat.gcd x q), sNat (p / Nat.gcd p y * (x / Nat.gcd x q)), sAny, sAny] [(7, 8, 6)]) 46 (by kernel_rfl) rfl (by kernel_rfl) (JB.start _ _ _) (fun HG HN => ⟨?_, ?_, ?_, ?_, ?_, ?_, ?_, ?_, ?_, trivial⟩) ?_
  · intro L vs a w' hJ hF hP hL
    have q5 : (a.tmps[5]?).getD undef = .pointer (some ⟨b5, 0, none⟩) := hF.old 5 rfl
    have cb := cell_later hJ.bel (S4.out.cell (b5) (.slice a5 n5 c5))
    exact run_val (v := .agg #[.slice a5 n5 c5]) rfl (by simp [execOp, go_sem, q5, cb]) ⟨_, rfl, hJ.step hL rfl (Below.refl _ _) (by exact ((S4.out.at (.agg #[.slice a5 n5 c5]) (p)).mono hJ.bel))⟩
  · intro L vs a w' hJ hF hP hL
    have q9 : (a.tmps[9]?).getD undef = .pointer (some ⟨b9, 0, none⟩) := hF.old 9 rfl
    have cb := cell_later hJ.bel (S4.out.cell (b9) (.slice a9 n9 c9))
    exact run_val (v := .agg #[.slice a9 n9 c9]) rfl (by simp [execOp, go_sem, q9, cb]) ⟨_, rfl, hJ.step hL rfl (Below.refl _ _) (by exact ((S4.out.at (.agg #[.slice a9 n9 c9]) (Nat.gcd p y)).mono hJ.bel))⟩
  · intro L vs a w' hJ hF hP hL
    have p0 : L 0 = true := hP ⟨0, .data⟩ (by simp) rfl
    have s0 : IsNat w' (vs 0) (p) := hJ.sp 0 p0
    have q29 := hF.slot 0 29 rfl p0
    have p1 : L 1 = true := hP ⟨1, .data⟩ (by simp) rfl
    have s1 : IsNat w' (vs 1) (Nat.gcd p y) := hJ.sp 1 p1
    have q30 := hF.slot 1 30 rfl p1
    refine run_call (f := 70) (args := #[vs 0, vs 1]) rfl (by simp [go_sem, q29, q30]) (over_any _ _ p (Nat.gcd p y) _ s0 s1 HH.out.1.p198 HL.out.2.2.1.p198 HL.out.1) ?_
    rintro e w2 ⟨v, rfl, hv, hb⟩
    exact ⟨_, rfl, _, rfl, hJ.step hL rfl hb (by exact hv)⟩
  · intro L vs a w' hJ hF hP hL
    have q7 : (a.tmps[7]?).getD undef = .pointer (some ⟨b7, 0, none⟩) := hF.old 7 rfl
    have cb := cell_later hJ.bel (S4.out.cell (b7) (.slice a7 n7 c7))
    exact run_val (v := .agg #[.slice a7 n7 c7]) rfl (by simp [execOp, go_sem, q7, cb]) ⟨_, rfl, hJ.step hL rfl (Below.refl _ _) (by exact ((S4.out.at (.agg #[.slice a7 n7 c7]) (x)).mono hJ.bel))⟩
  · intro L vs a w' hJ hF hP hL
    have q10 : (a.tmps[10]?).getD undef = .pointer (some ⟨b10, 0, none⟩) := hF.old 10 rfl
    have cb := cell_later hJ.bel (S4.out.cell (b10) (.slice a10 n10 c10))
    exact run_val (v := .agg #[.slice a10 n10 c10]) rfl (by simp [execOp, go_sem, q10, cb]) ⟨_, rfl, hJ.step hL rfl (Below.refl _ _) (by exact ((S4.out.at (.agg #[.slice a10 n10 c10]) (Nat.gcd x q)).mono hJ.bel))⟩
  · intro L vs a w' hJ hF hP hL
    have p3 : L 3 = true := hP ⟨3, .data⟩ (by simp) rfl
    have s3 : IsNat w' (vs 3) (x) := hJ.sp 3 p3
    have q32 := hF.slot 3 32 rfl p3
    have p4 : L 4 = true := hP ⟨4, .data⟩ (by simp) rfl
    have s4 : IsNat w' (vs 4) (Nat.gcd x q) := hJ.sp 4 p4
    have q33 := hF.slot 4 33 rfl p4
    refine run_call (f := 70) (args := #[vs 3, vs 4]) rfl (by simp [go_sem, q32, q33]) (over_any _ _ x (Nat.gcd x q) _ s3 s4 HH.out.2.2.1.p198 HL.out.2.2.2.1.p198 HL.out.2.1) ?_
    rintro e w2 ⟨v, rfl, hv, hb⟩
    exact ⟨_, rfl, _, rfl, hJ.step hL rfl hb (by exact hv)⟩
  · intro L vs a w' hJ hF hP hL
    have p2 : L 2 = true := hP ⟨2, .data⟩ (by simp) rfl
    have s2 : IsNat w' (vs 2) (p / Nat.gcd p y) := hJ.sp 2 p2
    have q31 := hF.slot 2 31 rfl p2
    have p5 : L 5 = true := hP ⟨5, .data⟩ (by simp) rfl
    have s5 : IsNat w' (vs 5) (x / Nat.gcd x q) := hJ.sp 5 p5
    have q34 := hF.slot 5 34 rfl p5
    refine run_call (f := 52) (args := #[vs 2, vs 5]) rfl (by simp [go_sem, q31, q34]) (mul_short _ _ (p / Nat.gcd p y) (x / Nat.gcd x q) _ s2 s5 HL.out.2.2.2.2.1.fits HL.out.2.2.2.2.2.1.fits (.inl HL.out.2.2.2.2.1.p99)) ?_
    rintro e w2 ⟨v, rfl, hv, hb⟩
    exact ⟨_, rfl, _, rfl, hJ.step hL rfl hb (by exact hv)⟩
  · intro L vs a w' hJ hF hP hL
    exact run_val (v := .pointer (some ⟨w'.heap.size, 0, none⟩)) (w' := w'.alloc (.cells #[.slice none 0 0] 45)) rfl (by simp [execOp, go_sem]) ⟨_, rfl, hJ.alloc hL rfl rfl _⟩
  · intro L vs a w' hJ hF hP hL
    have p7 : L 7 = true := hP ⟨7, .data⟩ (by simp) rfl
    have q11 := hF.slot 7 11 rfl p7
    have p6 : L 6 = true := hP ⟨6, .data⟩ (by simp) rfl
    have s6 : IsNat w' (vs 6) (p / Nat.gcd p y * (x / Nat.gcd x q)) := hJ.sp 6 p6
    have q35 := hF.slot 6 35 rfl p6
    obtain ⟨bk, e1, e2, e3, e4, e5, e6⟩ := hJ.bx (7, 8, 6) (by simp) p7
    have e7 := e5 hL
    obtain ⟨aa, nn, cc, e8⟩ := s6.isAgg
    exact run_unit (w' := w'.setCell ⟨bk, 0, none⟩ (.slice aa nn cc)) rfl (by simp [execOp, go_sem, q11, q35, e1, e8, e7, e4]) ⟨undef, rfl, hJ.store (b := (7, 8, 6)) (by simp) hL p7 p6 (by decide) rfl e1 e8⟩
  intro L vs w' hA hJ
  have s6 : IsNat w' (vs 6) (p / Nat.gcd p y * (x / Nat.gcd x q)) := hJ.sp 6 (hA 6 (by simp))
  obtain ⟨bk7, eb7, ge7, lt7, fz7, _, e6⟩ := hJ.bx (7, 8, 6) (by simp) (hA 7 (by simp))
  obtain ⟨_, u7, eu7, ce7⟩ := e6 (hA 8 (by simp))
  clear e6
  simp only [putL, Act.put, List.setIfInBounds_toArray, List.set_cons_zero, List.set_cons_succ, Nat.reduceAdd]
  obtain ⟨a11, n11, c11, q1⟩ := s6.isAgg
  rw [q1] at s6 eu7
  obtain rfl : u7 = .slice a11 n11 c11 := by simpa using eu7.symm
  simp only [eb7]
  obtain ⟨w11, ew⟩ : ∃ w11, w11 = w' := ⟨_, rfl⟩
  obtain ⟨b11, e1⟩ : ∃ b11, b11 = bk7 := ⟨_, rfl⟩
  have FZ : Hid (w'.frozen? ⟨b2 + 1 + 1, 0, none⟩ = false ∧ w'.frozen? ⟨b2 + 1 + 1, 1, none⟩ = false) := ⟨(hJ.bel.frozen (World.block_lt_of_cell? _ _ (S4.out.cel (b2 + 1 + 1) 0 (.slice none 0 0)))).trans FZ.out.1, (hJ.bel.frozen (World.block_lt_of_cell? _ _ (S4.out.cel (b2 + 1 + 1) 1 (.slice none 0 0)))).trans FZ.out.2⟩
  have S5 : Hid _ := ((S4.out.go hJ.bel).addN s6).addC ce7
  rw [← ew, ← e1] at S5
  rw [← ew] at FZ
  rw [← ew, ← e1]
  clear ew e1 q1 s6 eu7 eb7 ce7 ge7 lt7 fz7 hJ hA S4
  go_wp2_with fail
  refine wp_region_inv (JB w11 [sNat (q), sNat (Nat.gcd x q), sNat (q / Nat.gcd x q), sNat (y), sNat (Nat.gcd p y), sNat (y / Nat.gcd p y), sNat (q / Nat.gcd x q * (y / Nat.gcd p y)), sAny, sAny] [(7, 8, 6)]) 46 (by kernel_rfl) rfl (by kernel_rfl) (JB.start _ _ _) (fun HG HN => ⟨?_, ?_, ?_, ?_, ?_, ?_, ?_, ?_, ?_, trivial⟩) ?_
  · intro L vs a w' hJ hF hP hL
    have q6 : (a.tmps[6]?).getD undef = .pointer (some ⟨b6, 0, none⟩) := hF.old 6 rfl
    have cb := cell_later hJ.bel (S5.out.cell (b6) (.slice a6 n6 c6))
    exact run_val (v := .agg #[.slice a6 n6 c6]) rfl (by simp [execOp, go_sem, q6, cb]) ⟨_, rfl, hJ.step hL rfl (Below.refl _ _) (by exact ((S5.out.at (.agg #[.slice a6 n6 c6]) (q)).mono hJ.bel))⟩
  · intro L vs a w' hJ hF hP hL
    have q10 : (a.tmps[10]?).getD undef = .pointer (some ⟨b10, 0, none⟩) := hF.old 10 rfl
    have cb := cell_later hJ.bel (S5.out.cell (b10) (.slice a10 n10 c10))
    exact run_val (v := .agg #[.slice a10 n10 c10]) rfl (by simp [execOp, go_sem, q10, cb]) ⟨_, rfl, hJ.step hL rfl (Below.refl _ _) (by exact ((S5.out.at (.agg #[.slice a10 n10 c10]) (Nat.gcd x q)).mono hJ.bel))⟩
  · intro L vs a w' hJ hF hP hL
    have p0 : L 0 = true := hP ⟨0, .data⟩ (by simp) rfl
    have s0 : IsNat w' (vs 0) (q) := hJ.sp 0 p0
    have q36 := hF.slot 0 36 rfl p0
    have p1 : L 1 = true := hP ⟨1, .data⟩ (by simp) rfl
    have s1 : IsNat w' (vs 1) (Nat.gcd x q) := hJ.sp 1 p1
    have q37 := hF.slot 1 37 rfl p1
    refine run_call (f := 70) (args := #[vs 0, vs 1]) rfl (by simp [go_sem, q36, q37]) (over_any _ _ q (Nat.gcd x q) _ s0 s1 HH.out.2.1.p198 HL.out.2.2.2.1.p198 HL.out.2.1) ?_
    rintro e w2 ⟨v, rfl, hv, hb⟩
    exact ⟨_, rfl, _, rfl, hJ.step hL rfl hb (by exact hv)⟩
  · intro L vs a w' hJ hF hP hL
    have q8 : (a.tmps[8]?).getD undef = .pointer (some ⟨b8, 0, none⟩) := hF.old 8 rfl
    have cb := cell_later hJ.bel (S5.out.cell (b8) (.slice a8 n8 c8))
    exact run_val (v := .agg #[.slice a8 n8 c8]) rfl (by simp [execOp, go_sem, q8, cb]) ⟨_, rfl, hJ.step hL rfl (Below.refl _ _) (by exact ((S5.out.at (.agg #[.slice a8 n8 c8]) (y)).mono hJ.bel))⟩
  · intro L vs a w' hJ hF hP hL
    have q9 : (a.tmps[9]?).getD undef = .pointer (some ⟨b9, 0, none⟩) := hF.old 9 rfl
    have cb := cell_later hJ.bel (S5.out.cell (b9) (.slice a9 n9 c9))
    exact run_val (v := .agg #[.slice a9 n9 c9]) rfl (by simp [execOp, go_sem, q9, cb]) ⟨_, rfl, hJ.step hL rfl (Below.refl _ _) (by exact ((S5.out.at (.agg #[.slice a9 n9 c9]) (Nat.gcd p y)).mono hJ.bel))⟩
  · intro L vs a w' hJ hF hP hL
    have p3 : L 3 = true := hP ⟨3, .data⟩ (by simp) rfl
    have s3 : IsNat w' (vs 3) (y) := hJ.sp 3 p3
    have q39 := hF.slot 3 39 rfl p3
    have p4 : L 4 = true := hP ⟨4, .data⟩ (by simp) rfl
    have s4 : IsNat w' (vs 4) (Nat.gcd p y) := hJ.sp 4 p4
    have q40 := hF.slot 4 40 rfl p4
    refine run_call (f := 70) (args := #[vs 3, vs 4]) rfl (by simp [go_sem, q39, q40]) (over_any _ _ y (Nat.gcd p y) _ s3 s4 HH.out.2.2.2.1.p198 HL.out.2.2.1.p198 HL.out.1) ?_
    rintro e w2 ⟨v, rfl, hv, hb⟩
    exact ⟨_, rfl, _, rfl, hJ.step hL rfl hb (by exact hv)⟩
  · intro L vs a w' hJ hF hP hL
    have p2 : L 2 = true := hP ⟨2, .data⟩ (by simp) rfl
    have s2 : IsNat w' (vs 2) (q / Nat.gcd x q) := hJ.sp 2 p2
    have q38 := hF.slot 2 38 rfl p2
    have p5 : L 5 = true := hP ⟨5, .data⟩ (by simp) rfl
    have s5 : IsNat w' (vs 5) (y / Nat.gcd p y) := hJ.sp 5 p5
    have q41 := hF.slot 5 41 rfl p5
    refine run_call (f := 52) (args := #[vs 2, vs 5]) rfl (by simp [go_sem, q38, q41]) (mul_short _ _ (q / Nat.gcd x q) (y / Nat.gcd p y) _ s2 s5 HL.out.2.2.2.2.2.2.1.fits HL.out.2.2.2.2.2.2.2.fits (.inl HL.out.2.2.2.2.2.2.1.p99)) ?_
    rintro e w2 ⟨v, rfl, hv, hb⟩
    exact ⟨_, rfl, _, rfl, hJ.step hL rfl hb (by exact hv)⟩
  · intro L vs a w' hJ hF hP hL
    exact run_val (v := .pointer (some ⟨w'.heap.size, 0, none⟩)) (w' := w'.alloc (.cells #[.slice none 0 0] 45)) rfl (by simp [execOp, go_sem]) ⟨_, rfl, hJ.alloc hL rfl rfl _⟩
  · intro L vs a w' hJ hF hP hL
    have p7 : L 7 = true := hP ⟨7, .data⟩ (by simp) rfl
    have q12 := hF.slot 7 12 rfl p7
    have p6 : L 6 = true := hP ⟨6, .data⟩ (by simp) rfl
    have s6 : IsNat w' (vs 6) (q / Nat.gcd x q * (y / Nat.gcd p y)) := hJ.sp 6 p6
    have q42 := hF.slot 6 42 rfl p6
    obtain ⟨bk, e1, e2, e3, e4, e5, e6⟩ := hJ.bx (7, 8, 6) (by simp) p7
    have e7 := e5 hL
    obtain ⟨aa, nn, cc, e8⟩ := s6.isAgg
    exact run_unit (w' := w'.setCell ⟨bk, 0, none⟩ (.slice aa nn cc)) rfl (by simp [execOp, go_sem, q12, q42, e1, e8, e7, e4]) ⟨undef, rfl, hJ.store (b := (7, 8, 6)) (by simp) hL p7 p6 (by decide) rfl e1 e8⟩
  intro L vs w' hA hJ
  have s6 : IsNat w' (vs 6) (q / Nat.gcd x q * (y / Nat.gcd p y)) := hJ.sp 6 (hA 6 (by simp))
  obtain ⟨bk7, eb7, ge7, lt7, fz7, _, e6⟩ := hJ.bx (7, 8, 6) (by simp) (hA 7 (by simp))
  obtain ⟨_, u7, eu7, ce7⟩ := e6 (hA 8 (by simp))
  clear e6
  simp only [putL, Act.put, List.setIfInBounds_toArray, List.set_cons_zero, List.set_cons_succ, Nat.reduceAdd]
  obtain ⟨a12, n12, c12, q1⟩ := s6.isAgg
  rw [q1] at s6 eu7
  obtain rfl : u7 = .slice a12 n12 c12 := by simpa using eu7.symm
  simp only [eb7]
  obtain ⟨w12, ew⟩ : ∃ w12, w12 = w' := ⟨_, rfl⟩
  obtain ⟨b12, e1⟩ : ∃ b12, b12 = bk7 := ⟨_, rfl⟩
  have FZ : Hid (w'.frozen? ⟨b2 + 1 + 1, 0, none⟩ = false ∧ w'.frozen? ⟨b2 + 1 + 1, 1, none⟩ = false) := ⟨(hJ.bel.frozen (World.block_lt_of_cell? _ _ (S5.out.cel (b2 + 1 + 1) 0 (.slice none 0 0)))).trans FZ.out.1, (hJ.bel.frozen (World.block_lt_of_cell? _ _ (S5.out.cel (b2 + 1 + 1) 1 (.slice none 0 0)))).trans FZ.out.2⟩
  have S6 : Hid _ := ((S5.out.go hJ.bel).addN s6).addC ce7
  rw [← ew, ← e1] at S6
  rw [← ew] at FZ
  rw [← ew, ← e1]
  clear ew e1 q1 s6 eu7 eb7 ce7 ge7 lt7 fz7 hJ hA S5
  have z11 := S6.out.cell b11 (.slice a11 n11 c11)
  have z12 := S6.out.cell b12 (.slice a12 n12 c12)
  go_wp2_with fail
  refine (inLowest_any _ _ (mulP p q x y) (mulQ p q x y) _ (S6.out.at (.agg #[.slice a11 n11 c11]) (p / Nat.gcd p y * (x / Nat.gcd x q))) (S6.out.at (.agg #[.slice a12 n12 c12]) (q / Nat.gcd x q * (y / Nat.gcd p y))) HM.out.2.2 HM.out.2.1 HM.out.1).mono ?_
  rintro e w13 ⟨v13, rfl, hv, hb⟩
  obtain ⟨p7, q7, r7, p8, q8, r8, ev, _, _⟩ := hv.raw
  subst ev
  have x0 := cell_later hb (S6.out.cel (b2 + 1 + 1) 0 (.slice none 0 0))
  have x1 := cell_later hb (S6.out.cel (b2 + 1 + 1) 1 (.slice none 0 0))
  have FZ : Hid (w13.frozen? ⟨b2 + 1 + 1, 0, none⟩ = false ∧ w13.frozen? ⟨b2 + 1 + 1, 1, none⟩ = false) := ⟨(hb.frozen (World.block_lt_of_cell? _ _ (S6.out.cel (b2 + 1 + 1) 0 (.slice none 0 0)))).trans FZ.out.1, (hb.frozen (World.block_lt_of_cell? _ _ (S6.out.cel (b2 + 1 + 1) 1 (.slice none 0 0)))).trans FZ.out.2⟩
  have f0 := FZ.out.1
  have f1 := FZ.out.2
  have Z : Hid _ := rat_put (w0 := w) (v := .slice p7 q7 r7) (u := .slice p8 q8 r8) x0 x1 hv (bel_go S6.out.bel hb) HB.out
  clear hv hb S6 z11 z12 FZ
  go_wp2_with fail
  exact bodyPost_ret (v := .agg #[.slice p7 q7 r7, .slice p8 q8 r8]) (by simp [results, Tryz.results36, go_sem, x0, x1]) rfl ⟨_, rfl, Z.out.1, Z.out.2⟩
set_option maxHeartbeats 8000000 in
theorem ratDiv_yes (v u : Value) (p q x y : Nat) (w : World) (h : Rt w v p q) (k : Rt w u x y) (hp : RS p) (hq : RS q) (hx : RS x) (hy : RS y) (hx0 : 0 < x) (hT : Tab w) :
    Calls Tryz.prog 38 #[v, u] w (MakesRB w (mulP p q y x) (mulQ p q y x) true) := by
  obtain ⟨p1, m1, d1, p2, m2, d2, e0, _, _⟩ := h.raw
  subst e0
  obtain ⟨p3, m3, d3, p4, m4, d4, e1, _, _⟩ := k.raw
  subst e1
  have S0 : Hid _ := ((((sx_start w).addF h).addF k).box (.slice p1 m1 d1) (.slice p2 m2 d2) 47 _ rfl).box (.slice p3 m3 d3) (.slice p4 m4 d4) 47 _ rfl
  simp only [World.size_alloc] at S0
  have S1 : Hid _ := S0.out.box (.slice none 0 0) (.slice none 0 0) 47 _ rfl
  simp only [World.size_alloc] at S1
  obtain ⟨w0, hw0⟩ : ∃ w0, w0 = ((w.alloc (.cells #[.slice p1 m1 d1, .slice p2 m2 d2] 47)).alloc (.cells #[.slice p3 m3 d3, .slice p4 m4 d4] 47)).alloc (.cells #[.slice none 0 0, .slice none 0 0] 47) := ⟨_, rfl⟩
  have f6 : w0.frozen? ⟨w.heap.size + 1 + 1, 0, none⟩ = false := by rw [hw0]; simp [go_sem]
  have f7 : w0.frozen? ⟨w.heap.size + 1 + 1, 1, none⟩ = false := by rw [hw0]; simp [go_sem]
  have HH : Hid (RS p ∧ RS q ∧ RS x ∧ RS y ∧ Tab w) := ⟨hp, hq, hx, hy, hT⟩
  have HD : Hid (decide (x = 0) = false) := decide_eq_false (by omega)
  have HK : Hid (0 < x ∧ 0 < y ∧ Nat.gcd y x = 1) := ⟨hx0, k.pos, by rw [Nat.gcd_comm]; exact k.low⟩
  clear h k hp hq hx hy hT S0 hx0
  go_enter Tryz.func38, Tryz.ntmps38
  go_wp2_with fail
  rw [← hw0] at S1
  rw [← hw0]
  obtain ⟨b2, hb2⟩ : ∃ b2, b2 = w.heap.size := ⟨_, rfl⟩
  have HB : Hid (w.heap.size ≤ b2 + 1 + 1) := by show _ ≤ _; omega
  rw [← hb2] at S1 f6 f7
  rw [← hb2]
  clear hw0 hb2
  have FZ : Hid (w0.frozen? ⟨b2 + 1 + 1, 0, none⟩ = false ∧ w0.frozen? ⟨b2 + 1 + 1, 1, none⟩ = false) := ⟨f6, f7⟩
  clear f6 f7
  refine (parts_any _ x y _ (S1.out.fr (.agg #[.slice p3 m3 d3, .slice p4 m4 d4]) x y) HH.out.2.2.2.1.fits).mono ?_
  rintro e v7w ⟨v7, v8, rfl, hv, hu, hb⟩
  obtain ⟨a7, n7, c7, rfl⟩ := hv.isAgg
  obtain ⟨a8, n8, c8, rfl⟩ := hu.isAgg
  have hbb := bel_go hb (bel_al (o := .cells #[.slice a8 n8 c8] 45) (bel_al (o := .cells #[.slice a7 n7 c7] 45) (bel_refl _)))
  have FZ : Hid (((v7w.alloc (.cells #[.slice a7 n7 c7] 45)).alloc (.cells #[.slice a8 n8 c8] 45)).frozen? ⟨b2 + 1 + 1, 0, none⟩ = false ∧ ((v7w.alloc (.cells #[.slice a7 n7 c7] 45)).alloc (.cells #[.slice a8 n8 c8] 45)).frozen? ⟨b2 + 1 + 1, 1, none⟩ = false) := ⟨(hbb.frozen (World.block_lt_of_cell? _ _ (S1.out.cel (b2 + 1 + 1) 0 (.slice none 0 0)))).trans FZ.out.1, (hbb.frozen (World.block_lt_of_cell? _ _ (S1.out.cel (b2 + 1 + 1) 1 (.slice none 0 0)))).trans FZ.out.2⟩
  have S3 : Hid _ := ((((S1.out.go hb).addN hv).addN hu).box1 (.slice a7 n7 c7) 45 _ rfl).box1 (.slice a8 n8 c8) 45 _ rfl
  clear hv hu hb hbb S1
  simp only [World.size_alloc] at S3
  go_wp2_with fail
  obtain ⟨w7, hw⟩ : ∃ w7, w7 = (v7w.alloc (.cells #[.slice a7 n7 c7] 45)).alloc (.cells #[.slice a8 n8 c8] 45) := ⟨_, rfl⟩
  obtain ⟨b7, hb⟩ : ∃ b7, b7 = v7w.heap.size := ⟨_, rfl⟩
  rw [← hw, ← hb] at S3
  rw [← hw] at FZ
  rw [← hw, ← hb]
  clear hw hb
  have IZ := isZero_any _ x _ (S3.out.at (.agg #[.slice a7 n7 c7]) x) HH.out.2.2.1.fits
  rw [HD.out] at IZ
  refine IZ.mono ?_
  clear IZ
  rintro e w9 ⟨rfl, hb⟩
  have FZ : Hid (w9.frozen? ⟨b2 + 1 + 1, 0, none⟩ = false ∧ w9.frozen? ⟨b2 + 1 + 1, 1, none⟩ = false) := ⟨(hb.frozen (World.block_lt_of_cell? _ _ (S3.out.cel (b2 + 1 + 1) 0 (.slice none 0 0)))).trans FZ.out.1, (hb.frozen (World.block_lt_of_cell? _ _ (S3.out.cel (b2 + 1 + 1) 1 (.slice none 0 0)))).trans FZ.out.2⟩
  have S4 : Hid _ := S3.out.go hb
  clear hb S3
  have z1 := S4.out.cel b2 0 (.slice p1 m1 d1)
  have z2 := S4.out.cel b2 1 (.slice p2 m2 d2)
  have z7 := S4.out.cel b7 0 (.slice a7 n7 c7)
  have z8 := S4.out.cel (b7 + 1) 0 (.slice a8 n8 c8)
  go_wp2_with fail
  clear z1 z2 z7 z8
  have TU : Rt w9 (.agg #[.slice a8 n8 c8, .slice a7 n7 c7]) y x := ⟨⟨_, _, _, _, _, _, rfl, S4.out.at (.agg #[.slice a8 n8 c8]) y, by
    rw [if_neg (by have := HK.out.2.1; omega)]
    exact S4.out.at (.agg #[.slice a7 n7 c7]) x⟩, HK.out.1, HK.out.2.2⟩
  refine (ratMul_any _ _ p q y x _ (S4.out.fr (.agg #[.slice p1 m1 d1, .slice p2 m2 d2]) p q) TU HH.out.1 HH.out.2.1 HH.out.2.2.2.1 HH.out.2.2.1 (HH.out.2.2.2.2.go S4.out.bel)).mono ?_
  clear TU
  rintro e w13 ⟨v13, rfl, hv, hb⟩
  obtain ⟨p7, q7, r7, p8, q8, r8, ev, _, _⟩ := hv.raw
  subst ev
  have x0 := cell_later hb (S4.out.cel (b2 + 1 + 1) 0 (.slice none 0 0))
  have x1 := cell_later hb (S4.out.cel (b2 + 1 + 1) 1 (.slice none 0 0))
  have FZ : Hid (w13.frozen? ⟨b2 + 1 + 1, 0, none⟩ = false ∧ w13.frozen? ⟨b2 + 1 + 1, 1, none⟩ = false) := ⟨(hb.frozen (World.block_lt_of_cell? _ _ (S4.out.cel (b2 + 1 + 1) 0 (.slice none 0 0)))).trans FZ.out.1, (hb.frozen (World.block_lt_of_cell? _ _ (S4.out.cel (b2 + 1 + 1) 1 (.slice none 0 0)))).trans FZ.out.2⟩
  have f0 := FZ.out.1
  have f1 := FZ.out.2
  have Z : Hid _ := rat_put (w0 := w) (v := .slice p7 q7 r7) (u := .slice p8 q8 r8) x0 x1 hv (bel_go S4.out.bel hb) HB.out
  clear hv hb S4 FZ
  go_wp2_with fail
  exact bodyPost_ret (v := .tuple #[.agg #[.slice p7 q7 r7, .slice p8 q8 r8], .bool true]) (by simp [results, Tryz.results38, go_sem, x0, x1]) rfl ⟨_, rfl, Z.out.1, Z.out.2⟩
set_option maxHeartbeats 8000000 in
theorem ratDiv_no (v u : Value) (p q x y : Nat) (w : World) (h : Rt w v p q) (k : Rt w u x y) (hp : RS p) (hq : RS q) (hx : RS x) (hy : RS y) (hx0 : x = 0) (hT : Tab w) :
    Calls Tryz.prog 38 #[v, u] w (MakesRB w 0 1 false) := by
  obtain ⟨p1, m1, d1, p2, m2, d2, e0, _, _⟩ := h.raw
  subst e0
  obtain ⟨p3, m3, d3, p4, m4, d4, e1, _, _⟩ := k.raw
  subst e1
  have S0 : Hid _ := ((((sx_start w).addF h).addF k).box (.slice p1 m1 d1) (.slice p2 m2 d2) 47 _ rfl).box (.slice p3 m3 d3) (.slice p4 m4 d4) 47 _ rfl
  simp only [World.size_alloc] at S0
  have S1 : Hid _ := S0.out.box (.slice none 0 0) (.slice none 0 0) 47 _ rfl
  simp only [World.size_alloc] at S1
  obtain ⟨w0, hw0⟩ : ∃ w0, w0 = ((w.alloc (.cells #[.slice p1 m1 d1, .slice p2 m2 d2] 47)).alloc (.cells #[.slice p3 m3 d3, .slice p4 m4 d4] 47)).alloc (.cells #[.slice none 0 0, .slice none 0 0] 47) := ⟨_, rfl⟩
  have f6 : w0.frozen? ⟨w.heap.size + 1 + 1, 0, none⟩ = false := by rw [hw0]; simp [go_sem]
  have f7 : w0.frozen? ⟨w.heap.size + 1 + 1, 1, none⟩ = false := by rw [hw0]; simp [go_sem]
  have HH : Hid (RS p ∧ RS q ∧ RS x ∧ RS y ∧ Tab w) := ⟨hp, hq, hx, hy, hT⟩
  have HD : Hid (decide (x = 0) = true) := decide_eq_true hx0
  clear h k hp hq hx hy hT S0 hx0
  go_enter Tryz.func38, Tryz.ntmps38
  go_wp2_with fail
  rw [← hw0] at S1
  rw [← hw0]
  obtain ⟨b2, hb2⟩ : ∃ b2, b2 = w.heap.size := ⟨_, rfl⟩
  have HB : Hid (w.heap.size ≤ b2 + 1 + 1) := by show _ ≤ _; omega
  rw [← hb2] at S1 f6 f7
  rw [← hb2]
  clear hw0 hb2
  have FZ : Hid (w0.frozen? ⟨b2 + 1 + 1, 0, none⟩ = false ∧ w0.frozen? ⟨b2 + 1 + 1, 1, none⟩ = false) := ⟨f6, f7⟩
  clear f6 f7
  refine (parts_any _ x y _ (S1.out.fr (.agg #[.slice p3 m3 d3, .slice p4 m4 d4]) x y) HH.out.2.2.2.1.fits).mono ?_
  rintro e v7w ⟨v7, v8, rfl, hv, hu, hb⟩
  obtain ⟨a7, n7, c7, rfl⟩ := hv.isAgg
  obtain ⟨a8, n8, c8, rfl⟩ := hu.isAgg
  have hbb := bel_go hb (bel_al (o := .cells #[.slice a8 n8 c8] 45) (bel_al (o := .cells #[.slice a7 n7 c7] 45) (bel_refl _)))
  have FZ : Hid (((v7w.alloc (.cells #[.slice a7 n7 c7] 45)).alloc (.cells #[.slice a8 n8 c8] 45)).frozen? ⟨b2 + 1 + 1, 0, none⟩ = false ∧ ((v7w.alloc (.cells #[.slice a7 n7 c7] 45)).alloc (.cells #[.slice a8 n8 c8] 45)).frozen? ⟨b2 + 1 + 1, 1, none⟩ = false) := ⟨(hbb.frozen (World.block_lt_of_cell? _ _ (S1.out.cel (b2 + 1 + 1) 0 (.slice none 0 0)))).trans FZ.out.1, (hbb.frozen (World.block_lt_of_cell? _ _ (S1.out.cel (b2 + 1 + 1) 1 (.slice none 0 0)))).trans FZ.out.2⟩
  have S3 : Hid _ := ((((S1.out.go hb).addN hv).addN hu).box1 (.slice a7 n7 c7) 45 _ rfl).box1 (.slice a8 n8 c8) 45 _ rfl
  clear hv hu hb hbb S1
  simp only [World.size_alloc] at S3
  go_wp2_with fail
  obtain ⟨w7, hw⟩ : ∃ w7, w7 = (v7w.alloc (.cells #[.slice a7 n7 c7] 45)).alloc (.cells #[.slice a8 n8 c8] 45) := ⟨_, rfl⟩
  obtain ⟨b7, hb⟩ : ∃ b7, b7 = v7w.heap.size := ⟨_, rfl⟩
  rw [← hw, ← hb] at S3
  rw [← hw] at FZ
  rw [← hw, ← hb]
  clear hw hb
  have IZ := isZero_any _ x _ (S3.out.at (.agg #[.slice a7 n7 c7]) x) HH.out.2.2.1.fits
  rw [HD.out] at IZ
  refine IZ.mono ?_
  clear IZ
  rintro e w9 ⟨rfl, hb⟩
  have FZ : Hid (w9.frozen? ⟨b2 + 1 + 1, 0, none⟩ = false ∧ w9.frozen? ⟨b2 + 1 + 1, 1, none⟩ = false) := ⟨(hb.frozen (World.block_lt_of_cell? _ _ (S3.out.cel (b2 + 1 + 1) 0 (.slice none 0 0)))).trans FZ.out.1, (hb.frozen (World.block_lt_of_cell? _ _ (S3.out.cel (b2 + 1 + 1) 1 (.slice none 0 0)))).trans FZ.out.2⟩
  have S4 : Hid _ := S3.out.go hb
  clear hb S3
  have x0 := S4.out.cel (b2 + 1 + 1) 0 (.slice none 0 0)
  have x1 := S4.out.cel (b2 + 1 + 1) 1 (.slice none 0 0)
  have f0 := FZ.out.1
  have f1 := FZ.out.2
  have Z : Hid _ := rat_put (w0 := w) (v := .slice none 0 0) (u := .slice none 0 0) x0 x1 (rt_zero _) S4.out.bel HB.out
  clear S4 FZ
  go_wp2_with fail
  exact bodyPost_ret (v := .tuple #[.agg #[.slice none 0 0, .slice none 0 0], .bool false]) (by simp [results, Tryz.results38, go_sem, x0, x1]) rfl ⟨_, rfl, Z.out.1, Z.out.2⟩
def sumPQ (X Y : Nat → Nat) : Nat → Nat × Nat
  | 0 => (0, 1)
  | i + 1 => (addP (sumPQ X Y i).1 (sumPQ X Y i).2 (X i) (Y i), addQ (sumPQ X Y i).1 (sumPQ X Y i).2 (X i) (Y i))
structure SumS (w0 w : World) (b g n : Nat) (E E' : Nat → Value) (X Y : Nat → Nat) (p q : Nat) (a : Option Addr) (m c : Nat) (a' : Option Addr) (m' c' : Nat) : Prop where
  rt : Rt w (.agg #[.slice a m c, .slice a' m' c']) p q
  c0 : w.cell? ⟨b + 1, 0, none⟩ = some (.slice a m c)
  c1 : w.cell? ⟨b + 1, 1, none⟩ = some (.slice a' m' c')
  f0 : w.frozen? ⟨b + 1, 0, none⟩ = false
  f1 : w.frozen? ⟨b + 1, 1, none⟩ = false
  r0 : w.cell? ⟨b, 0, none⟩ = some (.slice none 0 0)
  r1 : w.cell? ⟨b, 1, none⟩ = some (.slice none 0 0)
  g0 : w.frozen? ⟨b, 0, none⟩ = false
  g1 : w.frozen? ⟨b, 1, none⟩ = false
  el : ∀ i, i < n → w.cell? ⟨g, i * 2, none⟩ = some (E i) ∧ w.cell? ⟨g, i * 2 + 1, none⟩ = some (E' i) ∧ Rt w (.agg #[E i, E' i]) (X i) (Y i)
  bel : Below w0.heap.size w0 w
  ne : g < b
  lo : w0.heap.size ≤ b
theorem SumS.go {w0 w w' : World} {b g n : Nat} {E E' : Nat → Value} {X Y : Nat → Nat} {p q : Nat} {a : Option Addr} {m c : Nat} {a' : Option Addr} {m' c' : Nat} (h : SumS w0 w b g n E E' X Y p q a m c a' m' c') (hb : Below w.heap.size w w') : SumS w0 w' b g n E E' X Y p q a m c a' m' c' :=
  ⟨h.rt.mono hb, cell_later hb h.c0, cell_later hb h.c1, (hb.frozen (World.block_lt_of_cell? _ _ h.c0)).trans h.f0, (hb.frozen (World.block_lt_of_cell? _ _ h.c1)).trans h.f1, cell_later hb h.r0, cell_later hb h.r1, (hb.frozen (World.block_lt_of_cell? _ _ h.r0)).trans h.g0, (hb.frozen (World.block_lt_of_cell? _ _ h.r1)).trans h.g1, fun i hi => ⟨cell_later hb (h.el i hi).1, cell_later hb (h.el i hi).2.1, (h.el i hi).2.2.mono hb⟩, bel_go h.bel hb, h.ne, h.lo⟩
theorem SumS.set {w0 w : World} {b g n : Nat} {E E' : Nat → Value} {X Y : Nat → Nat} {p q : Nat} {a : Option Addr} {m c : Nat} {a' : Option Addr} {m' c' : Nat} (h : SumS w0 w b g n E E' X Y p q a m c a' m' c') {s : Option Addr} {k d : Nat} {s' : Option Addr} {k' d' : Nat} {p' q' : Nat} (hv : Rt w (.agg #[.slice s k d, .slice s' k' d']) p' q') :
    SumS w0 ((w.setCell ⟨b + 1, 0, none⟩ (.slice s k d)).setCell ⟨b + 1, 1, none⟩ (.slice s' k' d')) b g n E E' X Y p' q' s k d s' k' d' := by
  obtain ⟨n1, n2⟩ := two_set h.c0 h.c1 (.slice s k d)
  have hd : (w.setCell ⟨b + 1, 0, none⟩ (.slice s k d)).cell? ⟨b + 1, 1, none⟩ = some (.slice a' m' c') := by rw [World.cell?_setCell_other (h := by simp), h.c1]
  have far : ∀ r i v, r ≠ b + 1 → w.cell? ⟨r, i, none⟩ = some v → ((w.setCell ⟨b + 1, 0, none⟩ (.slice s k d)).setCell ⟨b + 1, 1, none⟩ (.slice s' k' d')).cell? ⟨r, i, none⟩ = some v := fun r i v hr hc => by
    rw [World.cell?_setCell_far _ _ _ _ (by simpa using Ne.symm hr), World.cell?_setCell_far _ _ _ _ (by simpa using Ne.symm hr)]
    exact hc
  have hne := h.ne
  have hlo := h.lo
  refine ⟨(hv.setCell n1 _).setCell n2 _, ?_, by simp [go_sem, hd], by simp [World.frozen?_setCell, h.f0], by simp [World.frozen?_setCell, h.f1], far b 0 _ (by omega) h.r0, far b 1 _ (by omega) h.r1, by simp [World.frozen?_setCell, h.g0], by simp [World.frozen?_setCell, h.g1], fun i hi => ⟨far g _ _ (by omega) (h.el i hi).1, far g _ _ (by omega) (h.el i hi).2.1, ((h.el i hi).2.2.setCell n1 _).setCell n2 _⟩, (h.bel.setCell (p := ⟨b + 1, 0, none⟩) (by show _ ≤ b + 1; omega) _).setCell (p := ⟨b + 1, 1, none⟩) (by show _ ≤ b + 1; omega) _, h.ne, h.lo⟩
  rw [World.cell?_setCell_other (h := by simp)]
  simp [go_sem, h.c0]
set_option maxHeartbeats 8000000 in
theorem ratSumL_any (g n cap : Nat) (E E' : Nat → Value) (X Y : Nat → Nat) (w : World) (hn : n ≤ 1000) (hc : n ≤ cap) (hc2 : cap ≤ 1000) (he : ∀ i, i < n → w.cell? ⟨g, i * 2, none⟩ = some (E i) ∧ w.cell? ⟨g, i * 2 + 1, none⟩ = some (E' i) ∧ Rt w (.agg #[E i, E' i]) (X i) (Y i)) (hs : ∀ i, i < n → RL (X i) ∧ RL (Y i) ∧ RL (sumPQ X Y i).1 ∧ RL (sumPQ X Y i).2) (hg : g < w.heap.size) (hT : Tab w) :
    Calls Tryz.prog 37 #[.slice (some ⟨g, 0, none⟩) n cap] w (MakesR w (sumPQ X Y n).1 (sumPQ X Y n).2) := by
  obtain ⟨w0, hw0⟩ : ∃ w0, w0 = (w.alloc (.cells #[.slice none 0 0, .slice none 0 0] 47)).alloc (.cells #[.slice none 0 0, .slice none 0 0] 47) := ⟨_, rfl⟩
  have ba : Below w.heap.size w w0 := by rw [hw0]; exact bel_al (bel_al (bel_refl w))
  have S0 : Hid (SumS w w0 w.heap.size g n E E' X Y (sumPQ X Y 0).1 (sumPQ X Y 0).2 none 0 0 none 0 0) := by
    refine ⟨rt_zero _, ?_, ?_, ?_, ?_, ?_, ?_, ?_, ?_, fun i hi => ⟨cell_later ba (he i hi).1, cell_later ba (he i hi).2.1, (he i hi).2.2.mono ba⟩, ba, hg, Nat.le_refl _⟩ <;> rw [hw0] <;> simp [go_sem]
  have HS : Hid (∀ i, i < n → RL (X i) ∧ RL (Y i) ∧ RL (sumPQ X Y i).1 ∧ RL (sumPQ X Y i).2) := hs
  have HT : Hid (Tab w) := hT
  clear he hs hT ba hg
  go_enter Tryz.func37, Tryz.ntmps37
  go_wp2_with fail
  rw [← hw0]
  obtain ⟨b, hb⟩ : ∃ b, b = w.heap.size := ⟨_, rfl⟩
  rw [← hb] at S0
  rw [← hb]
  clear hw0 hb
  go_loopw [8] (fun t wr => ∃ (i : Nat) (a : Option Addr) (m c : Nat) (a' : Option Addr) (m' c' : Nat), i ≤ n ∧ t = .int .i64 (i : Int) ∧ SumS w wr b g n E E' X Y (sumPQ X Y i).1 (sumPQ X Y i).2 a m c a' m' c') (fun t _ => n - (intOf t).toNat)
  case atStart => exact ⟨0, _, _, _, _, _, _, by omega, rfl, S0.out⟩
  case round =>
    clear S0
    obtain ⟨i, a, m, c, a', m', c', hi, rfl, hS⟩ := hrel
    have S1 : Hid _ := hS
    clear hS
    by_cases hin : i < n
    · obtain ⟨p1, m1, d1, p2, m2, d2, ev, _, _⟩ := (S1.out.el i hin).2.2.raw
      have e1 : E i = .slice p1 m1 d1 := by simp at ev; exact ev.1
      have e2 : E' i = .slice p2 m2 d2 := by simp at ev; exact ev.2
      have z0 := (S1.out.el i hin).1
      have z1 := (S1.out.el i hin).2.1
      rw [e1] at z0
      rw [e2] at z1
      have hR := (S1.out.el i hin).2.2
      rw [e1, e2] at hR
      have bl := bel_al (o := .cells #[.slice p1 m1 d1, .slice p2 m2 d2] 47) (bel_refl wr)
      have S2 : Hid _ := S1.out.go bl
      have HR : Hid _ := hR.mono bl
      have y0 := S2.out.c0
      have y1 := S2.out.c1
      clear e1 e2 ev hR bl
      go_wp2_with fail
      obtain ⟨w5, hw⟩ : ∃ w5, w5 = wr.alloc (.cells #[.slice p1 m1 d1, .slice p2 m2 d2] 47) := ⟨_, rfl⟩
      rw [← hw] at S2 HR
      rw [← hw]
      clear hw y0 y1 z0 z1
      refine (ratAddL_any _ _ (sumPQ X Y i).1 (sumPQ X Y i).2 (X i) (Y i) _ S2.out.rt HR.out (HS.out i hin).2.2.1 (HS.out i hin).2.2.2 (HS.out i hin).1 (HS.out i hin).2.1 (HT.out.go S2.out.bel)).mono ?_
      rintro e w6 ⟨v6, rfl, hv, hb⟩
      obtain ⟨q1, k1, e1, q2, k2, e2, ev, _, _⟩ := hv.raw
      subst ev
      have S3 : Hid _ := S2.out.go hb
      have S4 : Hid _ := S3.out.set hv
      have y0 := S3.out.c0
      have y1 := S3.out.c1
      have x0 := S3.out.f0
      have x1 := S3.out.f1
      clear hv hb S2 HR S1 S3
      go_wp2_with fail
      go_roundw
      case rel => exact ⟨i + 1, _, _, _, _, _, _, by omega, by go_num, S4.out⟩
      case measure => simp [intOf]; omega
    obtain rfl : i = n := by omega
    have y0 := S1.out.c0
    have y1 := S1.out.c1
    have z0 := S1.out.r0
    have z1 := S1.out.r1
    have x0 := S1.out.g0
    have x1 := S1.out.g1
    have Z : Hid _ := rat_put (w0 := w) (v := .slice a m c) (u := .slice a' m' c') z0 z1 S1.out.rt S1.out.bel S1.out.lo
    clear S1
    go_wp2_with fail
    exact bodyPost_ret (v := .agg #[.slice a m c, .slice a' m' c']) (by simp [results, Tryz.results37, go_sem, z0, z1]) rfl ⟨_, rfl, Z.out.1, Z.out.2⟩
theorem ratSum_any (g n cap : Nat) (E E' : Nat → Value) (X Y : Nat → Nat) (w : World) (hn : n ≤ 1000) (hc : n ≤ cap) (hc2 : cap ≤ 1000) (he : ∀ i, i < n → w.cell? ⟨g, i * 2, none⟩ = some (E i) ∧ w.cell? ⟨g, i * 2 + 1, none⟩ = some (E' i) ∧ Rt w (.agg #[E i, E' i]) (X i) (Y i)) (hs : ∀ i, i < n → RS (X i) ∧ RS (Y i) ∧ RS (sumPQ X Y i).1 ∧ RS (sumPQ X Y i).2) (hg : g < w.heap.size) (hT : Tab w) :
    Calls Tryz.prog 37 #[.slice (some ⟨g, 0, none⟩) n cap] w (MakesR w (sumPQ X Y n).1 (sumPQ X Y n).2) := ratSumL_any g n cap E E' X Y w hn hc hc2 he (fun i hi => ⟨(hs i hi).1.l, (hs i hi).2.1.l, (hs i hi).2.2.1.l, (hs i hi).2.2.2.l⟩) hg hT
def bt (D : Nat → Nat) : Nat → Value := fun j => .int .u8 ((D j : Nat) : Int)
def five (j : Nat) : Nat := 201 + j
theorem rs_few {x : Nat} (h : x < 100) : RS x := rs_word (by omega)
theorem IsNat.byte {w : World} {v : Value} {x : Nat} (h : IsNat w v x) {p : Addr} {z : Int} (hp : w.cell? p = some (.int .u8 z)) (u : Value) : IsNat (w.setCell p u) v x := by
  obtain ⟨a, n, cap, F, rfl, ⟨s1, s2, s3, s4⟩, h0, h1, hv⟩ := h
  refine ⟨a, n, cap, F, rfl, ⟨s1, s2, s3, s4.imp id ?_⟩, h0, h1, hv⟩
  rintro ⟨b, o, rfl, hw⟩
  refine ⟨b, o, rfl, fun i hi => ?_⟩
  have hne : (⟨b, o + i, none⟩ : Addr) ≠ p := fun e => by
    have h2 := hw i hi
    rw [e, hp] at h2
    simp at h2
  exact (World.cell?_setCell_other (h := hne.symm) ..).trans (hw i hi)
theorem RNat.byte {w : World} {v : Value} {x : Nat} (h : RNat w v x) {p : Addr} {z : Int} (hp : w.cell? p = some (.int .u8 z)) (u : Value) : RNat (w.setCell p u) v x := by
  obtain ⟨a, n, cap, F, rfl, ⟨s1, s2, s3, s4⟩, h0, h1, hv⟩ := h
  refine ⟨a, n, cap, F, rfl, ⟨s1, s2, s3, s4.imp id ?_⟩, h0, h1, hv⟩
  rintro ⟨b, o, rfl, hw⟩
  refine ⟨b, o, rfl, fun i hi => ?_⟩
  have hne : (⟨b, o + i, none⟩ : Addr) ≠ p := fun e => by
    have h2 := hw i hi
    rw [e, hp] at h2
    simp at h2
  exact (World.cell?_setCell_other (h := hne.symm) ..).trans (hw i hi)
theorem Rt.byte {w : World} {v : Value} {x y : Nat} (h : Rt w v x y) {p : Addr} {z : Int} (hp : w.cell? p = some (.int .u8 z)) (u : Value) : Rt (w.setCell p u) v x y := by
  obtain ⟨⟨a, n, c, a', n', c', e, h1, h2⟩, h3, h4⟩ := h
  exact ⟨⟨a, n, c, a', n', c', e, h1.byte hp u, h2.byte hp u⟩, h3, h4⟩
theorem RRt.byte {w : World} {v : Value} {x y : Nat} (h : RRt w v x y) {p : Addr} {z : Int} (hp : w.cell? p = some (.int .u8 z)) (u : Value) : RRt (w.setCell p u) v x y := by
  obtain ⟨a, n, c, a', n', c', e, h1, h2⟩ := h
  exact ⟨a, n, c, a', n', c', e, h1.byte hp u, h2.byte hp u⟩
theorem SX.byte {w0 w : World} {F G : List (Value × Nat × Nat)} {C : List (Nat × Nat × Value)} (h : SX w0 w [] [] F G C) {p : Addr} {z : Int} (hp : w.cell? p = some (.int .u8 z)) (hlo : w0.heap.size ≤ p.block) (hC : ∀ q ∈ C, ∃ a n c, q.2.2 = .slice a n c) (u : Value) : SX w0 (w.setCell p u) [] [] F G C :=
  ⟨(fun _ h => by cases h), (fun _ h => by cases h), fun q hq => (h.frs q hq).byte hp u, fun q hq => (h.rfrs q hq).byte hp u, (fun q hq => by
    obtain ⟨a, n, c, e⟩ := hC q hq
    have h2 := h.cells q hq
    have hne : p ≠ ⟨q.1, q.2.1, none⟩ := fun e2 => by
      rw [← e2, hp, e] at h2
      simp at h2
    exact (World.cell?_setCell_other (h := hne) ..).trans h2), h.bel.setCell hlo u⟩
theorem SX.sub {w0 w : World} {N M : List (Value × Nat)} {F G : List (Value × Nat × Nat)} {C : List (Nat × Nat × Value)} (h : SX w0 w N M F G C) {F' G' : List (Value × Nat × Nat)} {C' : List (Nat × Nat × Value)} (hF : ∀ p ∈ F', p ∈ F) (hG : ∀ p ∈ G', p ∈ G) (hC : ∀ p ∈ C', p ∈ C) : SX w0 w [] [] F' G' C' :=
  ⟨(fun _ h => by cases h), (fun _ h => by cases h), fun p hp => h.frs p (hF p hp), fun p hp => h.rfrs p (hG p hp), fun p hp => h.cells p (hC p hp), h.bel⟩
theorem add_same {p q x y : Nat} (hq : 0 < q) (hy : 0 < y) (h1 : Nat.gcd p q = 1) (h2 : Nat.gcd x y = 1) : (p * y + x * q) / Nat.gcd (p * y + x * q) (q * y) = addP p q x y ∧ (q * y) / Nat.gcd (p * y + x * q) (q * y) = addQ p q x y := by
  have low := add_low hq hy h1 h2 (A := addA p q x y) rfl rfl
  have hD : 0 < q * y := Nat.mul_pos hq hy
  obtain ⟨t1, t2, t3⟩ := low_terms (p * y + x * q) (q * y) hD
  refine low_one t1 low.2.1 t3 low.2.2 ?_
  have g0 : 0 < Nat.gcd q y := Nat.gcd_pos_of_pos_left _ hq
  have cross : addP p q x y * (q * y) = (p * y + x * q) * addQ p q x y := by
    obtain ⟨d0, _, _⟩ := low
    obtain ⟨A, hA⟩ : ∃ A, A = addA p q x y := ⟨_, rfl⟩
    rw [← hA] at d0
    have hP : addP p q x y = A / Nat.gcd A (Nat.gcd q y) := by rw [hA]; rfl
    have hQ : addQ p q x y = q / Nat.gcd q y * (y / Nat.gcd A (Nat.gcd q y)) := by rw [hA]; rfl
    rw [hP, hQ]
    obtain ⟨a, ha⟩ := Nat.gcd_dvd_left q y
    obtain ⟨b, hb⟩ := Nat.gcd_dvd_right q y
    have hA2 : A = p * (y / Nat.gcd q y) + x * (q / Nat.gcd q y) := hA
    obtain ⟨d, hd⟩ : ∃ d, d = Nat.gcd A (Nat.gcd q y) := ⟨_, rfl⟩
    obtain ⟨A', hA'⟩ : d ∣ A := by rw [hd]; exact Nat.gcd_dvd_left _ _
    obtain ⟨y', hy'⟩ : d ∣ y := by rw [hd]; exact Nat.dvd_trans (Nat.gcd_dvd_right _ _) (Nat.gcd_dvd_right q y)
    rw [← hd] at d0
    rw [← hd]
    obtain ⟨g, hg⟩ : ∃ g, g = Nat.gcd q y := ⟨_, rfl⟩
    rw [← hg] at ha hb hA2 g0
    rw [← hg]
    have e1 : q / g = a := by rw [ha, Nat.mul_div_cancel_left _ g0]
    have e2 : y / g = b := by rw [hb, Nat.mul_div_cancel_left _ g0]
    have e3 : A / d = A' := by rw [hA', Nat.mul_div_cancel_left _ d0]
    have e4 : y / d = y' := by rw [hy', Nat.mul_div_cancel_left _ d0]
    rw [e1, e2] at hA2
    rw [e1, e3, e4]
    have e5 : p * y + x * q = g * A := by rw [hA2, ha, hb]; grind
    rw [e5, hA', ha, hy']
    grind
  refine Nat.eq_of_mul_eq_mul_right hD ?_
  obtain ⟨u, hu⟩ : ∃ u, u = (p * y + x * q) / Nat.gcd (p * y + x * q) (q * y) := ⟨_, rfl⟩
  obtain ⟨v, hv⟩ : ∃ v, v = q * y / Nat.gcd (p * y + x * q) (q * y) := ⟨_, rfl⟩
  rw [← hu, ← hv] at t2
  rw [← hu, ← hv]
  have e1 : u * addQ p q x y * (q * y) = u * (q * y) * addQ p q x y := by grind
  have e2 : addP p q x y * v * (q * y) = addP p q x y * (q * y) * v := by grind
  rw [e1, e2, t2, cross]
  grind
def ahead (D : Nat → Nat) : Nat → Nat := fun j => if j < 1 then 0 else D (j - 1)
theorem or_zero (w : World) (base : Nat) (h : base ≤ w.heap.size) (D : Nat → Nat) : OR (w.alloc (.cells #[.int .u8 0] 5)) 5 base (.slice (some ⟨w.heap.size, 0, none⟩) 1 1) 1 (bt (ahead D)) :=
  .inr ⟨w.heap.size, 1, _, rfl, h, Nat.le_refl _, by simp only [maxLen]; omega, World.rowIs_alloc w #[.int .u8 0] 5 (fun _ => .int .u8 0) (fun i hi => by
    obtain rfl : i = 0 := by simpa using hi
    rfl), fun i hi => by
    obtain rfl : i = 0 := by omega
    rfl⟩
end Go.Proofs.YtfkkomppfghagaaGreatDoor
