/- Contracts of the program's functions, part 25: own work, joined in build order. -/
import Derived.Test.YtmiiaomdenpceaaGreatDoorJ24
import Derived.Handy
namespace Go.Proofs.YtmiiaomdenpceaaGreatDoor
open Go.RowKit
set_option maxRecDepth 100000
set_option linter.unusedVariables false
/-- What both Decimals tell. -/
def Both (p q : Nat) (z : Int) (T : ByteArray) (ok : Bool) : Prop := (∀ v w, Rt w v p q → Calls Tryz.prog 26 #[v, .int .i64 z] w fun e w' => e = .returned (.tuple #[.string T, .bool ok]) ∧ Below w.heap.size w w') ∧ (∀ v w, RRt w v p q → Calls Tryz.prog 27 #[v, .int .i64 z] w fun e w' => e = .returned (.tuple #[.string T, .bool ok]) ∧ Below w.heap.size w w')
theorem both_ex {p q : Nat} (hF : Fc p q p q 38) (z : Int) : ∃ T ok, Both p q z T ok := by
  by_cases hz : z < 0 ∨ 100 < z
  · exact ⟨_, _, fun v w h => decimal_no v z w p q h hz, fun v w h => rdecimal_no v z w p q h hz⟩
  · obtain ⟨m, rfl⟩ : ∃ m : Nat, z = (m : Int) := ⟨z.toNat, by omega⟩
    obtain ⟨k, hk⟩ := dec_ex (nearN (p * 10 ^ m) q)
    exact ⟨_, _, fun v w h => decimal_any v p q m k w h (P_up hF.s1 (by omega)) (P_up hF.s2 (by omega)) hF.pos (by omega) hk (rep_any (by omega)), fun v w h => rdecimal_any v p q m k w h (P_up hF.s1 (by omega)) (P_up hF.s2 (by omega)) hF.pos (by omega) hk⟩
set_option maxHeartbeats 1000000 in
theorem texts3 (a0 : Option Addr) (l0 k0 : Nat) (a1 : Option Addr) (l1 k1 : Nat) (m0 m1 x y p q k l : Nat) (pl few f : Int) (T0 T1 : ByteArray) (ok0 ok1 : Bool) (w : World) (h0 : Fed3 w a0 l0 k0 m0 x) (h1 : Fed3 w a1 l1 k1 m1 y) (hT : Tab w) (hp : x / Nat.gcd x (orOne y) = p) (hq : orOne y / Nat.gcd x (orOne y) = q) (hF : Fc p q p q 38) (hk : DecLen p k) (hl : DecLen q l) (hf : bits .and .i64 few 127 = f) (hb0 : Both p q pl T0 ok0) (hb1 : Both p q f T1 ok1) :
    Calls Tryz.prog 4 #[.slice a0 l0 k0, .slice a1 l1 k1, .int .i64 pl, .int .i64 few] w fun e w' => e = .returned (.bool true) ∧ Below w.heap.size w w' := by
  have HC : Hid (RS p ∧ RS q ∧ DecLen p k ∧ DecLen q l) := ⟨hF.rs1 (by omega), hF.rs2 (by omega), hk, hl⟩
  have HH : Hid (Fed3 w a0 l0 k0 m0 x ∧ Fed3 w a1 l1 k1 m1 y ∧ Tab w) := ⟨h0, h1, hT⟩
  have HP : Hid (x / Nat.gcd x (orOne y) = p ∧ orOne y / Nat.gcd x (orOne y) = q) := ⟨hp, hq⟩
  obtain ⟨SS, hSS⟩ : ∃ SS, fmtT p q k l = SS := ⟨_, rfl⟩
  have HS : Hid (fmtT p q k l = SS) := hSS
  have B0 : Hid (Both p q pl T0 ok0) := hb0
  have B1 : Hid (Both p q f T1 ok1) := hb1
  clear hSS h0 h1 hT hp hq hF hk hl hb0 hb1
  go_enter Tryz.func4, Tryz.ntmps4
  go_wp2_with fail
  refine (made3_true a0 l0 k0 a1 l1 k1 m0 m1 x y _ HH.out.1 HH.out.2.1 HH.out.2.2).mono ?_
  rintro e v5w ⟨v5, v6, rfl, hv, hu, hb⟩
  rw [HP.out.1, HP.out.2] at hv hu
  obtain ⟨a5, n5, c5, d5, m5, g5, ev, _, _⟩ := hv.raw
  subst ev
  obtain ⟨a6, n6, c6, d6, m6, g6, ev, _, _⟩ := id hu
  subst ev
  have S1 : Hid _ := (((((sy_start w).go hb).addF hv).addG hu).box (.slice a5 n5 c5) (.slice d5 m5 g5) 28 _ rfl).box (.slice a6 n6 c6) (.slice d6 m6 g6) 32 _ rfl
  clear hv hu hb HP
  simp only [World.size_alloc] at S1
  go_wp2_with fail
  obtain ⟨w5, ew⟩ : ∃ w5, w5 = (v5w.alloc (.cells #[.slice a5 n5 c5, .slice d5 m5 g5] 28)).alloc (.cells #[.slice a6 n6 c6, .slice d6 m6 g6] 32) := ⟨_, rfl⟩
  obtain ⟨b5, eb⟩ : ∃ b5, b5 = v5w.heap.size := ⟨_, rfl⟩
  rw [← ew, ← eb] at S1
  rw [← ew, ← eb]
  clear ew eb
  refine wp_region_inv (JB w5 [sRt (p) (q), sEq (.string SS), sRRt (p) (q), sEq (.string SS), sEq (.bool false)] []) 65 (by kernel_rfl) rfl (by kernel_rfl) (JB.start _ _ _) (fun HG HN => ⟨?_, ?_, ?_, ?_, ?_, trivial⟩) ?_
  · intro L vs a w' hJ hF hP hL
    have q9 : (a.tmps[9]?).getD undef = .pointer (some ⟨b5, 0, none⟩) := hF.old 9 rfl
    have cb := cell_later hJ.bel (S1.out.cel (b5) 0 (.slice a5 n5 c5))
    have cc := cell_later hJ.bel (S1.out.cel (b5) 1 (.slice d5 m5 g5))
    exact run_val (v := .agg #[.slice a5 n5 c5, .slice d5 m5 g5]) rfl (by simp [execOp, go_sem, q9, cb, cc]) ⟨_, rfl, hJ.step hL rfl (Below.refl _ _) (by exact ((S1.out.fr (.agg #[.slice a5 n5 c5, .slice d5 m5 g5]) (p) (q)).mono hJ.bel))⟩
  · intro L vs a w' hJ hF hP hL
    have p0 : L 0 = true := hP ⟨0, .data⟩ (by simp) rfl
    have s0 : Rt w' (vs 0) (p) (q) := hJ.sp 0 p0
    have q23 := hF.slot 0 23 rfl p0
    refine run_call (f := 24) (args := #[vs 0]) rfl (by simp [go_sem, q23]) (format_any _ p q k l _ s0 HC.out.1 HC.out.2.1 HC.out.2.2.1 HC.out.2.2.2) ?_
    rintro e w2 ⟨rfl, hb⟩
    rw [HS.out]
    exact ⟨_, rfl, _, rfl, hJ.step hL rfl hb (by exact rfl)⟩
  · intro L vs a w' hJ hF hP hL
    have q10 : (a.tmps[10]?).getD undef = .pointer (some ⟨b5 + 1, 0, none⟩) := hF.old 10 rfl
    have cb := cell_later hJ.bel (S1.out.cel (b5 + 1) 0 (.slice a6 n6 c6))
    have cc := cell_later hJ.bel (S1.out.cel (b5 + 1) 1 (.slice d6 m6 g6))
    exact run_val (v := .agg #[.slice a6 n6 c6, .slice d6 m6 g6]) rfl (by simp [execOp, go_sem, q10, cb, cc]) ⟨_, rfl, hJ.step hL rfl (Below.refl _ _) (by exact ((S1.out.rfr (.agg #[.slice a6 n6 c6, .slice d6 m6 g6]) (p) (q)).mono hJ.bel))⟩
  · intro L vs a w' hJ hF hP hL
    have p2 : L 2 = true := hP ⟨2, .data⟩ (by simp) rfl
    have s2 : RRt w' (vs 2) (p) (q) := hJ.sp 2 p2
    have q25 := hF.slot 2 25 rfl p2
    refine run_call (f := 25) (args := #[vs 2]) rfl (by simp [go_sem, q25]) (rformat_any _ p q k l _ s2 HC.out.1 HC.out.2.1 HC.out.2.2.1 HC.out.2.2.2) ?_
    rintro e w2 ⟨rfl, hb⟩
    rw [HS.out]
    exact ⟨_, rfl, _, rfl, hJ.step hL rfl hb (by exact rfl)⟩
  · intro L vs a w' hJ hF hP hL
    have p1 : L 1 = true := hP ⟨1, .data⟩ (by simp) rfl
    have s1 : vs 1 = .string SS := hJ.sp 1 p1
    have q24 := hF.slot 1 24 rfl p1
    have p3 : L 3 = true := hP ⟨3, .data⟩ (by simp) rfl
    have s3 : vs 3 = .string SS := hJ.sp 3 p3
    have q26 := hF.slot 3 26 rfl p3
    exact run_val (v := .bool false) rfl (by simp [execOp, go_sem, q24, s1, q26, s3]) ⟨_, rfl, hJ.step hL rfl (Below.refl _ _) (by exact rfl)⟩
  intro L vs w' hA hJ
  have s4 : vs 4 = .bool false := hJ.sp 4 (hA 4 (by simp))
  simp only [putL, Act.put, List.setIfInBounds_toArray, List.set_cons_zero, List.set_cons_succ, Nat.reduceAdd]
  simp only [s4]
  obtain ⟨w6, ew⟩ : ∃ w6, w6 = w' := ⟨_, rfl⟩
  have S2 : Hid _ := S1.out.go hJ.bel
  rw [← ew] at S2
  rw [← ew]
  clear ew s4 hJ hA S1
  go_wp2_with fail
  have S3 : Hid (SY w (w6.alloc (.cells #[.int .i64 pl, .int .i64 f] 3)) [] [] _ _ ((w6.heap.size, 0, .int .i64 pl) :: (w6.heap.size, 1, .int .i64 f) :: _) []) := (S2.out.box (.int .i64 pl) (.int .i64 f) 3 _ rfl).sub _ _ _ _ _ _ (by simp) (by simp) (fun _ h => h) (fun _ h => h) (fun _ h => h) (by simp)
  clear S2
  obtain ⟨w7, ew⟩ : ∃ w7, w7 = w6.alloc (.cells #[.int .i64 pl, .int .i64 f] 3) := ⟨_, rfl⟩
  obtain ⟨bl, eb⟩ : ∃ bl, bl = w6.heap.size := ⟨_, rfl⟩
  rw [← ew, ← eb] at S3
  rw [← ew, ← eb]
  clear ew eb
  go_loopw [12] (fun t wr => (t = .int .i64 0 ∨ t = .int .i64 1 ∨ t = .int .i64 2) ∧ SY w wr [] [] [(.agg #[.slice a5 n5 c5, .slice d5 m5 g5], p, q)] [(.agg #[.slice a6 n6 c6, .slice d6 m6 g6], p, q)] [(b5, 0, .slice a5 n5 c5), (b5, 1, .slice d5 m5 g5), (b5 + 1, 0, .slice a6 n6 c6), (b5 + 1, 1, .slice d6 m6 g6), (bl, 0, .int .i64 pl), (bl, 1, .int .i64 f)] []) (fun t _ => 2 - (intOf t).toNat)
  case atStart => exact ⟨.inl rfl, S3.out.sub _ _ _ _ _ _ (by simp) (by simp) (by simp) (by simp) (by simp) (by simp)⟩
  case round =>
    clear S3
    obtain ⟨ht, hS⟩ := hrel
    have SI : Hid _ := hS
    clear hS
    rcases ht with rfl | rfl | rfl
    · go_wp2_with fail
      refine wp_region_inv (JB wr [sRt (p) (q), sEq (.slice (some ⟨bl, 0, none⟩) 2 2), sEq (.int .i64 0), sEq (.pointer (some ⟨bl, 0, none⟩)), sEq (.int .i64 pl), sEq (.tuple #[.string T0, .bool ok0]), sEq (.tuple #[.string T0, .bool ok0]), sEq (.string T0), sEq (.bool ok0), sEq (.string T0), sEq (.bool ok0)] []) 65 (by kernel_rfl) rfl (by kernel_rfl) (JB.start _ _ _) (fun HG HN => ⟨?_, ?_, ?_, ?_, ?_, ?_, ?_, ?_, ?_, ?_, ?_, trivial⟩) ?_
      · intro L vs a w' hJ hF hP hL
        have q9 : (a.tmps[9]?).getD undef = .pointer (some ⟨b5, 0, none⟩) := hF.old 9 rfl
        have cb := cell_later hJ.bel (SI.out.cel (b5) 0 (.slice a5 n5 c5))
        have cc := cell_later hJ.bel (SI.out.cel (b5) 1 (.slice d5 m5 g5))
        exact run_val (v := .agg #[.slice a5 n5 c5, .slice d5 m5 g5]) rfl (by simp [execOp, go_sem, q9, cb, cc]) ⟨_, rfl, hJ.step hL rfl (Below.refl _ _) (by exact ((SI.out.fr (.agg #[.slice a5 n5 c5, .slice d5 m5 g5]) (p) (q)).mono hJ.bel))⟩
      · intro L vs a w' hJ hF hP hL
        have q11 : (a.tmps[11]?).getD undef = .slice (some ⟨bl, 0, none⟩) 2 2 := hF.old 11 rfl
        exact run_val (v := .slice (some ⟨bl, 0, none⟩) 2 2) rfl (by simp [execOp, go_sem, q11]) ⟨_, rfl, hJ.step hL rfl (Below.refl _ _) (by exact rfl)⟩
      · intro L vs a w' hJ hF hP hL
        have q12 : (a.tmps[12]?).getD undef = .int .i64 0 := hF.old 12 rfl
        exact run_val (v := .int .i64 0) rfl (by simp [execOp, go_sem, q12]) ⟨_, rfl, hJ.step hL rfl (Below.refl _ _) (by exact rfl)⟩
      · intro L vs a w' hJ hF hP hL
        have p1 : L 1 = true := hP ⟨1, .data⟩ (by simp) rfl
        have s1 : vs 1 = .slice (some ⟨bl, 0, none⟩) 2 2 := hJ.sp 1 p1
        have q40 := hF.slot 1 40 rfl p1
        have p2 : L 2 = true := hP ⟨2, .data⟩ (by simp) rfl
        have s2 : vs 2 = .int .i64 0 := hJ.sp 2 p2
        have q41 := hF.slot 2 41 rfl p2
        exact run_val (v := .pointer (some ⟨bl, 0, none⟩)) rfl (by simp [execOp, go_sem, q40, s1, q41, s2]) ⟨_, rfl, hJ.step hL rfl (Below.refl _ _) (by exact rfl)⟩
      · intro L vs a w' hJ hF hP hL
        have p3 : L 3 = true := hP ⟨3, .data⟩ (by simp) rfl
        have s3 : vs 3 = .pointer (some ⟨bl, 0, none⟩) := hJ.sp 3 p3
        have q42 := hF.slot 3 42 rfl p3
        have cb := cell_later hJ.bel (SI.out.cel (bl) 0 (.int .i64 pl))
        exact run_val (v := .int .i64 pl) rfl (by simp [execOp, go_sem, q42, s3, cb]) ⟨_, rfl, hJ.step hL rfl (Below.refl _ _) (by exact rfl)⟩
      · intro L vs a w' hJ hF hP hL
        have p0 : L 0 = true := hP ⟨0, .data⟩ (by simp) rfl
        have s0 : Rt w' (vs 0) (p) (q) := hJ.sp 0 p0
        have q39 := hF.slot 0 39 rfl p0
        have p4 : L 4 = true := hP ⟨4, .data⟩ (by simp) rfl
        have s4 : vs 4 = .int .i64 pl := hJ.sp 4 p4
        have q43 := hF.slot 4 43 rfl p4
        refine run_call (f := 26) (args := #[vs 0, .int .i64 pl]) rfl (by simp [go_sem, q39, q43, s4]) (B0.out.1 _ _ s0) ?_
        rintro e w2 ⟨rfl, hb⟩
        exact ⟨_, rfl, _, rfl, hJ.step hL rfl hb (by exact rfl)⟩
      · intro L vs a w' hJ hF hP hL
        have p5 : L 5 = true := hP ⟨5, .data⟩ (by simp) rfl
        have s5 : vs 5 = .tuple #[.string T0, .bool ok0] := hJ.sp 5 p5
        have q44 := hF.slot 5 44 rfl p5
        exact run_val (v := .tuple #[.string T0, .bool ok0]) rfl (by simp [execOp, go_sem, q44, s5]) ⟨_, rfl, hJ.step hL rfl (Below.refl _ _) (by exact rfl)⟩
      · intro L vs a w' hJ hF hP hL
        have p6 : L 6 = true := hP ⟨6, .data⟩ (by simp) rfl
        have s6 : vs 6 = .tuple #[.string T0, .bool ok0] := hJ.sp 6 p6
        have q38 := hF.slot 6 38 rfl p6
        exact run_val (v := .string T0) rfl (by simp [execOp, go_sem, q38, s6]) ⟨_, rfl, hJ.step hL rfl (Below.refl _ _) (by exact rfl)⟩
      · intro L vs a w' hJ hF hP hL
        have p6 : L 6 = true := hP ⟨6, .data⟩ (by simp) rfl
        have s6 : vs 6 = .tuple #[.string T0, .bool ok0] := hJ.sp 6 p6
        have q38 := hF.slot 6 38 rfl p6
        exact run_val (v := .bool ok0) rfl (by simp [execOp, go_sem, q38, s6]) ⟨_, rfl, hJ.step hL rfl (Below.refl _ _) (by exact rfl)⟩
      · intro L vs a w' hJ hF hP hL
        have p7 : L 7 = true := hP ⟨7, .data⟩ (by simp) rfl
        have s7 : vs 7 = .string T0 := hJ.sp 7 p7
        have q45 := hF.slot 7 45 rfl p7
        exact run_val (v := .string T0) rfl (by simp [execOp, go_sem, q45, s7]) ⟨_, rfl, hJ.step hL rfl (Below.refl _ _) (by exact rfl)⟩
      · intro L vs a w' hJ hF hP hL
        have p8 : L 8 = true := hP ⟨8, .data⟩ (by simp) rfl
        have s8 : vs 8 = .bool ok0 := hJ.sp 8 p8
        have q46 := hF.slot 8 46 rfl p8
        exact run_val (v := .bool ok0) rfl (by simp [execOp, go_sem, q46, s8]) ⟨_, rfl, hJ.step hL rfl (Below.refl _ _) (by exact rfl)⟩
      intro L vs w' hA hJ
      have s9 : vs 9 = .string T0 := hJ.sp 9 (hA 9 (by simp))
      have s10 : vs 10 = .bool ok0 := hJ.sp 10 (hA 10 (by simp))
      simp only [putL, Act.put, List.setIfInBounds_toArray, List.set_cons_zero, List.set_cons_succ, Nat.reduceAdd]
      simp only [s9, s10]
      obtain ⟨w8, ew⟩ : ∃ w8, w8 = w' := ⟨_, rfl⟩
      have SJ : Hid _ := SI.out.go hJ.bel
      rw [← ew] at SJ
      rw [← ew]
      clear ew s9 s10 hJ hA SI
      go_wp2_with fail
      refine wp_region_inv (JB w8 [sRRt (p) (q), sEq (.slice (some ⟨bl, 0, none⟩) 2 2), sEq (.int .i64 0), sEq (.pointer (some ⟨bl, 0, none⟩)), sEq (.int .i64 pl), sEq (.tuple #[.string T0, .bool ok0]), sEq (.tuple #[.string T0, .bool ok0]), sEq (.string T0), sEq (.bool ok0), sEq (.string T0), sEq (.bool ok0)] []) 65 (by kernel_rfl) rfl (by kernel_rfl) (JB.start _ _ _) (fun HG HN => ⟨?_, ?_, ?_, ?_, ?_, ?_, ?_, ?_, ?_, ?_, ?_, trivial⟩) ?_
      · intro L vs a w' hJ hF hP hL
        have q10 : (a.tmps[10]?).getD undef = .pointer (some ⟨b5 + 1, 0, none⟩) := hF.old 10 rfl
        have cb := cell_later hJ.bel (SJ.out.cel (b5 + 1) 0 (.slice a6 n6 c6))
        have cc := cell_later hJ.bel (SJ.out.cel (b5 + 1) 1 (.slice d6 m6 g6))
        exact run_val (v := .agg #[.slice a6 n6 c6, .slice d6 m6 g6]) rfl (by simp [execOp, go_sem, q10, cb, cc]) ⟨_, rfl, hJ.step hL rfl (Below.refl _ _) (by exact ((SJ.out.rfr (.agg #[.slice a6 n6 c6, .slice d6 m6 g6]) (p) (q)).mono hJ.bel))⟩
      · intro L vs a w' hJ hF hP hL
        have q11 : (a.tmps[11]?).getD undef = .slice (some ⟨bl, 0, none⟩) 2 2 := hF.old 11 rfl
        exact run_val (v := .slice (some ⟨bl, 0, none⟩) 2 2) rfl (by simp [execOp, go_sem, q11]) ⟨_, rfl, hJ.step hL rfl (Below.refl _ _) (by exact rfl)⟩
      · intro L vs a w' hJ hF hP hL
        have q12 : (a.tmps[12]?).getD undef = .int .i64 0 := hF.old 12 rfl
        exact run_val (v := .int .i64 0) rfl (by simp [execOp, go_sem, q12]) ⟨_, rfl, hJ.step hL rfl (Below.refl _ _) (by exact rfl)⟩
      · intro L vs a w' hJ hF hP hL
        have p1 : L 1 = true := hP ⟨1, .data⟩ (by simp) rfl
        have s1 : vs 1 = .slice (some ⟨bl, 0, none⟩) 2 2 := hJ.sp 1 p1
        have q49 := hF.slot 1 49 rfl p1
        have p2 : L 2 = true := hP ⟨2, .data⟩ (by simp) rfl
        have s2 : vs 2 = .int .i64 0 := hJ.sp 2 p2
        have q50 := hF.slot 2 50 rfl p2
        exact run_val (v := .pointer (some ⟨bl, 0, none⟩)) rfl (by simp [execOp, go_sem, q49, s1, q50, s2]) ⟨_, rfl, hJ.step hL rfl (Below.refl _ _) (by exact rfl)⟩
      · intro L vs a w' hJ hF hP hL
        have p3 : L 3 = true := hP ⟨3, .data⟩ (by simp) rfl
        have s3 : vs 3 = .pointer (some ⟨bl, 0, none⟩) := hJ.sp 3 p3
        have q51 := hF.slot 3 51 rfl p3
        have cb := cell_later hJ.bel (SJ.out.cel (bl) 0 (.int .i64 pl))
        exact run_val (v := .int .i64 pl) rfl (by simp [execOp, go_sem, q51, s3, cb]) ⟨_, rfl, hJ.step hL rfl (Below.refl _ _) (by exact rfl)⟩
      · intro L vs a w' hJ hF hP hL
        have p0 : L 0 = true := hP ⟨0, .data⟩ (by simp) rfl
        have s0 : RRt w' (vs 0) (p) (q) := hJ.sp 0 p0
        have q48 := hF.slot 0 48 rfl p0
        have p4 : L 4 = true := hP ⟨4, .data⟩ (by simp) rfl
        have s4 : vs 4 = .int .i64 pl := hJ.sp 4 p4
        have q52 := hF.slot 4 52 rfl p4
        refine run_call (f := 27) (args := #[vs 0, .int .i64 pl]) rfl (by simp [go_sem, q48, q52, s4]) (B0.out.2 _ _ s0) ?_
        rintro e w2 ⟨rfl, hb⟩
        exact ⟨_, rfl, _, rfl, hJ.step hL rfl hb (by exact rfl)⟩
      · intro L vs a w' hJ hF hP hL
        have p5 : L 5 = true := hP ⟨5, .data⟩ (by simp) rfl
        have s5 : vs 5 = .tuple #[.string T0, .bool ok0] := hJ.sp 5 p5
        have q53 := hF.slot 5 53 rfl p5
        exact run_val (v := .tuple #[.string T0, .bool ok0]) rfl (by simp [execOp, go_sem, q53, s5]) ⟨_, rfl, hJ.step hL rfl (Below.refl _ _) (by exact rfl)⟩
      · intro L vs a w' hJ hF hP hL
        have p6 : L 6 = true := hP ⟨6, .data⟩ (by simp) rfl
        have s6 : vs 6 = .tuple #[.string T0, .bool ok0] := hJ.sp 6 p6
        have q47 := hF.slot 6 47 rfl p6
        exact run_val (v := .string T0) rfl (by simp [execOp, go_sem, q47, s6]) ⟨_, rfl, hJ.step hL rfl (Below.refl _ _) (by exact rfl)⟩
      · intro L vs a w' hJ hF hP hL
        have p6 : L 6 = true := hP ⟨6, .data⟩ (by simp) rfl
        have s6 : vs 6 = .tuple #[.string T0, .bool ok0] := hJ.sp 6 p6
        have q47 := hF.slot 6 47 rfl p6
        exact run_val (v := .bool ok0) rfl (by simp [execOp, go_sem, q47, s6]) ⟨_, rfl, hJ.step hL rfl (Below.refl _ _) (by exact rfl)⟩
      · intro L vs a w' hJ hF hP hL
        have p7 : L 7 = true := hP ⟨7, .data⟩ (by simp) rfl
        have s7 : vs 7 = .string T0 := hJ.sp 7 p7
        have q54 := hF.slot 7 54 rfl p7
        exact run_val (v := .string T0) rfl (by simp [execOp, go_sem, q54, s7]) ⟨_, rfl, hJ.step hL rfl (Below.refl _ _) (by exact rfl)⟩
      · intro L vs a w' hJ hF hP hL
        have p8 : L 8 = true := hP ⟨8, .data⟩ (by simp) rfl
        have s8 : vs 8 = .bool ok0 := hJ.sp 8 p8
        have q55 := hF.slot 8 55 rfl p8
        exact run_val (v := .bool ok0) rfl (by simp [execOp, go_sem, q55, s8]) ⟨_, rfl, hJ.step hL rfl (Below.refl _ _) (by exact rfl)⟩
      intro L vs w' hA hJ
      have s9 : vs 9 = .string T0 := hJ.sp 9 (hA 9 (by simp))
      have s10 : vs 10 = .bool ok0 := hJ.sp 10 (hA 10 (by simp))
      simp only [putL, Act.put, List.setIfInBounds_toArray, List.set_cons_zero, List.set_cons_succ, Nat.reduceAdd]
      simp only [s9, s10]
      obtain ⟨w9, ew⟩ : ∃ w9, w9 = w' := ⟨_, rfl⟩
      have SK : Hid _ := SJ.out.go hJ.bel
      rw [← ew] at SK
      rw [← ew]
      clear ew s9 s10 hJ hA SJ
      go_wp2_with fail
      go_roundw
      case rel => exact ⟨.inr (.inl (by go_num)), SK.out⟩
      case measure => simp [intOf]
    · go_wp2_with fail
      refine wp_region_inv (JB wr [sRt (p) (q), sEq (.slice (some ⟨bl, 0, none⟩) 2 2), sEq (.int .i64 1), sEq (.pointer (some ⟨bl, 1, none⟩)), sEq (.int .i64 f), sEq (.tuple #[.string T1, .bool ok1]), sEq (.tuple #[.string T1, .bool ok1]), sEq (.string T1), sEq (.bool ok1), sEq (.string T1), sEq (.bool ok1)] []) 65 (by kernel_rfl) rfl (by kernel_rfl) (JB.start _ _ _) (fun HG HN => ⟨?_, ?_, ?_, ?_, ?_, ?_, ?_, ?_, ?_, ?_, ?_, trivial⟩) ?_
      · intro L vs a w' hJ hF hP hL
        have q9 : (a.tmps[9]?).getD undef = .pointer (some ⟨b5, 0, none⟩) := hF.old 9 rfl
        have cb := cell_later hJ.bel (SI.out.cel (b5) 0 (.slice a5 n5 c5))
        have cc := cell_later hJ.bel (SI.out.cel (b5) 1 (.slice d5 m5 g5))
        exact run_val (v := .agg #[.slice a5 n5 c5, .slice d5 m5 g5]) rfl (by simp [execOp, go_sem, q9, cb, cc]) ⟨_, rfl, hJ.step hL rfl (Below.refl _ _) (by exact ((SI.out.fr (.agg #[.slice a5 n5 c5, .slice d5 m5 g5]) (p) (q)).mono hJ.bel))⟩
      · intro L vs a w' hJ hF hP hL
        have q11 : (a.tmps[11]?).getD undef = .slice (some ⟨bl, 0, none⟩) 2 2 := hF.old 11 rfl
        exact run_val (v := .slice (some ⟨bl, 0, none⟩) 2 2) rfl (by simp [execOp, go_sem, q11]) ⟨_, rfl, hJ.step hL rfl (Below.refl _ _) (by exact rfl)⟩
      · intro L vs a w' hJ hF hP hL
        have q12 : (a.tmps[12]?).getD undef = .int .i64 1 := hF.old 12 rfl
        exact run_val (v := .int .i64 1) rfl (by simp [execOp, go_sem, q12]) ⟨_, rfl, hJ.step hL rfl (Below.refl _ _) (by exact rfl)⟩
      · intro L vs a w' hJ hF hP hL
        have p1 : L 1 = true := hP ⟨1, .data⟩ (by simp) rfl
        have s1 : vs 1 = .slice (some ⟨bl, 0, none⟩) 2 2 := hJ.sp 1 p1
        have q40 := hF.slot 1 40 rfl p1
        have p2 : L 2 = true := hP ⟨2, .data⟩ (by simp) rfl
        have s2 : vs 2 = .int .i64 1 := hJ.sp 2 p2
        have q41 := hF.slot 2 41 rfl p2
        exact run_val (v := .pointer (some ⟨bl, 1, none⟩)) rfl (by simp [execOp, go_sem, q40, s1, q41, s2]) ⟨_, rfl, hJ.step hL rfl (Below.refl _ _) (by exact rfl)⟩
      · intro L vs a w' hJ hF hP hL
        have p3 : L 3 = true := hP ⟨3, .data⟩ (by simp) rfl
        have s3 : vs 3 = .pointer (some ⟨bl, 1, none⟩) := hJ.sp 3 p3
        have q42 := hF.slot 3 42 rfl p3
        have cb := cell_later hJ.bel (SI.out.cel (bl) 1 (.int .i64 f))
        exact run_val (v := .int .i64 f) rfl (by simp [execOp, go_sem, q42, s3, cb]) ⟨_, rfl, hJ.step hL rfl (Below.refl _ _) (by exact rfl)⟩
      · intro L vs a w' hJ hF hP hL
        have p0 : L 0 = true := hP ⟨0, .data⟩ (by simp) rfl
        have s0 : Rt w' (vs 0) (p) (q) := hJ.sp 0 p0
        have q39 := hF.slot 0 39 rfl p0
        have p4 : L 4 = true := hP ⟨4, .data⟩ (by simp) rfl
        have s4 : vs 4 = .int .i64 f := hJ.sp 4 p4
        have q43 := hF.slot 4 43 rfl p4
        refine run_call (f := 26) (args := #[vs 0, .int .i64 f]) rfl (by simp [go_sem, q39, q43, s4]) (B1.out.1 _ _ s0) ?_
        rintro e w2 ⟨rfl, hb⟩
        exact ⟨_, rfl, _, rfl, hJ.step hL rfl hb (by exact rfl)⟩
      · intro L vs a w' hJ hF hP hL
        have p5 : L 5 = true := hP ⟨5, .data⟩ (by simp) rfl
        have s5 : vs 5 = .tuple #[.string T1, .bool ok1] := hJ.sp 5 p5
        have q44 := hF.slot 5 44 rfl p5
        exact run_val (v := .tuple #[.string T1, .bool ok1]) rfl (by simp [execOp, go_sem, q44, s5]) ⟨_, rfl, hJ.step hL rfl (Below.refl _ _) (by exact rfl)⟩
      · intro L vs a w' hJ hF hP hL
        have p6 : L 6 = true := hP ⟨6, .data⟩ (by simp) rfl
        have s6 : vs 6 = .tuple #[.string T1, .bool ok1] := hJ.sp 6 p6
        have q38 := hF.slot 6 38 rfl p6
        exact run_val (v := .string T1) rfl (by simp [execOp, go_sem, q38, s6]) ⟨_, rfl, hJ.step hL rfl (Below.refl _ _) (by exact rfl)⟩
      · intro L vs a w' hJ hF hP hL
        have p6 : L 6 = true := hP ⟨6, .data⟩ (by simp) rfl
        have s6 : vs 6 = .tuple #[.string T1, .bool ok1] := hJ.sp 6 p6
        have q38 := hF.slot 6 38 rfl p6
        exact run_val (v := .bool ok1) rfl (by simp [execOp, go_sem, q38, s6]) ⟨_, rfl, hJ.step hL rfl (Below.refl _ _) (by exact rfl)⟩
      · intro L vs a w' hJ hF hP hL
        have p7 : L 7 = true := hP ⟨7, .data⟩ (by simp) rfl
        have s7 : vs 7 = .string T1 := hJ.sp 7 p7
        have q45 := hF.slot 7 45 rfl p7
        exact run_val (v := .string T1) rfl (by simp [execOp, go_sem, q45, s7]) ⟨_, rfl, hJ.step hL rfl (Below.refl _ _) (by exact rfl)⟩
      · intro L vs a w' hJ hF hP hL
        have p8 : L 8 = true := hP ⟨8, .data⟩ (by simp) rfl
        have s8 : vs 8 = .bool ok1 := hJ.sp 8 p8
        have q46 := hF.slot 8 46 rfl p8
        exact run_val (v := .bool ok1) rfl (by simp [execOp, go_sem, q46, s8]) ⟨_, rfl, hJ.step hL rfl (Below.refl _ _) (by exact rfl)⟩
      intro L vs w' hA hJ
      have s9 : vs 9 = .string T1 := hJ.sp 9 (hA 9 (by simp))
      have s10 : vs 10 = .bool ok1 := hJ.sp 10 (hA 10 (by simp))
      simp only [putL, Act.put, List.setIfInBounds_toArray, List.set_cons_zero, List.set_cons_succ, Nat.reduceAdd]
      simp only [s9, s10]
      obtain ⟨w8, ew⟩ : ∃ w8, w8 = w' := ⟨_, rfl⟩
      have SJ : Hid _ := SI.out.go hJ.bel
      rw [← ew] at SJ
      rw [← ew]
      clear ew s9 s10 hJ hA SI
      go_wp2_with fail
      refine wp_region_inv (JB w8 [sRRt (p) (q), sEq (.slice (some ⟨bl, 0, none⟩) 2 2), sEq (.int .i64 1), sEq (.pointer (some ⟨bl, 1, none⟩)), sEq (.int .i64 f), sEq (.tuple #[.string T1, .bool ok1]), sEq (.tuple #[.string T1, .bool ok1]), sEq (.string T1), sEq (.bool ok1), sEq (.string T1), sEq (.bool ok1)] []) 65 (by kernel_rfl) rfl (by kernel_rfl) (JB.start _ _ _) (fun HG HN => ⟨?_, ?_, ?_, ?_, ?_, ?_, ?_, ?_, ?_, ?_, ?_, trivial⟩) ?_
      · intro L vs a w' hJ hF hP hL
        have q10 : (a.tmps[10]?).getD undef = .pointer (some ⟨b5 + 1, 0, none⟩) := hF.old 10 rfl
        have cb := cell_later hJ.bel (SJ.out.cel (b5 + 1) 0 (.slice a6 n6 c6))
        have cc := cell_later hJ.bel (SJ.out.cel (b5 + 1) 1 (.slice d6 m6 g6))
        exact run_val (v := .agg #[.slice a6 n6 c6, .slice d6 m6 g6]) rfl (by simp [execOp, go_sem, q10, cb, cc]) ⟨_, rfl, hJ.step hL rfl (Below.refl _ _) (by exact ((SJ.out.rfr (.agg #[.slice a6 n6 c6, .slice d6 m6 g6]) (p) (q)).mono hJ.bel))⟩
      · intro L vs a w' hJ hF hP hL
        have q11 : (a.tmps[11]?).getD undef = .slice (some ⟨bl, 0, none⟩) 2 2 := hF.old 11 rfl
        exact run_val (v := .slice (some ⟨bl, 0, none⟩) 2 2) rfl (by simp [execOp, go_sem, q11]) ⟨_, rfl, hJ.step hL rfl (Below.refl _ _) (by exact rfl)⟩
      · intro L vs a w' hJ hF hP hL
        have q12 : (a.tmps[12]?).getD undef = .int .i64 1 := hF.old 12 rfl
        exact run_val (v := .int .i64 1) rfl (by simp [execOp, go_sem, q12]) ⟨_, rfl, hJ.step hL rfl (Below.refl _ _) (by exact rfl)⟩
      · intro L vs a w' hJ hF hP hL
        have p1 : L 1 = true := hP ⟨1, .data⟩ (by simp) rfl
        have s1 : vs 1 = .slice (some ⟨bl, 0, none⟩) 2 2 := hJ.sp 1 p1
        have q49 := hF.slot 1 49 rfl p1
        have p2 : L 2 = true := hP ⟨2, .data⟩ (by simp) rfl
        have s2 : vs 2 = .int .i64 1 := hJ.sp 2 p2
        have q50 := hF.slot 2 50 rfl p2
        exact run_val (v := .pointer (some ⟨bl, 1, none⟩)) rfl (by simp [execOp, go_sem, q49, s1, q50, s2]) ⟨_, rfl, hJ.step hL rfl (Below.refl _ _) (by exact rfl)⟩
      · intro L vs a w' hJ hF hP hL
        have p3 : L 3 = true := hP ⟨3, .data⟩ (by simp) rfl
        have s3 : vs 3 = .pointer (some ⟨bl, 1, none⟩) := hJ.sp 3 p3
        have q51 := hF.slot 3 51 rfl p3
        have cb := cell_later hJ.bel (SJ.out.cel (bl) 1 (.int .i64 f))
        exact run_val (v := .int .i64 f) rfl (by simp [execOp, go_sem, q51, s3, cb]) ⟨_, rfl, hJ.step hL rfl (Below.refl _ _) (by exact rfl)⟩
      · intro L vs a w' hJ hF hP hL
        have p0 : L 0 = true := hP ⟨0, .data⟩ (by simp) rfl
        have s0 : RRt w' (vs 0) (p) (q) := hJ.sp 0 p0
        have q48 := hF.slot 0 48 rfl p0
        have p4 : L 4 = true := hP ⟨4, .data⟩ (by simp) rfl
        have s4 : vs 4 = .int .i64 f := hJ.sp 4 p4
        have q52 := hF.slot 4 52 rfl p4
        refine run_call (f := 27) (args := #[vs 0, .int .i64 f]) rfl (by simp [go_sem, q48, q52, s4]) (B1.out.2 _ _ s0) ?_
        rintro e w2 ⟨rfl, hb⟩
        exact ⟨_, rfl, _, rfl, hJ.step hL rfl hb (by exact rfl)⟩
      · intro L vs a w' hJ hF hP hL
        have p5 : L 5 = true := hP ⟨5, .data⟩ (by simp) rfl
        have s5 : vs 5 = .tuple #[.string T1, .bool ok1] := hJ.sp 5 p5
        have q53 := hF.slot 5 53 rfl p5
        exact run_val (v := .tuple #[.string T1, .bool ok1]) rfl (by simp [execOp, go_sem, q53, s5]) ⟨_, rfl, hJ.step hL rfl (Below.refl _ _) (by exact rfl)⟩
      · intro L vs a w' hJ hF hP hL
        have p6 : L 6 = true := hP ⟨6, .data⟩ (by simp) rfl
        have s6 : vs 6 = .tuple #[.string T1, .bool ok1] := hJ.sp 6 p6
        have q47 := hF.slot 6 47 rfl p6
        exact run_val (v := .string T1) rfl (by simp [execOp, go_sem, q47, s6]) ⟨_, rfl, hJ.step hL rfl (Below.refl _ _) (by exact rfl)⟩
      · intro L vs a w' hJ hF hP hL
        have p6 : L 6 = true := hP ⟨6, .data⟩ (by simp) rfl
        have s6 : vs 6 = .tuple #[.string T1, .bool ok1] := hJ.sp 6 p6
        have q47 := hF.slot 6 47 rfl p6
        exact run_val (v := .bool ok1) rfl (by simp [execOp, go_sem, q47, s6]) ⟨_, rfl, hJ.step hL rfl (Below.refl _ _) (by exact rfl)⟩
      · intro L vs a w' hJ hF hP hL
        have p7 : L 7 = true := hP ⟨7, .data⟩ (by simp) rfl
        have s7 : vs 7 = .string T1 := hJ.sp 7 p7
        have q54 := hF.slot 7 54 rfl p7
        exact run_val (v := .string T1) rfl (by simp [execOp, go_sem, q54, s7]) ⟨_, rfl, hJ.step hL rfl (Below.refl _ _) (by exact rfl)⟩
      · intro L vs a w' hJ hF hP hL
        have p8 : L 8 = true := hP ⟨8, .data⟩ (by simp) rfl
        have s8 : vs 8 = .bool ok1 := hJ.sp 8 p8
        have q55 := hF.slot 8 55 rfl p8
        exact run_val (v := .bool ok1) rfl (by simp [execOp, go_sem, q55, s8]) ⟨_, rfl, hJ.step hL rfl (Below.refl _ _) (by exact rfl)⟩
      intro L vs w' hA hJ
      have s9 : vs 9 = .string T1 := hJ.sp 9 (hA 9 (by simp))
      have s10 : vs 10 = .bool ok1 := hJ.sp 10 (hA 10 (by simp))
      simp only [putL, Act.put, List.setIfInBounds_toArray, List.set_cons_zero, List.set_cons_succ, Nat.reduceAdd]
      simp only [s9, s10]
      obtain ⟨w9, ew⟩ : ∃ w9, w9 = w' := ⟨_, rfl⟩
      have SK : Hid _ := SJ.out.go hJ.bel
      rw [← ew] at SK
      rw [← ew]
      clear ew s9 s10 hJ hA SJ
      go_wp2_with fail
      go_roundw
      case rel => exact ⟨.inr (.inr (by go_num)), SK.out⟩
      case measure => simp [intOf]
    · go_wp2_with fail
      refine (started3 _ (HH.out.2.2.go SI.out.bel)).mono ?_
      rintro e w9 ⟨rfl, hb⟩
      have HB : Hid (Below w.heap.size w w9) := (SI.out.go hb).bel
      clear hb SI
      go_wp2_with fail
      go_ret
      exact ⟨rfl, HB.out⟩
theorem texts_any {w : World} {a0 : Option Addr} {l0 k0 : Nat} {a1 : Option Addr} {l1 k1 : Nat} {D0 D1 : Nat → Nat} {pl few : Int} (h0 : BSl w a0 l0 k0 D0) (h1 : BSl w a1 l1 k1 D1) (hT : Tab w) :
    Calls Tryz.prog 4 #[.slice a0 l0 k0, .slice a1 l1 k1, .int .i64 pl, .int .i64 few] w fun e w' => e = .returned (.bool true) ∧ Below w.heap.size w w' := by
  obtain ⟨m0, x, f0⟩ := fed3_of h0
  obtain ⟨m1, y, f1⟩ := fed3_of h1
  have F := made_fc f0.rs f1.rs
  obtain ⟨k, hk⟩ := dec_ex (x / Nat.gcd x (orOne y))
  obtain ⟨l, hl⟩ := dec_ex (orOne y / Nat.gcd x (orOne y))
  obtain ⟨T0, ok0, b0⟩ := both_ex F pl
  obtain ⟨T1, ok1, b1⟩ := both_ex F (bits .and .i64 few 127)
  exact texts3 a0 l0 k0 a1 l1 k1 m0 m1 x y _ _ k l pl few _ T0 T1 ok0 ok1 w f0 f1 hT rfl rfl F hk hl rfl b0 b1
end Go.Proofs.YtmiiaomdenpceaaGreatDoor

