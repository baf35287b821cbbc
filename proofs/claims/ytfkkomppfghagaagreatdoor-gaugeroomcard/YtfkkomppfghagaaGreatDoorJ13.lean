/- Contracts of the program's functions, part 13: own work, joined in build order. -/
import Derived.Test.YtfkkomppfghagaaGreatDoorJ12
import Derived.Deep.LoopGhost
namespace Go.Proofs.YtfkkomppfghagaaGreatDoor
open Go.RowKit
set_option maxRecDepth 100000
set_option linter.unusedVariables false
set_option maxHeartbeats 4000000 in
theorem rdiv_one (ax : Option Addr) (lx cap : Nat) (ay : Option Addr) (cap' : Nat) (x y : Nat) (w : World) (h : RNat w (.agg #[.slice ax lx cap]) x) (kk : RNat w (.agg #[.slice ay 1 cap']) y) (hx : RFits x) (hy : RFits y) (hle : y ≤ x) :
    Calls Tryz.prog 89 #[.agg #[.slice ax lx cap], .agg #[.slice ay 1 cap']] w (RQR w (x / y) (x % y)) := by
  obtain ⟨Fy, hys, dy, hy1, hyv⟩ := kk.open
  have e0 : Fy 0 = y := by rw [← hyv, U_succ, U_zero, B_zero]; omega
  have hy0 : y ≠ 0 := by rw [← e0]; exact hy1 (by omega)
  have hyl : y < 4294967296 := by rw [← e0]; exact dy 0 (by omega)
  obtain ⟨b, o, rfl, hw⟩ := hys.at 0 (by omega)
  have HH : Hid (RNat w (.agg #[.slice ax lx cap]) x ∧ RNat w (.agg #[.slice (some ⟨b, o, none⟩) 1 cap']) y ∧ RFits x ∧ RFits y ∧ y ≤ x ∧ w.cell? ⟨b, o + 0, none⟩ = some (.int .u64 (y : Nat))) := ⟨h, kk, hx, hy, hle, by rw [← e0]; exact hw 0 (by omega)⟩
  have D0 : Hid _ := ds_start w ax lx cap (some ⟨b, o, none⟩) 1 cap' 51
  clear h kk hx hy hys dy hy1 hyv e0 hle hw
  go_enter Tryz.func89, Tryz.ntmps89
  go_wp2_with fail
  refine (rcmp_any _ _ x y _ (HH.out.1.mono D0.out.bel) (HH.out.2.1.mono D0.out.bel) HH.out.2.2.1 HH.out.2.2.2.1).mono ?_
  rintro e w1 ⟨rfl, hb1⟩
  obtain ⟨z, ez⟩ : ∃ z, z = cmpI x y := ⟨_, rfl⟩
  have hz : decide (z < 0) = false := by
    refine decide_eq_false ?_
    rw [ez]
    rcases Nat.lt_or_ge y x with e | e
    · rw [cmpI_gt e]; omega
    rw [Nat.le_antisymm e HH.out.2.2.2.2.1, cmpI_eq]; omega
  rw [← ez]
  have D1 : Hid (DS w w1 ax lx cap (some ⟨b, o, none⟩) 1 cap') := D0.out.go hb1
  have d1 := D1.out.cx
  have d2 := D1.out.cy
  have d5 : w1.cell? ⟨b, o, none⟩ = some (.int .u64 (y : Nat)) := by
    have := cell_later D1.out.bel HH.out.2.2.2.2.2
    rw [Nat.add_zero] at this
    exact this
  have S1 : Hid (SR w w1 [] [(.agg #[.slice ax lx cap], x)] [(w.heap.size, .slice ax lx cap), (w.heap.size + 1, .slice (some ⟨b, o, none⟩) 1 cap')]) := ⟨by simp, by simp; exact HH.out.1.mono D1.out.bel, by simp; exact ⟨d1, d2⟩, D1.out.bel⟩
  have hx0 : x ≠ 0 := by have := HH.out.2.2.2.2.1; omega
  have HQ : Hid (RFits x ∧ 0 < y ∧ y < 4294967296 ∧ x ≠ 0 ∧ x % y < 18446744073709551616) := ⟨HH.out.2.2.1, by omega, hyl, hx0, by have := Nat.mod_lt x (show 0 < y by omega); omega⟩
  clear hb1 D0 ez hx0 hyl hy0
  go_wp2_with fail
  refine wp_region_inv (JB w1 [sR (x), sEq (.pointer (some ⟨w.heap.size + 1, 0, none⟩)), sEq (.slice (some ⟨b, o, none⟩) 1 cap'), sEq (.pointer (some ⟨b, o, none⟩)), sEq (.int .u64 (y : Int)), sRI (x / y) (x % y), sRI (x / y) (x % y), sR (x / y), sEq (.int .u64 ((x % y : Nat) : Int)), sAny, sAny, sEq (.int .u64 ((x % y : Nat) : Int))] [(9, 10, 7)]) 103 (by kernel_rfl) rfl (by kernel_rfl) (JB.start _ _ _) (fun HG HN => ⟨?_, ?_, ?_, ?_, ?_, ?_, ?_, ?_, ?_, ?_, ?_, ?_, trivial⟩) ?_
  · intro L vs a w' hJ hF hP hL
    have q2 : (a.tmps[2]?).getD undef = .pointer (some ⟨w.heap.size, 0, none⟩) := hF.old 2 rfl
    have cb := cell_later hJ.bel (S1.out.cell (w.heap.size) (.slice ax lx cap))
    exact run_val (v := .agg #[.slice ax lx cap]) rfl (by simp [execOp, go_sem, q2, cb]) ⟨_, rfl, hJ.step hL rfl (Below.refl _ _) (by exact ((S1.out.rat (.agg #[.slice ax lx cap]) (x)).mono hJ.bel))⟩
  · intro L vs a w' hJ hF hP hL
    have q3 : (a.tmps[3]?).getD undef = .pointer (some ⟨w.heap.size + 1, 0, none⟩) := hF.old 3 rfl
    exact run_val (v := .pointer (some ⟨w.heap.size + 1, 0, none⟩)) rfl (by simp [execOp, go_sem, q3]) ⟨_, rfl, hJ.step hL rfl (Below.refl _ _) (by exact rfl)⟩
  · intro L vs a w' hJ hF hP hL
    have p1 : L 1 = true := hP ⟨1, .data⟩ (by simp) rfl
    have s1 : vs 1 = .pointer (some ⟨w.heap.size + 1, 0, none⟩) := hJ.sp 1 p1
    have q28 := hF.slot 1 28 rfl p1
    have c2 := cell_later hJ.bel (S1.out.cell (w.heap.size + 1) (.slice (some ⟨b, o, none⟩) 1 cap'))
    exact run_val (v := .slice (some ⟨b, o, none⟩) 1 cap') rfl (by simp [execOp, go_sem, q28, s1, c2]) ⟨_, rfl, hJ.step hL rfl (Below.refl _ _) (by exact rfl)⟩
  · intro L vs a w' hJ hF hP hL
    have p2 : L 2 = true := hP ⟨2, .data⟩ (by simp) rfl
    have s2 : vs 2 = .slice (some ⟨b, o, none⟩) 1 cap' := hJ.sp 2 p2
    have q29 := hF.slot 2 29 rfl p2
    exact run_val (v := .pointer (some ⟨b, o, none⟩)) rfl (by simp [execOp, go_sem, q29, s2]) ⟨_, rfl, hJ.step hL rfl (Below.refl _ _) (by exact rfl)⟩
  · intro L vs a w' hJ hF hP hL
    have p3 : L 3 = true := hP ⟨3, .data⟩ (by simp) rfl
    have s3 : vs 3 = .pointer (some ⟨b, o, none⟩) := hJ.sp 3 p3
    have q30 := hF.slot 3 30 rfl p3
    have c5 := cell_later hJ.bel d5
    exact run_val (v := .int .u64 (y : Int)) rfl (by simp [execOp, go_sem, q30, s3, c5]) ⟨_, rfl, hJ.step hL rfl (Below.refl _ _) (by exact rfl)⟩
  · intro L vs a w' hJ hF hP hL
    have p0 : L 0 = true := hP ⟨0, .data⟩ (by simp) rfl
    have s0 : RNat w' (vs 0) (x) := hJ.sp 0 p0
    have q27 := hF.slot 0 27 rfl p0
    have p4 : L 4 = true := hP ⟨4, .data⟩ (by simp) rfl
    have s4 : vs 4 = .int .u64 (y : Int) := hJ.sp 4 p4
    have q31 := hF.slot 4 31 rfl p4
    refine run_call (f := 113) (args := #[vs 0, .int .u64 (y : Int)]) rfl (by simp [go_sem, q27, q31, s4]) (rsmall_any _ x y _ s0 HQ.out.1 HQ.out.2.1 HQ.out.2.2.1 HQ.out.2.2.2.1) ?_
    rintro e w2 ⟨v1, rfl, h1, hb⟩
    exact ⟨_, rfl, _, rfl, hJ.step hL rfl hb (by exact ⟨v1, rfl, h1⟩)⟩
  · intro L vs a w' hJ hF hP hL
    have p5 : L 5 = true := hP ⟨5, .data⟩ (by simp) rfl
    have s5 : ∃ p, vs 5 = .tuple #[p, .int .u64 ((x % y : Nat) : Int)] ∧ RNat w' p (x / y) := hJ.sp 5 p5
    have q32 := hF.slot 5 32 rfl p5
    exact run_val (v := vs 5) rfl (by simp [execOp, go_sem, q32]) ⟨_, rfl, hJ.step hL rfl (Below.refl _ _) (by exact s5)⟩
  · intro L vs a w' hJ hF hP hL
    have p6 : L 6 = true := hP ⟨6, .data⟩ (by simp) rfl
    have s6 : ∃ p, vs 6 = .tuple #[p, .int .u64 ((x % y : Nat) : Int)] ∧ RNat w' p (x / y) := hJ.sp 6 p6
    have q26 := hF.slot 6 26 rfl p6
    obtain ⟨vp, e1, e2⟩ := s6
    exact run_val (v := vp) rfl (by simp [execOp, go_sem, q26, e1]) ⟨_, rfl, hJ.step hL rfl (Below.refl _ _) (by exact e2)⟩
  · intro L vs a w' hJ hF hP hL
    have p6 : L 6 = true := hP ⟨6, .data⟩ (by simp) rfl
    have s6 : ∃ p, vs 6 = .tuple #[p, .int .u64 ((x % y : Nat) : Int)] ∧ RNat w' p (x / y) := hJ.sp 6 p6
    have q26 := hF.slot 6 26 rfl p6
    obtain ⟨vp, e1, e2⟩ := s6
    exact run_val (v := .int .u64 ((x % y : Nat) : Int)) rfl (by simp [execOp, go_sem, q26, e1]) ⟨_, rfl, hJ.step hL rfl (Below.refl _ _) (by exact rfl)⟩
  · intro L vs a w' hJ hF hP hL
    exact run_val (v := .pointer (some ⟨w'.heap.size, 0, none⟩)) (w' := w'.alloc (.cells #[.slice none 0 0] 51)) rfl (by simp [execOp, go_sem]) ⟨_, rfl, hJ.alloc hL rfl rfl _⟩
  · intro L vs a w' hJ hF hP hL
    have p9 : L 9 = true := hP ⟨9, .data⟩ (by simp) rfl
    have q7 := hF.slot 9 7 rfl p9
    have p7 : L 7 = true := hP ⟨7, .data⟩ (by simp) rfl
    have s7 : RNat w' (vs 7) (x / y) := hJ.sp 7 p7
    have q33 := hF.slot 7 33 rfl p7
    obtain ⟨bk, e1, e2, e3, e4, e5, e6⟩ := hJ.bx (9, 10, 7) (by simp) p9
    have e7 := e5 hL
    obtain ⟨aa, nn, cc, e8⟩ := s7.isAgg
    exact run_unit (w' := w'.setCell ⟨bk, 0, none⟩ (.slice aa nn cc)) rfl (by simp [execOp, go_sem, q7, q33, e1, e8, e7, e4]) ⟨undef, rfl, hJ.store (b := (9, 10, 7)) (by simp) hL p9 p7 (by decide) rfl e1 e8⟩
  · intro L vs a w' hJ hF hP hL
    have p8 : L 8 = true := hP ⟨8, .data⟩ (by simp) rfl
    have s8 : vs 8 = .int .u64 ((x % y : Nat) : Int) := hJ.sp 8 p8
    have q34 := hF.slot 8 34 rfl p8
    exact run_val (v := .int .u64 ((x % y : Nat) : Int)) rfl (by simp [execOp, go_sem, q34, s8]) ⟨_, rfl, hJ.step hL rfl (Below.refl _ _) (by exact rfl)⟩
  intro L vs w' hA hJ
  have s7 : RNat w' (vs 7) (x / y) := hJ.sp 7 (hA 7 (by simp))
  have s11 : vs 11 = .int .u64 ((x % y : Nat) : Int) := hJ.sp 11 (hA 11 (by simp))
  obtain ⟨bk9, eb9, ge9, lt9, fz9, _, e6⟩ := hJ.bx (9, 10, 7) (by simp) (hA 9 (by simp))
  obtain ⟨_, u9, eu9, ce9⟩ := e6 (hA 10 (by simp))
  clear e6
  have D2 : Hid (DS w w' ax lx cap (some ⟨b, o, none⟩) 1 cap') := D1.out.go hJ.bel
  obtain ⟨a9, n9, c9, e9⟩ := s7.isAgg
  have eu : u9 = .slice a9 n9 c9 := by
    have := eu9.symm.trans e9
    injection this with h1
    simpa using h1
  rw [eu] at ce9
  rw [e9] at s7
  simp only [putL, Act.put, List.setIfInBounds_toArray, List.set_cons_zero, List.set_cons_succ, Nat.reduceAdd]
  simp only [eb9, s11]
  have I2 : Hid (RNat w' (.agg #[.slice a9 n9 c9]) (x / y) ∧ w'.cell? ⟨bk9, 0, none⟩ = some (.slice a9 n9 c9) ∧ w.heap.size + 4 ≤ bk9) := ⟨s7, ce9, Nat.le_trans D1.out.lt ge9⟩
  have d3 := D2.out.c3
  have d4 := D2.out.c4
  have e3 := D2.out.f3
  have e4 := D2.out.f4
  have d7 := I2.out.2.1
  obtain ⟨rr, err⟩ : ∃ rr, rr = x % y := ⟨_, rfl⟩
  have ERR : Hid (rr = x % y) := err
  simp only [← err]
  generalize vs = vs1
  clear hJ hA s7 s11 eb9 ge9 lt9 fz9 eu9 e9 eu D1 S1 d1 d2 d5 err ce9
  go_wp2_with fail
  go_region_with ((go_at_call 56; refine Calls.mono (rof_any rr _ (by rw [ERR.out]; exact HQ.out.2.2.2.2)) ?_; rintro e w3 ⟨v3, rfl, hv3, hb3⟩; obtain ⟨a3, n3, c3, rfl⟩ := hv3.isAgg; have hb3 : Below w'.heap.size w' w3 := (by first | exact hb3 | exact bel_undrew hb3); have D3 : Hid (DS w w3 ax lx cap (some ⟨b, o, none⟩) 1 cap') := D2.out.go hb3; have I3 : Hid (RNat w3 (.agg #[.slice a9 n9 c9]) (x / y) ∧ RNat w3 (.agg #[.slice a3 n3 c3]) rr) := ⟨I2.out.1.mono hb3, hv3⟩; have d8 := cell_later hb3 d7; have d13 := D3.out.c3; have d14 := D3.out.c4; have e13 := D3.out.f3; have e14 := D3.out.f4; clear hb3 hv3))
  all_goals have Z : Hid _ := D3.out.put2 I3.out.1 I3.out.2
  all_goals rw [ERR.out] at Z
  all_goals go_wp2_with fail
  all_goals exact bodyPost_ret (v := .tuple #[.agg #[.slice a9 n9 c9], .agg #[.slice a3 n3 c3]]) (by simp [results, Tryz.results89, go_sem, d13, d14]) rfl ⟨_, _, rfl, Z.out.1, Z.out.2.1, Z.out.2.2⟩
theorem rdivMod_any (v u : Value) (x y : Nat) (w : World) (h : RNat w v x) (k : RNat w u y) (hx : RSome x) (hy : RSome y) (hy0 : y ≠ 0) :
    Calls Tryz.prog 89 #[v, u] w (RQR w (x / y) (x % y)) := by
  rcases Nat.lt_or_ge x y with hlt | hge
  · rw [Nat.div_eq_of_lt hlt, Nat.mod_eq_of_lt hlt]
    exact rdiv_less v u x y w h k hx.fits hy.fits hlt
  obtain ⟨ax, lx, cap, rfl⟩ := h.isAgg
  obtain ⟨ay, ly, cap', rfl⟩ := k.isAgg
  rcases ly with _ | _ | ly
  · exact absurd ((rnat_len0 k).1 rfl) hy0
  · exact rdiv_one ax lx cap ay cap' x y w h k hx.fits hy.fits hge
  exact rdiv_long ax lx cap ay ly cap' x y w h k hx hy hge
structure GC (w wr : World) (d : Nat) (ax : Option Addr) (lx cx : Nat) (ay : Option Addr) (ly cy : Nat) (x y : Nat) : Prop where
  c0 : wr.cell? ⟨w.heap.size, 0, none⟩ = some (.slice ax lx cx)
  c1 : wr.cell? ⟨w.heap.size + 1, 0, none⟩ = some (.slice ay ly cy)
  c2 : wr.cell? ⟨w.heap.size + 1 + 1, 0, none⟩ = some (.slice none 0 0)
  f0 : wr.frozen? ⟨w.heap.size, 0, none⟩ = false
  f1 : wr.frozen? ⟨w.heap.size + 1, 0, none⟩ = false
  f2 : wr.frozen? ⟨w.heap.size + 1 + 1, 0, none⟩ = false
  nx : RNat wr (.agg #[.slice ax lx cx]) x
  ny : RNat wr (.agg #[.slice ay ly cy]) y
  sx : RSome x
  sy : RSome y
  gcd : Nat.gcd x y = d
  bel : Below w.heap.size w wr
theorem GC.go {w wr w' : World} {d : Nat} {ax : Option Addr} {lx cx : Nat} {ay : Option Addr} {ly cy x y : Nat} (h : GC w wr d ax lx cx ay ly cy x y) (hb : Below wr.heap.size wr w') : GC w w' d ax lx cx ay ly cy x y :=
  ⟨cell_later hb h.c0, cell_later hb h.c1, cell_later hb h.c2, (hb.frozen (World.block_lt_of_cell? _ _ h.c0)).trans h.f0, (hb.frozen (World.block_lt_of_cell? _ _ h.c1)).trans h.f1, (hb.frozen (World.block_lt_of_cell? _ _ h.c2)).trans h.f2, h.nx.mono hb, h.ny.mono hb, h.sx, h.sy, h.gcd, bel_go h.bel hb⟩
theorem GC.step {w wr : World} {d : Nat} {ax : Option Addr} {lx cx : Nat} {ay : Option Addr} {ly cy x y : Nat} (h : GC w wr d ax lx cx ay ly cy x y) {ar : Option Addr} {lr cr : Nat} (hr : RNat wr (.agg #[.slice ar lr cr]) (x % y)) (hy : y ≠ 0) :
    GC w ((wr.setCell ⟨w.heap.size, 0, none⟩ (.slice ay ly cy)).setCell ⟨w.heap.size + 1, 0, none⟩ (.slice ar lr cr)) d ay ly cy ar lr cr y (x % y) := by
  have n0 := no_int_slice h.c0
  have k1 : (wr.setCell ⟨w.heap.size, 0, none⟩ (.slice ay ly cy)).cell? ⟨w.heap.size + 1, 0, none⟩ = some (.slice ay ly cy) := (World.cell?_setCell_far _ _ _ _ (by show w.heap.size ≠ w.heap.size + 1; omega)).trans h.c1
  have n1 := no_int_slice k1
  have k0 : (wr.setCell ⟨w.heap.size, 0, none⟩ (.slice ay ly cy)).cell? ⟨w.heap.size, 0, none⟩ = some (.slice ay ly cy) := by simp [go_sem, h.c0]
  refine ⟨?_, by simp [go_sem, k1], ?_, by simp [World.frozen?_setCell, h.f0], by simp [World.frozen?_setCell, h.f1], by simp [World.frozen?_setCell, h.f2], (h.ny.setCell n0 _).setCell n1 _, (hr.setCell n0 _).setCell n1 _, h.sy, ⟨Nat.lt_of_lt_of_le (Nat.mod_lt _ (by omega)) (Nat.le_of_lt h.sy.lt)⟩, ?_, (h.bel.setCell (Nat.le_refl _) _).setCell (by show _ ≤ _ + 1; omega) _⟩
  · rw [World.cell?_setCell_far _ _ _ _ (by show w.heap.size + 1 ≠ w.heap.size; omega)]
    exact k0
  · rw [World.cell?_setCell_far _ _ _ _ (by show w.heap.size + 1 ≠ w.heap.size + 1 + 1; omega), World.cell?_setCell_far _ _ _ _ (by show w.heap.size ≠ w.heap.size + 1 + 1; omega)]
    exact h.c2
  rw [← h.gcd, Nat.gcd_comm x y, Nat.gcd_rec y x, Nat.gcd_comm]
set_option maxHeartbeats 4000000 in
theorem rgcd_any (v u : Value) (x y : Nat) (w : World) (h : RNat w v x) (k : RNat w u y) (hx : RSome x) (hy : RSome y) :
    Calls Tryz.prog 88 #[v, u] w (RMakes w (Nat.gcd x y)) := by
  obtain ⟨ax, lx, cx, rfl⟩ := h.isAgg
  obtain ⟨ay, ly, cy, rfl⟩ := k.isAgg
  have ba : Below w.heap.size w (((w.alloc (.cells #[.slice ax lx cx] 51)).alloc (.cells #[.slice ay ly cy] 51)).alloc (.cells #[.slice none 0 0] 51)) := bel_al (bel_al (bel_al (bel_refl w)))
  have G0 : Hid (GC w (((w.alloc (.cells #[.slice ax lx cx] 51)).alloc (.cells #[.slice ay ly cy] 51)).alloc (.cells #[.slice none 0 0] 51)) (Nat.gcd x y) ax lx cx ay ly cy x y) := ⟨by simp [go_sem], by simp [go_sem], by simp [go_sem], by simp [go_sem], by simp [go_sem], by simp [go_sem], h.mono ba, k.mono ba, hx, hy, rfl, ba⟩
  obtain ⟨d, hd⟩ : ∃ d, d = Nat.gcd x y := ⟨_, rfl⟩
  rw [← hd] at G0 ⊢
  clear h k hx hy ba hd
  go_enter Tryz.func88, Tryz.ntmps88
  go_wp2_with fail
  go_loopg [6] y (fun gk t wr => ∃ (ax : Option Addr) (lx cx : Nat) (ay : Option Addr) (ly cy x : Nat), Hid (GC w wr d ax lx cx ay ly cy x gk))
  case atStart => exact ⟨ax, lx, cx, ay, ly, cy, x, G0⟩
  case round =>
    clear G0
    obtain ⟨ax, lx, cx, ay, ly, cy, x, hG⟩ := hrel
    have c1 := hG.out.c1
    go_wp2_with fail
    refine (rzero_any _ gk _ hG.out.ny hG.out.sy.fits).mono ?_
    rintro e w2 ⟨rfl, hb2⟩
    have G2 : Hid (GC w w2 d ax lx cx ay ly cy x gk) := hG.out.go hb2
    clear hb2 hG c1
    by_cases hy0 : gk = 0
    · have hz : decide (gk = 0) = true := decide_eq_true hy0
      have HD : Hid (RNat w2 (.agg #[.slice ax lx cx]) d) := by
        have h1 := G2.out.gcd
        rw [hy0, Nat.gcd_zero_right] at h1
        have h2 := G2.out.nx
        rw [h1] at h2
        exact h2
      have d0 := G2.out.c0
      have d2 := G2.out.c2
      have e2 := G2.out.f2
      have BB : Hid (Below w.heap.size w w2) := G2.out.bel
      clear hy0 G2
      go_wp2_with fail
      refine bodyPost_ret (v := .agg #[.slice ax lx cx]) (by simp [results, Tryz.results88, go_sem, d2]) rfl ⟨_, rfl, HD.out.setCell (no_int_slice d2) _, BB.out.setCell (by show _ ≤ _ + 1 + 1; omega) _⟩
    have hz : decide (gk = 0) = false := decide_eq_false hy0
    have d0 := G2.out.c0
    have d1 := G2.out.c1
    go_wp2_with fail
    refine (rdivMod_any _ _ x gk _ G2.out.nx G2.out.ny G2.out.sx G2.out.sy hy0).mono ?_
    rintro e w3 ⟨v3, u3, rfl, hv3, hu3, hb3⟩
    obtain ⟨a3, n3, c3, rfl⟩ := hv3.isAgg
    obtain ⟨a4, n4, c4, rfl⟩ := hu3.isAgg
    have b5 : Below w3.heap.size w3 ((w3.alloc (.cells #[.slice a3 n3 c3] 51)).alloc (.cells #[.slice a4 n4 c4] 51)) := bel_al (bel_al (bel_refl w3))
    have G5 : Hid _ := (G2.out.go (bel_go hb3 b5)).step (hu3.mono b5) hy0
    have GG : Hid (GC w ((w3.alloc (.cells #[.slice a3 n3 c3] 51)).alloc (.cells #[.slice a4 n4 c4] 51)) d ax lx cx ay ly cy x gk) := G2.out.go (bel_go hb3 b5)
    have d0 := GG.out.c0
    have d1 := GG.out.c1
    have e0 := GG.out.f0
    have e1 := GG.out.f1
    have d5 : ((w3.alloc (.cells #[.slice a3 n3 c3] 51)).alloc (.cells #[.slice a4 n4 c4] 51)).cell? ⟨w3.heap.size + 1, 0, none⟩ = some (.slice a4 n4 c4) := by simp [go_sem]
    have hsz : w.heap.size + 2 < w3.heap.size := by
      have := World.block_lt_of_cell? _ _ (G2.out.go hb3).c2
      exact this
    have HLT : Hid (x % gk < gk) := Nat.mod_lt _ (by omega)
    clear hv3 hu3 hb3 b5 G2 GG hy0
    go_wp2_with fail
    go_roundg (x % gk)
    case measure => exact HLT.out
    case rel => exact ⟨ay, ly, cy, a4, n4, c4, gk, G5⟩
def RRt (w : World) (v : Value) (p q : Nat) : Prop := ∃ a n c a' n' c', v = .agg #[.slice a n c, .slice a' n' c'] ∧ RNat w (.agg #[.slice a n c]) p ∧ RNat w (.agg #[.slice a' n' c']) q
theorem RRt.mono {w w' : World} {v : Value} {p q : Nat} (h : RRt w v p q) (hb : Below w.heap.size w w') : RRt w' v p q := by
  obtain ⟨a, n, c, a', n', c', e, h1, h2⟩ := h
  exact ⟨a, n, c, a', n', c', e, h1.mono hb, h2.mono hb⟩
theorem RRt.setCell {w : World} {v : Value} {p q : Nat} (h : RRt w v p q) {x : Addr} (hp : ∀ k q, w.cell? x ≠ some (.int k q)) (u : Value) : RRt (w.setCell x u) v p q := by
  obtain ⟨a, n, c, a', n', c', e, h1, h2⟩ := h
  exact ⟨a, n, c, a', n', c', e, h1.setCell hp u, h2.setCell hp u⟩
theorem rrat_put {w0 w : World} {r : Nat} {a1 a2 : Option Addr} {n1 k1 n2 k2 : Nat} (c0 : w.cell? ⟨r, 0, none⟩ = some (.slice a1 n1 k1)) (c1 : w.cell? ⟨r, 1, none⟩ = some (.slice a2 n2 k2)) {v u : Value} {p q : Nat} {V : Value} (h : RRt w V p q) (hb : Below w0.heap.size w0 w) (hr : w0.heap.size ≤ r) :
    RRt ((w.setCell ⟨r, 0, none⟩ v).setCell ⟨r, 1, none⟩ u) V p q ∧ Below w0.heap.size w0 ((w.setCell ⟨r, 0, none⟩ v).setCell ⟨r, 1, none⟩ u) := by
  obtain ⟨n1, n2⟩ := two_set c0 c1 v
  exact ⟨(h.setCell n1 _).setCell n2 _, (hb.setCell hr _).setCell hr _⟩
def MakesRR (w : World) (p q : Nat) (e : Ending) (w' : World) : Prop := ∃ v, e = .returned v ∧ RRt w' v p q ∧ Below w.heap.size w w'
def MakesRRB (w : World) (p q : Nat) (ok : Bool) (e : Ending) (w' : World) : Prop := ∃ v, e = .returned (.tuple #[v, .bool ok]) ∧ RRt w' v p q ∧ Below w.heap.size w w'
set_option maxHeartbeats 2000000 in
theorem rzero2_any (w : World) : Calls Tryz.prog 39 #[] w (MakesRR w 0 1) := by
  have ba : Hid (Below w.heap.size w (w.alloc (.cells #[.slice none 0 0, .slice none 0 0] 53))) := bel_al (bel_refl w)
  go_enter Tryz.func39, Tryz.ntmps39
  go_wp2_with fail
  refine (rof_any 0 _ (by omega)).mono ?_
  rintro e w1 ⟨v1, rfl, hv1, hb1⟩
  obtain ⟨a1, n1, k1, rfl⟩ := hv1.isAgg
  have c0 : w1.cell? ⟨w.heap.size, 0, none⟩ = some (.slice none 0 0) := cell_later hb1 (by simp [go_sem])
  have c1 : w1.cell? ⟨w.heap.size, 1, none⟩ = some (.slice none 0 0) := cell_later hb1 (by simp [go_sem])
  have f0 : w1.frozen? ⟨w.heap.size, 0, none⟩ = false := (hb1.frozen (by simp)).trans (by simp [go_sem])
  have f1 : w1.frozen? ⟨w.heap.size, 1, none⟩ = false := (hb1.frozen (by simp)).trans (by simp [go_sem])
  have I1 : Hid (RNat w1 (.agg #[.slice a1 n1 k1]) 0 ∧ Below w.heap.size w w1) := ⟨hv1, bel_go ba.out hb1⟩
  clear hv1 hb1 ba
  go_wp2_with fail
  refine (rof_any 1 _ (by omega)).mono ?_
  rintro e w2 ⟨v2, rfl, hv2, hb2⟩
  obtain ⟨a2, n2, k2, rfl⟩ := hv2.isAgg
  have x0 := cell_later hb2 c0
  have x1 := cell_later hb2 c1
  have y0 := (hb2.frozen (World.block_lt_of_cell? _ _ c0)).trans f0
  have y1 := (hb2.frozen (World.block_lt_of_cell? _ _ c1)).trans f1
  have Z : Hid _ := rrat_put (v := .slice a1 n1 k1) (u := .slice a2 n2 k2) x0 x1 (V := .agg #[.slice a1 n1 k1, .slice a2 n2 k2]) (p := 0) (q := 1) ⟨_, _, _, _, _, _, rfl, I1.out.1.mono hb2, hv2⟩ (bel_go I1.out.2 hb2) (Nat.le_refl _)
  clear hv2 hb2 c0 c1 f0 f1 I1
  go_wp2_with fail
  exact bodyPost_ret (v := .agg #[.slice a1 n1 k1, .slice a2 n2 k2]) (by simp [results, Tryz.results39, go_sem, x0, x1]) rfl ⟨_, rfl, Z.out.1, Z.out.2⟩
theorem RSome.le {x y : Nat} (h : RSome x) (hy : y ≤ x) : RSome y := ⟨Nat.lt_of_le_of_lt hy h.lt⟩
theorem RS.rsome {x : Nat} (h : RS x) : RSome x := ⟨Nat.lt_of_lt_of_le (by rw [← P_B]; exact h.lt) (B_le (show 2 * 90 ≤ 1000000 by omega))⟩
set_option maxHeartbeats 4000000 in
theorem rmade_any (v u : Value) (p q : Nat) (w : World) (h : RNat w v p) (k : RNat w u q) (hp : RSome p) (hq : RSome q) (hq0 : 0 < q) :
    Calls Tryz.prog 55 #[v, u] w (MakesRR w (p / Nat.gcd p q) (q / Nat.gcd p q)) := by
  obtain ⟨a, n, c, rfl⟩ := h.isAgg
  obtain ⟨a', n', c', rfl⟩ := k.isAgg
  have HH : Hid (RSome p ∧ RSome q ∧ 0 < q) := ⟨hp, hq, hq0⟩
  have S0 : Hid (SR w (((w.alloc (.cells #[.slice a n c] 51)).alloc (.cells #[.slice a' n' c'] 51)).alloc (.cells #[.slice none 0 0, .slice none 0 0] 53)) [] [(.agg #[.slice a' n' c'], q), (.agg #[.slice a n c], p)] [(w.heap.size + 1, .slice a' n' c'), (w.heap.size, .slice a n c)]) := by
    have := ((((sr_start w).rnat h).rnat k).box (.slice a n c) 51 _ rfl).box (.slice a' n' c') 51 _ rfl
    simp only [World.size_alloc] at this
    exact this.go (bel_al (bel_refl _))
  have c2 : (((w.alloc (.cells #[.slice a n c] 51)).alloc (.cells #[.slice a' n' c'] 51)).alloc (.cells #[.slice none 0 0, .slice none 0 0] 53)).cell? ⟨w.heap.size + 1 + 1, 0, none⟩ = some (.slice none 0 0) := by simp [go_sem]
  have c3 : (((w.alloc (.cells #[.slice a n c] 51)).alloc (.cells #[.slice a' n' c'] 51)).alloc (.cells #[.slice none 0 0, .slice none 0 0] 53)).cell? ⟨w.heap.size + 1 + 1, 1, none⟩ = some (.slice none 0 0) := by simp [go_sem]
  have f2 : (((w.alloc (.cells #[.slice a n c] 51)).alloc (.cells #[.slice a' n' c'] 51)).alloc (.cells #[.slice none 0 0, .slice none 0 0] 53)).frozen? ⟨w.heap.size + 1 + 1, 0, none⟩ = false := by simp [go_sem]
  have f3 : (((w.alloc (.cells #[.slice a n c] 51)).alloc (.cells #[.slice a' n' c'] 51)).alloc (.cells #[.slice none 0 0, .slice none 0 0] 53)).frozen? ⟨w.heap.size + 1 + 1, 1, none⟩ = false := by simp [go_sem]
  clear h k hp hq hq0
  go_enter Tryz.func55, Tryz.ntmps55
  go_wp2_with fail
  obtain ⟨w0, hw0⟩ : ∃ w0, w0 = ((w.alloc (.cells #[.slice a n c] 51)).alloc (.cells #[.slice a' n' c'] 51)).alloc (.cells #[.slice none 0 0, .slice none 0 0] 53) := ⟨_, rfl⟩
  rw [← hw0] at S0 c2 c3 f2 f3 ⊢
  clear hw0
  refine (rgcd_any _ _ p q _ (S0.out.rat (.agg #[.slice a n c]) p) (S0.out.rat (.agg #[.slice a' n' c']) q) HH.out.1 HH.out.2.1).mono ?_
  rintro e w1 ⟨v1, rfl, hv1, hb1⟩
  obtain ⟨a1, n1, k1, rfl⟩ := hv1.isAgg
  obtain ⟨g, eg⟩ : ∃ g, g = Nat.gcd p q := ⟨_, rfl⟩
  rw [← eg] at hv1 ⊢
  have HG : Hid (g ≠ 0 ∧ RSome g) := by
    obtain ⟨g1, g2, g3⟩ := gcd_low (p := p) HH.out.2.2
    rw [← eg] at g1
    exact ⟨by omega, HH.out.2.1.le (eg ▸ Nat.gcd_le_right _ HH.out.2.2)⟩
  have S1 : Hid _ := ((S0.out.go hb1).rnat hv1).box (.slice a1 n1 k1) 51 _ rfl
  have b1 : Hid (Below w0.heap.size w0 (w1.alloc (.cells #[.slice a1 n1 k1] 51))) := bel_go hb1 (bel_al (bel_refl _))
  have EG : Hid (g = Nat.gcd p q) := eg
  clear hv1 hb1 S0 eg
  have d0 := S1.out.cell w.heap.size (.slice a n c)
  have d5 := S1.out.cell w1.heap.size (.slice a1 n1 k1)
  go_wp2_with fail
  obtain ⟨w2, hw2⟩ : ∃ w2, w2 = w1.alloc (.cells #[.slice a1 n1 k1] 51) := ⟨_, rfl⟩
  obtain ⟨b5, hb5⟩ : ∃ b5, b5 = w1.heap.size := ⟨_, rfl⟩
  rw [← hw2] at b1
  rw [← hw2, ← hb5] at S1
  rw [← hw2, ← hb5]
  clear hw2 hb5 d0 d5
  refine (rdivMod_any _ _ p g _ (S1.out.rat (.agg #[.slice a n c]) p) (S1.out.rat (.agg #[.slice a1 n1 k1]) g) HH.out.1 HG.out.2 HG.out.1).mono ?_
  rintro e w3 ⟨v3, u3, rfl, hv3, hu3, hb3⟩
  obtain ⟨a3, n3, k3, rfl⟩ := hv3.isAgg
  obtain ⟨a4, n4, k4, rfl⟩ := hu3.isAgg
  have S3 : Hid _ := (((S1.out.go hb3).rnat hv3).box (.slice a3 n3 k3) 51 _ rfl).box (.slice a4 n4 k4) 51 _ rfl
  have b3 : Hid (Below w0.heap.size w0 ((w3.alloc (.cells #[.slice a3 n3 k3] 51)).alloc (.cells #[.slice a4 n4 k4] 51))) := bel_go b1.out (bel_go hb3 (bel_al (bel_al (bel_refl _))))
  clear hv3 hu3 hb3 S1 b1
  simp only [World.size_alloc] at S3
  have d1 := S3.out.cell (w.heap.size + 1) (.slice a' n' c')
  have d5 := S3.out.cell b5 (.slice a1 n1 k1)
  go_wp2_with fail
  obtain ⟨w4, hw4⟩ : ∃ w4, w4 = (w3.alloc (.cells #[.slice a3 n3 k3] 51)).alloc (.cells #[.slice a4 n4 k4] 51) := ⟨_, rfl⟩
  obtain ⟨b6, hb6⟩ : ∃ b6, b6 = w3.heap.size := ⟨_, rfl⟩
  rw [← hw4] at b3
  rw [← hw4, ← hb6] at S3
  rw [← hw4, ← hb6]
  clear hw4 hb6 d1 d5
  refine (rdivMod_any _ _ q g _ (S3.out.rat (.agg #[.slice a' n' c']) q) (S3.out.rat (.agg #[.slice a1 n1 k1]) g) HH.out.2.1 HG.out.2 HG.out.1).mono ?_
  rintro e w5 ⟨v5, u5, rfl, hv5, hu5, hb5⟩
  obtain ⟨a5, n5, k5, rfl⟩ := hv5.isAgg
  obtain ⟨a6, n6, k6, rfl⟩ := hu5.isAgg
  have S5 : Hid _ := (((S3.out.go hb5).rnat hv5).box (.slice a5 n5 k5) 51 _ rfl).box (.slice a6 n6 k6) 51 _ rfl
  have b5' : Hid (Below w0.heap.size w0 ((w5.alloc (.cells #[.slice a5 n5 k5] 51)).alloc (.cells #[.slice a6 n6 k6] 51))) := bel_go b3.out (bel_go hb5 (bel_al (bel_al (bel_refl _))))
  clear hv5 hu5 hb5 S3 b3
  simp only [World.size_alloc] at S5
  have d6 := S5.out.cell b6 (.slice a3 n3 k3)
  have d8 := S5.out.cell w5.heap.size (.slice a5 n5 k5)
  have x2 := cell_later b5'.out c2
  have x3 := cell_later b5'.out c3
  have y2 := (b5'.out.frozen (World.block_lt_of_cell? _ _ c2)).trans f2
  have y3 := (b5'.out.frozen (World.block_lt_of_cell? _ _ c3)).trans f3
  have Z : Hid _ := rrat_put (v := .slice a3 n3 k3) (u := .slice a5 n5 k5) x2 x3 (V := .agg #[.slice a3 n3 k3, .slice a5 n5 k5]) (p := p / g) (q := q / g) ⟨_, _, _, _, _, _, rfl, S5.out.rat (.agg #[.slice a3 n3 k3]) (p / g), S5.out.rat (.agg #[.slice a5 n5 k5]) (q / g)⟩ S5.out.bel (by omega)
  rw [EG.out] at Z
  clear c2 c3 f2 f3 b5' S5
  go_wp2_with fail
  exact bodyPost_ret (v := .agg #[.slice a3 n3 k3, .slice a5 n5 k5]) (by simp [results, Tryz.results55, go_sem, x2, x3]) rfl ⟨_, rfl, Z.out.1, Z.out.2⟩
theorem rsome_word {x : Nat} (h : x < 18446744073709551616) : RSome x := (rs_word h).rsome
set_option maxHeartbeats 2000000 in
theorem rof2_yes (p q : Nat) (w : World) (hp : p ≤ 9223372036854775807) (hq : q ≤ 9223372036854775807) (hq0 : 0 < q) :
    Calls Tryz.prog 25 #[.int .i64 (p : Int), .int .i64 (q : Int)] w (MakesRRB w (p / Nat.gcd p q) (q / Nat.gcd p q) true) := by
  have d1 : decide ((p : Int) < 0) = false := decide_eq_false (by omega)
  have d2 : decide ((q : Int) < 1) = false := decide_eq_false (by omega)
  have m1 : IntKind.u64.wrap (p : Int) = (p : Int) := by rw [IntKind.wrap_u64]; omega
  have m2 : IntKind.u64.wrap (q : Int) = (q : Int) := by rw [IntKind.wrap_u64]; omega
  have ba : Hid (Below w.heap.size w (w.alloc (.cells #[.slice none 0 0, .slice none 0 0] 53))) := bel_al (bel_refl w)
  go_enter Tryz.func25, Tryz.ntmps25
  go_wp2_with fail
  refine (rof_any p _ (by omega)).mono ?_
  rintro e w1 ⟨v1, rfl, hv1, hb1⟩
  have c0 : w1.cell? ⟨w.heap.size, 0, none⟩ = some (.slice none 0 0) := cell_later hb1 (by simp [go_sem])
  have c1 : w1.cell? ⟨w.heap.size, 1, none⟩ = some (.slice none 0 0) := cell_later hb1 (by simp [go_sem])
  have f0 : w1.frozen? ⟨w.heap.size, 0, none⟩ = false := (hb1.frozen (by simp)).trans (by simp [go_sem])
  have f1 : w1.frozen? ⟨w.heap.size, 1, none⟩ = false := (hb1.frozen (by simp)).trans (by simp [go_sem])
  have I1 : Hid (RNat w1 v1 p ∧ Below w.heap.size w w1) := ⟨hv1, bel_go ba.out hb1⟩
  clear hv1 hb1 ba
  go_wp2_with fail
  refine (rof_any q _ (by omega)).mono ?_
  rintro e w2 ⟨v2, rfl, hv2, hb2⟩
  have I2 : Hid (RNat w2 v1 p ∧ RNat w2 v2 q ∧ Below w.heap.size w w2) := ⟨I1.out.1.mono hb2, hv2, bel_go I1.out.2 hb2⟩
  have x0 := cell_later hb2 c0
  have x1 := cell_later hb2 c1
  have y0 := (hb2.frozen (World.block_lt_of_cell? _ _ c0)).trans f0
  have y1 := (hb2.frozen (World.block_lt_of_cell? _ _ c1)).trans f1
  clear hv2 hb2 I1 c0 c1 f0 f1
  go_wp2_with fail
  refine (rmade_any _ _ p q _ I2.out.1 I2.out.2.1 (rsome_word (by omega)) (rsome_word (by omega)) hq0).mono ?_
  rintro e w3 ⟨v3, rfl, hv3, hb3⟩
  obtain ⟨a6, n6, k6, a7, n7, k7, ev6, h6, h7⟩ := hv3
  subst ev6
  have z0 := cell_later hb3 x0
  have z1 := cell_later hb3 x1
  have u0 := (hb3.frozen (World.block_lt_of_cell? _ _ x0)).trans y0
  have u1 := (hb3.frozen (World.block_lt_of_cell? _ _ x1)).trans y1
  have Z : Hid _ := rrat_put (v := .slice a6 n6 k6) (u := .slice a7 n7 k7) z0 z1 (V := .agg #[.slice a6 n6 k6, .slice a7 n7 k7]) ⟨_, _, _, _, _, _, rfl, h6, h7⟩ (bel_go I2.out.2.2 hb3) (Nat.le_refl _)
  clear h6 h7 hb3 I2 x0 x1 y0 y1
  go_wp2_with fail
  exact bodyPost_ret (v := .tuple #[.agg #[.slice a6 n6 k6, .slice a7 n7 k7], .bool true]) (by simp [results, Tryz.results25, go_sem, z0, z1]) rfl ⟨_, rfl, Z.out.1, Z.out.2⟩
set_option maxHeartbeats 4000000 in
theorem ratCmp_any (v u : Value) (p q r s : Nat) (w : World) (h : Rt w v p q) (k : Rt w u r s) (hp : RS p) (hq : RS q) (hr : RS r) (hs : RS s) :
    Calls Tryz.prog 21 #[v, u] w fun e w' => e = .returned (.int .i64 (cmpI (p * s) (r * q))) ∧ Below w.heap.size w w' := by
  obtain ⟨a, n, c, a', n', c', e0, _, _⟩ := h.raw
  subst e0
  obtain ⟨b, m, d, b', m', d', e1, _, _⟩ := k.raw
  subst e1
  have HH : Hid (Rt w (.agg #[.slice a n c, .slice a' n' c']) p q ∧ Rt w (.agg #[.slice b m d, .slice b' m' d']) r s ∧ RS p ∧ RS q ∧ RS r ∧ RS s) := ⟨h, k, hp, hq, hr, hs⟩
  have ba : Hid (Below w.heap.size w ((w.alloc (.cells #[.slice a n c, .slice a' n' c'] 47)).alloc (.cells #[.slice b m d, .slice b' m' d'] 47))) := bel_al (bel_al (bel_refl w))
  have HM : Hid (Fits (p * s) ∧ Fits (r * q)) := by
    refine ⟨fits_P (n := 180) ?_ (by omega), fits_P (n := 180) ?_ (by omega)⟩
    · rw [show 180 = 90 + 90 from rfl, P_add]; exact Nat.mul_lt_mul'' hp.lt hs.lt
    rw [show 180 = 90 + 90 from rfl, P_add]; exact Nat.mul_lt_mul'' hr.lt hq.lt
  clear h k hp hq hr hs
  go_enter Tryz.func21, Tryz.ntmps21
  go_wp2_with fail
  refine (parts_any _ p q _ (HH.out.1.mono ba.out) HH.out.2.2.2.1.fits).mono ?_
  rintro e w1 ⟨v1, u1, rfl, hv1, hu1, hb1⟩
  obtain ⟨a1, n1, k1, rfl⟩ := hv1.isAgg
  obtain ⟨a2, n2, k2, rfl⟩ := hu1.isAgg
  have c0 : w1.cell? ⟨w.heap.size + 1, 0, none⟩ = some (.slice b m d) := cell_later hb1 (by simp [go_sem])
  have c1 : w1.cell? ⟨w.heap.size + 1, 1, none⟩ = some (.slice b' m' d') := cell_later hb1 (by simp [go_sem])
  have S1 : Hid (SR w1 ((w1.alloc (.cells #[.slice a1 n1 k1] 45)).alloc (.cells #[.slice a2 n2 k2] 45)) [(.agg #[.slice a2 n2 k2], q), (.agg #[.slice a1 n1 k1], p)] [] [(w1.heap.size + 1, .slice a2 n2 k2), (w1.heap.size, .slice a1 n1 k1)]) := by
    have := ((((sr_start w1).nat hv1).nat hu1).box (.slice a1 n1 k1) 45 _ rfl).box (.slice a2 n2 k2) 45 _ rfl
    simp only [World.size_alloc] at this
    exact this
  have x0 := cell_later S1.out.bel c0
  have x1 := cell_later S1.out.bel c1
  have B1 : Hid (Below w.heap.size w w1) := bel_go ba.out hb1
  clear hv1 hu1 hb1 ba c0 c1
  go_wp2_with fail
  obtain ⟨w2, hw2⟩ : ∃ w2, w2 = (w1.alloc (.cells #[.slice a1 n1 k1] 45)).alloc (.cells #[.slice a2 n2 k2] 45) := ⟨_, rfl⟩
  obtain ⟨b1, hb1⟩ : ∃ b1, b1 = w1.heap.size := ⟨_, rfl⟩
  rw [← hw2, ← hb1] at S1
  rw [← hw2, ← hb1]
  clear hw2 hb1 x0 x1
  refine (parts_any _ r s _ (HH.out.2.1.mono (bel_go B1.out S1.out.bel)) HH.out.2.2.2.2.2.fits).mono ?_
  rintro e w3 ⟨v3, u3, rfl, hv3, hu3, hb3⟩
  obtain ⟨a3, n3, k3, rfl⟩ := hv3.isAgg
  obtain ⟨a4, n4, k4, rfl⟩ := hu3.isAgg
  have S3 : Hid _ := ((((S1.out.go hb3).nat hv3).nat hu3).box (.slice a3 n3 k3) 45 _ rfl).box (.slice a4 n4 k4) 45 _ rfl
  simp only [World.size_alloc] at S3
  clear hv3 hu3 hb3 S1
  go_wp2_with fail
  obtain ⟨w4, hw4⟩ : ∃ w4, w4 = (w3.alloc (.cells #[.slice a3 n3 k3] 45)).alloc (.cells #[.slice a4 n4 k4] 45) := ⟨_, rfl⟩
  obtain ⟨b3, hb3⟩ : ∃ b3, b3 = w3.heap.size := ⟨_, rfl⟩
  rw [← hw4, ← hb3] at S3
  rw [← hw4, ← hb3]
  clear hw4 hb3
  refine wp_region_inv (JB w4 [sNat (p), sNat (s), sNat (p * s), sNat (r), sNat (q), sNat (r * q), sEq (.int .i64 (cmpI (p * s) (r * q))), sEq (.int .i64 (cmpI (p * s) (r * q)))] []) 26 (by kernel_rfl) rfl (by kernel_rfl) (JB.start _ _ _) (fun HG HN => ⟨?_, ?_, ?_, ?_, ?_, ?_, ?_, ?_, trivial⟩) ?_
  · intro L vs a w' hJ hF hP hL
    have q5 : (a.tmps[5]?).getD undef = .pointer (some ⟨b1, 0, none⟩) := hF.old 5 rfl
    have cb := cell_later hJ.bel (S3.out.cell (b1) (.slice a1 n1 k1))
    exact run_val (v := .agg #[.slice a1 n1 k1]) rfl (by simp [execOp, go_sem, q5, cb]) ⟨_, rfl, hJ.step hL rfl (Below.refl _ _) (by exact ((S3.out.at (.agg #[.slice a1 n1 k1]) (p)).mono hJ.bel))⟩
  · intro L vs a w' hJ hF hP hL
    have q8 : (a.tmps[8]?).getD undef = .pointer (some ⟨b3 + 1, 0, none⟩) := hF.old 8 rfl
    have cb := cell_later hJ.bel (S3.out.cell (b3 + 1) (.slice a4 n4 k4))
    exact run_val (v := .agg #[.slice a4 n4 k4]) rfl (by simp [execOp, go_sem, q8, cb]) ⟨_, rfl, hJ.step hL rfl (Below.refl _ _) (by exact ((S3.out.at (.agg #[.slice a4 n4 k4]) (s)).mono hJ.bel))⟩
  · intro L vs a w' hJ hF hP hL
    have p0 : L 0 = true := hP ⟨0, .data⟩ (by simp) rfl
    have s0 : IsNat w' (vs 0) (p) := hJ.sp 0 p0
    have q19 := hF.slot 0 19 rfl p0
    have p1 : L 1 = true := hP ⟨1, .data⟩ (by simp) rfl
    have s1 : IsNat w' (vs 1) (s) := hJ.sp 1 p1
    have q20 := hF.slot 1 20 rfl p1
    refine run_call (f := 52) (args := #[vs 0, vs 1]) rfl (by simp [go_sem, q19, q20]) (mul_short _ _ p s _ s0 s1 HH.out.2.2.1.fits HH.out.2.2.2.2.2.fits (.inl HH.out.2.2.1.p99)) ?_
    rintro e w2 ⟨v, rfl, hv, hb⟩
    exact ⟨_, rfl, _, rfl, hJ.step hL rfl hb (by exact hv)⟩
  · intro L vs a w' hJ hF hP hL
    have q7 : (a.tmps[7]?).getD undef = .pointer (some ⟨b3, 0, none⟩) := hF.old 7 rfl
    have cb := cell_later hJ.bel (S3.out.cell (b3) (.slice a3 n3 k3))
    exact run_val (v := .agg #[.slice a3 n3 k3]) rfl (by simp [execOp, go_sem, q7, cb]) ⟨_, rfl, hJ.step hL rfl (Below.refl _ _) (by exact ((S3.out.at (.agg #[.slice a3 n3 k3]) (r)).mono hJ.bel))⟩
  · intro L vs a w' hJ hF hP hL
    have q6 : (a.tmps[6]?).getD undef = .pointer (some ⟨b1 + 1, 0, none⟩) := hF.old 6 rfl
    have cb := cell_later hJ.bel (S3.out.cell (b1 + 1) (.slice a2 n2 k2))
    exact run_val (v := .agg #[.slice a2 n2 k2]) rfl (by simp [execOp, go_sem, q6, cb]) ⟨_, rfl, hJ.step hL rfl (Below.refl _ _) (by exact ((S3.out.at (.agg #[.slice a2 n2 k2]) (q)).mono hJ.bel))⟩
  · intro L vs a w' hJ hF hP hL
    have p3 : L 3 = true := hP ⟨3, .data⟩ (by simp) rfl
    have s3 : IsNat w' (vs 3) (r) := hJ.sp 3 p3
    have q22 := hF.slot 3 22 rfl p3
    have p4 : L 4 = true := hP ⟨4, .data⟩ (by simp) rfl
    have s4 : IsNat w' (vs 4) (q) := hJ.sp 4 p4
    have q23 := hF.slot 4 23 rfl p4
    refine run_call (f := 52) (args := #[vs 3, vs 4]) rfl (by simp [go_sem, q22, q23]) (mul_short _ _ r q _ s3 s4 HH.out.2.2.2.2.1.fits HH.out.2.2.2.1.fits (.inl HH.out.2.2.2.2.1.p99)) ?_
    rintro e w2 ⟨v, rfl, hv, hb⟩
    exact ⟨_, rfl, _, rfl, hJ.step hL rfl hb (by exact hv)⟩
  · intro L vs a w' hJ hF hP hL
    have p2 : L 2 = true := hP ⟨2, .data⟩ (by simp) rfl
    have s2 : IsNat w' (vs 2) (p * s) := hJ.sp 2 p2
    have q21 := hF.slot 2 21 rfl p2
    have p5 : L 5 = true := hP ⟨5, .data⟩ (by simp) rfl
    have s5 : IsNat w' (vs 5) (r * q) := hJ.sp 5 p5
    have q24 := hF.slot 5 24 rfl p5
    refine run_call (f := 53) (args := #[vs 2, vs 5]) rfl (by simp [go_sem, q21, q24]) (cmp_any _ _ (p * s) (r * q) _ s2 s5 HM.out.1 HM.out.2) ?_
    rintro e w2 ⟨rfl, hb⟩
    exact ⟨_, rfl, _, rfl, hJ.step hL rfl hb (by exact rfl)⟩
  · intro L vs a w' hJ hF hP hL
    have p6 : L 6 = true := hP ⟨6, .data⟩ (by simp) rfl
    have s6 : vs 6 = .int .i64 (cmpI (p * s) (r * q)) := hJ.sp 6 p6
    have q25 := hF.slot 6 25 rfl p6
    exact run_val (v := .int .i64 (cmpI (p * s) (r * q))) rfl (by simp [execOp, go_sem, q25, s6]) ⟨_, rfl, hJ.step hL rfl (Below.refl _ _) (by exact rfl)⟩
  intro L vs w' hA hJ
  have s7 : vs 7 = .int .i64 (cmpI (p * s) (r * q)) := hJ.sp 7 (hA 7 (by simp))
  simp only [putL, Act.put, List.setIfInBounds_toArray, List.set_cons_zero, List.set_cons_succ, Nat.reduceAdd]
  simp only [s7]
  go_wp2_with fail
  go_ret
  exact ⟨rfl, bel_go B1.out (S3.out.go hJ.bel).bel⟩
theorem add_gcd {p q x y : Nat} (hq : 0 < q) (hy : 0 < y) (h1 : Nat.gcd p q = 1) (h2 : Nat.gcd x y = 1) :
    Nat.gcd (p * (y / Nat.gcd q y) + x * (q / Nat.gcd q y)) (q / Nat.gcd q y * y) = Nat.gcd (p * (y / Nat.gcd q y) + x * (q / Nat.gcd q y)) (Nat.gcd q y) := by
  obtain ⟨g, hg⟩ : ∃ g, g = Nat.gcd q y := ⟨_, rfl⟩
  have g0 : 0 < g := by rw [hg]; exact Nat.gcd_pos_of_pos_left _ hq
  obtain ⟨a, ha⟩ : g ∣ q := by rw [hg]; exact Nat.gcd_dvd_left _ _
  obtain ⟨b, hb⟩ : g ∣ y := by rw [hg]; exact Nat.gcd_dvd_right _ _
  have e1 : q / g = a := by rw [ha, Nat.mul_div_cancel_left _ g0]
  have e2 : y / g = b := by rw [hb, Nat.mul_div_cancel_left _ g0]
  have hab : Nat.Coprime a b := by
    have h3 := Nat.gcd_div (Nat.gcd_dvd_left q y) (Nat.gcd_dvd_right q y)
    rw [← hg, e1, e2, Nat.div_self g0] at h3
    exact h3
  have hpa : Nat.Coprime p a := Nat.Coprime.coprime_dvd_right ⟨g, by rw [ha, Nat.mul_comm]⟩ h1
  have hxb : Nat.Coprime x b := Nat.Coprime.coprime_dvd_right ⟨g, by rw [hb, Nat.mul_comm]⟩ h2
  rw [← hg, e1, e2]
  have c1 : Nat.Coprime (p * b + x * a) a := by
    show Nat.gcd (p * b + x * a) a = 1
    rw [Nat.gcd_add_mul_right_left]
    exact Nat.Coprime.mul_left hpa hab.symm
  have c2 : Nat.Coprime (p * b + x * a) b := by
    show Nat.gcd (p * b + x * a) b = 1
    rw [Nat.add_comm, Nat.gcd_add_mul_right_left]
    exact Nat.Coprime.mul_left hxb hab
  rw [hb, show a * (g * b) = a * b * g by grind]
  exact Nat.Coprime.gcd_mul_left_cancel_right _ (Nat.Coprime.mul_right c1 c2).symm
theorem add_low {p q x y A d : Nat} (hq : 0 < q) (hy : 0 < y) (h1 : Nat.gcd p q = 1) (h2 : Nat.gcd x y = 1) (hA : A = p * (y / Nat.gcd q y) + x * (q / Nat.gcd q y)) (hd : d = Nat.gcd A (Nat.gcd q y)) :
    0 < d ∧ Nat.gcd (A / d) (q / Nat.gcd q y * (y / d)) = 1 ∧ 0 < q / Nat.gcd q y * (y / d) := by
  have g0 : 0 < Nat.gcd q y := Nat.gcd_pos_of_pos_left _ hq
  have d0 : 0 < d := by rw [hd]; exact Nat.gcd_pos_of_pos_right _ g0
  have hdy : d ∣ y := Nat.dvd_trans (by rw [hd]; exact Nat.gcd_dvd_right _ _) (Nat.gcd_dvd_right q y)
  have hdA : d ∣ A := by rw [hd]; exact Nat.gcd_dvd_left _ _
  have hk := add_gcd hq hy h1 h2
  rw [← hA, ← hd] at hk
  have e : q / Nat.gcd q y * (y / d) = q / Nat.gcd q y * y / d := (Nat.mul_div_assoc _ hdy).symm
  refine ⟨d0, ?_, Nat.mul_pos (Nat.div_pos (Nat.gcd_le_left _ hq) g0) (Nat.div_pos (Nat.le_of_dvd hy hdy) d0)⟩
  rw [e, Nat.gcd_div hdA (Nat.dvd_trans hdy (Nat.dvd_mul_left _ _)), hk, Nat.div_self d0]
def IsCom (w : World) (v : Value) (x1 x2 x3 x4 x5 : Nat) : Prop := ∃ a1 n1 c1 a2 n2 c2 a3 n3 c3 a4 n4 c4 a5 n5 c5, v = .agg #[.slice a1 n1 c1, .slice a2 n2 c2, .slice a3 n3 c3, .slice a4 n4 c4, .slice a5 n5 c5] ∧ IsNat w (.agg #[.slice a1 n1 c1]) x1 ∧ IsNat w (.agg #[.slice a2 n2 c2]) x2 ∧ IsNat w (.agg #[.slice a3 n3 c3]) x3 ∧ IsNat w (.agg #[.slice a4 n4 c4]) x4 ∧ IsNat w (.agg #[.slice a5 n5 c5]) x5
theorem IsCom.mono {w w' : World} {v : Value} {x1 x2 x3 x4 x5 : Nat} (h : IsCom w v x1 x2 x3 x4 x5) (hb : Below w.heap.size w w') : IsCom w' v x1 x2 x3 x4 x5 := by
  obtain ⟨a1, n1, c1, a2, n2, c2, a3, n3, c3, a4, n4, c4, a5, n5, c5, e, h1, h2, h3, h4, h5⟩ := h
  exact ⟨_, _, _, _, _, _, _, _, _, _, _, _, _, _, _, e, h1.mono hb, h2.mono hb, h3.mono hb, h4.mono hb, h5.mono hb⟩
theorem IsCom.setCell {w : World} {v : Value} {x1 x2 x3 x4 x5 : Nat} (h : IsCom w v x1 x2 x3 x4 x5) {x : Addr} (hp : ∀ k q, w.cell? x ≠ some (.int k q)) (u : Value) : IsCom (w.setCell x u) v x1 x2 x3 x4 x5 := by
  obtain ⟨a1, n1, c1, a2, n2, c2, a3, n3, c3, a4, n4, c4, a5, n5, c5, e, h1, h2, h3, h4, h5⟩ := h
  exact ⟨_, _, _, _, _, _, _, _, _, _, _, _, _, _, _, e, h1.setCell hp u, h2.setCell hp u, h3.setCell hp u, h4.setCell hp u, h5.setCell hp u⟩
def Five (w : World) (r : Nat) : Prop := ∀ i, i < 5 → w.cell? ⟨r, i, none⟩ = some (.slice none 0 0) ∧ w.frozen? ⟨r, i, none⟩ = false
theorem Five.go {w w' : World} {r : Nat} (h : Five w r) (hb : Below w.heap.size w w') : Five w' r := fun i hi =>
  ⟨cell_later hb (h i hi).1, (hb.frozen (World.block_lt_of_cell? _ _ (h i hi).1)).trans (h i hi).2⟩
theorem com_put {w0 w : World} {r : Nat} (h5 : Five w r) {s0 s1 s2 s3 s4 V : Value} {x1 x2 x3 x4 x5 : Nat} (h : IsCom w V x1 x2 x3 x4 x5) (hb : Below w0.heap.size w0 w) (hr : w0.heap.size ≤ r) :
    IsCom (((((w.setCell ⟨r, 0, none⟩ s0).setCell ⟨r, 1, none⟩ s1).setCell ⟨r, 2, none⟩ s2).setCell ⟨r, 3, none⟩ s3).setCell ⟨r, 4, none⟩ s4) V x1 x2 x3 x4 x5 ∧ Below w0.heap.size w0 (((((w.setCell ⟨r, 0, none⟩ s0).setCell ⟨r, 1, none⟩ s1).setCell ⟨r, 2, none⟩ s2).setCell ⟨r, 3, none⟩ s3).setCell ⟨r, 4, none⟩ s4) := by
  have k0 := (h5 0 (by omega)).1
  have k1 : (w.setCell ⟨r, 0, none⟩ s0).cell? ⟨r, 1, none⟩ = some (.slice none 0 0) := (World.cell?_setCell_other (h := by simp) ..).trans (h5 1 (by omega)).1
  have k2 : ((w.setCell ⟨r, 0, none⟩ s0).setCell ⟨r, 1, none⟩ s1).cell? ⟨r, 2, none⟩ = some (.slice none 0 0) := (World.cell?_setCell_other (h := by simp) ..).trans ((World.cell?_setCell_other (h := by simp) ..).trans (h5 2 (by omega)).1)
  have k3 : (((w.setCell ⟨r, 0, none⟩ s0).setCell ⟨r, 1, none⟩ s1).setCell ⟨r, 2, none⟩ s2).cell? ⟨r, 3, none⟩ = some (.slice none 0 0) := (World.cell?_setCell_other (h := by simp) ..).trans ((World.cell?_setCell_other (h := by simp) ..).trans ((World.cell?_setCell_other (h := by simp) ..).trans (h5 3 (by omega)).1))
  have k4 : ((((w.setCell ⟨r, 0, none⟩ s0).setCell ⟨r, 1, none⟩ s1).setCell ⟨r, 2, none⟩ s2).setCell ⟨r, 3, none⟩ s3).cell? ⟨r, 4, none⟩ = some (.slice none 0 0) := (World.cell?_setCell_other (h := by simp) ..).trans ((World.cell?_setCell_other (h := by simp) ..).trans ((World.cell?_setCell_other (h := by simp) ..).trans ((World.cell?_setCell_other (h := by simp) ..).trans (h5 4 (by omega)).1)))
  exact ⟨((((h.setCell (no_int_slice k0) _).setCell (no_int_slice k1) _).setCell (no_int_slice k2) _).setCell (no_int_slice k3) _).setCell (no_int_slice k4) _, ((((hb.setCell hr _).setCell hr _).setCell hr _).setCell hr _).setCell hr _⟩
def MakesC (w : World) (x1 x2 x3 x4 x5 : Nat) (e : Ending) (w' : World) : Prop := ∃ v, e = .returned v ∧ IsCom w' v x1 x2 x3 x4 x5 ∧ Below w.heap.size w w'
structure RL (x : Nat) : Prop where
  lt : x < P 97
theorem RL.p198 {x : Nat} (h : RL x) : x < P 198 := Nat.lt_trans h.lt (P_lt (by omega))
theorem RL.p99 {x : Nat} (h : RL x) : x < P 99 := Nat.lt_trans h.lt (P_lt (by omega))
theorem RL.fits {x : Nat} (h : RL x) : Fits x := (small_198 h.p198).fits
theorem RL.le {x y : Nat} (h : RL x) (hy : y ≤ x) : RL y := ⟨Nat.lt_of_le_of_lt hy h.lt⟩
theorem RS.l {x : Nat} (h : RS x) : RL x := ⟨Nat.lt_trans h.lt (P_lt (by omega))⟩
set_option maxHeartbeats 8000000 in
theorem broughtL_any (v u : Value) (p q x y : Nat) (w : World) (h : Rt w v p q) (k : Rt w u x y) (hp : RL p) (hq : RL q) (hr : RL x) (hs : RL y) (hT : Tab w) :
    Calls Tryz.prog 67 #[v, u] w (MakesC w (p * (y / Nat.gcd q y)) (x * (q / Nat.gcd q y)) (q / Nat.gcd q y) y (Nat.gcd q y)) := by
  obtain ⟨a, n, c, a', n', c', e0, _, _⟩ := h.raw
  subst e0
  obtain ⟨b, m, d, b', m', d', e1, _, _⟩ := k.raw
  subst e1
  have HH : Hid (Rt w (.agg #[.slice a n c, .slice a' n' c']) p q ∧ Rt w (.agg #[.slice b m d, .slice b' m' d']) x y ∧ RL p ∧ RL q ∧ RL x ∧ RL y ∧ Tab w) := ⟨h, k, hp, hq, hr, hs, hT⟩
  have ba : Hid (Below w.heap.size w (((w.alloc (.cells #[.slice a n c, .slice a' n' c'] 47)).alloc (.cells #[.slice b m d, .slice b' m' d'] 47)).alloc (.cells #[.slice none 0 0, .slice none 0 0, .slice none 0 0, .slice none 0 0, .slice none 0 0] 123))) := bel_al (bel_al (bel_al (bel_refl w)))
  have F0 : Five (((w.alloc (.cells #[.slice a n c, .slice a' n' c'] 47)).alloc (.cells #[.slice b m d, .slice b' m' d'] 47)).alloc (.cells #[.slice none 0 0, .slice none 0 0, .slice none 0 0, .slice none 0 0, .slice none 0 0] 123)) (w.heap.size + 1 + 1) := by
    intro i hi
    match i, hi with
    | 0, _ => simp [go_sem]
    | 1, _ => simp [go_sem]
    | 2, _ => simp [go_sem]
    | 3, _ => simp [go_sem]
    | 4, _ => simp [go_sem]
  have HF : Hid _ := F0
  clear F0
  clear h k hp hq hr hs hT
  go_enter Tryz.func67, Tryz.ntmps67
  go_wp2_with fail
  refine (parts_any _ p q _ (HH.out.1.mono ba.out) HH.out.2.2.2.1.fits).mono ?_
  rintro e w1 ⟨v1, u1, rfl, hv1, hu1, hb1⟩
  obtain ⟨a1, n1, k1, rfl⟩ := hv1.isAgg
  obtain ⟨a2, n2, k2, rfl⟩ := hu1.isAgg
  have c0 : w1.cell? ⟨w.heap.size + 1, 0, none⟩ = some (.slice b m d) := cell_later hb1 (by simp [go_sem])
  have c1 : w1.cell? ⟨w.heap.size + 1, 1, none⟩ = some (.slice b' m' d') := cell_later hb1 (by simp [go_sem])
  have S1 : Hid (SR w1 ((w1.alloc (.cells #[.slice a1 n1 k1] 45)).alloc (.cells #[.slice a2 n2 k2] 45)) [(.agg #[.slice a2 n2 k2], q), (.agg #[.slice a1 n1 k1], p)] [] [(w1.heap.size + 1, .slice a2 n2 k2), (w1.heap.size, .slice a1 n1 k1)]) := by
    have := ((((sr_start w1).nat hv1).nat hu1).box (.slice a1 n1 k1) 45 _ rfl).box (.slice a2 n2 k2) 45 _ rfl
    simp only [World.size_alloc] at this
    exact this
  have x0 := cell_later S1.out.bel c0
  have x1 := cell_later S1.out.bel c1
  have B1 : Hid (Below w.heap.size w w1) := bel_go ba.out hb1
  have F1 : Hid (Five w1 (w.heap.size + 1 + 1)) := Five.go HF.out hb1
  clear hv1 hu1 hb1 ba c0 c1 HF
  go_wp2_with fail
  obtain ⟨w2, hw2⟩ : ∃ w2, w2 = (w1.alloc (.cells #[.slice a1 n1 k1] 45)).alloc (.cells #[.slice a2 n2 k2] 45) := ⟨_, rfl⟩
  obtain ⟨b1, hb1⟩ : ∃ b1, b1 = w1.heap.size := ⟨_, rfl⟩
  have N1 : w.heap.size + 1 + 1 < b1 := by rw [hb1]; exact World.block_lt_of_cell? _ _ (F1.out 0 (by omega)).1
  rw [← hw2, ← hb1] at S1
  rw [← hw2, ← hb1]
  clear hw2 hb1 x0 x1
  refine (parts_any _ x y _ (HH.out.2.1.mono (bel_go B1.out S1.out.bel)) HH.out.2.2.2.2.2.1.fits).mono ?_
  rintro e w3 ⟨v3, u3, rfl, hv3, hu3, hb3⟩
  obtain ⟨a3, n3, k3, rfl⟩ := hv3.isAgg
  obtain ⟨a4, n4, k4, rfl⟩ := hu3.isAgg
  have B13 : Hid (b1 < w3.heap.size) := World.block_lt_of_cell? _ _ ((S1.out.go hb3).cell b1 (.slice a1 n1 k1))
  have S3 : Hid _ := ((((S1.out.go hb3).nat hv3).nat hu3).box (.slice a3 n3 k3) 45 _ rfl).box (.slice a4 n4 k4) 45 _ rfl
  simp only [World.size_alloc] at S3
  clear hv3 hu3 hb3 S1
  have d6 := S3.out.cell (b1 + 1) (.slice a2 n2 k2)
  have d8 := S3.out.cell (w3.heap.size + 1) (.slice a4 n4 k4)
  go_wp2_with fail
  obtain ⟨w4, hw4⟩ : ∃ w4, w4 = (w3.alloc (.cells #[.slice a3 n3 k3] 45)).alloc (.cells #[.slice a4 n4 k4] 45) := ⟨_, rfl⟩
  obtain ⟨b3, hb3⟩ : ∃ b3, b3 = w3.heap.size := ⟨_, rfl⟩
  have N3 : w.heap.size + 1 + 1 < b3 := by
    rw [hb3]
    have := B13.out
    omega
  rw [← hw4, ← hb3] at S3
  rw [← hw4, ← hb3]
  clear hw4 hb3 d6 d8
  have F4 : Hid (Five w4 (w.heap.size + 1 + 1) ∧ Tab w4 ∧ Below w.heap.size w w4) := ⟨F1.out.go S3.out.bel, HH.out.2.2.2.2.2.2.go (bel_go B1.out S3.out.bel), bel_go B1.out S3.out.bel⟩
  clear F1
  refine (gcd_any _ _ q y _ (S3.out.at (.agg #[.slice a2 n2 k2]) q) (S3.out.at (.agg #[.slice a4 n4 k4]) y) HH.out.2.2.2.1.p198 HH.out.2.2.2.2.2.1.p198 F4.out.2.1).mono ?_
  rintro e w5 ⟨v5, rfl, hv5, hb5⟩
  obtain ⟨a5, n5, k5, rfl⟩ := hv5.isAgg
  obtain ⟨g, eg⟩ : ∃ g, g = Nat.gcd q y := ⟨_, rfl⟩
  rw [← eg] at hv5
  have EG : Hid (g = Nat.gcd q y) := eg
  have HG : Hid (0 < g ∧ g < P 198 ∧ RL (q / g) ∧ RL (y / g)) := by
    have h0 : 0 < Nat.gcd q y := Nat.gcd_pos_of_pos_left _ HH.out.1.pos
    exact ⟨by omega, Nat.lt_of_le_of_lt (eg ▸ Nat.gcd_le_left _ HH.out.1.pos) HH.out.2.2.2.1.p198, HH.out.2.2.2.1.le (Nat.div_le_self _ _), HH.out.2.2.2.2.2.1.le (Nat.div_le_self _ _)⟩
  have N9 : b1 < w5.heap.size := World.block_lt_of_cell? _ _ ((S3.out.go hb5).cell b1 (.slice a1 n1 k1))
  have S5 : Hid _ := ((S3.out.go hb5).nat hv5).box (.slice a5 n5 k5) 45 _ rfl
  have b5 : Below w4.heap.size w4 (w5.alloc (.cells #[.slice a5 n5 k5] 45)) := bel_go hb5 (bel_al (bel_refl w5))
  have F5 : Hid (Five (w5.alloc (.cells #[.slice a5 n5 k5] 45)) (w.heap.size + 1 + 1) ∧ Below w.heap.size w (w5.alloc (.cells #[.slice a5 n5 k5] 45))) := ⟨F4.out.1.go b5, bel_go F4.out.2.2 b5⟩
  clear hv5 hb5 S3 b5 F4 eg
  have d6 := S5.out.cell (b1 + 1) (.slice a2 n2 k2)
  have d9 := S5.out.cell w5.heap.size (.slice a5 n5 k5)
  go_wp2_with fail
  obtain ⟨w6, hw6⟩ : ∃ w6, w6 = w5.alloc (.cells #[.slice a5 n5 k5] 45) := ⟨_, rfl⟩
  obtain ⟨b9, hb9⟩ : ∃ b9, b9 = w5.heap.size := ⟨_, rfl⟩
  rw [← hw6] at F5
  rw [← hw6, ← hb9] at S5
  rw [← hw6, ← hb9]
  have N9' : b1 < b9 := by rw [hb9]; exact N9
  clear hw6 hb9 d6 d9 N9
  refine (over_any _ _ q g _ (S5.out.at (.agg #[.slice a2 n2 k2]) q) (S5.out.at (.agg #[.slice a5 n5 k5]) g) HH.out.2.2.2.1.p198 HG.out.2.1 HG.out.1).mono ?_
  rintro e w7 ⟨v7, rfl, hv7, hb7⟩
  obtain ⟨a7, n7, k7, rfl⟩ := hv7.isAgg
  have N10 : b1 < w7.heap.size := World.block_lt_of_cell? _ _ ((S5.out.go hb7).cell b1 (.slice a1 n1 k1))
  have S7 : Hid _ := ((S5.out.go hb7).nat hv7).box (.slice a7 n7 k7) 45 _ rfl
  have b7 : Below w6.heap.size w6 (w7.alloc (.cells #[.slice a7 n7 k7] 45)) := bel_go hb7 (bel_al (bel_refl w7))
  have F7 : Hid (Five (w7.alloc (.cells #[.slice a7 n7 k7] 45)) (w.heap.size + 1 + 1) ∧ Below w.heap.size w (w7.alloc (.cells #[.slice a7 n7 k7] 45))) := ⟨F5.out.1.go b7, bel_go F5.out.2 b7⟩
  clear hv7 hb7 S5 b7 F5
  go_wp2_with fail
  obtain ⟨w8, hw8⟩ : ∃ w8, w8 = w7.alloc (.cells #[.slice a7 n7 k7] 45) := ⟨_, rfl⟩
  obtain ⟨b10, hb10⟩ : ∃ b10, b10 = w7.heap.size := ⟨_, rfl⟩
  rw [← hw8] at F7
  rw [← hw8, ← hb10] at S7
  rw [← hw8, ← hb10]
  have NBS : Hid (w.heap.size + 1 + 1 < b1 ∧ w.heap.size + 1 + 1 < b3 ∧ w.heap.size + 1 + 1 < b9 ∧ w.heap.size + 1 + 1 < b10) := ⟨N1, N3, by omega, by rw [hb10]; omega⟩
  clear hw8 hb10 N1 N3 N9' N10
  have d5 := S7.out.cell b1 (.slice a1 n1 k1)
  have d7 := S7.out.cell b3 (.slice a3 n3 k3)
  have d8 := S7.out.cell (b3 + 1) (.slice a4 n4 k4)
  have d9 := S7.out.cell b9 (.slice a5 n5 k5)
  have d10 := S7.out.cell b10 (.slice a7 n7 k7)
  have hR : w.heap.size + 1 + 1 < w8.heap.size := World.block_lt_of_cell? _ _ (F7.out.1 0 (by omega)).1
  have HL : Hid (w.heap.size + 1 + 1 < b1 ∧ w.heap.size + 1 + 1 < b3 ∧ w.heap.size + 1 + 1 < b9 ∧ w.heap.size + 1 + 1 < b10) := NBS.out
  have r1 : ¬ w.heap.size + 1 + 1 = b1 := by have := HL.out; omega
  have r2 : ¬ w.heap.size + 1 + 1 = b3 := by have := HL.out; omega
  have r3 : ¬ w.heap.size + 1 + 1 = b3 + 1 := by have := HL.out; omega
  have r4 : ¬ w.heap.size + 1 + 1 = b9 := by have := HL.out; omega
  have r5 : ¬ w.heap.size + 1 + 1 = b10 := by have := HL.out; omega
  clear hR
  have HM : Hid (IsNat w8 (.agg #[.slice a1 n1 k1]) p ∧ IsNat w8 (.agg #[.slice a3 n3 k3]) x ∧ IsNat w8 (.agg #[.slice a4 n4 k4]) y ∧ IsNat w8 (.agg #[.slice a5 n5 k5]) g ∧ IsNat w8 (.agg #[.slice a7 n7 k7]) (q / g)) := ⟨S7.out.at (.agg #[.slice a1 n1 k1]) p, S7.out.at (.agg #[.slice a3 n3 k3]) x, S7.out.at (.agg #[.slice a4 n4 k4]) y, S7.out.at (.agg #[.slice a5 n5 k5]) g, S7.out.at (.agg #[.slice a7 n7 k7]) (q / g)⟩
  clear S7
  go_region_held3 (fun w' => w'.cell? ⟨b1, 0, none⟩ = some (.slice a1 n1 k1) ∧ w'.cell? ⟨b3, 0, none⟩ = some (.slice a3 n3 k3) ∧ w'.cell? ⟨b3 + 1, 0, none⟩ = some (.slice a4 n4 k4) ∧ w'.cell? ⟨b9, 0, none⟩ = some (.slice a5 n5 k5) ∧ w'.cell? ⟨b10, 0, none⟩ = some (.slice a7 n7 k7)) (first | (simp [go_sem, *]; done) | (trace_state; fail))
    (first
      | (go_at_call 70; refine Calls.mono (over_any _ _ y g _ (IsNat.mono HM.out.2.2.1 ?_) (IsNat.mono HM.out.2.2.2.1 ?_) HH.out.2.2.2.2.2.1.p198 HG.out.2.1 HG.out.1) ?_; (first | exact bel_refl _ | exact bel_dr (bel_refl _)); (first | exact bel_refl _ | exact bel_dr (bel_refl _)); rintro e w10 ⟨v10, rfl, hv10, hb10⟩; have hb10 : Below w8.heap.size w8 w10 := (by first | exact hb10 | exact bel_undrew hb10); obtain ⟨a10, n10, k10, rfl⟩ := hv10.isAgg; have x5 := cell_later hb10 d5; have x7 := cell_later hb10 d7; have x8 := cell_later hb10 d8; have x9 := cell_later hb10 d9; have x10 := cell_later hb10 d10; have F10 : Hid (Five w10 (w.heap.size + 1 + 1) ∧ Below w.heap.size w w10 ∧ Below w8.heap.size w8 w10 ∧ IsNat w10 (.agg #[.slice a10 n10 k10]) (y / g)) := ⟨F7.out.1.go hb10, bel_go F7.out.2 hb10, hb10, hv10⟩; clear hv10 hb10)
      | (go_at_call_of 52 (Value.agg #[Value.slice a1 n1 k1]); refine Calls.mono (mul_short _ _ p (y / g) _ (IsNat.mono HM.out.1 F10.out.2.2.1) F10.out.2.2.2 HH.out.2.2.1.fits HG.out.2.2.2.fits (.inl HH.out.2.2.1.p99)) ?_; rintro e w11 ⟨v11, rfl, hv11, hb11⟩; obtain ⟨a11, n11, k11, rfl⟩ := hv11.isAgg; have y5 := cell_later hb11 x5; have y7 := cell_later hb11 x7; have y8 := cell_later hb11 x8; have y9 := cell_later hb11 x9; have y10 := cell_later hb11 x10; have F11 : Hid (Five w11 (w.heap.size + 1 + 1) ∧ Below w.heap.size w w11 ∧ Below w8.heap.size w8 w11 ∧ IsNat w11 (.agg #[.slice a11 n11 k11]) (p * (y / g))) := ⟨F10.out.1.go hb11, bel_go F10.out.2.1 hb11, bel_go F10.out.2.2.1 hb11, hv11⟩; clear hv11 hb11)
      | (go_at_call 52; refine Calls.mono (mul_short _ _ x (q / g) _ (IsNat.mono HM.out.2.1 F11.out.2.2.1) (IsNat.mono HM.out.2.2.2.2 F11.out.2.2.1) HH.out.2.2.2.2.1.fits HG.out.2.2.1.fits (.inl HH.out.2.2.2.2.1.p99)) ?_; rintro e w12 ⟨v12, rfl, hv12, hb12⟩; obtain ⟨a12, n12, k12, rfl⟩ := hv12.isAgg; have z5 := cell_later hb12 y5; have z7 := cell_later hb12 y7; have z8 := cell_later hb12 y8; have z9 := cell_later hb12 y9; have z10 := cell_later hb12 y10; have F12 : Hid (Five w12 (w.heap.size + 1 + 1) ∧ Below w.heap.size w w12 ∧ Below w8.heap.size w8 w12 ∧ IsNat w12 (.agg #[.slice a11 n11 k11]) (p * (y / g)) ∧ IsNat w12 (.agg #[.slice a12 n12 k12]) (x * (q / g))) := ⟨F11.out.1.go hb12, bel_go F11.out.2.1 hb12, bel_go F11.out.2.2.1 hb12, F11.out.2.2.2.mono hb12, hv12⟩; have t0 := (F12.out.1 0 (by omega)).1; have t1 := (F12.out.1 1 (by omega)).1; have t2 := (F12.out.1 2 (by omega)).1; have t3 := (F12.out.1 3 (by omega)).1; have t4 := (F12.out.1 4 (by omega)).1; have s0 := (F12.out.1 0 (by omega)).2; have s1 := (F12.out.1 1 (by omega)).2; have s2 := (F12.out.1 2 (by omega)).2; have s3 := (F12.out.1 3 (by omega)).2; have s4 := (F12.out.1 4 (by omega)).2; clear hv12 hb12))
  have Z : Hid _ := com_put (w0 := w) F12.out.1 (s0 := .slice a11 n11 k11) (s1 := .slice a12 n12 k12) (s2 := .slice a7 n7 k7) (s3 := .slice a4 n4 k4) (s4 := .slice a5 n5 k5) (V := .agg #[.slice a11 n11 k11, .slice a12 n12 k12, .slice a7 n7 k7, .slice a4 n4 k4, .slice a5 n5 k5]) ⟨_, _, _, _, _, _, _, _, _, _, _, _, _, _, _, rfl, F12.out.2.2.2.1, F12.out.2.2.2.2, IsNat.mono HM.out.2.2.2.2 F12.out.2.2.1, IsNat.mono HM.out.2.2.1 F12.out.2.2.1, IsNat.mono HM.out.2.2.2.1 F12.out.2.2.1⟩ F12.out.2.1 (by omega)
  rw [EG.out] at Z
  go_wp2_with fail
  exact bodyPost_ret (v := .agg #[.slice a11 n11 k11, .slice a12 n12 k12, .slice a7 n7 k7, .slice a4 n4 k4, .slice a5 n5 k5]) (by simp [results, Tryz.results67, go_sem, t0, t1, t2, t3, t4]) rfl ⟨_, rfl, Z.out.1, Z.out.2⟩
end Go.Proofs.YtfkkomppfghagaaGreatDoor
