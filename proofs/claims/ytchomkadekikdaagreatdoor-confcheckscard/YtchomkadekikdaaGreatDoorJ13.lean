/- Contracts of the program's functions, part 13: own work, joined in build order. -/
import Derived.Test.YtchomkadekikdaaGreatDoorJ12
import Derived.Deep.LoopGhost
namespace Go.Proofs.YtchomkadekikdaaGreatDoor
open Go.RowKit
set_option maxRecDepth 100000
set_option linter.unusedVariables false
set_option maxHeartbeats 4000000 in
theorem rdiv_one (ax : Option Addr) (lx cap : Nat) (ay : Option Addr) (cap' : Nat) (x y : Nat) (w : World) (h : RNat w (.agg #[.slice ax lx cap]) x) (kk : RNat w (.agg #[.slice ay 1 cap']) y) (hx : RFits x) (hy : RFits y) (hle : y ≤ x) :
    Calls Tryz.prog 130 #[.agg #[.slice ax lx cap], .agg #[.slice ay 1 cap']] w (RQR w (x / y) (x % y)) := by
  obtain ⟨Fy, hys, dy, hy1, hyv⟩ := kk.open
  have e0 : Fy 0 = y := by rw [← hyv, U_succ, U_zero, B_zero]; omega
  have hy0 : y ≠ 0 := by rw [← e0]; exact hy1 (by omega)
  have hyl : y < 4294967296 := by rw [← e0]; exact dy 0 (by omega)
  obtain ⟨b, o, rfl, hw⟩ := hys.at 0 (by omega)
  have HH : Hid (RNat w (.agg #[.slice ax lx cap]) x ∧ RNat w (.agg #[.slice (some ⟨b, o, none⟩) 1 cap']) y ∧ RFits x ∧ RFits y ∧ y ≤ x ∧ w.cell? ⟨b, o + 0, none⟩ = some (.int .u64 (y : Nat))) := ⟨h, kk, hx, hy, hle, by rw [← e0]; exact hw 0 (by omega)⟩
  have D0 : Hid _ := ds_start w ax lx cap (some ⟨b, o, none⟩) 1 cap' 73
  clear h kk hx hy hys dy hy1 hyv e0 hle hw
  go_enter Tryz.func130, Tryz.ntmps130
  go_wp2_with fail
  refine (rcmp_any _ _ x y _ (HH.out.1.mono D0.out.bel) (HH.out.2.1.mono D0.out.bel) HH.out.2.2.1 HH.out.2.2.2.1).mono ?_
  rintro e w1 ⟨rfl, hb1⟩
  obtain ⟨z, ez⟩ : ∃ z, z = cmpI x y := ⟨_, rfl⟩
  have hz : decide (z < 0) = false := by
    refine decide_eq_false ?_
    rw [ez]
    rcases Nat.lt_or_ge y x with e | e
    · rw [cmpI_gt e]; omega
    rw [Nat.le_antisymm e HH.out.2.2.2.2.1, cmpI_eq]; omega
  rw [← ez]
  have D1 : Hid (DS w w1 ax lx cap (some ⟨b, o, none⟩) 1 cap') := D0.out.go hb1
  have d1 := D1.out.cx
  have d2 := D1.out.cy
  have d5 : w1.cell? ⟨b, o, none⟩ = some (.int .u64 (y : Nat)) := by
    have := cell_later D1.out.bel HH.out.2.2.2.2.2
    rw [Nat.add_zero] at this
    exact this
  have S1 : Hid (SR w w1 [] [(.agg #[.slice ax lx cap], x)] [(w.heap.size, .slice ax lx cap), (w.heap.size + 1, .slice (some ⟨b, o, none⟩) 1 cap')]) := ⟨by simp, by simp; exact HH.out.1.mono D1.out.bel, by simp; exact ⟨d1, d2⟩, D1.out.bel⟩
  have hx0 : x ≠ 0 := by have := HH.out.2.2.2.2.1; omega
  have HQ : Hid (RFits x ∧ 0 < y ∧ y < 4294967296 ∧ x ≠ 0 ∧ x % y < 18446744073709551616) := ⟨HH.out.2.2.1, by omega, hyl, hx0, by have := Nat.mod_lt x (show 0 < y by omega); omega⟩
  clear hb1 D0 ez hx0 hyl hy0
  go_wp2_with fail
  refine wp_region_inv (JB w1 [sR (x), sEq (.pointer (some ⟨w.heap.size + 1, 0, none⟩)), sEq (.slice (some ⟨b, o, none⟩) 1 cap'), sEq (.pointer (some ⟨b, o, none⟩)), sEq (.int .u64 (y : Int)), sRI (x / y) (x % y), sRI (x / y) (x % y), sR (x / y), sEq (.int .u64 ((x % y : Nat) : Int)), sAny, sAny, sEq (.int .u64 ((x % y : Nat) : Int))] [(9, 10, 7)]) 103 (by kernel_rfl) rfl (by kernel_rfl) (JB.start _ _ _) (fun HG HN => ⟨?_, ?_, ?_, ?_, ?_, ?_, ?_, ?_, ?_, ?_, ?_, ?_, trivial⟩) ?_
  · intro L vs a w' hJ hF hP hL
    have q2 : (a.tmps[2]?).getD undef = .pointer (some ⟨w.heap.size, 0, none⟩) := hF.old 2 rfl
    have cb := cell_later hJ.bel (S1.out.cell (w.heap.size) (.slice ax lx cap))
    exact run_val (v := .agg #[.slice ax lx cap]) rfl (by simp [execOp, go_sem, q2, cb]) ⟨_, rfl, hJ.step hL rfl (Below.refl _ _) (by exact ((S1.out.rat (.agg #[.slice ax lx cap]) (x)).mono hJ.bel))⟩
  · intro L vs a w' hJ hF hP hL
    have q3 : (a.tmps[3]?).getD undef = .pointer (some ⟨w.heap.size + 1, 0, none⟩) := hF.old 3 rfl
    exact run_val (v := .pointer (some ⟨w.heap.size + 1, 0, none⟩)) rfl (by simp [execOp, go_sem, q3]) ⟨_, rfl, hJ.step hL rfl (Below.refl _ _) (by exact rfl)⟩
  · intro L vs a w' hJ hF hP hL
    have p1 : L 1 = true := hP ⟨1, .data⟩ (by simp) rfl
    have s1 : vs 1 = .pointer (some ⟨w.heap.size + 1, 0, none⟩) := hJ.sp 1 p1
    have q28 := hF.slot 1 28 rfl p1
    have c2 := cell_later hJ.bel (S1.out.cell (w.heap.size + 1) (.slice (some ⟨b, o, none⟩) 1 cap'))
    exact run_val (v := .slice (some ⟨b, o, none⟩) 1 cap') rfl (by simp [execOp, go_sem, q28, s1, c2]) ⟨_, rfl, hJ.step hL rfl (Below.refl _ _) (by exact rfl)⟩
  · intro L vs a w' hJ hF hP hL
    have p2 : L 2 = true := hP ⟨2, .data⟩ (by simp) rfl
    have s2 : vs 2 = .slice (some ⟨b, o, none⟩) 1 cap' := hJ.sp 2 p2
    have q29 := hF.slot 2 29 rfl p2
    exact run_val (v := .pointer (some ⟨b, o, none⟩)) rfl (by simp [execOp, go_sem, q29, s2]) ⟨_, rfl, hJ.step hL rfl (Below.refl _ _) (by exact rfl)⟩
  · intro L vs a w' hJ hF hP hL
    have p3 : L 3 = true := hP ⟨3, .data⟩ (by simp) rfl
    have s3 : vs 3 = .pointer (some ⟨b, o, none⟩) := hJ.sp 3 p3
    have q30 := hF.slot 3 30 rfl p3
    have c5 := cell_later hJ.bel d5
    exact run_val (v := .int .u64 (y : Int)) rfl (by simp [execOp, go_sem, q30, s3, c5]) ⟨_, rfl, hJ.step hL rfl (Below.refl _ _) (by exact rfl)⟩
  · intro L vs a w' hJ hF hP hL
    have p0 : L 0 = true := hP ⟨0, .data⟩ (by simp) rfl
    have s0 : RNat w' (vs 0) (x) := hJ.sp 0 p0
    have q27 := hF.slot 0 27 rfl p0
    have p4 : L 4 = true := hP ⟨4, .data⟩ (by simp) rfl
    have s4 : vs 4 = .int .u64 (y : Int) := hJ.sp 4 p4
    have q31 := hF.slot 4 31 rfl p4
    refine run_call (f := 119) (args := #[vs 0, .int .u64 (y : Int)]) rfl (by simp [go_sem, q27, q31, s4]) (rsmall_any _ x y _ s0 HQ.out.1 HQ.out.2.1 HQ.out.2.2.1 HQ.out.2.2.2.1) ?_
    rintro e w2 ⟨v1, rfl, h1, hb⟩
    exact ⟨_, rfl, _, rfl, hJ.step hL rfl hb (by exact ⟨v1, rfl, h1⟩)⟩
  · intro L vs a w' hJ hF hP hL
    have p5 : L 5 = true := hP ⟨5, .data⟩ (by simp) rfl
    have s5 : ∃ p, vs 5 = .tuple #[p, .int .u64 ((x % y : Nat) : Int)] ∧ RNat w' p (x / y) := hJ.sp 5 p5
    have q32 := hF.slot 5 32 rfl p5
    exact run_val (v := vs 5) rfl (by simp [execOp, go_sem, q32]) ⟨_, rfl, hJ.step hL rfl (Below.refl _ _) (by exact s5)⟩
  · intro L vs a w' hJ hF hP hL
    have p6 : L 6 = true := hP ⟨6, .data⟩ (by simp) rfl
    have s6 : ∃ p, vs 6 = .tuple #[p, .int .u64 ((x % y : Nat) : Int)] ∧ RNat w' p (x / y) := hJ.sp 6 p6
    have q26 := hF.slot 6 26 rfl p6
    obtain ⟨vp, e1, e2⟩ := s6
    exact run_val (v := vp) rfl (by simp [execOp, go_sem, q26, e1]) ⟨_, rfl, hJ.step hL rfl (Below.refl _ _) (by exact e2)⟩
  · intro L vs a w' hJ hF hP hL
    have p6 : L 6 = true := hP ⟨6, .data⟩ (by simp) rfl
    have s6 : ∃ p, vs 6 = .tuple #[p, .int .u64 ((x % y : Nat) : Int)] ∧ RNat w' p (x / y) := hJ.sp 6 p6
    have q26 := hF.slot 6 26 rfl p6
    obtain ⟨vp, e1, e2⟩ := s6
    exact run_val (v := .int .u64 ((x % y : Nat) : Int)) rfl (by simp [execOp, go_sem, q26, e1]) ⟨_, rfl, hJ.step hL rfl (Below.refl _ _) (by exact rfl)⟩
  · intro L vs a w' hJ hF hP hL
    exact run_val (v := .pointer (some ⟨w'.heap.size, 0, none⟩)) (w' := w'.alloc (.cells #[.slice none 0 0] 73)) rfl (by simp [execOp, go_sem]) ⟨_, rfl, hJ.alloc hL rfl rfl _⟩
  · intro L vs a w' hJ hF hP hL
    have p9 : L 9 = true := hP ⟨9, .data⟩ (by simp) rfl
    have q7 := hF.slot 9 7 rfl p9
    have p7 : L 7 = true := hP ⟨7, .data⟩ (by simp) rfl
    have s7 : RNat w' (vs 7) (x / y) := hJ.sp 7 p7
    have q33 := hF.slot 7 33 rfl p7
    obtain ⟨bk, e1, e2, e3, e4, e5, e6⟩ := hJ.bx (9, 10, 7) (by simp) p9
    have e7 := e5 hL
    obtain ⟨aa, nn, cc, e8⟩ := s7.isAgg
    exact run_unit (w' := w'.setCell ⟨bk, 0, none⟩ (.slice aa nn cc)) rfl (by simp [execOp, go_sem, q7, q33, e1, e8, e7, e4]) ⟨undef, rfl, hJ.store (b := (9, 10, 7)) (by simp) hL p9 p7 (by decide) rfl e1 e8⟩
  · intro L vs a w' hJ hF hP hL
    have p8 : L 8 = true := hP ⟨8, .data⟩ (by simp) rfl
    have s8 : vs 8 = .int .u64 ((x % y : Nat) : Int) := hJ.sp 8 p8
    have q34 := hF.slot 8 34 rfl p8
    exact run_val (v := .int .u64 ((x % y : Nat) : Int)) rfl (by simp [execOp, go_sem, q34, s8]) ⟨_, rfl, hJ.step hL rfl (Below.refl _ _) (by exact rfl)⟩
  intro L vs w' hA hJ
  have s7 : RNat w' (vs 7) (x / y) := hJ.sp 7 (hA 7 (by simp))
  have s11 : vs 11 = .int .u64 ((x % y : Nat) : Int) := hJ.sp 11 (hA 11 (by simp))
  obtain ⟨bk9, eb9, ge9, lt9, fz9, _, e6⟩ := hJ.bx (9, 10, 7) (by simp) (hA 9 (by simp))
  obtain ⟨_, u9, eu9, ce9⟩ := e6 (hA 10 (by simp))
  clear e6
  have D2 : Hid (DS w w' ax lx cap (some ⟨b, o, none⟩) 1 cap') := D1.out.go hJ.bel
  obtain ⟨a9, n9, c9, e9⟩ := s7.isAgg
  have eu : u9 = .slice a9 n9 c9 := by
    have := eu9.symm.trans e9
    injection this with h1
    simpa using h1
  rw [eu] at ce9
  rw [e9] at s7
  simp only [putL, Act.put, List.setIfInBounds_toArray, List.set_cons_zero, List.set_cons_succ, Nat.reduceAdd]
  simp only [eb9, s11]
  have I2 : Hid (RNat w' (.agg #[.slice a9 n9 c9]) (x / y) ∧ w'.cell? ⟨bk9, 0, none⟩ = some (.slice a9 n9 c9) ∧ w.heap.size + 4 ≤ bk9) := ⟨s7, ce9, Nat.le_trans D1.out.lt ge9⟩
  have d3 := D2.out.c3
  have d4 := D2.out.c4
  have e3 := D2.out.f3
  have e4 := D2.out.f4
  have d7 := I2.out.2.1
  obtain ⟨rr, err⟩ : ∃ rr, rr = x % y := ⟨_, rfl⟩
  have ERR : Hid (rr = x % y) := err
  simp only [← err]
  generalize vs = vs1
  clear hJ hA s7 s11 eb9 ge9 lt9 fz9 eu9 e9 eu D1 S1 d1 d2 d5 err ce9
  go_wp2_with fail
  go_region_with ((go_at_call 75; refine Calls.mono (rof_any rr _ (by rw [ERR.out]; exact HQ.out.2.2.2.2)) ?_; rintro e w3 ⟨v3, rfl, hv3, hb3⟩; obtain ⟨a3, n3, c3, rfl⟩ := hv3.isAgg; have hb3 : Below w'.heap.size w' w3 := (by first | exact hb3 | exact bel_undrew hb3); have D3 : Hid (DS w w3 ax lx cap (some ⟨b, o, none⟩) 1 cap') := D2.out.go hb3; have I3 : Hid (RNat w3 (.agg #[.slice a9 n9 c9]) (x / y) ∧ RNat w3 (.agg #[.slice a3 n3 c3]) rr) := ⟨I2.out.1.mono hb3, hv3⟩; have d8 := cell_later hb3 d7; have d13 := D3.out.c3; have d14 := D3.out.c4; have e13 := D3.out.f3; have e14 := D3.out.f4; clear hb3 hv3))
  all_goals have Z : Hid _ := D3.out.put2 I3.out.1 I3.out.2
  all_goals rw [ERR.out] at Z
  all_goals go_wp2_with fail
  all_goals exact bodyPost_ret (v := .tuple #[.agg #[.slice a9 n9 c9], .agg #[.slice a3 n3 c3]]) (by simp [results, Tryz.results130, go_sem, d13, d14]) rfl ⟨_, _, rfl, Z.out.1, Z.out.2.1, Z.out.2.2⟩
theorem rdivMod_any (v u : Value) (x y : Nat) (w : World) (h : RNat w v x) (k : RNat w u y) (hx : RSome x) (hy : RSome y) (hy0 : y ≠ 0) :
    Calls Tryz.prog 130 #[v, u] w (RQR w (x / y) (x % y)) := by
  rcases Nat.lt_or_ge x y with hlt | hge
  · rw [Nat.div_eq_of_lt hlt, Nat.mod_eq_of_lt hlt]
    exact rdiv_less v u x y w h k hx.fits hy.fits hlt
  obtain ⟨ax, lx, cap, rfl⟩ := h.isAgg
  obtain ⟨ay, ly, cap', rfl⟩ := k.isAgg
  rcases ly with _ | _ | ly
  · exact absurd ((rnat_len0 k).1 rfl) hy0
  · exact rdiv_one ax lx cap ay cap' x y w h k hx.fits hy.fits hge
  exact rdiv_long ax lx cap ay ly cap' x y w h k hx hy hge
structure GC (w wr : World) (d : Nat) (ax : Option Addr) (lx cx : Nat) (ay : Option Addr) (ly cy : Nat) (x y : Nat) : Prop where
  c0 : wr.cell? ⟨w.heap.size, 0, none⟩ = some (.slice ax lx cx)
  c1 : wr.cell? ⟨w.heap.size + 1, 0, none⟩ = some (.slice ay ly cy)
  c2 : wr.cell? ⟨w.heap.size + 1 + 1, 0, none⟩ = some (.slice none 0 0)
  f0 : wr.frozen? ⟨w.heap.size, 0, none⟩ = false
  f1 : wr.frozen? ⟨w.heap.size + 1, 0, none⟩ = false
  f2 : wr.frozen? ⟨w.heap.size + 1 + 1, 0, none⟩ = false
  nx : RNat wr (.agg #[.slice ax lx cx]) x
  ny : RNat wr (.agg #[.slice ay ly cy]) y
  sx : RSome x
  sy : RSome y
  gcd : Nat.gcd x y = d
  bel : Below w.heap.size w wr
theorem GC.go {w wr w' : World} {d : Nat} {ax : Option Addr} {lx cx : Nat} {ay : Option Addr} {ly cy x y : Nat} (h : GC w wr d ax lx cx ay ly cy x y) (hb : Below wr.heap.size wr w') : GC w w' d ax lx cx ay ly cy x y :=
  ⟨cell_later hb h.c0, cell_later hb h.c1, cell_later hb h.c2, (hb.frozen (World.block_lt_of_cell? _ _ h.c0)).trans h.f0, (hb.frozen (World.block_lt_of_cell? _ _ h.c1)).trans h.f1, (hb.frozen (World.block_lt_of_cell? _ _ h.c2)).trans h.f2, h.nx.mono hb, h.ny.mono hb, h.sx, h.sy, h.gcd, bel_go h.bel hb⟩
theorem GC.step {w wr : World} {d : Nat} {ax : Option Addr} {lx cx : Nat} {ay : Option Addr} {ly cy x y : Nat} (h : GC w wr d ax lx cx ay ly cy x y) {ar : Option Addr} {lr cr : Nat} (hr : RNat wr (.agg #[.slice ar lr cr]) (x % y)) (hy : y ≠ 0) :
    GC w ((wr.setCell ⟨w.heap.size, 0, none⟩ (.slice ay ly cy)).setCell ⟨w.heap.size + 1, 0, none⟩ (.slice ar lr cr)) d ay ly cy ar lr cr y (x % y) := by
  have n0 := no_int_slice h.c0
  have k1 : (wr.setCell ⟨w.heap.size, 0, none⟩ (.slice ay ly cy)).cell? ⟨w.heap.size + 1, 0, none⟩ = some (.slice ay ly cy) := (World.cell?_setCell_far _ _ _ _ (by show w.heap.size ≠ w.heap.size + 1; omega)).trans h.c1
  have n1 := no_int_slice k1
  have k0 : (wr.setCell ⟨w.heap.size, 0, none⟩ (.slice ay ly cy)).cell? ⟨w.heap.size, 0, none⟩ = some (.slice ay ly cy) := by simp [go_sem, h.c0]
  refine ⟨?_, by simp [go_sem, k1], ?_, by simp [World.frozen?_setCell, h.f0], by simp [World.frozen?_setCell, h.f1], by simp [World.frozen?_setCell, h.f2], (h.ny.setCell n0 _).setCell n1 _, (hr.setCell n0 _).setCell n1 _, h.sy, ⟨Nat.lt_of_lt_of_le (Nat.mod_lt _ (by omega)) (Nat.le_of_lt h.sy.lt)⟩, ?_, (h.bel.setCell (Nat.le_refl _) _).setCell (by show _ ≤ _ + 1; omega) _⟩
  · rw [World.cell?_setCell_far _ _ _ _ (by show w.heap.size + 1 ≠ w.heap.size; omega)]
    exact k0
  · rw [World.cell?_setCell_far _ _ _ _ (by show w.heap.size + 1 ≠ w.heap.size + 1 + 1; omega), World.cell?_setCell_far _ _ _ _ (by show w.heap.size ≠ w.heap.size + 1 + 1; omega)]
    exact h.c2
  rw [← h.gcd, Nat.gcd_comm x y, Nat.gcd_rec y x, Nat.gcd_comm]
set_option maxHeartbeats 4000000 in
theorem rgcd_any (v u : Value) (x y : Nat) (w : World) (h : RNat w v x) (k : RNat w u y) (hx : RSome x) (hy : RSome y) :
    Calls Tryz.prog 142 #[v, u] w (RMakes w (Nat.gcd x y)) := by
  obtain ⟨ax, lx, cx, rfl⟩ := h.isAgg
  obtain ⟨ay, ly, cy, rfl⟩ := k.isAgg
  have ba : Below w.heap.size w (((w.alloc (.cells #[.slice ax lx cx] 73)).alloc (.cells #[.slice ay ly cy] 73)).alloc (.cells #[.slice none 0 0] 73)) := bel_al (bel_al (bel_al (bel_refl w)))
  have G0 : Hid (GC w (((w.alloc (.cells #[.slice ax lx cx] 73)).alloc (.cells #[.slice ay ly cy] 73)).alloc (.cells #[.slice none 0 0] 73)) (Nat.gcd x y) ax lx cx ay ly cy x y) := ⟨by simp [go_sem], by simp [go_sem], by simp [go_sem], by simp [go_sem], by simp [go_sem], by simp [go_sem], h.mono ba, k.mono ba, hx, hy, rfl, ba⟩
  obtain ⟨d, hd⟩ : ∃ d, d = Nat.gcd x y := ⟨_, rfl⟩
  rw [← hd] at G0 ⊢
  clear h k hx hy ba hd
  go_enter Tryz.func142, Tryz.ntmps142
  go_wp2_with fail
  go_loopg [6] y (fun gk t wr => ∃ (ax : Option Addr) (lx cx : Nat) (ay : Option Addr) (ly cy x : Nat), Hid (GC w wr d ax lx cx ay ly cy x gk))
  case atStart => exact ⟨ax, lx, cx, ay, ly, cy, x, G0⟩
  case round =>
    clear G0
    obtain ⟨ax, lx, cx, ay, ly, cy, x, hG⟩ := hrel
    have c1 := hG.out.c1
    go_wp2_with fail
    refine (rzero_any _ gk _ hG.out.ny hG.out.sy.fits).mono ?_
    rintro e w2 ⟨rfl, hb2⟩
    have G2 : Hid (GC w w2 d ax lx cx ay ly cy x gk) := hG.out.go hb2
    clear hb2 hG c1
    by_cases hy0 : gk = 0
    · have hz : decide (gk = 0) = true := decide_eq_true hy0
      have HD : Hid (RNat w2 (.agg #[.slice ax lx cx]) d) := by
        have h1 := G2.out.gcd
        rw [hy0, Nat.gcd_zero_right] at h1
        have h2 := G2.out.nx
        rw [h1] at h2
        exact h2
      have d0 := G2.out.c0
      have d2 := G2.out.c2
      have e2 := G2.out.f2
      have BB : Hid (Below w.heap.size w w2) := G2.out.bel
      clear hy0 G2
      go_wp2_with fail
      refine bodyPost_ret (v := .agg #[.slice ax lx cx]) (by simp [results, Tryz.results142, go_sem, d2]) rfl ⟨_, rfl, HD.out.setCell (no_int_slice d2) _, BB.out.setCell (by show _ ≤ _ + 1 + 1; omega) _⟩
    have hz : decide (gk = 0) = false := decide_eq_false hy0
    have d0 := G2.out.c0
    have d1 := G2.out.c1
    go_wp2_with fail
    refine (rdivMod_any _ _ x gk _ G2.out.nx G2.out.ny G2.out.sx G2.out.sy hy0).mono ?_
    rintro e w3 ⟨v3, u3, rfl, hv3, hu3, hb3⟩
    obtain ⟨a3, n3, c3, rfl⟩ := hv3.isAgg
    obtain ⟨a4, n4, c4, rfl⟩ := hu3.isAgg
    have b5 : Below w3.heap.size w3 ((w3.alloc (.cells #[.slice a3 n3 c3] 73)).alloc (.cells #[.slice a4 n4 c4] 73)) := bel_al (bel_al (bel_refl w3))
    have G5 : Hid _ := (G2.out.go (bel_go hb3 b5)).step (hu3.mono b5) hy0
    have GG : Hid (GC w ((w3.alloc (.cells #[.slice a3 n3 c3] 73)).alloc (.cells #[.slice a4 n4 c4] 73)) d ax lx cx ay ly cy x gk) := G2.out.go (bel_go hb3 b5)
    have d0 := GG.out.c0
    have d1 := GG.out.c1
    have e0 := GG.out.f0
    have e1 := GG.out.f1
    have d5 : ((w3.alloc (.cells #[.slice a3 n3 c3] 73)).alloc (.cells #[.slice a4 n4 c4] 73)).cell? ⟨w3.heap.size + 1, 0, none⟩ = some (.slice a4 n4 c4) := by simp [go_sem]
    have hsz : w.heap.size + 2 < w3.heap.size := by
      have := World.block_lt_of_cell? _ _ (G2.out.go hb3).c2
      exact this
    have HLT : Hid (x % gk < gk) := Nat.mod_lt _ (by omega)
    clear hv3 hu3 hb3 b5 G2 GG hy0
    go_wp2_with fail
    go_roundg (x % gk)
    case measure => exact HLT.out
    case rel => exact ⟨ay, ly, cy, a4, n4, c4, gk, G5⟩
def RRt (w : World) (v : Value) (p q : Nat) : Prop := ∃ a n c a' n' c', v = .agg #[.slice a n c, .slice a' n' c'] ∧ RNat w (.agg #[.slice a n c]) p ∧ RNat w (.agg #[.slice a' n' c']) q
theorem RRt.mono {w w' : World} {v : Value} {p q : Nat} (h : RRt w v p q) (hb : Below w.heap.size w w') : RRt w' v p q := by
  obtain ⟨a, n, c, a', n', c', e, h1, h2⟩ := h
  exact ⟨a, n, c, a', n', c', e, h1.mono hb, h2.mono hb⟩
theorem RRt.setCell {w : World} {v : Value} {p q : Nat} (h : RRt w v p q) {x : Addr} (hp : ∀ k q, w.cell? x ≠ some (.int k q)) (u : Value) : RRt (w.setCell x u) v p q := by
  obtain ⟨a, n, c, a', n', c', e, h1, h2⟩ := h
  exact ⟨a, n, c, a', n', c', e, h1.setCell hp u, h2.setCell hp u⟩
theorem rrat_put {w0 w : World} {r : Nat} {a1 a2 : Option Addr} {n1 k1 n2 k2 : Nat} (c0 : w.cell? ⟨r, 0, none⟩ = some (.slice a1 n1 k1)) (c1 : w.cell? ⟨r, 1, none⟩ = some (.slice a2 n2 k2)) {v u : Value} {p q : Nat} {V : Value} (h : RRt w V p q) (hb : Below w0.heap.size w0 w) (hr : w0.heap.size ≤ r) :
    RRt ((w.setCell ⟨r, 0, none⟩ v).setCell ⟨r, 1, none⟩ u) V p q ∧ Below w0.heap.size w0 ((w.setCell ⟨r, 0, none⟩ v).setCell ⟨r, 1, none⟩ u) := by
  obtain ⟨n1, n2⟩ := two_set c0 c1 v
  exact ⟨(h.setCell n1 _).setCell n2 _, (hb.setCell hr _).setCell hr _⟩
def MakesRR (w : World) (p q : Nat) (e : Ending) (w' : World) : Prop := ∃ v, e = .returned v ∧ RRt w' v p q ∧ Below w.heap.size w w'
def MakesRRB (w : World) (p q : Nat) (ok : Bool) (e : Ending) (w' : World) : Prop := ∃ v, e = .returned (.tuple #[v, .bool ok]) ∧ RRt w' v p q ∧ Below w.heap.size w w'
set_option maxHeartbeats 2000000 in
theorem rzero2_any (w : World) : Calls Tryz.prog 74 #[] w (MakesRR w 0 1) := by
  have ba : Hid (Below w.heap.size w (w.alloc (.cells #[.slice none 0 0, .slice none 0 0] 75))) := bel_al (bel_refl w)
  go_enter Tryz.func74, Tryz.ntmps74
  go_wp2_with fail
  refine (rof_any 0 _ (by omega)).mono ?_
  rintro e w1 ⟨v1, rfl, hv1, hb1⟩
  obtain ⟨a1, n1, k1, rfl⟩ := hv1.isAgg
  have c0 : w1.cell? ⟨w.heap.size, 0, none⟩ = some (.slice none 0 0) := cell_later hb1 (by simp [go_sem])
  have c1 : w1.cell? ⟨w.heap.size, 1, none⟩ = some (.slice none 0 0) := cell_later hb1 (by simp [go_sem])
  have f0 : w1.frozen? ⟨w.heap.size, 0, none⟩ = false := (hb1.frozen (by simp)).trans (by simp [go_sem])
  have f1 : w1.frozen? ⟨w.heap.size, 1, none⟩ = false := (hb1.frozen (by simp)).trans (by simp [go_sem])
  have I1 : Hid (RNat w1 (.agg #[.slice a1 n1 k1]) 0 ∧ Below w.heap.size w w1) := ⟨hv1, bel_go ba.out hb1⟩
  clear hv1 hb1 ba
  go_wp2_with fail
  refine (rof_any 1 _ (by omega)).mono ?_
  rintro e w2 ⟨v2, rfl, hv2, hb2⟩
  obtain ⟨a2, n2, k2, rfl⟩ := hv2.isAgg
  have x0 := cell_later hb2 c0
  have x1 := cell_later hb2 c1
  have y0 := (hb2.frozen (World.block_lt_of_cell? _ _ c0)).trans f0
  have y1 := (hb2.frozen (World.block_lt_of_cell? _ _ c1)).trans f1
  have Z : Hid _ := rrat_put (v := .slice a1 n1 k1) (u := .slice a2 n2 k2) x0 x1 (V := .agg #[.slice a1 n1 k1, .slice a2 n2 k2]) (p := 0) (q := 1) ⟨_, _, _, _, _, _, rfl, I1.out.1.mono hb2, hv2⟩ (bel_go I1.out.2 hb2) (Nat.le_refl _)
  clear hv2 hb2 c0 c1 f0 f1 I1
  go_wp2_with fail
  exact bodyPost_ret (v := .agg #[.slice a1 n1 k1, .slice a2 n2 k2]) (by simp [results, Tryz.results74, go_sem, x0, x1]) rfl ⟨_, rfl, Z.out.1, Z.out.2⟩
theorem RSome.le {x y : Nat} (h : RSome x) (hy : y ≤ x) : RSome y := ⟨Nat.lt_of_le_of_lt hy h.lt⟩
theorem RS.rsome {x : Nat} (h : RS x) : RSome x := ⟨Nat.lt_of_lt_of_le (by rw [← P_B]; exact h.lt) (B_le (show 2 * 90 ≤ 1000000 by omega))⟩
set_option maxHeartbeats 4000000 in
theorem rmade_any (v u : Value) (p q : Nat) (w : World) (h : RNat w v p) (k : RNat w u q) (hp : RSome p) (hq : RSome q) (hq0 : 0 < q) :
    Calls Tryz.prog 117 #[v, u] w (MakesRR w (p / Nat.gcd p q) (q / Nat.gcd p q)) := by
  obtain ⟨a, n, c, rfl⟩ := h.isAgg
  obtain ⟨a', n', c', rfl⟩ := k.isAgg
  have HH : Hid (RSome p ∧ RSome q ∧ 0 < q) := ⟨hp, hq, hq0⟩
  have S0 : Hid (SR w (((w.alloc (.cells #[.slice a n c] 73)).alloc (.cells #[.slice a' n' c'] 73)).alloc (.cells #[.slice none 0 0, .slice none 0 0] 75)) [] [(.agg #[.slice a' n' c'], q), (.agg #[.slice a n c], p)] [(w.heap.size + 1, .slice a' n' c'), (w.heap.size, .slice a n c)]) := by
    have := ((((sr_start w).rnat h).rnat k).box (.slice a n c) 73 _ rfl).box (.slice a' n' c') 73 _ rfl
    simp only [World.size_alloc] at this
    exact this.go (bel_al (bel_refl _))
  have c2 : (((w.alloc (.cells #[.slice a n c] 73)).alloc (.cells #[.slice a' n' c'] 73)).alloc (.cells #[.slice none 0 0, .slice none 0 0] 75)).cell? ⟨w.heap.size + 1 + 1, 0, none⟩ = some (.slice none 0 0) := by simp [go_sem]
  have c3 : (((w.alloc (.cells #[.slice a n c] 73)).alloc (.cells #[.slice a' n' c'] 73)).alloc (.cells #[.slice none 0 0, .slice none 0 0] 75)).cell? ⟨w.heap.size + 1 + 1, 1, none⟩ = some (.slice none 0 0) := by simp [go_sem]
  have f2 : (((w.alloc (.cells #[.slice a n c] 73)).alloc (.cells #[.slice a' n' c'] 73)).alloc (.cells #[.slice none 0 0, .slice none 0 0] 75)).frozen? ⟨w.heap.size + 1 + 1, 0, none⟩ = false := by simp [go_sem]
  have f3 : (((w.alloc (.cells #[.slice a n c] 73)).alloc (.cells #[.slice a' n' c'] 73)).alloc (.cells #[.slice none 0 0, .slice none 0 0] 75)).frozen? ⟨w.heap.size + 1 + 1, 1, none⟩ = false := by simp [go_sem]
  clear h k hp hq hq0
  go_enter Tryz.func117, Tryz.ntmps117
  go_wp2_with fail
  obtain ⟨w0, hw0⟩ : ∃ w0, w0 = ((w.alloc (.cells #[.slice a n c] 73)).alloc (.cells #[.slice a' n' c'] 73)).alloc (.cells #[.slice none 0 0, .slice none 0 0] 75) := ⟨_, rfl⟩
  rw [← hw0] at S0 c2 c3 f2 f3 ⊢
  clear hw0
  refine (rgcd_any _ _ p q _ (S0.out.rat (.agg #[.slice a n c]) p) (S0.out.rat (.agg #[.slice a' n' c']) q) HH.out.1 HH.out.2.1).mono ?_
  rintro e w1 ⟨v1, rfl, hv1, hb1⟩
  obtain ⟨a1, n1, k1, rfl⟩ := hv1.isAgg
  obtain ⟨g, eg⟩ : ∃ g, g = Nat.gcd p q := ⟨_, rfl⟩
  rw [← eg] at hv1 ⊢
  have HG : Hid (g ≠ 0 ∧ RSome g) := by
    obtain ⟨g1, g2, g3⟩ := gcd_low (p := p) HH.out.2.2
    rw [← eg] at g1
    exact ⟨by omega, HH.out.2.1.le (eg ▸ Nat.gcd_le_right _ HH.out.2.2)⟩
  have S1 : Hid _ := ((S0.out.go hb1).rnat hv1).box (.slice a1 n1 k1) 73 _ rfl
  have b1 : Hid (Below w0.heap.size w0 (w1.alloc (.cells #[.slice a1 n1 k1] 73))) := bel_go hb1 (bel_al (bel_refl _))
  have EG : Hid (g = Nat.gcd p q) := eg
  clear hv1 hb1 S0 eg
  have d0 := S1.out.cell w.heap.size (.slice a n c)
  have d5 := S1.out.cell w1.heap.size (.slice a1 n1 k1)
  go_wp2_with fail
  obtain ⟨w2, hw2⟩ : ∃ w2, w2 = w1.alloc (.cells #[.slice a1 n1 k1] 73) := ⟨_, rfl⟩
  obtain ⟨b5, hb5⟩ : ∃ b5, b5 = w1.heap.size := ⟨_, rfl⟩
  rw [← hw2] at b1
  rw [← hw2, ← hb5] at S1
  rw [← hw2, ← hb5]
  clear hw2 hb5 d0 d5
  refine (rdivMod_any _ _ p g _ (S1.out.rat (.agg #[.slice a n c]) p) (S1.out.rat (.agg #[.slice a1 n1 k1]) g) HH.out.1 HG.out.2 HG.out.1).mono ?_
  rintro e w3 ⟨v3, u3, rfl, hv3, hu3, hb3⟩
  obtain ⟨a3, n3, k3, rfl⟩ := hv3.isAgg
  obtain ⟨a4, n4, k4, rfl⟩ := hu3.isAgg
  have S3 : Hid _ := (((S1.out.go hb3).rnat hv3).box (.slice a3 n3 k3) 73 _ rfl).box (.slice a4 n4 k4) 73 _ rfl
  have b3 : Hid (Below w0.heap.size w0 ((w3.alloc (.cells #[.slice a3 n3 k3] 73)).alloc (.cells #[.slice a4 n4 k4] 73))) := bel_go b1.out (bel_go hb3 (bel_al (bel_al (bel_refl _))))
  clear hv3 hu3 hb3 S1 b1
  simp only [World.size_alloc] at S3
  have d1 := S3.out.cell (w.heap.size + 1) (.slice a' n' c')
  have d5 := S3.out.cell b5 (.slice a1 n1 k1)
  go_wp2_with fail
  obtain ⟨w4, hw4⟩ : ∃ w4, w4 = (w3.alloc (.cells #[.slice a3 n3 k3] 73)).alloc (.cells #[.slice a4 n4 k4] 73) := ⟨_, rfl⟩
  obtain ⟨b6, hb6⟩ : ∃ b6, b6 = w3.heap.size := ⟨_, rfl⟩
  rw [← hw4] at b3
  rw [← hw4, ← hb6] at S3
  rw [← hw4, ← hb6]
  clear hw4 hb6 d1 d5
  refine (rdivMod_any _ _ q g _ (S3.out.rat (.agg #[.slice a' n' c']) q) (S3.out.rat (.agg #[.slice a1 n1 k1]) g) HH.out.2.1 HG.out.2 HG.out.1).mono ?_
  rintro e w5 ⟨v5, u5, rfl, hv5, hu5, hb5⟩
  obtain ⟨a5, n5, k5, rfl⟩ := hv5.isAgg
  obtain ⟨a6, n6, k6, rfl⟩ := hu5.isAgg
  have S5 : Hid _ := (((S3.out.go hb5).rnat hv5).box (.slice a5 n5 k5) 73 _ rfl).box (.slice a6 n6 k6) 73 _ rfl
  have b5' : Hid (Below w0.heap.size w0 ((w5.alloc (.cells #[.slice a5 n5 k5] 73)).alloc (.cells #[.slice a6 n6 k6] 73))) := bel_go b3.out (bel_go hb5 (bel_al (bel_al (bel_refl _))))
  clear hv5 hu5 hb5 S3 b3
  simp only [World.size_alloc] at S5
  have d6 := S5.out.cell b6 (.slice a3 n3 k3)
  have d8 := S5.out.cell w5.heap.size (.slice a5 n5 k5)
  have x2 := cell_later b5'.out c2
  have x3 := cell_later b5'.out c3
  have y2 := (b5'.out.frozen (World.block_lt_of_cell? _ _ c2)).trans f2
  have y3 := (b5'.out.frozen (World.block_lt_of_cell? _ _ c3)).trans f3
  have Z : Hid _ := rrat_put (v := .slice a3 n3 k3) (u := .slice a5 n5 k5) x2 x3 (V := .agg #[.slice a3 n3 k3, .slice a5 n5 k5]) (p := p / g) (q := q / g) ⟨_, _, _, _, _, _, rfl, S5.out.rat (.agg #[.slice a3 n3 k3]) (p / g), S5.out.rat (.agg #[.slice a5 n5 k5]) (q / g)⟩ S5.out.bel (by omega)
  rw [EG.out] at Z
  clear c2 c3 f2 f3 b5' S5
  go_wp2_with fail
  exact bodyPost_ret (v := .agg #[.slice a3 n3 k3, .slice a5 n5 k5]) (by simp [results, Tryz.results117, go_sem, x2, x3]) rfl ⟨_, rfl, Z.out.1, Z.out.2⟩
set_option maxHeartbeats 2000000 in
theorem rfrom2_yes (v u : Value) (p q : Nat) (w : World) (h : RNat w v p) (k : RNat w u q) (hp : RSome p) (hq : RSome q) (hq0 : 0 < q) :
    Calls Tryz.prog 77 #[v, u] w (MakesRRB w (p / Nat.gcd p q) (q / Nat.gcd p q) true) := by
  obtain ⟨a, n, c, rfl⟩ := h.isAgg
  obtain ⟨a', n', c', rfl⟩ := k.isAgg
  have HH : Hid (RNat w (.agg #[.slice a n c]) p ∧ RNat w (.agg #[.slice a' n' c']) q ∧ RSome p ∧ RSome q) := ⟨h, k, hp, hq⟩
  have ba : Hid (Below w.heap.size w (((w.alloc (.cells #[.slice a n c] 73)).alloc (.cells #[.slice a' n' c'] 73)).alloc (.cells #[.slice none 0 0, .slice none 0 0] 75))) := bel_al (bel_al (bel_al (bel_refl w)))
  have h0 : q ≠ 0 := by omega
  clear h k hp hq
  go_enter Tryz.func77, Tryz.ntmps77
  go_wp2_with fail
  refine (rzero_any _ q _ (HH.out.2.1.mono ba.out) HH.out.2.2.2.fits).mono ?_
  rintro e w1 ⟨rfl, hb1⟩
  have c0 : w1.cell? ⟨w.heap.size, 0, none⟩ = some (.slice a n c) := cell_later hb1 (by simp [go_sem])
  have c1 : w1.cell? ⟨w.heap.size + 1, 0, none⟩ = some (.slice a' n' c') := cell_later hb1 (by simp [go_sem])
  have c2 : w1.cell? ⟨w.heap.size + 1 + 1, 0, none⟩ = some (.slice none 0 0) := cell_later hb1 (by simp [go_sem])
  have c3 : w1.cell? ⟨w.heap.size + 1 + 1, 1, none⟩ = some (.slice none 0 0) := cell_later hb1 (by simp [go_sem])
  have f2 : w1.frozen? ⟨w.heap.size + 1 + 1, 0, none⟩ = false := (hb1.frozen (by simp)).trans (by simp [go_sem])
  have f3 : w1.frozen? ⟨w.heap.size + 1 + 1, 1, none⟩ = false := (hb1.frozen (by simp)).trans (by simp [go_sem])
  have B1 : Hid (Below w.heap.size w w1) := bel_go ba.out hb1
  clear hb1 ba
  have t0 : decide (q = 0) = false := decide_eq_false h0
  go_wp2_with fail
  refine (rmade_any _ _ p q _ (HH.out.1.mono B1.out) (HH.out.2.1.mono B1.out) HH.out.2.2.1 HH.out.2.2.2 hq0).mono ?_
  rintro e w2 ⟨v2, rfl, hv2, hb2⟩
  obtain ⟨a6, n6, k6, a7, n7, k7, ev6, h6, h7⟩ := hv2
  subst ev6
  have z0 := cell_later hb2 c2
  have z1 := cell_later hb2 c3
  have u0 := (hb2.frozen (World.block_lt_of_cell? _ _ c2)).trans f2
  have u1 := (hb2.frozen (World.block_lt_of_cell? _ _ c3)).trans f3
  have Z : Hid _ := rrat_put (w0 := w) (v := .slice a6 n6 k6) (u := .slice a7 n7 k7) z0 z1 (V := .agg #[.slice a6 n6 k6, .slice a7 n7 k7]) ⟨_, _, _, _, _, _, rfl, h6, h7⟩ (bel_go B1.out hb2) (by omega)
  clear h6 h7 hb2
  go_wp2_with fail
  exact bodyPost_ret (v := .tuple #[.agg #[.slice a6 n6 k6, .slice a7 n7 k7], .bool true]) (by simp [results, Tryz.results77, go_sem, z0, z1]) rfl ⟨_, rfl, Z.out.1, Z.out.2⟩
set_option maxHeartbeats 4000000 in
theorem ratCmp_any (v u : Value) (p q r s : Nat) (w : World) (h : Rt w v p q) (k : Rt w u r s) (hp : RS p) (hq : RS q) (hr : RS r) (hs : RS s) :
    Calls Tryz.prog 92 #[v, u] w fun e w' => e = .returned (.int .i64 (cmpI (p * s) (r * q))) ∧ Below w.heap.size w w' := by
  obtain ⟨a, n, c, a', n', c', e0, _, _⟩ := h.raw
  subst e0
  obtain ⟨b, m, d, b', m', d', e1, _, _⟩ := k.raw
  subst e1
  have HH : Hid (Rt w (.agg #[.slice a n c, .slice a' n' c']) p q ∧ Rt w (.agg #[.slice b m d, .slice b' m' d']) r s ∧ RS p ∧ RS q ∧ RS r ∧ RS s) := ⟨h, k, hp, hq, hr, hs⟩
  have ba : Hid (Below w.heap.size w ((w.alloc (.cells #[.slice a n c, .slice a' n' c'] 68)).alloc (.cells #[.slice b m d, .slice b' m' d'] 68))) := bel_al (bel_al (bel_refl w))
  have HM : Hid (Fits (p * s) ∧ Fits (r * q)) := by
    refine ⟨fits_P (n := 180) ?_ (by omega), fits_P (n := 180) ?_ (by omega)⟩
    · rw [show 180 = 90 + 90 from rfl, P_add]; exact Nat.mul_lt_mul'' hp.lt hs.lt
    rw [show 180 = 90 + 90 from rfl, P_add]; exact Nat.mul_lt_mul'' hr.lt hq.lt
  clear h k hp hq hr hs
  go_enter Tryz.func92, Tryz.ntmps92
  go_wp2_with fail
  refine (parts_any _ p q _ (HH.out.1.mono ba.out) HH.out.2.2.2.1.fits).mono ?_
  rintro e w1 ⟨v1, u1, rfl, hv1, hu1, hb1⟩
  obtain ⟨a1, n1, k1, rfl⟩ := hv1.isAgg
  obtain ⟨a2, n2, k2, rfl⟩ := hu1.isAgg
  have c0 : w1.cell? ⟨w.heap.size + 1, 0, none⟩ = some (.slice b m d) := cell_later hb1 (by simp [go_sem])
  have c1 : w1.cell? ⟨w.heap.size + 1, 1, none⟩ = some (.slice b' m' d') := cell_later hb1 (by simp [go_sem])
  have S1 : Hid (SR w1 ((w1.alloc (.cells #[.slice a1 n1 k1] 66)).alloc (.cells #[.slice a2 n2 k2] 66)) [(.agg #[.slice a2 n2 k2], q), (.agg #[.slice a1 n1 k1], p)] [] [(w1.heap.size + 1, .slice a2 n2 k2), (w1.heap.size, .slice a1 n1 k1)]) := by
    have := ((((sr_start w1).nat hv1).nat hu1).box (.slice a1 n1 k1) 66 _ rfl).box (.slice a2 n2 k2) 66 _ rfl
    simp only [World.size_alloc] at this
    exact this
  have x0 := cell_later S1.out.bel c0
  have x1 := cell_later S1.out.bel c1
  have B1 : Hid (Below w.heap.size w w1) := bel_go ba.out hb1
  clear hv1 hu1 hb1 ba c0 c1
  go_wp2_with fail
  obtain ⟨w2, hw2⟩ : ∃ w2, w2 = (w1.alloc (.cells #[.slice a1 n1 k1] 66)).alloc (.cells #[.slice a2 n2 k2] 66) := ⟨_, rfl⟩
  obtain ⟨b1, hb1⟩ : ∃ b1, b1 = w1.heap.size := ⟨_, rfl⟩
  rw [← hw2, ← hb1] at S1
  rw [← hw2, ← hb1]
  clear hw2 hb1 x0 x1
  refine (parts_any _ r s _ (HH.out.2.1.mono (bel_go B1.out S1.out.bel)) HH.out.2.2.2.2.2.fits).mono ?_
  rintro e w3 ⟨v3, u3, rfl, hv3, hu3, hb3⟩
  obtain ⟨a3, n3, k3, rfl⟩ := hv3.isAgg
  obtain ⟨a4, n4, k4, rfl⟩ := hu3.isAgg
  have S3 : Hid _ := ((((S1.out.go hb3).nat hv3).nat hu3).box (.slice a3 n3 k3) 66 _ rfl).box (.slice a4 n4 k4) 66 _ rfl
  simp only [World.size_alloc] at S3
  clear hv3 hu3 hb3 S1
  go_wp2_with fail
  obtain ⟨w4, hw4⟩ : ∃ w4, w4 = (w3.alloc (.cells #[.slice a3 n3 k3] 66)).alloc (.cells #[.slice a4 n4 k4] 66) := ⟨_, rfl⟩
  obtain ⟨b3, hb3⟩ : ∃ b3, b3 = w3.heap.size := ⟨_, rfl⟩
  rw [← hw4, ← hb3] at S3
  rw [← hw4, ← hb3]
  clear hw4 hb3
  refine wp_region_inv (JB w4 [sNat (p), sNat (s), sNat (p * s), sNat (r), sNat (q), sNat (r * q), sEq (.int .i64 (cmpI (p * s) (r * q))), sEq (.int .i64 (cmpI (p * s) (r * q)))] []) 26 (by kernel_rfl) rfl (by kernel_rfl) (JB.start _ _ _) (fun HG HN => ⟨?_, ?_, ?_, ?_, ?_, ?_, ?_, ?_, trivial⟩) ?_
  · intro L vs a w' hJ hF hP hL
    have q5 : (a.tmps[5]?).getD undef = .pointer (some ⟨b1, 0, none⟩) := hF.old 5 rfl
    have cb := cell_later hJ.bel (S3.out.cell (b1) (.slice a1 n1 k1))
    exact run_val (v := .agg #[.slice a1 n1 k1]) rfl (by simp [execOp, go_sem, q5, cb]) ⟨_, rfl, hJ.step hL rfl (Below.refl _ _) (by exact ((S3.out.at (.agg #[.slice a1 n1 k1]) (p)).mono hJ.bel))⟩
  · intro L vs a w' hJ hF hP hL
    have q8 : (a.tmps[8]?).getD undef = .pointer (some ⟨b3 + 1, 0, none⟩) := hF.old 8 rfl
    have cb := cell_later hJ.bel (S3.out.cell (b3 + 1) (.slice a4 n4 k4))
    exact run_val (v := .agg #[.slice a4 n4 k4]) rfl (by simp [execOp, go_sem, q8, cb]) ⟨_, rfl, hJ.step hL rfl (Below.refl _ _) (by exact ((S3.out.at (.agg #[.slice a4 n4 k4]) (s)).mono hJ.bel))⟩
  · intro L vs a w' hJ hF hP hL
    have p0 : L 0 = true := hP ⟨0, .data⟩ (by simp) rfl
    have s0 : IsNat w' (vs 0) (p) := hJ.sp 0 p0
    have q19 := hF.slot 0 19 rfl p0
    have p1 : L 1 = true := hP ⟨1, .data⟩ (by simp) rfl
    have s1 : IsNat w' (vs 1) (s) := hJ.sp 1 p1
    have q20 := hF.slot 1 20 rfl p1
    refine run_call (f := 128) (args := #[vs 0, vs 1]) rfl (by simp [go_sem, q19, q20]) (mul_short _ _ p s _ s0 s1 HH.out.2.2.1.fits HH.out.2.2.2.2.2.fits (.inl HH.out.2.2.1.p99)) ?_
    rintro e w2 ⟨v, rfl, hv, hb⟩
    exact ⟨_, rfl, _, rfl, hJ.step hL rfl hb (by exact hv)⟩
  · intro L vs a w' hJ hF hP hL
    have q7 : (a.tmps[7]?).getD undef = .pointer (some ⟨b3, 0, none⟩) := hF.old 7 rfl
    have cb := cell_later hJ.bel (S3.out.cell (b3) (.slice a3 n3 k3))
    exact run_val (v := .agg #[.slice a3 n3 k3]) rfl (by simp [execOp, go_sem, q7, cb]) ⟨_, rfl, hJ.step hL rfl (Below.refl _ _) (by exact ((S3.out.at (.agg #[.slice a3 n3 k3]) (r)).mono hJ.bel))⟩
  · intro L vs a w' hJ hF hP hL
    have q6 : (a.tmps[6]?).getD undef = .pointer (some ⟨b1 + 1, 0, none⟩) := hF.old 6 rfl
    have cb := cell_later hJ.bel (S3.out.cell (b1 + 1) (.slice a2 n2 k2))
    exact run_val (v := .agg #[.slice a2 n2 k2]) rfl (by simp [execOp, go_sem, q6, cb]) ⟨_, rfl, hJ.step hL rfl (Below.refl _ _) (by exact ((S3.out.at (.agg #[.slice a2 n2 k2]) (q)).mono hJ.bel))⟩
  · intro L vs a w' hJ hF hP hL
    have p3 : L 3 = true := hP ⟨3, .data⟩ (by simp) rfl
    have s3 : IsNat w' (vs 3) (r) := hJ.sp 3 p3
    have q22 := hF.slot 3 22 rfl p3
    have p4 : L 4 = true := hP ⟨4, .data⟩ (by simp) rfl
    have s4 : IsNat w' (vs 4) (q) := hJ.sp 4 p4
    have q23 := hF.slot 4 23 rfl p4
    refine run_call (f := 128) (args := #[vs 3, vs 4]) rfl (by simp [go_sem, q22, q23]) (mul_short _ _ r q _ s3 s4 HH.out.2.2.2.2.1.fits HH.out.2.2.2.1.fits (.inl HH.out.2.2.2.2.1.p99)) ?_
    rintro e w2 ⟨v, rfl, hv, hb⟩
    exact ⟨_, rfl, _, rfl, hJ.step hL rfl hb (by exact hv)⟩
  · intro L vs a w' hJ hF hP hL
    have p2 : L 2 = true := hP ⟨2, .data⟩ (by simp) rfl
    have s2 : IsNat w' (vs 2) (p * s) := hJ.sp 2 p2
    have q21 := hF.slot 2 21 rfl p2
    have p5 : L 5 = true := hP ⟨5, .data⟩ (by simp) rfl
    have s5 : IsNat w' (vs 5) (r * q) := hJ.sp 5 p5
    have q24 := hF.slot 5 24 rfl p5
    refine run_call (f := 125) (args := #[vs 2, vs 5]) rfl (by simp [go_sem, q21, q24]) (cmp_any _ _ (p * s) (r * q) _ s2 s5 HM.out.1 HM.out.2) ?_
    rintro e w2 ⟨rfl, hb⟩
    exact ⟨_, rfl, _, rfl, hJ.step hL rfl hb (by exact rfl)⟩
  · intro L vs a w' hJ hF hP hL
    have p6 : L 6 = true := hP ⟨6, .data⟩ (by simp) rfl
    have s6 : vs 6 = .int .i64 (cmpI (p * s) (r * q)) := hJ.sp 6 p6
    have q25 := hF.slot 6 25 rfl p6
    exact run_val (v := .int .i64 (cmpI (p * s) (r * q))) rfl (by simp [execOp, go_sem, q25, s6]) ⟨_, rfl, hJ.step hL rfl (Below.refl _ _) (by exact rfl)⟩
  intro L vs w' hA hJ
  have s7 : vs 7 = .int .i64 (cmpI (p * s) (r * q)) := hJ.sp 7 (hA 7 (by simp))
  simp only [putL, Act.put, List.setIfInBounds_toArray, List.set_cons_zero, List.set_cons_succ, Nat.reduceAdd]
  simp only [s7]
  go_wp2_with fail
  go_ret
  exact ⟨rfl, bel_go B1.out (S3.out.go hJ.bel).bel⟩
theorem RS.mul {x y : Nat} (h : RS x) (k : RS y) : x * y < P 180 := by
  rw [show 180 = 90 + 90 from rfl, P_add]
  exact Nat.mul_lt_mul'' h.lt k.lt
structure SX (w0 w : World) (N M : List (Value × Nat)) (F G : List (Value × Nat × Nat)) (C : List (Nat × Nat × Value)) : Prop where
  nats : ∀ p ∈ N, IsNat w p.1 p.2
  rnats : ∀ p ∈ M, RNat w p.1 p.2
  frs : ∀ p ∈ F, Rt w p.1 p.2.1 p.2.2
  rfrs : ∀ p ∈ G, RRt w p.1 p.2.1 p.2.2
  cells : ∀ p ∈ C, w.cell? ⟨p.1, p.2.1, none⟩ = some p.2.2
  bel : Below w0.heap.size w0 w
theorem SX.go {w0 w : World} {N M : List (Value × Nat)} {F G : List (Value × Nat × Nat)} {C : List (Nat × Nat × Value)} (h : SX w0 w N M F G C) {w' : World} (hb : Below w.heap.size w w') : SX w0 w' N M F G C :=
  ⟨fun p hp => (h.nats p hp).mono hb, fun p hp => (h.rnats p hp).mono hb, fun p hp => (h.frs p hp).mono hb, fun p hp => (h.rfrs p hp).mono hb, fun p hp => cell_later hb (h.cells p hp), bel_go h.bel hb⟩
theorem SX.at {w0 w : World} {N M : List (Value × Nat)} {F G : List (Value × Nat × Nat)} {C : List (Nat × Nat × Value)} (h : SX w0 w N M F G C) (v : Value) (x : Nat) (hm : (v, x) ∈ N := by simp) : IsNat w v x := h.nats _ hm
theorem SX.rat {w0 w : World} {N M : List (Value × Nat)} {F G : List (Value × Nat × Nat)} {C : List (Nat × Nat × Value)} (h : SX w0 w N M F G C) (v : Value) (x : Nat) (hm : (v, x) ∈ M := by simp) : RNat w v x := h.rnats _ hm
theorem SX.fr {w0 w : World} {N M : List (Value × Nat)} {F G : List (Value × Nat × Nat)} {C : List (Nat × Nat × Value)} (h : SX w0 w N M F G C) (v : Value) (p q : Nat) (hm : (v, p, q) ∈ F := by simp) : Rt w v p q := h.frs _ hm
theorem SX.rfr {w0 w : World} {N M : List (Value × Nat)} {F G : List (Value × Nat × Nat)} {C : List (Nat × Nat × Value)} (h : SX w0 w N M F G C) (v : Value) (p q : Nat) (hm : (v, p, q) ∈ G := by simp) : RRt w v p q := h.rfrs _ hm
theorem SX.cel {w0 w : World} {N M : List (Value × Nat)} {F G : List (Value × Nat × Nat)} {C : List (Nat × Nat × Value)} (h : SX w0 w N M F G C) (b i : Nat) (u : Value) (hm : (b, i, u) ∈ C := by simp) : w.cell? ⟨b, i, none⟩ = some u := h.cells _ hm
theorem SX.cell {w0 w : World} {N M : List (Value × Nat)} {F G : List (Value × Nat × Nat)} {C : List (Nat × Nat × Value)} (h : SX w0 w N M F G C) (b : Nat) (u : Value) (hm : (b, 0, u) ∈ C := by simp) : w.cell? ⟨b, 0, none⟩ = some u := h.cells _ hm
theorem SX.addN {w0 w : World} {N M : List (Value × Nat)} {F G : List (Value × Nat × Nat)} {C : List (Nat × Nat × Value)} (h : SX w0 w N M F G C) {v : Value} {x : Nat} (hv : IsNat w v x) : SX w0 w ((v, x) :: N) M F G C :=
  ⟨fun p hp => by
    rcases List.mem_cons.1 hp with e | e
    · subst e; exact hv
    exact h.nats p e, h.rnats, h.frs, h.rfrs, h.cells, h.bel⟩
theorem SX.addM {w0 w : World} {N M : List (Value × Nat)} {F G : List (Value × Nat × Nat)} {C : List (Nat × Nat × Value)} (h : SX w0 w N M F G C) {v : Value} {x : Nat} (hv : RNat w v x) : SX w0 w N ((v, x) :: M) F G C :=
  ⟨h.nats, fun p hp => by
    rcases List.mem_cons.1 hp with e | e
    · subst e; exact hv
    exact h.rnats p e, h.frs, h.rfrs, h.cells, h.bel⟩
theorem SX.addF {w0 w : World} {N M : List (Value × Nat)} {F G : List (Value × Nat × Nat)} {C : List (Nat × Nat × Value)} (h : SX w0 w N M F G C) {v : Value} {x y : Nat} (hv : Rt w v x y) : SX w0 w N M ((v, x, y) :: F) G C :=
  ⟨h.nats, h.rnats, fun p hp => by
    rcases List.mem_cons.1 hp with e | e
    · subst e; exact hv
    exact h.frs p e, h.rfrs, h.cells, h.bel⟩
theorem SX.addG {w0 w : World} {N M : List (Value × Nat)} {F G : List (Value × Nat × Nat)} {C : List (Nat × Nat × Value)} (h : SX w0 w N M F G C) {v : Value} {x y : Nat} (hv : RRt w v x y) : SX w0 w N M F ((v, x, y) :: G) C :=
  ⟨h.nats, h.rnats, h.frs, fun p hp => by
    rcases List.mem_cons.1 hp with e | e
    · subst e; exact hv
    exact h.rfrs p e, h.cells, h.bel⟩
theorem SX.addC {w0 w : World} {N M : List (Value × Nat)} {F G : List (Value × Nat × Nat)} {C : List (Nat × Nat × Value)} (h : SX w0 w N M F G C) {b i : Nat} {v : Value} (hv : w.cell? ⟨b, i, none⟩ = some v) : SX w0 w N M F G ((b, i, v) :: C) :=
  ⟨h.nats, h.rnats, h.frs, h.rfrs, fun p hp => by
    rcases List.mem_cons.1 hp with e | e
    · subst e; exact hv
    exact h.cells p e, h.bel⟩
theorem SX.box1 {w0 w : World} {N M : List (Value × Nat)} {F G : List (Value × Nat × Nat)} {C : List (Nat × Nat × Value)} (h : SX w0 w N M F G C) (u : Value) (t : TypeId) (g : Nat) (hg : g = w.heap.size) : SX w0 (w.alloc (.cells #[u] t)) N M F G ((g, 0, u) :: C) := by
  subst hg
  exact (h.go (w' := w.alloc (.cells #[u] t)) (bel_al (Below.refl _ _))).addC (by simp)
theorem SX.box {w0 w : World} {N M : List (Value × Nat)} {F G : List (Value × Nat × Nat)} {C : List (Nat × Nat × Value)} (h : SX w0 w N M F G C) (u u' : Value) (t : TypeId) (g : Nat) (hg : g = w.heap.size) : SX w0 (w.alloc (.cells #[u, u'] t)) N M F G ((g, 0, u) :: (g, 1, u') :: C) := by
  subst hg
  have h' := h.go (w' := w.alloc (.cells #[u, u'] t)) (bel_al (Below.refl _ _))
  exact (h'.addC (b := w.heap.size) (i := 1) (v := u') (by simp)).addC (by simp)
theorem SX.set {w0 w : World} {N M : List (Value × Nat)} {F G : List (Value × Nat × Nat)} {C : List (Nat × Nat × Value)} (h : SX w0 w N M F G C) {b i : Nat} {a : Option Addr} {n c : Nat} (hc : w.cell? ⟨b, i, none⟩ = some (.slice a n c)) (hlo : w0.heap.size ≤ b) (C' : List (Nat × Nat × Value)) (hC : ∀ p ∈ C', p ∈ C ∧ p.1 ≠ b) (u : Value) : SX w0 (w.setCell ⟨b, i, none⟩ u) N M F G C' :=
  ⟨fun p hp => (h.nats p hp).setCell (no_int_slice hc) u, fun p hp => (h.rnats p hp).setCell (no_int_slice hc) u, fun p hp => (h.frs p hp).setCell (no_int_slice hc) u, fun p hp => (h.rfrs p hp).setCell (no_int_slice hc) u,
    fun p hp => by
      rw [World.cell?_setCell_far _ _ _ _ (by simpa using Ne.symm (hC p hp).2)]
      exact h.cells p (hC p hp).1,
    h.bel.setCell (p := ⟨b, i, none⟩) hlo u⟩
theorem sx_start (w : World) : SX w w [] [] [] [] [] := ⟨(fun _ h => by cases h), (fun _ h => by cases h), (fun _ h => by cases h), (fun _ h => by cases h), (fun _ h => by cases h), Below.refl _ _⟩
structure JD (w0 : World) (specs : List Spec) (needs : List (List Nat)) (st val : Nat) (oth : List Nat) (Sto : World → Value → World → Prop) (L : Nat → Bool) (vs : Nat → Value) (w : World) : Prop where
  core : L st = false → JB w0 specs [] L vs w
  cl : ∀ j, L j = true → ∀ k ∈ needs.getD j [], L k = true
  fin : L st = true → (∀ j ∈ oth, L j = true) ∧ ∃ w1, Below w0.heap.size w0 w1 ∧ (specs.getD val sAny).1 w1 (vs val) ∧ Sto w1 (vs val) w
theorem JD.start (w : World) (specs : List Spec) (needs : List (List Nat)) (st val : Nat) (oth : List Nat) (Sto : World → Value → World → Prop) : JD w specs needs st val oth Sto (fun _ => false) (fun _ => undef) w.drew :=
  ⟨fun _ => JB.start _ _ _, (fun _ h => by cases h), (fun h => by cases h)⟩
theorem nd_nil {L : Nat → Bool} : ∀ k ∈ ([] : List Nat), L k = true := fun _ h => by cases h
theorem nd_cons {L : Nat → Bool} {a : Nat} {l : List Nat} (h : L a = true) (k : ∀ j ∈ l, L j = true) : ∀ j ∈ a :: l, L j = true := fun j hj => by
  rcases List.mem_cons.1 hj with e | e
  · rw [e]; exact h
  exact k j e
theorem JD.open {w0 : World} {specs : List Spec} {needs : List (List Nat)} {st val : Nat} {oth : List Nat} {Sto : World → Value → World → Prop} {L : Nat → Bool} {vs : Nat → Value} {w : World} (h : JD w0 specs needs st val oth Sto L vs w) {i : Nat} (hL : L i = false) (hi : i ∈ oth) : JB w0 specs [] L vs w :=
  h.core (by
    cases e : L st
    · rfl
    have := (h.fin e).1 i hi
    rw [hL] at this
    cases this)
theorem JD.step {w0 : World} {specs : List Spec} {needs : List (List Nat)} {st val : Nat} {oth : List Nat} {Sto : World → Value → World → Prop} {L : Nat → Bool} {vs : Nat → Value} {w : World} (h : JD w0 specs needs st val oth Sto L vs w) {i : Nat} (hL : L i = false) (hi : i ∈ oth) (hne : i ≠ st) {nd : List Nat} (he : needs.getD i [] = nd) (hn : ∀ k ∈ nd, L k = true) {v : Value} {w' : World} (k : JB w0 specs [] (updB L i) (updV vs i v) w') : JD w0 specs needs st val oth Sto (updB L i) (updV vs i v) w' := by
  refine ⟨fun _ => k, fun j hj m hm => ?_, fun hs => ?_⟩
  · by_cases e : j = i
    · subst e
      rw [he] at hm
      have := hn m hm
      unfold updB; split <;> simp_all
    have := h.cl j (by simpa [updB, e] using hj) m hm
    unfold updB; split <;> simp_all
  have hs' : L st = true := by simpa [updB, hne.symm] using hs
  have := (h.fin hs').1 i hi
  rw [hL] at this
  cases this
theorem JD.put {w0 : World} {specs : List Spec} {needs : List (List Nat)} {st val : Nat} {oth : List Nat} {Sto : World → Value → World → Prop} {L : Nat → Bool} {vs : Nat → Value} {w : World} (h : JD w0 specs needs st val oth Sto L vs w) (hL : L st = false) (hv : val ≠ st) {nd : List Nat} (he : needs.getD st [] = nd) (hn : ∀ k ∈ nd, L k = true) (ho : ∀ j ∈ oth, L j = true) (hV : L val = true) {w' : World} (hs : Sto w (vs val) w') : JD w0 specs needs st val oth Sto (updB L st) (updV vs st undef) w' := by
  have J := h.core hL
  refine ⟨fun e => ?_, fun j hj m hm => ?_, fun _ => ⟨fun j hj => ?_, w, J.bel, ?_, ?_⟩⟩
  · simp [updB] at e
  · by_cases e : j = st
    · subst e
      rw [he] at hm
      have := hn m hm
      unfold updB; split <;> simp_all
    have := h.cl j (by simpa [updB, e] using hj) m hm
    unfold updB; split <;> simp_all
  · have := ho j hj
    unfold updB; split <;> simp_all
  · have : updV vs st undef val = vs val := by simp [updV, hv]
    rw [this]
    exact J.sp val hV
  have : updV vs st undef val = vs val := by simp [updV, hv]
  rw [this]
  exact hs
end Go.Proofs.YtchomkadekikdaaGreatDoor
namespace Go.Proofs.YtchomkadekikdaaGreatDoor
open Go.RowKit
set_option maxRecDepth 100000
set_option linter.unusedVariables false
structure SY (w0 w : World) (N M : List (Value × Nat)) (F G : List (Value × Nat × Nat)) (C : List (Nat × Nat × Value)) (Z : List Nat) : Prop where
  sx : SX w0 w N M F G C
  fzs : ∀ b ∈ Z, (∀ i, w.frozen? ⟨b, i, none⟩ = false) ∧ w0.heap.size ≤ b ∧ b < w.heap.size
def Sto1 (R : Nat) (w : World) (v : Value) (w' : World) : Prop := ∃ u, v = .agg #[u] ∧ w' = w.setCell ⟨R, 0, none⟩ u
section
variable {w0 w : World} {N M : List (Value × Nat)} {F G : List (Value × Nat × Nat)} {C : List (Nat × Nat × Value)} {Z : List Nat}
theorem sy_start (w : World) : SY w w [] [] [] [] [] [] := ⟨sx_start w, fun _ h => by cases h⟩
theorem SY.bel (h : SY w0 w N M F G C Z) : Below w0.heap.size w0 w := h.sx.bel
theorem SY.go (h : SY w0 w N M F G C Z) {w' : World} (hb : Below w.heap.size w w') : SY w0 w' N M F G C Z :=
  ⟨h.sx.go hb, fun b hz => ⟨fun i => (hb.frozen (p := ⟨b, i, none⟩) (h.fzs b hz).2.2).trans ((h.fzs b hz).1 i), (h.fzs b hz).2.1, Nat.lt_of_lt_of_le (h.fzs b hz).2.2 hb.size⟩⟩
theorem SY.at (h : SY w0 w N M F G C Z) (v : Value) (x : Nat) (hm : (v, x) ∈ N := by simp) : IsNat w v x := h.sx.nats _ hm
theorem SY.rat (h : SY w0 w N M F G C Z) (v : Value) (x : Nat) (hm : (v, x) ∈ M := by simp) : RNat w v x := h.sx.rnats _ hm
theorem SY.fr (h : SY w0 w N M F G C Z) (v : Value) (p q : Nat) (hm : (v, p, q) ∈ F := by simp) : Rt w v p q := h.sx.frs _ hm
theorem SY.rfr (h : SY w0 w N M F G C Z) (v : Value) (p q : Nat) (hm : (v, p, q) ∈ G := by simp) : RRt w v p q := h.sx.rfrs _ hm
theorem SY.cel (h : SY w0 w N M F G C Z) (b i : Nat) (u : Value) (hm : (b, i, u) ∈ C := by simp) : w.cell? ⟨b, i, none⟩ = some u := h.sx.cells _ hm
theorem SY.cell (h : SY w0 w N M F G C Z) (b : Nat) (u : Value) (hm : (b, 0, u) ∈ C := by simp) : w.cell? ⟨b, 0, none⟩ = some u := h.sx.cells _ hm
theorem SY.fz (h : SY w0 w N M F G C Z) (b i : Nat) (hm : b ∈ Z := by simp) : w.frozen? ⟨b, i, none⟩ = false := (h.fzs b hm).1 i
theorem SY.lo (h : SY w0 w N M F G C Z) (b : Nat) (hm : b ∈ Z := by simp) : w0.heap.size ≤ b := (h.fzs b hm).2.1
theorem SY.lt (h : SY w0 w N M F G C Z) (b : Nat) (hm : b ∈ Z := by simp) : b < w.heap.size := (h.fzs b hm).2.2
theorem SY.addN (h : SY w0 w N M F G C Z) {v : Value} {x : Nat} (hv : IsNat w v x) : SY w0 w ((v, x) :: N) M F G C Z := ⟨h.sx.addN hv, h.fzs⟩
theorem SY.addM (h : SY w0 w N M F G C Z) {v : Value} {x : Nat} (hv : RNat w v x) : SY w0 w N ((v, x) :: M) F G C Z := ⟨h.sx.addM hv, h.fzs⟩
theorem SY.addF (h : SY w0 w N M F G C Z) {v : Value} {x y : Nat} (hv : Rt w v x y) : SY w0 w N M ((v, x, y) :: F) G C Z := ⟨h.sx.addF hv, h.fzs⟩
theorem SY.addG (h : SY w0 w N M F G C Z) {v : Value} {x y : Nat} (hv : RRt w v x y) : SY w0 w N M F ((v, x, y) :: G) C Z := ⟨h.sx.addG hv, h.fzs⟩
theorem SY.addC (h : SY w0 w N M F G C Z) {b i : Nat} {v : Value} (hv : w.cell? ⟨b, i, none⟩ = some v) : SY w0 w N M F G ((b, i, v) :: C) Z := ⟨h.sx.addC hv, h.fzs⟩
theorem SY.addZ (h : SY w0 w N M F G C Z) {b : Nat} (hv : ∀ i, w.frozen? ⟨b, i, none⟩ = false) (h1 : w0.heap.size ≤ b) (h2 : b < w.heap.size) : SY w0 w N M F G C (b :: Z) :=
  ⟨h.sx, fun x hx => by
    rcases List.mem_cons.1 hx with e | e
    · subst e; exact ⟨hv, h1, h2⟩
    exact h.fzs x e⟩
theorem SY.box1 (h : SY w0 w N M F G C Z) (u : Value) (t : TypeId) (g : Nat) (hg : g = w.heap.size) : SY w0 (w.alloc (.cells #[u] t)) N M F G ((g, 0, u) :: C) (g :: Z) := by
  subst hg
  have k := h.go (w' := w.alloc (.cells #[u] t)) (bel_al (Below.refl _ _))
  exact SY.addZ ⟨h.sx.box1 u t _ rfl, k.fzs⟩ (fun i => by simp [go_sem]) h.bel.size (by simp)
theorem SY.box (h : SY w0 w N M F G C Z) (u u' : Value) (t : TypeId) (g : Nat) (hg : g = w.heap.size) : SY w0 (w.alloc (.cells #[u, u'] t)) N M F G ((g, 0, u) :: (g, 1, u') :: C) (g :: Z) := by
  subst hg
  have k := h.go (w' := w.alloc (.cells #[u, u'] t)) (bel_al (Below.refl _ _))
  exact SY.addZ ⟨h.sx.box u u' t _ rfl, k.fzs⟩ (fun i => by simp [go_sem]) h.bel.size (by simp)
theorem SY.set (h : SY w0 w N M F G C Z) {b i : Nat} {a : Option Addr} {n c : Nat} (hc : w.cell? ⟨b, i, none⟩ = some (.slice a n c)) (hlo : w0.heap.size ≤ b) (C' : List (Nat × Nat × Value)) (hC : ∀ p ∈ C', p ∈ C ∧ p.1 ≠ b) (u : Value) : SY w0 (w.setCell ⟨b, i, none⟩ u) N M F G C' Z :=
  ⟨h.sx.set hc hlo C' hC u, fun x hx => ⟨fun j => by rw [World.frozen?_setCell]; exact (h.fzs x hx).1 j, (h.fzs x hx).2.1, by simpa [go_sem] using (h.fzs x hx).2.2⟩⟩
theorem SY.sub (h : SY w0 w N M F G C Z) (N' M' : List (Value × Nat)) (F' G' : List (Value × Nat × Nat)) (C' : List (Nat × Nat × Value)) (Z' : List Nat) (h1 : ∀ p ∈ N', p ∈ N) (h2 : ∀ p ∈ M', p ∈ M) (h3 : ∀ p ∈ F', p ∈ F) (h4 : ∀ p ∈ G', p ∈ G) (h5 : ∀ p ∈ C', p ∈ C) (h6 : ∀ p ∈ Z', p ∈ Z) : SY w0 w N' M' F' G' C' Z' :=
  ⟨⟨fun p hp => h.sx.nats p (h1 p hp), fun p hp => h.sx.rnats p (h2 p hp), fun p hp => h.sx.frs p (h3 p hp), fun p hp => h.sx.rfrs p (h4 p hp), fun p hp => h.sx.cells p (h5 p hp), h.sx.bel⟩, fun b hb => h.fzs b (h6 b hb)⟩
theorem SY.ret1 (h : SY w0 w N M F G C Z) {r : Nat} {v : Value} {x : Nat} (hc : w.cell? ⟨r, 0, none⟩ = some (.slice none 0 0)) (hz : r ∈ Z) (hv : IsNat w v x) (u : Value) : IsNat (w.setCell ⟨r, 0, none⟩ u) v x ∧ Below w0.heap.size w0 (w.setCell ⟨r, 0, none⟩ u) :=
  ⟨hv.setCell (no_int_slice hc) u, h.bel.setCell (p := ⟨r, 0, none⟩) (h.lo r hz) u⟩
end
end Go.Proofs.YtchomkadekikdaaGreatDoor
