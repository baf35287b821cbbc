/- Contracts of the program's functions, part 28: own work, joined in build order. -/
import Derived.Test.YtchomkadekikdaaGreatDoorJ27
import Derived.OpenShut
import Derived.LaidMore
import Derived.WalkKit
import Derived.ChangeOld
import Derived.Deep.Slices
import Derived.Test.YtchomkadekikdaaGreatDoorRows
import Derived.Lib.LaidTab
import Derived.Lib.LaidU8
import Derived.Stop.LaidErr
namespace Go.Proofs.YtchomkadekikdaaGreatDoor
open Go.RowKit
set_option maxRecDepth 100000
set_option linter.unusedVariables false
set_option maxHeartbeats 4000000 in
theorem rprintFlow_good (K R M C Fl A : Int) (a : Option Addr) (n cap : Nat) (G : Nat → Nat → Int) (pw pq pc ps pb : Int) (pr : Nat) (pp pn : Int) (kk ll : Nat) (w : World) (h : NSl w a n cap G) (h0 : flowE K R M C Fl A G n pw pq pc ps pb pr pp pn = 0) (hp : PIn pw pq pc ps pb pr pp pn) (hk : DecLen (ffP pr) kk) (hl : DecLen (ffQ pr) ll) :
    Calls Tryz.prog 10 #[.agg #[.int .i64 K, .int .i64 R, .int .i64 M, .int .i64 C, .int .i64 Fl, .int .i64 A, .slice a n cap], .agg #[.int .i64 pw, .int .i64 pq, .int .i64 pc, .int .i64 ps, .int .i64 pb, .float .f64 pr, .int .i64 pp, .int .i64 pn]] w fun e w' => e = .returned (.tuple #[.string (jnT (flowT pw pq pc ps pb pp pn (fmtT (ffP pr) (ffQ pr) kk ll))), .int .i64 0]) ∧ Below w.heap.size w w' := by
  have hrb := rate_bits hp.u (flowE_zero h0).2.2.2.2.2.2.2.1
  have hrs := cx_ffRS pr hp.u
  have HN : Hid _ := h
  have HFE : Hid _ := h0
  have HPI : Hid _ := hp
  have HRS : Hid (RS (ffP pr) ∧ RS (ffQ pr) ∧ DecLen (ffP pr) kk ∧ DecLen (ffQ pr) ll) := ⟨hrs.1, hrs.2, hk, hl⟩
  have hl0 : n ≤ 9223372036854775807 := Nat.le_trans h.le h.lim
  have i0 := hp.w0
  have i1 := hp.w1
  have i2 := hp.w2
  have i3 := hp.w3
  have i4 := hp.w4
  have i5 := hp.w5
  have i6 := hp.w6
  obtain ⟨TX, hTX⟩ : ∃ x, fmtT (ffP pr) (ffQ pr) kk ll = x := ⟨_, rfl⟩
  have sTX : TX.size ≤ 400 := by rw [← hTX]; exact rate_fmt hrb hk hl
  obtain ⟨u0, hu0⟩ : ∃ x : ByteArray, ⟨#[119, 101, 105, 103, 104, 116, 32]⟩ ++ itT pw = x := ⟨_, rfl⟩
  obtain ⟨cu0, pu0, zu0⟩ := cat9 hu0 7 21 (by decide) (it21 _ i0) (by decide)
  obtain ⟨u1, hu1⟩ : ∃ x : ByteArray, u0 ++ ⟨#[32, 113, 117, 97, 110, 116, 117, 109, 32]⟩ = x := ⟨_, rfl⟩
  obtain ⟨cu1, pu1, zu1⟩ := cat9 hu1 28 9 zu0 (by decide) (by decide)
  obtain ⟨u2, hu2⟩ : ∃ x : ByteArray, u1 ++ itT pq = x := ⟨_, rfl⟩
  obtain ⟨cu2, pu2, zu2⟩ := cat9 hu2 37 21 zu1 (it21 _ i1) (by decide)
  obtain ⟨u3, hu3⟩ : ∃ x : ByteArray, u2 ++ ⟨#[32, 99, 108, 97, 115, 115, 32]⟩ = x := ⟨_, rfl⟩
  obtain ⟨cu3, pu3, zu3⟩ := cat9 hu3 58 7 zu2 (by decide) (by decide)
  obtain ⟨u4, hu4⟩ : ∃ x : ByteArray, u3 ++ itT pc = x := ⟨_, rfl⟩
  obtain ⟨cu4, pu4, zu4⟩ := cat9 hu4 65 21 zu3 (it21 _ i2) (by decide)
  have HU : Hid (u4 = (((((⟨#[119, 101, 105, 103, 104, 116, 32]⟩ ++ itT pw) ++ ⟨#[32, 113, 117, 97, 110, 116, 117, 109, 32]⟩) ++ itT pq) ++ ⟨#[32, 99, 108, 97, 115, 115, 32]⟩) ++ itT pc)) := by show _ = _; rw [hu0, hu1, hu2, hu3, hu4]
  have HUz : Hid (u4.size ≤ 86) := zu4
  clear hu0 hu1 hu2 hu3 hu4 zu4 zu3 zu2 zu1 zu0
  obtain ⟨v0, hv0⟩ : ∃ x : ByteArray, u4 ++ ⟨#[32, 115, 112, 97, 110, 32]⟩ = x := ⟨_, rfl⟩
  obtain ⟨cv0, pv0, zv0⟩ := cat9 hv0 86 6 HUz.out (by decide) (by decide)
  obtain ⟨v1, hv1⟩ : ∃ x : ByteArray, v0 ++ itT ps = x := ⟨_, rfl⟩
  obtain ⟨cv1, pv1, zv1⟩ := cat9 hv1 92 21 zv0 (it21 _ i3) (by decide)
  obtain ⟨v2, hv2⟩ : ∃ x : ByteArray, v1 ++ ⟨#[32, 98, 117, 114, 115, 116, 32]⟩ = x := ⟨_, rfl⟩
  obtain ⟨cv2, pv2, zv2⟩ := cat9 hv2 113 7 zv1 (by decide) (by decide)
  obtain ⟨v3, hv3⟩ : ∃ x : ByteArray, v2 ++ itT pb = x := ⟨_, rfl⟩
  obtain ⟨cv3, pv3, zv3⟩ := cat9 hv3 120 21 zv2 (it21 _ i4) (by decide)
  obtain ⟨v4, hv4⟩ : ∃ x : ByteArray, v3 ++ ⟨#[32, 114, 97, 116, 101, 32]⟩ = x := ⟨_, rfl⟩
  obtain ⟨cv4, pv4, zv4⟩ := cat9 hv4 141 6 zv3 (by decide) (by decide)
  obtain ⟨v5, hv5⟩ : ∃ x : ByteArray, v4 ++ TX = x := ⟨_, rfl⟩
  obtain ⟨cv5, pv5, zv5⟩ := cat9 hv5 147 400 zv4 sTX (by decide)
  have HVV : Hid (v5 = ((((((u4 ++ ⟨#[32, 115, 112, 97, 110, 32]⟩) ++ itT ps) ++ ⟨#[32, 98, 117, 114, 115, 116, 32]⟩) ++ itT pb) ++ ⟨#[32, 114, 97, 116, 101, 32]⟩) ++ TX)) := by show _ = _; rw [hv0, hv1, hv2, hv3, hv4, hv5]
  have HVVz : Hid (v5.size ≤ 547) := zv5
  clear hv0 hv1 hv2 hv3 hv4 hv5 zv5 zv4 zv3 zv2 zv1 zv0
  obtain ⟨y0, hy0⟩ : ∃ x : ByteArray, v5 ++ ⟨#[32, 112, 101, 114, 32]⟩ = x := ⟨_, rfl⟩
  obtain ⟨cy0, py0, zy0⟩ := cat9 hy0 547 5 HVVz.out (by decide) (by decide)
  obtain ⟨y1, hy1⟩ : ∃ x : ByteArray, y0 ++ itT pp = x := ⟨_, rfl⟩
  obtain ⟨cy1, py1, zy1⟩ := cat9 hy1 552 21 zy0 (it21 _ i5) (by decide)
  obtain ⟨y2, hy2⟩ : ∃ x : ByteArray, y1 ++ ⟨#[32, 110, 111, 100, 101, 32]⟩ = x := ⟨_, rfl⟩
  obtain ⟨cy2, py2, zy2⟩ := cat9 hy2 573 6 zy1 (by decide) (by decide)
  obtain ⟨y3, hy3⟩ : ∃ x : ByteArray, y2 ++ itT pn = x := ⟨_, rfl⟩
  obtain ⟨cy3, py3, zy3⟩ := cat9 hy3 579 21 zy2 (it21 _ i6) (by decide)
  have HYY : Hid (y3 = ((((v5 ++ ⟨#[32, 112, 101, 114, 32]⟩) ++ itT pp) ++ ⟨#[32, 110, 111, 100, 101, 32]⟩) ++ itT pn)) := by show _ = _; rw [hy0, hy1, hy2, hy3]
  have HYYz : Hid (y3.size ≤ 600) := zy3
  clear hy0 hy1 hy2 hy3 zy3 zy2 zy1 zy0
  have HFT : Hid (y3 = jnT (flowT pw pq pc ps pb pp pn TX)) := by
    show _ = _
    rw [HYY.out, HVV.out, HU.out, flow_text]
  rw [hTX, ← HFT.out]
  have HTX : Hid _ := hTX
  clear hTX sTX h h0 hp hk hl hrb hrs
  have CK : Hid (∀ W, NSl W a n cap G → Calls Tryz.prog 17 #[.agg #[.int .i64 K, .int .i64 R, .int .i64 M, .int .i64 C, .int .i64 Fl, .int .i64 A, .slice a n cap], .agg #[.int .i64 pw, .int .i64 pq, .int .i64 pc, .int .i64 ps, .int .i64 pb, .float .f64 pr, .int .i64 pp, .int .i64 pn]] W fun e w' => e = .returned (.int .i64 0) ∧ Below W.heap.size W w') := fun W hW => by
    have q := rcheckFlow_any K R M C Fl A a n cap G pw pq pc ps pb pr pp pn W hW HPI.out.u
    rw [HFE.out] at q
    exact q
  go_enter Tryz.func10, Tryz.ntmps10
  go_wp2_with fail
  have S0 : Hid _ := ((ce_start w).box7 (.int .i64 K) (.int .i64 R) (.int .i64 M) (.int .i64 C) (.int .i64 Fl) (.int .i64 A) (.slice a n cap) 24 _ rfl).box8 (.int .i64 pw) (.int .i64 pq) (.int .i64 pc) (.int .i64 ps) (.int .i64 pb) (.float .f64 pr) (.int .i64 pp) (.int .i64 pn) 27 (w.heap.size + 1) (by rw [World.size_alloc])
  refine (CK.out _ (HN.out.go S0.out.bel)).mono ?_
  rintro e w1 ⟨rfl, hb1⟩
  obtain ⟨gp, egp⟩ : ∃ g, g = w.heap.size + 1 := ⟨_, rfl⟩
  obtain ⟨gc, egc⟩ : ∃ g, g = w.heap.size := ⟨_, rfl⟩
  have S1 : Hid _ := S0.out.go hb1
  rw [← egp, ← egc] at S1
  rw [← egp, ← egc]
  clear hb1 S0 egp egc
  have x0 := S1.out.cel gp 0 (.int .i64 pw)
  have x1 := S1.out.cel gp 1 (.int .i64 pq)
  have x2 := S1.out.cel gp 2 (.int .i64 pc)
  have x3 := S1.out.cel gp 3 (.int .i64 ps)
  have x4 := S1.out.cel gp 4 (.int .i64 pb)
  have x5 := S1.out.cel gp 5 (.float .f64 pr)
  have x6 := S1.out.cel gp 6 (.int .i64 pp)
  have x7 := S1.out.cel gp 7 (.int .i64 pn)
  go_wp2_with fail
  refine (bits_any pr _).mono ?_
  rintro e w2 ⟨rfl, hw⟩
  rw [hw]
  clear hw w2
  go_wp2_with fail
  refine (rfromFloat_all pr _ HPI.out.u).mono ?_
  rintro e w2 ⟨v, rfl, hv, hb2⟩
  have hv' := hv
  obtain ⟨a1, n1, c1, a2, n2, c2, e0, _, _⟩ := hv'
  subst e0
  have S2 : Hid _ := (S1.out.go hb2).box2 (.slice a1 n1 c1) (.slice a2 n2 c2) 75 _ rfl
  obtain ⟨gx, egx⟩ : ∃ g, g = w2.heap.size := ⟨_, rfl⟩
  have HR : Hid (RRt (w2.alloc (.cells #[.slice a1 n1 c1, .slice a2 n2 c2] 75)) (.agg #[.slice a1 n1 c1, .slice a2 n2 c2]) (ffP pr) (ffQ pr)) := RRt.mono hv (bc_al (bel_refl w2))
  rw [← egx] at S2
  obtain ⟨w3, hw3⟩ : ∃ W, W = w2.alloc (.cells #[.slice a1 n1 c1, .slice a2 n2 c2] 75) := ⟨_, rfl⟩
  rw [← hw3] at S2 HR
  clear hv hb2 S1
  clear x0 x1 x2 x3 x4 x5 x6 x7
  go_upto_region 5 with fail
  rw [← hw3, ← egx]
  clear hw3 egx
  have x0 := fun p : BW w3 => p.cel (S2.out.cel gp 0 (.int .i64 pw))
  have x1 := fun p : BW w3 => p.cel (S2.out.cel gp 1 (.int .i64 pq))
  have x2 := fun p : BW w3 => p.cel (S2.out.cel gp 2 (.int .i64 pc))
  have x3 := fun p : BW w3 => p.cel (S2.out.cel gp 3 (.int .i64 ps))
  have x4 := fun p : BW w3 => p.cel (S2.out.cel gp 4 (.int .i64 pb))
  have x5 := fun p : BW w3 => p.cel (S2.out.cel gp 5 (.float .f64 pr))
  have x6 := fun p : BW w3 => p.cel (S2.out.cel gp 6 (.int .i64 pp))
  have x7 := fun p : BW w3 => p.cel (S2.out.cel gp 7 (.int .i64 pn))
  haveI hne : Nonempty (BW w3) := ⟨⟨w3, bel_refl w3⟩⟩
  refine wp_region_quiet_bel (by kernel_rfl) (by kernel_rfl) ?_
  repeat (quiet_step (first
    | (go_at_call 29; exact calls_bel (rdigits9_any _ _ (by assumption)))
    | (go_at_call 29; exact calls_bel (rdigits9_any _ _ (by assumption)))
    | (go_at_call 29; exact calls_bel (rdigits9_any _ _ (by assumption)))))
  refine wpQuiet_nil ?_
  intro w5 hw9
  obtain ⟨p9, hp9⟩ := hw9
  have hb5 := p9.bel
  rw [← hp9] at hb5
  clear hp9 p9 hne
  have S5 : Hid _ := S2.out.go hb5
  have HR5 : Hid (RRt w5 (.agg #[.slice a1 n1 c1, .slice a2 n2 c2]) (ffP pr) (ffQ pr)) := RRt.mono HR.out hb5
  clear hb5 S2 HR
  clear x0 x1 x2 x3 x4 x5 x6 x7
  clear cu0 pu0 cu1 pu1 cu2 pu2 cu3 pu3 cu4 pu4
  have DX : Hid (∀ W, Below w5.heap.size w5 W → Calls Tryz.prog 34 #[.agg #[.slice a1 n1 c1, .slice a2 n2 c2]] W fun e w' => e = .returned (.string TX) ∧ Below W.heap.size W w') := fun W hW => by
    have q := rformat_any (.agg #[.slice a1 n1 c1, .slice a2 n2 c2]) (ffP pr) (ffQ pr) kk ll W (RRt.mono HR5.out hW) HRS.out.1 HRS.out.2.1 HRS.out.2.2.1 HRS.out.2.2.2
    rw [HTX.out] at q
    exact q
  have x0 := fun p : BW w5 => p.cel (S5.out.cel gp 0 (.int .i64 pw))
  have x1 := fun p : BW w5 => p.cel (S5.out.cel gp 1 (.int .i64 pq))
  have x2 := fun p : BW w5 => p.cel (S5.out.cel gp 2 (.int .i64 pc))
  have x3 := fun p : BW w5 => p.cel (S5.out.cel gp 3 (.int .i64 ps))
  have x4 := fun p : BW w5 => p.cel (S5.out.cel gp 4 (.int .i64 pb))
  have x5 := fun p : BW w5 => p.cel (S5.out.cel gp 5 (.float .f64 pr))
  have x6 := fun p : BW w5 => p.cel (S5.out.cel gp 6 (.int .i64 pp))
  have x7 := fun p : BW w5 => p.cel (S5.out.cel gp 7 (.int .i64 pn))
  have g0 := fun p : BW w5 => p.cel (S5.out.cel gx 0 (.slice a1 n1 c1))
  have g1 := fun p : BW w5 => p.cel (S5.out.cel gx 1 (.slice a2 n2 c2))
  go_upto_region 6 with fail
  haveI hne : Nonempty (BW w5) := ⟨⟨w5, bel_refl w5⟩⟩
  refine wp_region_quiet_bel (by kernel_rfl) (by kernel_rfl) ?_
  repeat (quiet_step (first
    | (go_at_call 29; exact calls_bel (rdigits9_any _ _ (by assumption)))
    | (go_at_call 29; exact calls_bel (rdigits9_any _ _ (by assumption)))
    | (go_at_call 34; exact calls_bel (DX.out _ (BW.bel _)))))
  refine wpQuiet_nil ?_
  intro w6 hw9
  obtain ⟨p9, hp9⟩ := hw9
  have hb6 := p9.bel
  rw [← hp9] at hb6
  clear hp9 p9 hne
  have S6 : Hid _ := S5.out.go hb6
  clear hb6 S5 HR5 DX
  clear x0 x1 x2 x3 x4 x5 x6 x7
  clear g0 g1
  clear cv0 pv0 cv1 pv1 cv2 pv2 cv3 pv3 cv4 pv4 cv5 pv5
  have x0 := fun p : BW w6 => p.cel (S6.out.cel gp 0 (.int .i64 pw))
  have x1 := fun p : BW w6 => p.cel (S6.out.cel gp 1 (.int .i64 pq))
  have x2 := fun p : BW w6 => p.cel (S6.out.cel gp 2 (.int .i64 pc))
  have x3 := fun p : BW w6 => p.cel (S6.out.cel gp 3 (.int .i64 ps))
  have x4 := fun p : BW w6 => p.cel (S6.out.cel gp 4 (.int .i64 pb))
  have x5 := fun p : BW w6 => p.cel (S6.out.cel gp 5 (.float .f64 pr))
  have x6 := fun p : BW w6 => p.cel (S6.out.cel gp 6 (.int .i64 pp))
  have x7 := fun p : BW w6 => p.cel (S6.out.cel gp 7 (.int .i64 pn))
  go_upto_region 7 with fail
  haveI hne : Nonempty (BW w6) := ⟨⟨w6, bel_refl w6⟩⟩
  refine wp_region_quiet_bel (by kernel_rfl) (by kernel_rfl) ?_
  repeat (quiet_step (first
    | (go_at_call 29; exact calls_bel (rdigits9_any _ _ (by assumption)))
    | (go_at_call 29; exact calls_bel (rdigits9_any _ _ (by assumption)))))
  refine wpQuiet_nil ?_
  intro w7 hw9
  obtain ⟨p9, hp9⟩ := hw9
  have hb7 := p9.bel
  rw [← hp9] at hb7
  clear hp9 p9 hne
  have S7 : Hid _ := S6.out.go hb7
  clear hb7 S6
  clear x0 x1 x2 x3 x4 x5 x6 x7
  go_wp2_with fail
  exact bodyPost_ret (v := .tuple #[.string y3, .int .i64 0]) (by simp [results, Tryz.results10, go_sem]) rfl ⟨rfl, S7.out.bel⟩
set_option maxHeartbeats 1000000 in
theorem rprintFlow_bad (K R M C Fl A : Int) (a : Option Addr) (n cap : Nat) (G : Nat → Nat → Int) (pw pq pc ps pb : Int) (pr : Nat) (pp pn : Int) (fe : Int) (w : World) (h : NSl w a n cap G) (hf : flowE K R M C Fl A G n pw pq pc ps pb pr pp pn = fe) (hp : pr < 18446744073709551616) (h0 : fe ≠ 0) :
    Calls Tryz.prog 10 #[.agg #[.int .i64 K, .int .i64 R, .int .i64 M, .int .i64 C, .int .i64 Fl, .int .i64 A, .slice a n cap], .agg #[.int .i64 pw, .int .i64 pq, .int .i64 pc, .int .i64 ps, .int .i64 pb, .float .f64 pr, .int .i64 pp, .int .i64 pn]] w fun e w' => e = .returned (.tuple #[.string ⟨#[]⟩, .int .i64 fe]) ∧ Below w.heap.size w w' := by
  have HN : Hid _ := h
  have HP : Hid _ := hp
  have hl0 : n ≤ 9223372036854775807 := Nat.le_trans h.le h.lim
  have HF : Hid _ := hf
  have d0 : (fe != 0) = true := by simpa using h0
  clear h hf h0 hp
  go_enter Tryz.func10, Tryz.ntmps10
  go_wp2_with fail
  have S0 : Hid _ := ((ce_start w).box7 (.int .i64 K) (.int .i64 R) (.int .i64 M) (.int .i64 C) (.int .i64 Fl) (.int .i64 A) (.slice a n cap) 24 _ rfl).box8 (.int .i64 pw) (.int .i64 pq) (.int .i64 pc) (.int .i64 ps) (.int .i64 pb) (.float .f64 pr) (.int .i64 pp) (.int .i64 pn) 27 (w.heap.size + 1) (by rw [World.size_alloc])
  refine (rcheckFlow_any K R M C Fl A a n cap G pw pq pc ps pb pr pp pn _ (HN.out.go S0.out.bel) HP.out).mono ?_
  rintro e w1 ⟨rfl, hb⟩
  rw [HF.out]
  have W1 : Hid (Below w.heap.size w w1) := bc_go S0.out.bel hb
  clear hb S0
  go_wp2_with fail
  exact bodyPost_ret (v := .tuple #[.string ⟨#[]⟩, .int .i64 fe]) (by simp [results, Tryz.results10, go_sem]) rfl ⟨rfl, W1.out⟩
set_option maxHeartbeats 4000000 in
theorem checks_any (K R M C Fl A : Int) (a : Option Addr) (n cap : Nat) (G : Nat → Nat → Int) (pw pq pc ps pb : Int) (pr : Nat) (pp pn : Int) (w : World) (h : NSl w a n cap G) (hV : Vs9 w) (hp : PIn pw pq pc ps pb pr pp pn) :
    Calls Tryz.prog 3 #[.agg #[.int .i64 K, .int .i64 R, .int .i64 M, .int .i64 C, .int .i64 Fl, .int .i64 A, .slice a n cap], .agg #[.int .i64 pw, .int .i64 pq, .int .i64 pc, .int .i64 ps, .int .i64 pb, .float .f64 pr, .int .i64 pp, .int .i64 pn]] w fun e w' => e = .returned (.bool true) ∧ Below w.heap.size w w' := by
  have HN : Hid _ := h
  have HV : Hid _ := hV
  have HP : Hid _ := hp
  have hl0 : n ≤ 9223372036854775807 := Nat.le_trans h.le h.lim
  clear h hV hp
  obtain ⟨ce, hce⟩ : ∃ x, checkE K R M C Fl A G n = x := ⟨_, rfl⟩
  obtain ⟨ne, hne⟩ : ∃ x, nodesE G n = x := ⟨_, rfl⟩
  obtain ⟨fe, hfe⟩ : ∃ x, flowE K R M C Fl A G n pw pq pc ps pb pr pp pn = x := ⟨_, rfl⟩
  obtain ⟨ts, hts⟩ : ∃ x, priS K R M C Fl A G n = x := ⟨_, rfl⟩
  have HCE : Hid _ := hce
  have HNE : Hid _ := hne
  have HFE : Hid _ := hfe
  have HTS : Hid _ := hts
  clear hce hne hfe hts
  go_enter Tryz.func3, Tryz.ntmps3
  go_wp2_with fail
  have S0 : Hid _ := ((ce_start w).box7 (.int .i64 K) (.int .i64 R) (.int .i64 M) (.int .i64 C) (.int .i64 Fl) (.int .i64 A) (.slice a n cap) 24 _ rfl).box8 (.int .i64 pw) (.int .i64 pq) (.int .i64 pc) (.int .i64 ps) (.int .i64 pb) (.float .f64 pr) (.int .i64 pp) (.int .i64 pn) 27 (w.heap.size + 1) (by rw [World.size_alloc])
  refine (print_any K R M C Fl A a n cap G _ (HN.out.go S0.out.bel) (HV.out.go S0.out.bel)).mono ?_
  rintro e w1 ⟨rfl, hb1⟩
  obtain ⟨gp, egp⟩ : ∃ g, g = w.heap.size + 1 := ⟨_, rfl⟩
  obtain ⟨gc, egc⟩ : ∃ g, g = w.heap.size := ⟨_, rfl⟩
  have S1 : Hid _ := S0.out.go hb1
  rw [← egp, ← egc] at S1
  rw [← egp, ← egc]
  clear hb1 S0 egp egc
  rw [HCE.out, HTS.out]
  have x0 := S1.out.cel gc 0 (.int .i64 K)
  have x1 := S1.out.cel gc 1 (.int .i64 R)
  have x2 := S1.out.cel gc 2 (.int .i64 M)
  have x3 := S1.out.cel gc 3 (.int .i64 C)
  have x4 := S1.out.cel gc 4 (.int .i64 Fl)
  have x5 := S1.out.cel gc 5 (.int .i64 A)
  have x6 := S1.out.cel gc 6 (.slice a n cap)
  go_wp2_with fail
  refine (rprint_any K R M C Fl A a n cap G _ (HN.out.go S1.out.bel)).mono ?_
  rintro e w2 ⟨rfl, hb2⟩
  rw [HCE.out, HTS.out]
  have S2 : Hid _ := S1.out.go hb2
  clear hb2 S1
  clear x0 x1 x2 x3 x4 x5 x6
  have x0 := S2.out.cel gc 0 (.int .i64 K)
  have x1 := S2.out.cel gc 1 (.int .i64 R)
  have x2 := S2.out.cel gc 2 (.int .i64 M)
  have x3 := S2.out.cel gc 3 (.int .i64 C)
  have x4 := S2.out.cel gc 4 (.int .i64 Fl)
  have x5 := S2.out.cel gc 5 (.int .i64 A)
  have x6 := S2.out.cel gc 6 (.slice a n cap)
  have y0 := S2.out.cel gp 0 (.int .i64 pw)
  have y1 := S2.out.cel gp 1 (.int .i64 pq)
  have y2 := S2.out.cel gp 2 (.int .i64 pc)
  have y3 := S2.out.cel gp 3 (.int .i64 ps)
  have y4 := S2.out.cel gp 4 (.int .i64 pb)
  have y5 := S2.out.cel gp 5 (.float .f64 pr)
  have y6 := S2.out.cel gp 6 (.int .i64 pp)
  have y7 := S2.out.cel gp 7 (.int .i64 pn)
  go_wp2_with fail
  refine (printFlow_any K R M C Fl A a n cap G pw pq pc ps pb pr pp pn _ (HN.out.go S2.out.bel) (HV.out.go S2.out.bel).tab (HV.out.go S2.out.bel).pow HP.out.u (set5 HP.out.w0 HP.out.w1 HP.out.w2 HP.out.w3 HP.out.w4) (set2 HP.out.w5 HP.out.w6)).mono ?_
  rintro e w3 ⟨us, rfl, hb3, hz0, hz1⟩
  rw [HFE.out] at hz0 hz1
  rw [HFE.out]
  have RF : Hid (∀ W, NSl W a n cap G → Calls Tryz.prog 10 #[.agg #[.int .i64 K, .int .i64 R, .int .i64 M, .int .i64 C, .int .i64 Fl, .int .i64 A, .slice a n cap], .agg #[.int .i64 pw, .int .i64 pq, .int .i64 pc, .int .i64 ps, .int .i64 pb, .float .f64 pr, .int .i64 pp, .int .i64 pn]] W fun e w' => e = .returned (.tuple #[.string us, .int .i64 fe]) ∧ Below W.heap.size W w') := fun W hW => by
    by_cases q : fe = 0
    · obtain ⟨kk, ll, hkk, hll, hxe⟩ := hz1 q
      have z := rprintFlow_good K R M C Fl A a n cap G pw pq pc ps pb pr pp pn kk ll W hW (HFE.out.trans q) HP.out hkk hll
      rw [q, hxe]
      exact z
    rw [hz0 q]
    exact rprintFlow_bad K R M C Fl A a n cap G pw pq pc ps pb pr pp pn fe W hW HFE.out HP.out.u q
  have S3 : Hid _ := S2.out.go hb3
  clear hb3 S2 hz0 hz1
  clear x0 x1 x2 x3 x4 x5 x6
  clear y0 y1 y2 y3 y4 y5 y6 y7
  have x0 := S3.out.cel gc 0 (.int .i64 K)
  have x1 := S3.out.cel gc 1 (.int .i64 R)
  have x2 := S3.out.cel gc 2 (.int .i64 M)
  have x3 := S3.out.cel gc 3 (.int .i64 C)
  have x4 := S3.out.cel gc 4 (.int .i64 Fl)
  have x5 := S3.out.cel gc 5 (.int .i64 A)
  have x6 := S3.out.cel gc 6 (.slice a n cap)
  have y0 := S3.out.cel gp 0 (.int .i64 pw)
  have y1 := S3.out.cel gp 1 (.int .i64 pq)
  have y2 := S3.out.cel gp 2 (.int .i64 pc)
  have y3 := S3.out.cel gp 3 (.int .i64 ps)
  have y4 := S3.out.cel gp 4 (.int .i64 pb)
  have y5 := S3.out.cel gp 5 (.float .f64 pr)
  have y6 := S3.out.cel gp 6 (.int .i64 pp)
  have y7 := S3.out.cel gp 7 (.int .i64 pn)
  go_wp2_with fail
  refine (RF.out _ (HN.out.go S3.out.bel)).mono ?_
  rintro e w5 ⟨rfl, hb5⟩
  have S5 : Hid _ := S3.out.go hb5
  clear hb5 S3 RF
  clear x0 x1 x2 x3 x4 x5 x6
  clear y0 y1 y2 y3 y4 y5 y6 y7
  have x0 := fun p : BW w5 => p.cel (S5.out.cel gc 0 (.int .i64 K))
  have x1 := fun p : BW w5 => p.cel (S5.out.cel gc 1 (.int .i64 R))
  have x2 := fun p : BW w5 => p.cel (S5.out.cel gc 2 (.int .i64 M))
  have x3 := fun p : BW w5 => p.cel (S5.out.cel gc 3 (.int .i64 C))
  have x4 := fun p : BW w5 => p.cel (S5.out.cel gc 4 (.int .i64 Fl))
  have x5 := fun p : BW w5 => p.cel (S5.out.cel gc 5 (.int .i64 A))
  have x6 := fun p : BW w5 => p.cel (S5.out.cel gc 6 (.slice a n cap))
  have y0 := fun p : BW w5 => p.cel (S5.out.cel gp 0 (.int .i64 pw))
  have y1 := fun p : BW w5 => p.cel (S5.out.cel gp 1 (.int .i64 pq))
  have y2 := fun p : BW w5 => p.cel (S5.out.cel gp 2 (.int .i64 pc))
  have y3 := fun p : BW w5 => p.cel (S5.out.cel gp 3 (.int .i64 ps))
  have y4 := fun p : BW w5 => p.cel (S5.out.cel gp 4 (.int .i64 pb))
  have y5 := fun p : BW w5 => p.cel (S5.out.cel gp 5 (.float .f64 pr))
  have y6 := fun p : BW w5 => p.cel (S5.out.cel gp 6 (.int .i64 pp))
  have y7 := fun p : BW w5 => p.cel (S5.out.cel gp 7 (.int .i64 pn))
  have K1 : Hid (∀ W, Below w5.heap.size w5 W → Calls Tryz.prog 12 #[.agg #[.int .i64 K, .int .i64 R, .int .i64 M, .int .i64 C, .int .i64 Fl, .int .i64 A, .slice a n cap]] W fun e w' => e = .returned (.int .i64 ce) ∧ Below W.heap.size W w') := fun W hW => by
    have q := check_any K R M C Fl A a n cap G W (HN.out.go (bc_go S5.out.bel hW))
    rw [HCE.out] at q
    exact q
  have K2 : Hid (∀ W, Below w5.heap.size w5 W → Calls Tryz.prog 13 #[.agg #[.int .i64 K, .int .i64 R, .int .i64 M, .int .i64 C, .int .i64 Fl, .int .i64 A, .slice a n cap]] W fun e w' => e = .returned (.int .i64 ce) ∧ Below W.heap.size W w') := fun W hW => by
    have q := rcheck_any K R M C Fl A a n cap G W (HN.out.go (bc_go S5.out.bel hW))
    rw [HCE.out] at q
    exact q
  have K3 : Hid (∀ W, Below w5.heap.size w5 W → Calls Tryz.prog 14 #[.slice a n cap] W fun e w' => e = .returned (.int .i64 ne) ∧ Below W.heap.size W w') := fun W hW => by
    have q := checkNodes_any a n cap G W (HN.out.go (bc_go S5.out.bel hW))
    rw [HNE.out] at q
    exact q
  have K4 : Hid (∀ W, Below w5.heap.size w5 W → Calls Tryz.prog 15 #[.slice a n cap] W fun e w' => e = .returned (.int .i64 ne) ∧ Below W.heap.size W w') := fun W hW => by
    have q := rcheckNodes_any a n cap G W (HN.out.go (bc_go S5.out.bel hW))
    rw [HNE.out] at q
    exact q
  have K5 : Hid (∀ W, Below w5.heap.size w5 W → Calls Tryz.prog 16 #[.agg #[.int .i64 K, .int .i64 R, .int .i64 M, .int .i64 C, .int .i64 Fl, .int .i64 A, .slice a n cap], .agg #[.int .i64 pw, .int .i64 pq, .int .i64 pc, .int .i64 ps, .int .i64 pb, .float .f64 pr, .int .i64 pp, .int .i64 pn]] W fun e w' => e = .returned (.int .i64 fe) ∧ Below W.heap.size W w') := fun W hW => by
    have q := checkFlow_any K R M C Fl A a n cap G pw pq pc ps pb pr pp pn W (HN.out.go (bc_go S5.out.bel hW))
    rw [HFE.out] at q
    exact q
  have K6 : Hid (∀ W, Below w5.heap.size w5 W → Calls Tryz.prog 17 #[.agg #[.int .i64 K, .int .i64 R, .int .i64 M, .int .i64 C, .int .i64 Fl, .int .i64 A, .slice a n cap], .agg #[.int .i64 pw, .int .i64 pq, .int .i64 pc, .int .i64 ps, .int .i64 pb, .float .f64 pr, .int .i64 pp, .int .i64 pn]] W fun e w' => e = .returned (.int .i64 fe) ∧ Below W.heap.size W w') := fun W hW => by
    have q := rcheckFlow_any K R M C Fl A a n cap G pw pq pc ps pb pr pp pn W (HN.out.go (bc_go S5.out.bel hW)) HP.out.u
    rw [HFE.out] at q
    exact q
  go_upto_region 5 with fail
  haveI hne : Nonempty (BW w5) := ⟨⟨w5, bel_refl w5⟩⟩
  refine wp_region_quiet_bel (by kernel_rfl) (by kernel_rfl) ?_
  repeat (quiet_step (first
    | (go_at_call 11; exact calls_still (num9_any _ _))
    | (go_at_call 12; exact calls_bel (K1.out _ (BW.bel _)))
    | (go_at_call 13; exact calls_bel (K2.out _ (BW.bel _)))
    | (go_at_call 14; exact calls_bel (K3.out _ (BW.bel _)))
    | (go_at_call 15; exact calls_bel (K4.out _ (BW.bel _)))
    | (go_at_call 16; exact calls_bel (K5.out _ (BW.bel _)))
    | (go_at_call 17; exact calls_bel (K6.out _ (BW.bel _)))))
  refine wpQuiet_nil ?_
  intro w6 hw9
  obtain ⟨p9, hp9⟩ := hw9
  have hb6 := p9.bel
  rw [← hp9] at hb6
  clear hp9 p9 hne
  have W6 : Hid (Below w.heap.size w w6) := bc_go S5.out.bel hb6
  clear hb6 S5 K1 K2 K3 K4 K5 K6
  clear x0 x1 x2 x3 x4 x5 x6
  clear y0 y1 y2 y3 y4 y5 y6 y7
  go_wp2_with fail
  refine (num9_any ce _).mono ?_
  rintro e w7 ⟨rfl, hq⟩
  rw [hq]
  clear hq w7
  go_wp2_with fail
  refine (num9_any fe _).mono ?_
  rintro e w7 ⟨rfl, hq⟩
  rw [hq]
  clear hq w7
  go_wp2_with fail
  refine (started9_any _ (HV.out.go W6.out)).mono ?_
  rintro e w9 ⟨rfl, hb9⟩
  go_wp2_with fail
  go_ret
  exact ⟨rfl, bc_go W6.out hb9⟩
end Go.Proofs.YtchomkadekikdaaGreatDoor
namespace Go.Proofs.YtchomkadekikdaaGreatDoor
open Go.RowKit Go.ChangeShapes Go.WideShapes Go.ChangeAt
set_option linter.unusedVariables false
set_option maxRecDepth 100000
theorem ownD : ownKnob Tryz.prog.godebug = none := by kernel_rfl
theorem laidOutD : laidOutB Tryz.prog = true := by kernel_rfl
theorem wf9 {x : Int} (h : (Lit.int .i64 x).wf = true) : -9223372036854775808 ≤ x ∧ x ≤ 9223372036854775807 := bounds_i64 h
theorem addr_plus (b off i : Nat) : (⟨b, off, none⟩ : Addr).add i = ⟨b, off + i, none⟩ := by
  unfold Addr.add
  rcases Nat.eq_zero_or_pos i with e | e
  · subst e; simp
  rw [if_neg (by omega)]
theorem plus_more (a : Addr) (m j : Nat) : (a.add m).add j = a.add (m + j) := by
  unfold Addr.add
  rcases Nat.eq_zero_or_pos m with e | e
  · subst e; simp
  rcases Nat.eq_zero_or_pos j with e2 | e2
  · subst e2; simp
  rw [if_neg (by omega), if_neg (by omega), if_neg (by omega)]
  simp [Nat.add_assoc]
theorem stepsK_of {K : Nat} {H : Type} {enc : TypeId × Value → H} {P : Program} {w : World} {base : Nat} {spare : Nat → Bool} {held : Bool} {t e : TypeId} {fuel : Nat} {cs : List Value} {x : DataW H × List MemPlace} {fs : Array Field}
    (ht : P.underlying t = some (.slice e)) (he : P.underlying e = some (.struct fs)) (ce : P.cellsOf e = K) (hsz : fs.size = K)
    (hf : ∀ j, j < K → ∃ f, fs[j]? = some f ∧ f.offset = j ∧ P.cellsOf f.type = 1 ∧ P.underlying f.type = some (.int .i64)) (h : DataW.trod enc P w base spare held fuel t cs = some x) :
    cs = [.slice none 0 0] ∨ ∃ (a : Addr) (len cap : Nat), cs = [.slice (some a) len cap] ∧ len ≤ cap ∧ cap ≤ maxLen ∧ ∀ i j, i < len → j < K → ∃ v, w.cell? (a.add (i * K + j)) = some (.int .i64 v) ∧ (Lit.int .i64 v).wf = true := by
  rcases Deep.open_slice ht h with ⟨h0, _⟩ | ⟨a, len, cap, m, n, D, Pl, rfl, hb, hl, hm, hmm, _, hx⟩
  · exact .inl h0
  refine .inr ⟨a, len, cap, rfl, hl, hm, fun i j hi hj => ?_⟩
  have hlm : len ≤ m := by rw [hmm]; split <;> omega
  obtain ⟨cs', h1, h2⟩ := hx i (by omega)
  rw [ce] at h1
  obtain ⟨_, hlen, hcell⟩ := World.cells?_some h1
  obtain ⟨xs, k, _, _, _, hxl, hff⟩ := DataW.trod_struct he h2
  obtain ⟨f, f1, f2, f3, f4⟩ := hf j hj
  have g := hff j f f1
  rw [f2, f3] at g
  have hxj : ∃ y, xs[j]? = some y := ⟨_, List.getElem?_eq_getElem (by omega)⟩
  obtain ⟨y, hy⟩ := hxj
  rw [hy] at g
  obtain ⟨v, hv, _, hw⟩ := DataW.trod_int f4 g
  refine ⟨v, ?_, hw⟩
  have e1 := hcell j hj
  rw [plus_more] at e1
  rw [e1]
  have e2 := congrArg (fun l => l[0]?) hv
  simpa using e2
theorem nsl_of {w : World} {a : Addr} {len cap : Nat} (hl : len ≤ cap) (hm : cap ≤ maxLen) (h : ∀ i j, i < len → j < 4 → ∃ v, w.cell? (a.add (i * 4 + j)) = some (.int .i64 v) ∧ (Lit.int .i64 v).wf = true) :
    ∃ F, NSl w (some a) len cap F := by
  refine ⟨fun i j => intOf ((w.cell? (a.add (i * 4 + j))).getD undef), hl, by simp only [maxLen] at hm; omega, fun i j hi hj => ?_, ?_⟩
  · obtain ⟨v, hv, hw⟩ := h i j hi hj
    show -9223372036854775808 ≤ intOf ((w.cell? (a.add (i * 4 + j))).getD undef) ∧ _
    rw [hv]
    exact wf9 hw
  rcases Nat.eq_zero_or_pos len with e | e
  · exact .inl e
  obtain ⟨b, off, spot⟩ := a
  obtain ⟨v, hc, _⟩ := h 0 0 e (by omega)
  have hspot : spot = none := by simpa [Addr.add] using World.cell?_spot hc
  subst hspot
  refine .inr ⟨b, off, rfl, fun i j hi hj => ?_⟩
  obtain ⟨v, hv, _⟩ := h i j hi hj
  rw [addr_plus] at hv
  have e3 : off + i * 4 + j = off + (i * 4 + j) := by omega
  rw [e3, hv, addr_plus, hv]
  rfl
theorem nodes_of {H : Type} {enc : TypeId × Value → H} {w : World} {base : Nat} {held : Bool} {fuel : Nat} {cs : List Value} {x : DataW H × List MemPlace} (h : DataW.trod enc Tryz.prog w base (fun _ => true) held fuel 22 cs = some x) : ∃ a n c F, cs = [.slice a n c] ∧ NSl w a n c F := by
  rcases stepsK_of (K := 4) Tryz.underlying22 Tryz.underlying57 (by kernel_rfl) rfl (fun j hj => match j, hj with
    | 0, _ => ⟨_, rfl, rfl, by kernel_rfl, by kernel_rfl⟩
    | 1, _ => ⟨_, rfl, rfl, by kernel_rfl, by kernel_rfl⟩
    | 2, _ => ⟨_, rfl, rfl, by kernel_rfl, by kernel_rfl⟩
    | 3, _ => ⟨_, rfl, rfl, by kernel_rfl, by kernel_rfl⟩) h with hcs | ⟨y, l, c, hcs, hl, hm, hcell⟩
  · exact ⟨none, 0, 0, fun _ _ => 0, hcs, nsl_nil w⟩
  obtain ⟨F, hF⟩ := nsl_of hl hm hcell
  exact ⟨_, _, _, F, hcs, hF⟩
theorem cell_of {cs : List Value} {i : Nat} {v : Value} (h : (cs.drop i).take 1 = [v]) : cs[i]? = some v := by
  have e := congrArg (fun l => l[0]?) h
  simpa using e
theorem open_conf {H : Type} {enc : TypeId × Value → H} {w : World} {base0 base : Nat} {held : Bool} {v : Value} {d : DataW H} {ps : List MemPlace} (hv : Value.okWide Tryz.prog w .any base0 24 v) (h : DataW.Trod enc Tryz.prog w base (fun _ => true) held 24 v d ps) : ∃ K R M C Fl A a n c F, v = .agg #[.int .i64 K, .int .i64 R, .int .i64 M, .int .i64 C, .int .i64 Fl, .int .i64 A, .slice a n c] ∧ NSl w a n c F := by
  obtain ⟨cs, rfl, hsz⟩ := okWide_struct Tryz.underlying24 hv
  obtain ⟨fuel, hf⟩ := h
  obtain ⟨xs, k, _, _, hlen, hxl, hff⟩ := DataW.trod_struct Tryz.underlying24 hf
  have hl : cs.toList.length = 7 := by
    have e : Tryz.prog.cellsOf 24 = 7 := by kernel_rfl
    rw [e] at hlen
    exact hlen
  have hl2 : cs.size = 7 := by simpa using hl
  have hcl : (Value.agg cs).cells.toList = cs.toList := rfl
  rw [hcl] at hff
  have g0 : DataW.trod enc Tryz.prog w base (fun _ => true) held k 3 ((cs.toList.drop 0).take (Tryz.prog.cellsOf 3)) = xs[0]? := hff 0 _ rfl
  rw [show Tryz.prog.cellsOf 3 = 1 by kernel_rfl] at g0
  obtain ⟨y0, hy0⟩ : ∃ y, xs[0]? = some y := ⟨_, List.getElem?_eq_getElem (by rw [hxl]; decide)⟩
  rw [hy0] at g0
  obtain ⟨a0, e0, _, w0⟩ := DataW.trod_int Tryz.underlying3 g0
  have z0 := cell_of e0
  have g1 : DataW.trod enc Tryz.prog w base (fun _ => true) held k 3 ((cs.toList.drop 1).take (Tryz.prog.cellsOf 3)) = xs[1]? := hff 1 _ rfl
  rw [show Tryz.prog.cellsOf 3 = 1 by kernel_rfl] at g1
  obtain ⟨y1, hy1⟩ : ∃ y, xs[1]? = some y := ⟨_, List.getElem?_eq_getElem (by rw [hxl]; decide)⟩
  rw [hy1] at g1
  obtain ⟨a1, e1, _, w1⟩ := DataW.trod_int Tryz.underlying3 g1
  have z1 := cell_of e1
  have g2 : DataW.trod enc Tryz.prog w base (fun _ => true) held k 3 ((cs.toList.drop 2).take (Tryz.prog.cellsOf 3)) = xs[2]? := hff 2 _ rfl
  rw [show Tryz.prog.cellsOf 3 = 1 by kernel_rfl] at g2
  obtain ⟨y2, hy2⟩ : ∃ y, xs[2]? = some y := ⟨_, List.getElem?_eq_getElem (by rw [hxl]; decide)⟩
  rw [hy2] at g2
  obtain ⟨a2, e2, _, w2⟩ := DataW.trod_int Tryz.underlying3 g2
  have z2 := cell_of e2
  have g3 : DataW.trod enc Tryz.prog w base (fun _ => true) held k 3 ((cs.toList.drop 3).take (Tryz.prog.cellsOf 3)) = xs[3]? := hff 3 _ rfl
  rw [show Tryz.prog.cellsOf 3 = 1 by kernel_rfl] at g3
  obtain ⟨y3, hy3⟩ : ∃ y, xs[3]? = some y := ⟨_, List.getElem?_eq_getElem (by rw [hxl]; decide)⟩
  rw [hy3] at g3
  obtain ⟨a3, e3, _, w3⟩ := DataW.trod_int Tryz.underlying3 g3
  have z3 := cell_of e3
  have g4 : DataW.trod enc Tryz.prog w base (fun _ => true) held k 3 ((cs.toList.drop 4).take (Tryz.prog.cellsOf 3)) = xs[4]? := hff 4 _ rfl
  rw [show Tryz.prog.cellsOf 3 = 1 by kernel_rfl] at g4
  obtain ⟨y4, hy4⟩ : ∃ y, xs[4]? = some y := ⟨_, List.getElem?_eq_getElem (by rw [hxl]; decide)⟩
  rw [hy4] at g4
  obtain ⟨a4, e4, _, w4⟩ := DataW.trod_int Tryz.underlying3 g4
  have z4 := cell_of e4
  have g5 : DataW.trod enc Tryz.prog w base (fun _ => true) held k 3 ((cs.toList.drop 5).take (Tryz.prog.cellsOf 3)) = xs[5]? := hff 5 _ rfl
  rw [show Tryz.prog.cellsOf 3 = 1 by kernel_rfl] at g5
  obtain ⟨y5, hy5⟩ : ∃ y, xs[5]? = some y := ⟨_, List.getElem?_eq_getElem (by rw [hxl]; decide)⟩
  rw [hy5] at g5
  obtain ⟨a5, e5, _, w5⟩ := DataW.trod_int Tryz.underlying3 g5
  have z5 := cell_of e5
  have g6 : DataW.trod enc Tryz.prog w base (fun _ => true) held k 22 ((cs.toList.drop 6).take (Tryz.prog.cellsOf 22)) = xs[6]? := hff 6 _ rfl
  rw [show Tryz.prog.cellsOf 22 = 1 by kernel_rfl] at g6
  obtain ⟨y6, hy6⟩ : ∃ y, xs[6]? = some y := ⟨_, List.getElem?_eq_getElem (by rw [hxl]; decide)⟩
  rw [hy6] at g6
  obtain ⟨a6, m6, c6, F6, e6, w6⟩ := nodes_of g6
  have z6 := cell_of e6
  have hcs : cs = #[.int .i64 a0, .int .i64 a1, .int .i64 a2, .int .i64 a3, .int .i64 a4, .int .i64 a5, .slice a6 m6 c6] := by
    apply Array.ext_getElem?
    intro i
    rw [← Array.getElem?_toList]
    by_cases hi : i < 7
    · match i, hi with
      | 0, _ => rw [z0]; rfl
      | 1, _ => rw [z1]; rfl
      | 2, _ => rw [z2]; rfl
      | 3, _ => rw [z3]; rfl
      | 4, _ => rw [z4]; rfl
      | 5, _ => rw [z5]; rfl
      | 6, _ => rw [z6]; rfl
    rw [List.getElem?_eq_none (by omega), Array.getElem?_eq_none (by simp; omega)]
  subst hcs
  exact ⟨a0, a1, a2, a3, a4, a5, a6, m6, c6, F6, rfl, w6⟩
theorem trod_flt2 {H : Type} {enc : TypeId × Value → H} {P : Program} {w : World} {base : Nat} {spare : Nat → Bool} {held : Bool} {t : TypeId} {fuel : Nat} {cs : List Value} {x : DataW H × List MemPlace} {k : FloatKind} (ht : P.underlying t = some (.float k)) (h : DataW.trod enc P w base spare held fuel t cs = some x) : ∃ n, cs = [.float k n] ∧ (Lit.float k n).wf = true := by
  cases fuel with
  | zero => simp [DataW.trod] at h
  | succ n =>
    unfold DataW.trod at h
    rw [ht] at h
    split at h <;> simp_all
theorem open_params2 {H : Type} {enc : TypeId × Value → H} {w : World} {base0 base : Nat} {held : Bool} {v : Value} {d : DataW H} {ps : List MemPlace} (hv : Value.okWide Tryz.prog w .any base0 27 v) (h : DataW.Trod enc Tryz.prog w base (fun _ => true) held 27 v d ps) : ∃ (pw pq pc ps pb : Int) (pr : Nat) (pp pn : Int), v = .agg #[.int .i64 pw, .int .i64 pq, .int .i64 pc, .int .i64 ps, .int .i64 pb, .float .f64 pr, .int .i64 pp, .int .i64 pn] ∧ PIn pw pq pc ps pb pr pp pn := by
  obtain ⟨cs, rfl, hsz⟩ := okWide_struct Tryz.underlying27 hv
  obtain ⟨fuel, hf⟩ := h
  obtain ⟨xs, k, _, _, hlen, hxl, hff⟩ := DataW.trod_struct Tryz.underlying27 hf
  have hl : cs.toList.length = 8 := by
    have e : Tryz.prog.cellsOf 27 = 8 := by kernel_rfl
    rw [e] at hlen
    exact hlen
  have hl2 : cs.size = 8 := by simpa using hl
  have hcl : (Value.agg cs).cells.toList = cs.toList := rfl
  rw [hcl] at hff
  have g0 : DataW.trod enc Tryz.prog w base (fun _ => true) held k 3 ((cs.toList.drop 0).take (Tryz.prog.cellsOf 3)) = xs[0]? := hff 0 _ rfl
  rw [show Tryz.prog.cellsOf 3 = 1 by kernel_rfl] at g0
  obtain ⟨y0, hy0⟩ : ∃ y, xs[0]? = some y := ⟨_, List.getElem?_eq_getElem (by rw [hxl]; decide)⟩
  rw [hy0] at g0
  obtain ⟨a0, e0, _, w0⟩ := DataW.trod_int Tryz.underlying3 g0
  have z0 := cell_of e0
  have g1 : DataW.trod enc Tryz.prog w base (fun _ => true) held k 3 ((cs.toList.drop 1).take (Tryz.prog.cellsOf 3)) = xs[1]? := hff 1 _ rfl
  rw [show Tryz.prog.cellsOf 3 = 1 by kernel_rfl] at g1
  obtain ⟨y1, hy1⟩ : ∃ y, xs[1]? = some y := ⟨_, List.getElem?_eq_getElem (by rw [hxl]; decide)⟩
  rw [hy1] at g1
  obtain ⟨a1, e1, _, w1⟩ := DataW.trod_int Tryz.underlying3 g1
  have z1 := cell_of e1
  have g2 : DataW.trod enc Tryz.prog w base (fun _ => true) held k 3 ((cs.toList.drop 2).take (Tryz.prog.cellsOf 3)) = xs[2]? := hff 2 _ rfl
  rw [show Tryz.prog.cellsOf 3 = 1 by kernel_rfl] at g2
  obtain ⟨y2, hy2⟩ : ∃ y, xs[2]? = some y := ⟨_, List.getElem?_eq_getElem (by rw [hxl]; decide)⟩
  rw [hy2] at g2
  obtain ⟨a2, e2, _, w2⟩ := DataW.trod_int Tryz.underlying3 g2
  have z2 := cell_of e2
  have g3 : DataW.trod enc Tryz.prog w base (fun _ => true) held k 3 ((cs.toList.drop 3).take (Tryz.prog.cellsOf 3)) = xs[3]? := hff 3 _ rfl
  rw [show Tryz.prog.cellsOf 3 = 1 by kernel_rfl] at g3
  obtain ⟨y3, hy3⟩ : ∃ y, xs[3]? = some y := ⟨_, List.getElem?_eq_getElem (by rw [hxl]; decide)⟩
  rw [hy3] at g3
  obtain ⟨a3, e3, _, w3⟩ := DataW.trod_int Tryz.underlying3 g3
  have z3 := cell_of e3
  have g4 : DataW.trod enc Tryz.prog w base (fun _ => true) held k 3 ((cs.toList.drop 4).take (Tryz.prog.cellsOf 3)) = xs[4]? := hff 4 _ rfl
  rw [show Tryz.prog.cellsOf 3 = 1 by kernel_rfl] at g4
  obtain ⟨y4, hy4⟩ : ∃ y, xs[4]? = some y := ⟨_, List.getElem?_eq_getElem (by rw [hxl]; decide)⟩
  rw [hy4] at g4
  obtain ⟨a4, e4, _, w4⟩ := DataW.trod_int Tryz.underlying3 g4
  have z4 := cell_of e4
  have g5 : DataW.trod enc Tryz.prog w base (fun _ => true) held k 25 ((cs.toList.drop 5).take (Tryz.prog.cellsOf 25)) = xs[5]? := hff 5 _ rfl
  rw [show Tryz.prog.cellsOf 25 = 1 by kernel_rfl] at g5
  obtain ⟨y5, hy5⟩ : ∃ y, xs[5]? = some y := ⟨_, List.getElem?_eq_getElem (by rw [hxl]; decide)⟩
  rw [hy5] at g5
  obtain ⟨a5, e5, w5⟩ := trod_flt2 Tryz.underlying25 g5
  have z5 := cell_of e5
  have g6 : DataW.trod enc Tryz.prog w base (fun _ => true) held k 3 ((cs.toList.drop 6).take (Tryz.prog.cellsOf 3)) = xs[6]? := hff 6 _ rfl
  rw [show Tryz.prog.cellsOf 3 = 1 by kernel_rfl] at g6
  obtain ⟨y6, hy6⟩ : ∃ y, xs[6]? = some y := ⟨_, List.getElem?_eq_getElem (by rw [hxl]; decide)⟩
  rw [hy6] at g6
  obtain ⟨a6, e6, _, w6⟩ := DataW.trod_int Tryz.underlying3 g6
  have z6 := cell_of e6
  have g7 : DataW.trod enc Tryz.prog w base (fun _ => true) held k 3 ((cs.toList.drop 7).take (Tryz.prog.cellsOf 3)) = xs[7]? := hff 7 _ rfl
  rw [show Tryz.prog.cellsOf 3 = 1 by kernel_rfl] at g7
  obtain ⟨y7, hy7⟩ : ∃ y, xs[7]? = some y := ⟨_, List.getElem?_eq_getElem (by rw [hxl]; decide)⟩
  rw [hy7] at g7
  obtain ⟨a7, e7, _, w7⟩ := DataW.trod_int Tryz.underlying3 g7
  have z7 := cell_of e7
  have hcs : cs = #[.int .i64 a0, .int .i64 a1, .int .i64 a2, .int .i64 a3, .int .i64 a4, .float .f64 a5, .int .i64 a6, .int .i64 a7] := by
    apply Array.ext_getElem?
    intro i
    rw [← Array.getElem?_toList]
    by_cases hi : i < 8
    · match i, hi with
      | 0, _ => rw [z0]; rfl
      | 1, _ => rw [z1]; rfl
      | 2, _ => rw [z2]; rfl
      | 3, _ => rw [z3]; rfl
      | 4, _ => rw [z4]; rfl
      | 5, _ => rw [z5]; rfl
      | 6, _ => rw [z6]; rfl
      | 7, _ => rw [z7]; rfl
    rw [List.getElem?_eq_none (by omega), Array.getElem?_eq_none (by simp; omega)]
  subst hcs
  exact ⟨a0, a1, a2, a3, a4, a5, a6, a7, rfl, ⟨wf9 w0, wf9 w1, wf9 w2, wf9 w3, wf9 w4, by simpa [Lit.wf] using w5, wf9 w6, wf9 w7⟩⟩
end Go.Proofs.YtchomkadekikdaaGreatDoor
namespace Go.Proofs.YtchomkadekikdaaGreatDoor
open Go.RowKit Go.ChangeShapes
set_option maxRecDepth 100000
set_option linter.unusedVariables false
def tabZ9 : List Int := [0, 1, 56, 2, 57, 49, 28, 3, 61, 58, 42, 50, 38, 29, 17, 4, 62, 47, 59, 36, 45, 43, 51, 22, 53, 39, 33, 30, 24, 18, 12, 5, 63, 55, 48, 27, 60, 41, 37, 16, 46, 35, 44, 21, 52, 32, 23, 11, 54, 26, 40, 15, 34, 20, 31, 10, 25, 14, 19, 9, 13, 8, 7, 6]
theorem tabZ9_at : ∀ j, j < 64 → tabZ9.getD j 0 = ((Lib.deBruijn64tab.getD j 0 : Nat) : Int) := by decide +kernel
theorem kind_str (i : Nat) (s : ByteArray) (h : s.data.toList = (kindT i).data.toList) : s = kindT i := by
  cases s
  generalize kindT i = k at h
  cases k
  congr
  exact Array.toList_inj.1 h
theorem trod_ifc {H : Type} {enc : TypeId × Value → H} {P : Program} {w : World} {base : Nat} {spare : Nat → Bool} {held : Bool} {t : TypeId} {fuel : Nat} {cs : List Value} {x : DataW H × List MemPlace} {ms : Array (String × TypeId)} (ht : P.underlying t = some (.interface ms)) (h : DataW.trod enc P w base spare held fuel t cs = some x) : ∃ ev, cs = [ev] ∧ (ev = .nilIface ∨ ∃ te pe, ev = .iface te pe) := by
  cases fuel with
  | zero => simp [DataW.trod] at h
  | succ n =>
    unfold DataW.trod at h
    rw [ht] at h
    split at h <;> simp_all
theorem vs_of {W : World} (h : laidMet Tryz.prog [("math/bits.deBruijn32tab", Rows.laid_math_bits_deBruijn32tab), ("math/bits.deBruijn64tab", Rows.laid_math_bits_deBruijn64tab), ("internal/strconv.uint64pow10", Rows.laid_internal_strconv_uint64pow10), ("strconv.ErrRange", Rows.laid_strconv_ErrRange), ("strconv.ErrSyntax", Rows.laid_strconv_ErrSyntax), ("millrace/conf.kindNames", Rows.laid_millrace_conf_kindNames)] W) : Vs9 W := by
  have h1 := laidMet.tail h
  have h2 := laidMet.tail h1
  have h3 := laidMet.tail h2
  have h4 := laidMet.tail h3
  have h5 := laidMet.tail h4
  have gT : Tryz.prog.globalNamed "math/bits.deBruijn64tab" = some 4 := by kernel_rfl
  have hT := Lib.tabIs_of_head (k := .u8) (zs := tabZ9) gT (by kernel_rfl) Tryz.underlying248 Tryz.underlying5 (by kernel_rfl) (by kernel_rfl) h1
  have hP := Lib.tabIs_of_head (k := .u64) (zs := Lib.pow10Tab) (show Tryz.prog.globalNamed "internal/strconv.uint64pow10" = some 3 by kernel_rfl) (by kernel_rfl) Tryz.underlying244 Tryz.underlying78 (by kernel_rfl) (by kernel_rfl) h2
  have gS : Tryz.prog.globalNamed "strconv.ErrSyntax" = some 5 := by kernel_rfl
  have gR : Tryz.prog.globalNamed "strconv.ErrRange" = some 6 := by kernel_rfl
  have gK : Tryz.prog.globalNamed "millrace/conf.kindNames" = some 0 := by kernel_rfl
  have one : ∀ (n : String) (d : DataW Unit) (r : List (String × DataW Unit)) (g : Nat), laidMet Tryz.prog ((n, d) :: r) W → Tryz.prog.globalNamed n = some g → (Tryz.prog.globals[g]?).map (·.type) = some 128 → ∃ ev, W.cell? ⟨g, 0, none⟩ = some ev ∧ (ev = .nilIface ∨ ∃ te pe, ev = .iface te pe) := by
    intro n d r g hl hg ht
    obtain ⟨ps, ⟨g0, t0, cs, fuel, p, q, hg0, ht0, hv, hd, _, _⟩, _⟩ := hl
    obtain rfl := Option.some.inj (hg.symm.trans hg0)
    obtain rfl := Option.some.inj (ht.symm.trans ht0)
    obtain ⟨ev, he, hk⟩ := trod_ifc Tryz.underlying128 hd
    refine ⟨ev, ?_, hk⟩
    have c := World.var?_cell hg hv 0
    have e : cs[0]? = some ev := by
      rw [← Array.getElem?_toList, he]
      rfl
    exact (c.trans e)
  have tS : (Tryz.prog.globals[5]?).map (·.type) = some 128 := by kernel_rfl
  have tR : (Tryz.prog.globals[6]?).map (·.type) = some 128 := by kernel_rfl
  refine ⟨?_, ⟨one _ _ _ _ h4 gS tS, one _ _ _ _ h3 gR tR⟩, ?_, hP⟩
  · obtain ⟨ps, ⟨g0, t0, cs, fuel, p, q, hg0, ht0, hv, hd, _, _⟩, _⟩ := h5
    obtain rfl := Option.some.inj (gK.symm.trans hg0)
    obtain rfl := Option.some.inj ((show (Tryz.prog.globals[0]?).map (·.type) = some 58 by kernel_rfl).symm.trans ht0)
    intro i hi
    obtain ⟨fuel', d, q', hd1, hd2⟩ := Lib.array_elem Tryz.underlying58 hd i hi
    rw [show Tryz.prog.cellsOf 9 = 1 by kernel_rfl, Nat.mul_one] at hd2
    obtain ⟨s, hs1, hs2, _⟩ := DataW.trod_string Tryz.underlying9 hd2
    have c := World.var?_cell gK hv i
    have e := cell_of hs1
    rw [Array.getElem?_toList] at e
    rw [c.trans e]
    have hd3 : d = .lit (.string s.data.toList) := congrArg Prod.fst hs2
    rw [hd3] at hd1
    congr 2
    refine kind_str i s ?_
    match i, hi, hd1 with
    | 0, _, hd1 => injection hd1 with hd1; injection hd1 with hd1; injection hd1 with hd1; exact hd1.symm
    | 1, _, hd1 => injection hd1 with hd1; injection hd1 with hd1; injection hd1 with hd1; exact hd1.symm
    | 2, _, hd1 => injection hd1 with hd1; injection hd1 with hd1; injection hd1 with hd1; exact hd1.symm
    | 3, _, hd1 => injection hd1 with hd1; injection hd1 with hd1; injection hd1 with hd1; exact hd1.symm
    | 4, _, hd1 => injection hd1 with hd1; injection hd1 with hd1; injection hd1 with hd1; exact hd1.symm
    | 5, _, hd1 => injection hd1 with hd1; injection hd1 with hd1; injection hd1 with hd1; exact hd1.symm
    | 6, _, hd1 => injection hd1 with hd1; injection hd1 with hd1; injection hd1 with hd1; exact hd1.symm
  intro j hj
  have hj2 : j < 64 := hj
  have hc := hT.cell gT j (show j < tabZ9.length from hj2)
  rw [← tabZ9_at j hj2]
  exact hc
end Go.Proofs.YtchomkadekikdaaGreatDoor
