/- Contracts of the program's functions, part 27: own work, joined in build order. -/
import Derived.Test.YtchomkadekikdaaGreatDoorJ26
import Derived.Handy
namespace Go.Proofs.YtchomkadekikdaaGreatDoor
open Go.RowKit
set_option maxRecDepth 100000
set_option linter.unusedVariables false
set_option maxHeartbeats 4000000 in
theorem rtext_pos (v : Value) (x : Nat) (w : World) (h : RNat w v x) (hx : RFits x) (hx0 : x ≠ 0) :
    Calls Tryz.prog 80 #[v] w (Texts w x) := by
  obtain ⟨ax, n, cap, rfl⟩ := h.isAgg
  have hn0 : n ≠ 0 := fun e => hx0 ((rnat_len0 h).1 e)
  obtain ⟨gb, o, rfl⟩ : ∃ gb o, ax = some ⟨gb, o, none⟩ := by
    obtain ⟨F, hs, _⟩ := h.open
    obtain ⟨b, o, e, _⟩ := hs.at 0 (by omega)
    exact ⟨b, o, e⟩
  have HH : Hid (RNat w (.agg #[.slice (some ⟨gb, o, none⟩) n cap]) x ∧ RFits x) := ⟨h, hx⟩
  clear h hx hn0
  go_enter Tryz.func80, Tryz.ntmps80
  go_wp2_with fail
  refine (rzero_any _ x _ (HH.out.1.mono (bel_al (bel_refl w))) HH.out.2).mono ?_
  rintro e w1 ⟨rfl, hb1⟩
  have hz : decide (x = 0) = false := decide_eq_false hx0
  have c1 : w1.cell? ⟨w.heap.size, 0, none⟩ = some (.slice (some ⟨gb, o, none⟩) n cap) := cell_later hb1 (by simp [go_sem])
  have f1 : w1.frozen? ⟨w.heap.size, 0, none⟩ = false := (hb1.frozen (by simp)).trans (by simp [go_sem])
  have T0 : Hid (TO w w1 x (.slice none 0 0) gb o n cap 0 x) := ⟨c1, f1, (HH.out.1.mono (bel_al (bel_refl w))).mono hb1, ⟨by simp, .inl rfl⟩, OR.nil _ _ _ _, bel_go (bel_al (bel_refl w)) hb1⟩
  clear hb1 c1 f1
  go_wp2_with fail
  go_loopw [3] (fun l wr => ∃ (gb o n cap K y : Nat), Hid (TO w wr x l gb o n cap K y)) (fun l _ => 137438953480 - lenOf l)
  case atStart => exact ⟨gb, o, n, cap, 0, x, T0⟩
  case round =>
    clear T0 hz
    obtain ⟨gb, o, n, cap, K, y, hT⟩ := hrel
    have cx := hT.out.cx
    have hlo : Hid (lenOf u3 = K) := hT.out.own.len
    go_wp2_with fail
    refine (rzero_any _ y _ hT.out.num (HH.out.2.le hT.out.td.le)).mono ?_
    rintro e w2 ⟨rfl, hb2⟩
    have T2 : Hid (TO w w2 x u3 gb o n cap K y) := hT.out.go hb2
    clear hb2 cx hT
    by_cases hy0 : y = 0
    · have hz : decide (y = 0) = true := decide_eq_true hy0
      have DL : Hid (DecLen x K) := (hy0 ▸ T2.out.td).done hx0
      have hK0 : K ≠ 0 := by have := DL.out.1; omega
      have hKs : K ≤ 137438953473 := T2.out.td.short HH.out.2
      obtain ⟨gl, cl, rfl, hcl⟩ := T2.out.own.at hK0
      have CL : Hid _ := hcl
      have hKI : IntKind.i64.wrap ((K : Int) - 1) = (K : Int) - 1 := by rw [IntKind.wrap_i64]; omega
      have BB : Hid (Below w.heap.size w w2) := T2.out.bel
      clear hcl hy0 T2 hlo
      go_wp2_with fail
      go_loopw [7, 8] (fun b t wr => ∃ (m : Nat), m ≤ K ∧ t = .int .i64 (((K - m : Nat) : Int) - 1) ∧ Hid (OR wr 5 w2.heap.size b m (bd (fun j => decAt x (K - 1 - j))) ∧ Below w2.heap.size w2 wr)) (fun _ t _ => (intOf t + 1).toNat)
      case atStart => exact ⟨0, by omega, rfl, ⟨OR.nil _ _ _ _, Below.refl _ _⟩⟩
      case round =>
        obtain ⟨m, hm, rfl, hO⟩ := hrel
        by_cases hmK : m < K
        · obtain ⟨i, hi⟩ : ∃ i, i = K - m - 1 := ⟨_, rfl⟩
          have hidx : ((K - m : Nat) : Int) - 1 = (i : Int) := by omega
          have hiK : i < K := by omega
          have hci : wr.cell? ⟨gl, i, none⟩ = some (.int .u8 ((decAt x i : Nat) : Int)) := cell_later hO.out.2 (CL.out i hiK)
          rw [hidx]
          have hwi : IntKind.i64.wrap ((i : Int) - 1) = (i : Int) - 1 := by rw [IntKind.wrap_i64]; omega
          have HI : Hid (i = K - m - 1) := hi
          obtain ⟨d, ed⟩ : ∃ d, d = decAt x i := ⟨_, rfl⟩
          have ED : Hid (d = decAt x i) := ed
          rw [← ed] at hci
          clear hidx hi ed
          go_wp2_with (refine (id ?_ : wpList Tryz.prog _ _ (⟨some 55, _, _, _, _, _⟩ :: _) _ _); refine hold ?_)
          intro _
          refine wpList_append_one rfl (.tmp 49) (.tmp 54) 123 rfl 5 (.int .u8 0) 1 Tryz.underlying123 Tryz.info5 rfl (by omega) w2.heap.size _ m (bd (fun j => decAt x (K - 1 - j))) rfl (hO.out.1.below (bel_al (bel_refl wr))) _ _ rfl _ (cell_new wr (.int .u8 (d : Int)) 5) rfl (by omega) (Nat.le_trans hO.out.2.size (bel_al (bel_refl wr) (o := .cells #[.int .u8 (d : Int)] 5)).size) ?_
          intro g2 cap2 w9 ho hg2 _ _
          have S : Hid (OR w9 5 w2.heap.size (.slice (some ⟨g2, 0, none⟩) (m + 1) cap2) (m + 1) (bd (fun j => decAt x (K - 1 - j))) ∧ Below w2.heap.size w2 w9) := by
            refine ⟨OR.congr ho fun j hj => ?_, ((hO.out.2.alloc hO.out.2.size _).grown hg2 (Nat.le_trans hO.out.2.size (bel_al (bel_refl wr)).size) hO.out.1.blk)⟩
            split
            · rename_i e
              rw [e, ED.out]
              show Value.int .u8 ((decAt x i : Nat) : Int) = Value.int .u8 ((decAt x (K - 1 - m) : Nat) : Int)
              rw [HI.out, show K - m - 1 = K - 1 - m by omega]
            rfl
          clear ho hg2
          go_wp2_with fail
          go_roundw
          case rel => exact ⟨m + 1, by omega, by have := HI.out; go_num, S⟩
          case measure => simp [intOf]
        obtain rfl : m = K := by omega
        have hneg : ((m - m : Nat) : Int) - 1 = -1 := by omega
        rw [hneg]
        obtain ⟨g3, c3, rfl, cv⟩ := conv_or hO.out.1 hK0
        have B3 : Hid (Below w.heap.size w wr) := bel_go BB.out hO.out.2
        clear hneg
        go_wp2_with fail
        go_ret
        exact ⟨m, rfl, DL.out, B3.out⟩
    have hz2 : decide (y = 0) = false := decide_eq_false hy0
    have cx := T2.out.cx
    go_wp2_with fail
    refine (rsmall_at (some ⟨gb, o, none⟩) n cap y 1000000000 w2 T2.out.num (HH.out.2.le T2.out.td.le) (by omega) (by omega) hy0).mono ?_
    rintro e w3 ⟨k3, rfl, hv3, hb3⟩
    have I0 : Hid _ := T2.out.start hb3 hv3 73
    have TY : Hid (TD x K y ∧ y ≠ 0) := ⟨T2.out.td, hy0⟩
    clear hb3 hv3 cx T2 hy0
    go_wp2_with fail
    obtain ⟨w4, hw4⟩ : ∃ w4, w4 = w3.alloc (.cells #[.slice (some ⟨w2.heap.size + 1 + 1, 0, none⟩) k3 n] 73) := ⟨_, rfl⟩
    rw [← hw4] at I0 ⊢
    clear hw4
    obtain ⟨bq, hbq⟩ : ∃ bq, bq = w3.heap.size := ⟨_, rfl⟩
    obtain ⟨gq, hgq⟩ : ∃ gq, gq = w2.heap.size + 1 + 1 := ⟨_, rfl⟩
    rw [← hbq, ← hgq] at I0
    simp only [← hbq, ← hgq]
    obtain ⟨q, eq⟩ : ∃ q, q = y / 1000000000 := ⟨_, rfl⟩
    rw [← eq] at I0
    have EQ : Hid (q = y / 1000000000) := eq
    clear hbq hgq eq
    go_loopw [3, 5, 6] (fun l r k wi => ∃ (kk rr : Nat), kk ≤ 9 ∧ k = .int .i64 (kk : Int) ∧ r = .int .u64 (rr : Int) ∧ Hid (TI w wi x l bq gq k3 n K kk (q) rr)) (fun _ _ k _ => 9 - (intOf k).toNat)
    case atStart => exact ⟨0, y % 1000000000, by omega, rfl, rfl, I0⟩
    case round =>
      clear I0
      obtain ⟨kk, rr, hk, rfl, rfl, hI⟩ := hrel
      by_cases hk9 : kk < 9
      · have hk9' : decide ((kk : Int) < 9) = true := decide_eq_true (by omega)
        have hrl : rr < 1000000000 := Nat.lt_of_lt_of_le hI.out.lt (Nat.pow_le_pow_right (by decide) (show 9 - kk ≤ 9 by omega))
        by_cases hr0 : rr = 0
        · have hr1 : decide (0 < (rr : Int)) = false := decide_eq_false (by omega)
          have hr2 : decide (0 < rr) = false := decide_eq_false (by omega)
          have HR0 : Hid (rr = 0) := hr0
          clear hr0
          have cb := hI.out.cb
          go_wp2_with fail
          refine (rzero_any _ (q) _ hI.out.num (HH.out.2.le (Nat.le_trans (by rw [EQ.out]; exact Nat.div_le_self _ _) TY.out.1.le))).mono ?_
          rintro e w7 ⟨rfl, hb7⟩
          have I7 : Hid (TI w w7 x u3 bq gq k3 n K kk (q) rr) := hI.out.go hb7
          clear hb7 hI cb
          by_cases hq0 : q = 0
          · have hqd : decide (q = 0) = true := decide_eq_true hq0
            have HQ0 : Hid (q = 0) := hq0
            clear hq0
            have hq : Hid (TD x (K + kk) (q)) := by have := I7.out.td; rw [HR0.out, HQ0.out, Nat.zero_mul, Nat.add_zero] at this; rw [HQ0.out]; exact this
            have hpos : 0 < kk := by
              rcases Nat.eq_zero_or_pos kk with e | e
              · exfalso
                have h5 := I7.out.td.left
                rw [HR0.out, HQ0.out, e, Nat.zero_mul, Nat.add_zero] at h5
                exact TY.out.2 (TY.out.1.left.symm.trans h5)
              exact e
            have hKk : K + kk ≤ 137438953473 := hq.out.short HH.out.2
            obtain ⟨⟨u1, u2, u4⟩, hu⟩ := I7.out.cx
            have fu := I7.out.fx
            have cq := I7.out.cb
            have T9 : Hid (TO w (w7.setCell ⟨w.heap.size, 0, none⟩ (.slice (some ⟨gq, 0, none⟩) k3 n)) x u3 gq 0 k3 n (K + kk) (q)) := I7.out.out hu hq.out
            have hle : Hid (lenOf u3 = K + kk) := I7.out.own.len
            go_wp2_with fail
            go_roundw
            case rel => exact ⟨gq, 0, k3, n, K + kk, q, T9⟩
            case measure =>
              show 137438953480 - lenOf u3 < 137438953480 - lenOf _
              rw [hle.out, hlo.out]
              omega
          have hqd : decide (q = 0) = false := decide_eq_false hq0
          have c1 : IntKind.u64.wrap (48 + (rr : Int) % 10) = 48 + (rr : Int) % 10 := by rw [IntKind.wrap_u64]; omega
          have c2 : IntKind.u8.wrap (48 + (rr : Int) % 10) = 48 + (rr : Int) % 10 := by rw [IntKind.wrap_u8]; omega
          have hKk : K + kk + 1 ≤ 1099511627776 := by have := I7.out.td.short HH.out.2; omega
          go_wp2_with (refine (id ?_ : wpList Tryz.prog _ _ (⟨some 38, _, _, _, _, _⟩ :: _) _ _); refine hold ?_)
          intro _
          have JA : Hid (TI w (w7.alloc (.cells #[.int .u8 (48 + (rr : Int) % 10)] 5)) x u3 bq gq k3 n K kk (q) rr) := I7.out.go (bel_al (bel_refl w7))
          refine wpList_append_one rfl (.tmp 32) (.tmp 37) 123 rfl 5 (.int .u8 0) 1 Tryz.underlying123 Tryz.info5 rfl (by omega) (w.heap.size + 1) _ (K + kk) (bd (decAt x)) rfl JA.out.own _ _ rfl _ (cell_new w7 (.int .u8 (48 + (rr : Int) % 10)) 5) rfl hKk JA.out.size ?_
          intro g2 cap2 w9 ho hg2 hw2 _
          rw [show (48 + (rr : Int) % 10) = ((48 + rr % 10 : Nat) : Int) by omega] at ho
          have S : Hid _ := JA.out.step hk9 (.inr hq0) ho hg2 (hw2.imp id (fun e => Nat.le_of_eq e.symm))
          clear ho hg2 hw2 JA c1 c2
          go_wp2_with fail
          go_roundw
          case rel => exact ⟨kk + 1, rr / 10, by omega, by go_num, by go_num, S⟩
          case measure => simp [intOf]; omega
        have hr1 : decide (0 < (rr : Int)) = true := decide_eq_true (by omega)
        have hr2 : decide (0 < rr) = true := decide_eq_true (by omega)
        have c1 : IntKind.u64.wrap (48 + (rr : Int) % 10) = 48 + (rr : Int) % 10 := by rw [IntKind.wrap_u64]; omega
        have c2 : IntKind.u8.wrap (48 + (rr : Int) % 10) = 48 + (rr : Int) % 10 := by rw [IntKind.wrap_u8]; omega
        have hKk : K + kk + 1 ≤ 1099511627776 := by have := hI.out.td.short HH.out.2; omega
        go_wp2_with (refine (id ?_ : wpList Tryz.prog _ _ (⟨some 38, _, _, _, _, _⟩ :: _) _ _); refine hold ?_)
        intro _
        have JA : Hid (TI w (wr.alloc (.cells #[.int .u8 (48 + (rr : Int) % 10)] 5)) x u3 bq gq k3 n K kk (q) rr) := hI.out.go (bel_al (bel_refl wr))
        refine wpList_append_one rfl (.tmp 32) (.tmp 37) 123 rfl 5 (.int .u8 0) 1 Tryz.underlying123 Tryz.info5 rfl (by omega) (w.heap.size + 1) _ (K + kk) (bd (decAt x)) rfl JA.out.own _ _ rfl _ (cell_new wr (.int .u8 (48 + (rr : Int) % 10)) 5) rfl hKk JA.out.size ?_
        intro g2 cap2 w9 ho hg2 hw2 _
        rw [show (48 + (rr : Int) % 10) = ((48 + rr % 10 : Nat) : Int) by omega] at ho
        have S : Hid _ := JA.out.step hk9 (.inl hr0) ho hg2 (hw2.imp id (fun e => Nat.le_of_eq e.symm))
        clear ho hg2 hw2 JA c1 c2
        go_wp2_with fail
        go_roundw
        case rel => exact ⟨kk + 1, rr / 10, by omega, by go_num, by go_num, S⟩
        case measure => simp [intOf]; omega
      have e9 : kk = 9 := by omega
      have hk9' : decide ((kk : Int) < 9) = false := decide_eq_false (by omega)
      have hr0 : rr = 0 := by
        have := hI.out.lt
        rw [e9] at this
        simpa using this
      have HE9 : Hid (rr = 0 ∧ kk = 9) := ⟨hr0, e9⟩
      clear hr0 e9
      have hq : Hid (TD x (K + kk) (q)) := by have := hI.out.td; rw [HE9.out.1, HE9.out.2, show 9 - 9 = 0 from rfl, Nat.pow_zero, Nat.mul_one, Nat.add_zero] at this; rw [HE9.out.2]; exact this
      have hpos : 0 < kk := by have := HE9.out.2; omega
      have hKk : K + kk ≤ 137438953473 := hq.out.short HH.out.2
      obtain ⟨⟨u1, u2, u4⟩, hu⟩ := hI.out.cx
      have fu := hI.out.fx
      have cq := hI.out.cb
      have T9 : Hid (TO w (wr.setCell ⟨w.heap.size, 0, none⟩ (.slice (some ⟨gq, 0, none⟩) k3 n)) x u3 gq 0 k3 n (K + kk) (q)) := hI.out.out hu hq.out
      have hle : Hid (lenOf u3 = K + kk) := hI.out.own.len
      go_wp2_with fail
      go_roundw
      case rel => exact ⟨gq, 0, k3, n, K + kk, q, T9⟩
      case measure =>
        show 137438953480 - lenOf u3 < 137438953480 - lenOf _
        rw [hle.out, hlo.out]
        omega
theorem rtext_any (v : Value) (x : Nat) (w : World) (h : RNat w v x) (hx : RFits x) : Calls Tryz.prog 80 #[v] w (Texts w x) := by
  rcases Nat.eq_zero_or_pos x with e | e
  · subst e
    exact rtext_zero v w h
  exact rtext_pos v x w h hx (by omega)
theorem rtext_k (v : Value) (x k : Nat) (w : World) (h : RNat w v x) (hx : RFits x) (hk : DecLen x k) : Calls Tryz.prog 80 #[v] w fun e w' => e = .returned (.string (decText x k)) ∧ Below w.heap.size w w' := by
  refine (rtext_any v x w h hx).mono ?_
  rintro e w' ⟨l, rfl, hl, hb⟩
  rw [hl.unique hk]
  exact ⟨rfl, hb⟩
theorem cmpI_zero {x y : Nat} : cmpI x y = 0 ↔ x = y := by
  unfold cmpI
  split
  · constructor <;> intro h <;> omega
  split
  · constructor <;> intro h <;> omega
  constructor <;> intro h <;> omega
set_option maxHeartbeats 1000000 in
theorem rformat_any (v : Value) (p q k l : Nat) (w : World) (h : RRt w v p q) (hp : RS p) (hq : RS q) (hk : DecLen p k) (hl : DecLen q l) :
    Calls Tryz.prog 34 #[v] w fun e w' => e = .returned (.string (fmtT p q k l)) ∧ Below w.heap.size w w' := by
  have HH : Hid (RS p ∧ RS q ∧ DecLen p k ∧ DecLen q l) := ⟨hp, hq, hk, hl⟩
  have kp := dec_len hk (P_up hp.lt (by omega))
  have kq := dec_len hl (P_up hq.lt (by omega))
  have sp : (decText p k).size = k := text_size _ _
  have sq : (decText q l).size = l := text_size _ _
  have m1 : (decText p k).size ≤ 9223372036854775806 := by omega
  have m2 : (decText p k).size + 1 + (decText q l).size ≤ 9223372036854775807 := by omega
  clear hp hq hk hl kp kq sp sq
  have h' := h
  obtain ⟨a1, n1, c1, a2, n2, c2, e0, hP, hQ⟩ := h'
  subst e0
  have S1 : Hid _ := (((sy_start w).addM hP).addM hQ).box (.slice a1 n1 c1) (.slice a2 n2 c2) 75 _ rfl
  clear hP hQ h
  obtain ⟨z, hz⟩ : ∃ z, cmpI q 1 = z := ⟨_, rfl⟩
  have HZ : Hid (cmpI q 1 = z) := hz
  by_cases h1 : q = 1
  · have z1 : z = 0 := by rw [← hz]; exact cmpI_zero.2 h1
    have HV : Hid (fmtT p q k l = decText p k) := by show _ = _; unfold fmtT; rw [if_pos h1]
    clear h1 hz
    go_enter Tryz.func34, Tryz.ntmps34
    go_wp2_with fail
    obtain ⟨w1, ew⟩ : ∃ w1, w1 = w.alloc (.cells #[.slice a1 n1 c1, .slice a2 n2 c2] 75) := ⟨_, rfl⟩
    obtain ⟨g, eb⟩ : ∃ g, g = w.heap.size := ⟨_, rfl⟩
    rw [← ew, ← eb] at S1
    rw [← ew, ← eb]
    clear ew eb
    refine wp_region_inv (JB w1 [sEq (.pointer (some ⟨g, 1, none⟩)), sR (q), sR (1), sEq (.int .i64 z), sEq (.bool true)] []) 19 (by kernel_rfl) rfl (by kernel_rfl) (JB.start _ _ _) (fun HG HN => ⟨?_, ?_, ?_, ?_, ?_, trivial⟩) ?_
    · intro L vs a w' hJ hF hP hL
      have q1 : (a.tmps[1]?).getD undef = .pointer (some ⟨g, 0, none⟩) := hF.old 1 rfl
      exact run_val (v := .pointer (some ⟨g, 1, none⟩)) rfl (by simp [execOp, go_sem, q1]) ⟨_, rfl, hJ.step hL rfl (Below.refl _ _) (by exact rfl)⟩
    · intro L vs a w' hJ hF hP hL
      have p0 : L 0 = true := hP ⟨0, .data⟩ (by simp) rfl
      have s0 : vs 0 = .pointer (some ⟨g, 1, none⟩) := hJ.sp 0 p0
      have q3 := hF.slot 0 3 rfl p0
      have cb := cell_later hJ.bel (S1.out.cel (g) 1 (.slice a2 n2 c2))
      exact run_val (v := .agg #[.slice a2 n2 c2]) rfl (by simp [execOp, go_sem, q3, s0, cb]) ⟨_, rfl, hJ.step hL rfl (Below.refl _ _) (by exact ((S1.out.rat (.agg #[.slice a2 n2 c2]) (q)).mono hJ.bel))⟩
    · intro L vs a w' hJ hF hP hL
      refine run_call (f := 75) (args := #[.int .u64 1]) rfl (by simp [go_sem]) (rof_any 1 _ (by omega)) ?_
      rintro e w2 ⟨v, rfl, hv, hb⟩
      exact ⟨_, rfl, _, rfl, hJ.step hL rfl hb (by exact hv)⟩
    · intro L vs a w' hJ hF hP hL
      have p1 : L 1 = true := hP ⟨1, .data⟩ (by simp) rfl
      have s1 : RNat w' (vs 1) (q) := hJ.sp 1 p1
      have q4 := hF.slot 1 4 rfl p1
      have p2 : L 2 = true := hP ⟨2, .data⟩ (by simp) rfl
      have s2 : RNat w' (vs 2) (1) := hJ.sp 2 p2
      have q5 := hF.slot 2 5 rfl p2
      refine run_call (f := 79) (args := #[vs 1, vs 2]) rfl (by simp [go_sem, q4, q5]) (rcmp_any _ _ q 1 _ s1 s2 HH.out.2.1.rfits (rs_word (by omega)).rfits) ?_
      rintro e w2 ⟨rfl, hb⟩
      rw [HZ.out]
      exact ⟨_, rfl, _, rfl, hJ.step hL rfl hb (by exact rfl)⟩
    · intro L vs a w' hJ hF hP hL
      have p3 : L 3 = true := hP ⟨3, .data⟩ (by simp) rfl
      have s3 : vs 3 = .int .i64 z := hJ.sp 3 p3
      have q6 := hF.slot 3 6 rfl p3
      exact run_val (v := .bool true) rfl (by simp [execOp, go_sem, q6, s3, z1]) ⟨_, rfl, hJ.step hL rfl (Below.refl _ _) (by exact rfl)⟩
    intro L vs w' hA hJ
    have s4 : vs 4 = .bool true := hJ.sp 4 (hA 4 (by simp))
    simp only [putL, Act.put, List.setIfInBounds_toArray, List.set_cons_zero, List.set_cons_succ, Nat.reduceAdd]
    simp only [s4]
    obtain ⟨w2, ew⟩ : ∃ w2, w2 = w' := ⟨_, rfl⟩
    have S2 : Hid _ := S1.out.go hJ.bel
    rw [← ew] at S2
    rw [← ew]
    clear ew s4 hJ hA S1
    have y0 := S2.out.cel g 0 (.slice a1 n1 c1)
    go_wp2_with fail
    refine (rtext_k _ p k _ (S2.out.rat (.agg #[.slice a1 n1 c1]) p) HH.out.1.rfits HH.out.2.2.1).mono ?_
    rintro e w3 ⟨rfl, hb⟩
    have HB : Hid (Below w.heap.size w w3) := (S2.out.go hb).bel
    clear hb S2 y0
    go_wp2_with fail
    go_ret
    rw [HV.out]
    exact ⟨rfl, HB.out⟩
  have z1 : ¬ z = 0 := by rw [← hz]; exact fun e => h1 (cmpI_zero.1 e)
  have HV : Hid (fmtT p q k l = decText p k ++ ⟨#[47]⟩ ++ decText q l) := by show _ = _; unfold fmtT; rw [if_neg h1]
  clear h1 hz
  go_enter Tryz.func34, Tryz.ntmps34
  go_wp2_with fail
  obtain ⟨w1, ew⟩ : ∃ w1, w1 = w.alloc (.cells #[.slice a1 n1 c1, .slice a2 n2 c2] 75) := ⟨_, rfl⟩
  obtain ⟨g, eb⟩ : ∃ g, g = w.heap.size := ⟨_, rfl⟩
  rw [← ew, ← eb] at S1
  rw [← ew, ← eb]
  clear ew eb
  refine wp_region_inv (JB w1 [sEq (.pointer (some ⟨g, 1, none⟩)), sR (q), sR (1), sEq (.int .i64 z), sEq (.bool false)] []) 19 (by kernel_rfl) rfl (by kernel_rfl) (JB.start _ _ _) (fun HG HN => ⟨?_, ?_, ?_, ?_, ?_, trivial⟩) ?_
  · intro L vs a w' hJ hF hP hL
    have q1 : (a.tmps[1]?).getD undef = .pointer (some ⟨g, 0, none⟩) := hF.old 1 rfl
    exact run_val (v := .pointer (some ⟨g, 1, none⟩)) rfl (by simp [execOp, go_sem, q1]) ⟨_, rfl, hJ.step hL rfl (Below.refl _ _) (by exact rfl)⟩
  · intro L vs a w' hJ hF hP hL
    have p0 : L 0 = true := hP ⟨0, .data⟩ (by simp) rfl
    have s0 : vs 0 = .pointer (some ⟨g, 1, none⟩) := hJ.sp 0 p0
    have q3 := hF.slot 0 3 rfl p0
    have cb := cell_later hJ.bel (S1.out.cel (g) 1 (.slice a2 n2 c2))
    exact run_val (v := .agg #[.slice a2 n2 c2]) rfl (by simp [execOp, go_sem, q3, s0, cb]) ⟨_, rfl, hJ.step hL rfl (Below.refl _ _) (by exact ((S1.out.rat (.agg #[.slice a2 n2 c2]) (q)).mono hJ.bel))⟩
  · intro L vs a w' hJ hF hP hL
    refine run_call (f := 75) (args := #[.int .u64 1]) rfl (by simp [go_sem]) (rof_any 1 _ (by omega)) ?_
    rintro e w2 ⟨v, rfl, hv, hb⟩
    exact ⟨_, rfl, _, rfl, hJ.step hL rfl hb (by exact hv)⟩
  · intro L vs a w' hJ hF hP hL
    have p1 : L 1 = true := hP ⟨1, .data⟩ (by simp) rfl
    have s1 : RNat w' (vs 1) (q) := hJ.sp 1 p1
    have q4 := hF.slot 1 4 rfl p1
    have p2 : L 2 = true := hP ⟨2, .data⟩ (by simp) rfl
    have s2 : RNat w' (vs 2) (1) := hJ.sp 2 p2
    have q5 := hF.slot 2 5 rfl p2
    refine run_call (f := 79) (args := #[vs 1, vs 2]) rfl (by simp [go_sem, q4, q5]) (rcmp_any _ _ q 1 _ s1 s2 HH.out.2.1.rfits (rs_word (by omega)).rfits) ?_
    rintro e w2 ⟨rfl, hb⟩
    rw [HZ.out]
    exact ⟨_, rfl, _, rfl, hJ.step hL rfl hb (by exact rfl)⟩
  · intro L vs a w' hJ hF hP hL
    have p3 : L 3 = true := hP ⟨3, .data⟩ (by simp) rfl
    have s3 : vs 3 = .int .i64 z := hJ.sp 3 p3
    have q6 := hF.slot 3 6 rfl p3
    exact run_val (v := .bool false) rfl (by simp [execOp, go_sem, q6, s3, z1]) ⟨_, rfl, hJ.step hL rfl (Below.refl _ _) (by exact rfl)⟩
  intro L vs w' hA hJ
  have s4 : vs 4 = .bool false := hJ.sp 4 (hA 4 (by simp))
  simp only [putL, Act.put, List.setIfInBounds_toArray, List.set_cons_zero, List.set_cons_succ, Nat.reduceAdd]
  simp only [s4]
  obtain ⟨w2, ew⟩ : ∃ w2, w2 = w' := ⟨_, rfl⟩
  have S2 : Hid _ := S1.out.go hJ.bel
  rw [← ew] at S2
  rw [← ew]
  clear ew s4 hJ hA S1
  go_wp2_with fail
  refine wp_region_inv (JB w2 [sEq (.pointer (some ⟨g, 0, none⟩)), sR (p), sEq (.string (decText p k)), sEq (.string (decText p k ++ ⟨#[47]⟩)), sEq (.pointer (some ⟨g, 1, none⟩)), sR (q), sEq (.string (decText q l)), sEq (.string (decText p k ++ ⟨#[47]⟩ ++ decText q l)), sEq (.string (decText p k ++ ⟨#[47]⟩ ++ decText q l))] []) 19 (by kernel_rfl) rfl (by kernel_rfl) (JB.start _ _ _) (fun HG HN => ⟨?_, ?_, ?_, ?_, ?_, ?_, ?_, ?_, ?_, trivial⟩) ?_
  · intro L vs a w' hJ hF hP hL
    have q1 : (a.tmps[1]?).getD undef = .pointer (some ⟨g, 0, none⟩) := hF.old 1 rfl
    exact run_val (v := .pointer (some ⟨g, 0, none⟩)) rfl (by simp [execOp, go_sem, q1]) ⟨_, rfl, hJ.step hL rfl (Below.refl _ _) (by exact rfl)⟩
  · intro L vs a w' hJ hF hP hL
    have p0 : L 0 = true := hP ⟨0, .data⟩ (by simp) rfl
    have s0 : vs 0 = .pointer (some ⟨g, 0, none⟩) := hJ.sp 0 p0
    have q11 := hF.slot 0 11 rfl p0
    have cb := cell_later hJ.bel (S2.out.cel (g) 0 (.slice a1 n1 c1))
    exact run_val (v := .agg #[.slice a1 n1 c1]) rfl (by simp [execOp, go_sem, q11, s0, cb]) ⟨_, rfl, hJ.step hL rfl (Below.refl _ _) (by exact ((S2.out.rat (.agg #[.slice a1 n1 c1]) (p)).mono hJ.bel))⟩
  · intro L vs a w' hJ hF hP hL
    have p1 : L 1 = true := hP ⟨1, .data⟩ (by simp) rfl
    have s1 : RNat w' (vs 1) (p) := hJ.sp 1 p1
    have q12 := hF.slot 1 12 rfl p1
    refine run_call (f := 80) (args := #[vs 1]) rfl (by simp [go_sem, q12]) (rtext_k _ p k _ s1 HH.out.1.rfits HH.out.2.2.1) ?_
    rintro e w2 ⟨rfl, hb⟩
    exact ⟨_, rfl, _, rfl, hJ.step hL rfl hb (by exact rfl)⟩
  · intro L vs a w' hJ hF hP hL
    have p2 : L 2 = true := hP ⟨2, .data⟩ (by simp) rfl
    have s2 : vs 2 = .string (decText p k) := hJ.sp 2 p2
    have q13 := hF.slot 2 13 rfl p2
    exact run_val (v := .string (decText p k ++ ⟨#[47]⟩)) rfl (by simp [execOp, go_sem, q13, s2, m1]) ⟨_, rfl, hJ.step hL rfl (Below.refl _ _) (by exact rfl)⟩
  · intro L vs a w' hJ hF hP hL
    have q1 : (a.tmps[1]?).getD undef = .pointer (some ⟨g, 0, none⟩) := hF.old 1 rfl
    exact run_val (v := .pointer (some ⟨g, 1, none⟩)) rfl (by simp [execOp, go_sem, q1]) ⟨_, rfl, hJ.step hL rfl (Below.refl _ _) (by exact rfl)⟩
  · intro L vs a w' hJ hF hP hL
    have p4 : L 4 = true := hP ⟨4, .data⟩ (by simp) rfl
    have s4 : vs 4 = .pointer (some ⟨g, 1, none⟩) := hJ.sp 4 p4
    have q15 := hF.slot 4 15 rfl p4
    have cb := cell_later hJ.bel (S2.out.cel (g) 1 (.slice a2 n2 c2))
    exact run_val (v := .agg #[.slice a2 n2 c2]) rfl (by simp [execOp, go_sem, q15, s4, cb]) ⟨_, rfl, hJ.step hL rfl (Below.refl _ _) (by exact ((S2.out.rat (.agg #[.slice a2 n2 c2]) (q)).mono hJ.bel))⟩
  · intro L vs a w' hJ hF hP hL
    have p5 : L 5 = true := hP ⟨5, .data⟩ (by simp) rfl
    have s5 : RNat w' (vs 5) (q) := hJ.sp 5 p5
    have q16 := hF.slot 5 16 rfl p5
    refine run_call (f := 80) (args := #[vs 5]) rfl (by simp [go_sem, q16]) (rtext_k _ q l _ s5 HH.out.2.1.rfits HH.out.2.2.2) ?_
    rintro e w2 ⟨rfl, hb⟩
    exact ⟨_, rfl, _, rfl, hJ.step hL rfl hb (by exact rfl)⟩
  · intro L vs a w' hJ hF hP hL
    have p3 : L 3 = true := hP ⟨3, .data⟩ (by simp) rfl
    have s3 : vs 3 = .string (decText p k ++ ⟨#[47]⟩) := hJ.sp 3 p3
    have q14 := hF.slot 3 14 rfl p3
    have p6 : L 6 = true := hP ⟨6, .data⟩ (by simp) rfl
    have s6 : vs 6 = .string (decText q l) := hJ.sp 6 p6
    have q17 := hF.slot 6 17 rfl p6
    exact run_val (v := .string (decText p k ++ ⟨#[47]⟩ ++ decText q l)) rfl (by simp [execOp, go_sem, q14, s3, q17, s6, m2]) ⟨_, rfl, hJ.step hL rfl (Below.refl _ _) (by exact rfl)⟩
  · intro L vs a w' hJ hF hP hL
    have p7 : L 7 = true := hP ⟨7, .data⟩ (by simp) rfl
    have s7 : vs 7 = .string (decText p k ++ ⟨#[47]⟩ ++ decText q l) := hJ.sp 7 p7
    have q18 := hF.slot 7 18 rfl p7
    exact run_val (v := .string (decText p k ++ ⟨#[47]⟩ ++ decText q l)) rfl (by simp [execOp, go_sem, q18, s7]) ⟨_, rfl, hJ.step hL rfl (Below.refl _ _) (by exact rfl)⟩
  intro L vs w' hA hJ
  have s8 : vs 8 = .string (decText p k ++ ⟨#[47]⟩ ++ decText q l) := hJ.sp 8 (hA 8 (by simp))
  simp only [putL, Act.put, List.setIfInBounds_toArray, List.set_cons_zero, List.set_cons_succ, Nat.reduceAdd]
  simp only [s8]
  have HB : Hid (Below w.heap.size w w') := (S2.out.go hJ.bel).bel
  go_wp2_with fail
  go_ret
  rw [HV.out]
  exact ⟨rfl, HB.out⟩
theorem ba_ext2 {a b : ByteArray} (h : a.data.toList = b.data.toList) : a = b := by
  cases a; cases b
  congr
  exact Array.toList_inj.1 h
theorem cat9 {a b x : ByteArray} (h : a ++ b = x) (m n : Nat) (ha : a.size ≤ m) (hb : b.size ≤ n) (hn : m + n ≤ 100000) : (∀ w : World, (binOp .add 9 (.string a) (.string b)).run Tryz.prog w = .ok (.string x) w) ∧ (∀ w : World, (Op.stringOp .add a b).run Tryz.prog w = .ok (.string x) w) ∧ x.size ≤ m + n := by
  subst h
  exact ⟨cat_run a b (by omega), fun w => run_string_add_sum w _ _ (by omega), by rw [ByteArray.size_append]; omega⟩
theorem ba_app (a b : ByteArray) : (a ++ b).data.toList = a.data.toList ++ b.data.toList := by rw [ByteArray.data_append, Array.toList_append]
def jnT (L : List ByteArray) : ByteArray := ⟨(Lib.join (L.map (·.data.toList)) [32]).toArray⟩
def tlT (L : List ByteArray) : ByteArray := ⟨(Lib.joinTail [32] (L.map (·.data.toList))).toArray⟩
theorem jnT_app (x : ByteArray) (L M : List ByteArray) : jnT ((x :: L) ++ M) = jnT (x :: L) ++ tlT M := by
  apply ba_ext2
  rw [ba_app]
  simp [jnT, tlT, Lib.join_cons, Lib.joinTail]
theorem head_text (k : Nat) (R M C Fl A : Int) : jnT (headT (k : Int) R M C Fl A) = (((((((((((⟨#[107, 105, 110, 100, 32]⟩ : ByteArray) ++ kindT k) ++ ⟨#[32, 114, 111, 111, 109, 32]⟩) ++ itT R) ++ ⟨#[32, 109, 111, 115, 116, 32]⟩) ++ itT M) ++ ⟨#[32, 99, 97, 112, 32]⟩) ++ itT C) ++ ⟨#[32, 102, 108, 111, 119, 115, 32]⟩) ++ itT Fl) ++ ⟨#[32, 97, 103, 101, 32]⟩) ++ itT A := by
  rw [head_list]
  apply ba_ext2
  simp only [ba_app]
  simp [jnT, Lib.join_cons, Lib.joinTail]
theorem node_text (s : ByteArray) (a b c d : ByteArray) : s ++ tlT ([⟨#[110, 111, 100, 101]⟩, a] ++ [b, c, d]) = ((((((((s ++ ⟨#[32, 110, 111, 100, 101, 32]⟩) ++ a) ++ ⟨#[32]⟩) ++ b) ++ ⟨#[32]⟩) ++ c) ++ ⟨#[32]⟩) ++ d) := by
  apply ba_ext2
  simp only [ba_app]
  simp [tlT, Lib.joinTail]
theorem flow_text (pw pq pc ps pb pp pn : Int) (T : ByteArray) : jnT (flowT pw pq pc ps pb pp pn T) = (((((((((((((((⟨#[119, 101, 105, 103, 104, 116, 32]⟩ : ByteArray) ++ itT pw) ++ ⟨#[32, 113, 117, 97, 110, 116, 117, 109, 32]⟩) ++ itT pq) ++ ⟨#[32, 99, 108, 97, 115, 115, 32]⟩) ++ itT pc) ++ ⟨#[32, 115, 112, 97, 110, 32]⟩) ++ itT ps) ++ ⟨#[32, 98, 117, 114, 115, 116, 32]⟩) ++ itT pb) ++ ⟨#[32, 114, 97, 116, 101, 32]⟩) ++ T) ++ ⟨#[32, 112, 101, 114, 32]⟩) ++ itT pp) ++ ⟨#[32, 110, 111, 100, 101, 32]⟩) ++ itT pn := by
  rw [flow_list]
  apply ba_ext2
  simp only [ba_app]
  simp [jnT, Lib.join_cons, Lib.joinTail]
theorem rdigits9_any (x : Int) (W : World) (h : In64p x) : Calls Tryz.prog 29 #[.int .i64 x] W fun e w' => e = .returned (.string (itT x)) ∧ Below W.heap.size W w' := rdigits_any x W h.1 h.2
set_option maxHeartbeats 4000000 in
theorem rprint_good (k : Nat) (R M C Fl A : Int) (a : Option Addr) (n cap : Nat) (G : Nat → Nat → Int) (w : World) (h : NSl w a n cap G) (h0 : checkE (k : Int) R M C Fl A G n = 0) :
    Calls Tryz.prog 8 #[.agg #[.int .i64 (k : Int), .int .i64 R, .int .i64 M, .int .i64 C, .int .i64 Fl, .int .i64 A, .slice a n cap]] w fun e w' => e = .returned (.tuple #[.string (priS (k : Int) R M C Fl A G n), .int .i64 (checkE (k : Int) R M C Fl A G n)]) ∧ Below w.heap.size w w' := by
  obtain ⟨b1, b2, b3, b4, b5, b6, b7, b8⟩ := checkE_zero h0
  have b9 := fA1_le (k : Int)
  have iR : In64p R := ⟨by omega, by omega⟩
  have iM : In64p M := ⟨by omega, by omega⟩
  have iC : In64p C := ⟨by omega, by omega⟩
  have iF : In64p Fl := ⟨by omega, by omega⟩
  have iA : In64p A := ⟨by omega, by omega⟩
  have HN : Hid _ := h
  have HCE : Hid _ := h0
  have hl0 : n ≤ 9223372036854775807 := Nat.le_trans h.le h.lim
  have HN32 : Hid (n ≤ 32) := by
    show n ≤ 32
    by_cases e6 : (k : Int) = 6
    · exact (tre_of (b7 e6)).hi
    have := b8 e6; omega
  have HKN : Hid (∀ i, 1 ≤ i → i < n → ∃ kn : Nat, G i 0 = (kn : Int) ∧ kn < 7) := fun i h1 h2 => by
    have e6 : (k : Int) = 6 := by
      by_cases e6 : (k : Int) = 6
      · exact e6
      have := b8 e6; omega
    have q := (tre_of (b7 e6)).kind i (by omega)
    exact ⟨(G i 0).toNat, by omega, by omega⟩
  have HWD : Hid (∀ i, 1 ≤ i → i ≤ max n 1 → ∀ x ∈ headT (k : Int) R M C Fl A ++ nodesT G (i - 1), x.size ≤ 21) := fun i h1 h2 x hx => by
    rcases List.mem_append.1 hx with q | q
    · exact head21 k R M C Fl A iR iM iC iF iA x q
    rw [nodesT_rows] at q
    obtain ⟨d, hd, hx2⟩ := List.mem_flatMap.1 q
    unfold rows at hd
    obtain ⟨j, hj, rfl⟩ := List.mem_map.1 hd
    have hj := List.mem_range.1 hj
    obtain ⟨kn, hkn, lkn⟩ := HKN.out (j + 1) (by omega) (by omega)
    unfold ndw at hx2
    simp only [List.mem_cons, List.not_mem_nil, or_false] at hx2
    rcases hx2 with rfl | rfl | rfl | rfl | rfl
    · decide
    · exact kd21 _
    · exact it21 _ (HN.out.wf _ _ (by omega) (by omega))
    · exact it21 _ (HN.out.wf _ _ (by omega) (by omega))
    exact it21 _ (HN.out.wf _ _ (by omega) (by omega))
  have lk : k < 7 := by omega
  have DK0 : Hid (∀ W : World, Calls Tryz.prog 28 #[.int .i64 (k : Int)] W fun e w' => e = .returned (.string (kindT k)) ∧ Below W.heap.size W w') := fun W => rkind_any k W lk
  obtain ⟨u0, hu0⟩ : ∃ x : ByteArray, ⟨#[107, 105, 110, 100, 32]⟩ ++ kindT k = x := ⟨_, rfl⟩
  obtain ⟨cu0, pu0, zu0⟩ := cat9 hu0 5 21 (by decide) (kd21 _) (by decide)
  obtain ⟨u1, hu1⟩ : ∃ x : ByteArray, u0 ++ ⟨#[32, 114, 111, 111, 109, 32]⟩ = x := ⟨_, rfl⟩
  obtain ⟨cu1, pu1, zu1⟩ := cat9 hu1 26 6 zu0 (by decide) (by decide)
  obtain ⟨u2, hu2⟩ : ∃ x : ByteArray, u1 ++ itT R = x := ⟨_, rfl⟩
  obtain ⟨cu2, pu2, zu2⟩ := cat9 hu2 32 21 zu1 (it21 _ iR) (by decide)
  obtain ⟨u3, hu3⟩ : ∃ x : ByteArray, u2 ++ ⟨#[32, 109, 111, 115, 116, 32]⟩ = x := ⟨_, rfl⟩
  obtain ⟨cu3, pu3, zu3⟩ := cat9 hu3 53 6 zu2 (by decide) (by decide)
  obtain ⟨u4, hu4⟩ : ∃ x : ByteArray, u3 ++ itT M = x := ⟨_, rfl⟩
  obtain ⟨cu4, pu4, zu4⟩ := cat9 hu4 59 21 zu3 (it21 _ iM) (by decide)
  have HU : Hid (u4 = (((((⟨#[107, 105, 110, 100, 32]⟩ ++ kindT k) ++ ⟨#[32, 114, 111, 111, 109, 32]⟩) ++ itT R) ++ ⟨#[32, 109, 111, 115, 116, 32]⟩) ++ itT M)) := by show _ = _; rw [hu0, hu1, hu2, hu3, hu4]
  have HUz : Hid (u4.size ≤ 80) := zu4
  clear hu0 hu1 hu2 hu3 hu4 zu4 zu3 zu2 zu1 zu0
  obtain ⟨v0, hv0⟩ : ∃ x : ByteArray, u4 ++ ⟨#[32, 99, 97, 112, 32]⟩ = x := ⟨_, rfl⟩
  obtain ⟨cv0, pv0, zv0⟩ := cat9 hv0 80 5 HUz.out (by decide) (by decide)
  obtain ⟨v1, hv1⟩ : ∃ x : ByteArray, v0 ++ itT C = x := ⟨_, rfl⟩
  obtain ⟨cv1, pv1, zv1⟩ := cat9 hv1 85 21 zv0 (it21 _ iC) (by decide)
  obtain ⟨v2, hv2⟩ : ∃ x : ByteArray, v1 ++ ⟨#[32, 102, 108, 111, 119, 115, 32]⟩ = x := ⟨_, rfl⟩
  obtain ⟨cv2, pv2, zv2⟩ := cat9 hv2 106 7 zv1 (by decide) (by decide)
  obtain ⟨v3, hv3⟩ : ∃ x : ByteArray, v2 ++ itT Fl = x := ⟨_, rfl⟩
  obtain ⟨cv3, pv3, zv3⟩ := cat9 hv3 113 21 zv2 (it21 _ iF) (by decide)
  obtain ⟨v4, hv4⟩ : ∃ x : ByteArray, v3 ++ ⟨#[32, 97, 103, 101, 32]⟩ = x := ⟨_, rfl⟩
  obtain ⟨cv4, pv4, zv4⟩ := cat9 hv4 134 5 zv3 (by decide) (by decide)
  obtain ⟨v5, hv5⟩ : ∃ x : ByteArray, v4 ++ itT A = x := ⟨_, rfl⟩
  obtain ⟨cv5, pv5, zv5⟩ := cat9 hv5 139 21 zv4 (it21 _ iA) (by decide)
  have HVV : Hid (v5 = ((((((u4 ++ ⟨#[32, 99, 97, 112, 32]⟩) ++ itT C) ++ ⟨#[32, 102, 108, 111, 119, 115, 32]⟩) ++ itT Fl) ++ ⟨#[32, 97, 103, 101, 32]⟩) ++ itT A)) := by show _ = _; rw [hv0, hv1, hv2, hv3, hv4, hv5]
  have HVVz : Hid (v5.size ≤ 160) := zv5
  clear hv0 hv1 hv2 hv3 hv4 hv5 zv5 zv4 zv3 zv2 zv1 zv0
  have HHD : Hid (v5 = jnT (headT (k : Int) R M C Fl A)) := by
    show _ = _
    rw [HVV.out, HU.out, head_text]
  clear b1 b2 b3 b4 b5 b6 b7 b8 b9 h h0 lk
  have CK : Hid (∀ W, NSl W a n cap G → Calls Tryz.prog 13 #[.agg #[.int .i64 (k : Int), .int .i64 R, .int .i64 M, .int .i64 C, .int .i64 Fl, .int .i64 A, .slice a n cap]] W fun e w' => e = .returned (.int .i64 0) ∧ Below W.heap.size W w') := fun W hW => by
    have q := rcheck_any (k : Int) R M C Fl A a n cap G W hW
    rw [HCE.out] at q
    exact q
  go_enter Tryz.func8, Tryz.ntmps8
  go_wp2_with fail
  have S0 : Hid _ := (ce_start w).box7 (.int .i64 (k : Int)) (.int .i64 R) (.int .i64 M) (.int .i64 C) (.int .i64 Fl) (.int .i64 A) (.slice a n cap) 24 _ rfl
  refine (CK.out _ (HN.out.go S0.out.bel)).mono ?_
  rintro e w1 ⟨rfl, hb1⟩
  obtain ⟨gc, egc⟩ : ∃ g, g = w.heap.size := ⟨_, rfl⟩
  have S1 : Hid _ := S0.out.go hb1
  rw [← egc] at S1
  rw [← egc]
  clear hb1 S0 egc
  go_upto_region 4 with fail
  have x0 := fun p : BW w1 => p.cel (S1.out.cel gc 0 (.int .i64 (k : Int)))
  have x1 := fun p : BW w1 => p.cel (S1.out.cel gc 1 (.int .i64 R))
  have x2 := fun p : BW w1 => p.cel (S1.out.cel gc 2 (.int .i64 M))
  have x3 := fun p : BW w1 => p.cel (S1.out.cel gc 3 (.int .i64 C))
  have x4 := fun p : BW w1 => p.cel (S1.out.cel gc 4 (.int .i64 Fl))
  have x5 := fun p : BW w1 => p.cel (S1.out.cel gc 5 (.int .i64 A))
  have x6 := fun p : BW w1 => p.cel (S1.out.cel gc 6 (.slice a n cap))
  haveI hne : Nonempty (BW w1) := ⟨⟨w1, bel_refl w1⟩⟩
  refine wp_region_quiet_bel (by kernel_rfl) (by kernel_rfl) ?_
  repeat (quiet_step (first
    | (go_at_call 28; exact calls_bel (DK0.out _))
    | (go_at_call 29; exact calls_bel (rdigits9_any _ _ (by assumption)))
    | (go_at_call 29; exact calls_bel (rdigits9_any _ _ (by assumption)))))
  refine wpQuiet_nil ?_
  intro w3 hw9
  obtain ⟨p9, hp9⟩ := hw9
  have hb3 := p9.bel
  rw [← hp9] at hb3
  clear hp9 p9 hne
  have S3 : Hid _ := S1.out.go hb3
  clear hb3 S1 DK0
  clear x0 x1 x2 x3 x4 x5 x6
  clear cu0 pu0 cu1 pu1 cu2 pu2 cu3 pu3 cu4 pu4
  have x0 := fun p : BW w3 => p.cel (S3.out.cel gc 0 (.int .i64 (k : Int)))
  have x1 := fun p : BW w3 => p.cel (S3.out.cel gc 1 (.int .i64 R))
  have x2 := fun p : BW w3 => p.cel (S3.out.cel gc 2 (.int .i64 M))
  have x3 := fun p : BW w3 => p.cel (S3.out.cel gc 3 (.int .i64 C))
  have x4 := fun p : BW w3 => p.cel (S3.out.cel gc 4 (.int .i64 Fl))
  have x5 := fun p : BW w3 => p.cel (S3.out.cel gc 5 (.int .i64 A))
  have x6 := fun p : BW w3 => p.cel (S3.out.cel gc 6 (.slice a n cap))
  go_upto_region 5 with fail
  haveI hne : Nonempty (BW w3) := ⟨⟨w3, bel_refl w3⟩⟩
  refine wp_region_quiet_bel (by kernel_rfl) (by kernel_rfl) ?_
  repeat (quiet_step (first
    | (go_at_call 29; exact calls_bel (rdigits9_any _ _ (by assumption)))
    | (go_at_call 29; exact calls_bel (rdigits9_any _ _ (by assumption)))
    | (go_at_call 29; exact calls_bel (rdigits9_any _ _ (by assumption)))))
  refine wpQuiet_nil ?_
  intro w5 hw9
  obtain ⟨p9, hp9⟩ := hw9
  have hb5 := p9.bel
  rw [← hp9] at hb5
  clear hp9 p9 hne
  have S5 : Hid _ := S3.out.go hb5
  clear hb5 S3
  clear x0 x1 x2 x3 x4 x5 x6
  clear cv0 pv0 cv1 pv1 cv2 pv2 cv3 pv3 cv4 pv4 cv5 pv5
  go_wp2_with fail
  go_loopw [6, 5] (fun ti ts wr => ∃ i : Nat, 1 ≤ i ∧ i ≤ max n 1 ∧ ti = .int .i64 (i : Int) ∧ ∃ s : ByteArray, ts = .string s ∧ Hid (Below w5.heap.size w5 wr) ∧ Hid (s = jnT (headT (k : Int) R M C Fl A ++ nodesT G (i - 1)))) (fun ti _ _ => n - (intOf ti).toNat)
  case atStart => exact ⟨1, by omega, by omega, rfl, _, rfl, bel_refl w5, by show _ = _; rw [HHD.out]; show _ = jnT (_ ++ []); rw [List.append_nil]⟩
  case round =>
    obtain ⟨i, hi1, hi2, rfl, s, rfl, BWr, HS⟩ := hrel
    have SW : Hid _ := S5.out.go BWr.out
    have HSz : Hid (s.size ≤ 4000) := by
      show s.size ≤ 4000
      rw [HS.out]
      have q : (jnT (headT (k : Int) R M C Fl A ++ nodesT G (i - 1))).size = (Lib.join ((headT (k : Int) R M C Fl A ++ nodesT G (i - 1)).map (·.data.toList)) [32]).length := by
        show (Lib.join _ _).toArray.size = _
        simp
      rw [q]
      refine Nat.le_trans (join21 _ (HWD.out i hi1 hi2)) ?_
      rw [List.length_append, nodesT_len, head_list]
      have := HN32.out
      show 22 * (12 + 5 * (i - 1)) ≤ 4000
      omega
    have x0 := SW.out.cel gc 0 (.int .i64 (k : Int))
    have x1 := SW.out.cel gc 1 (.int .i64 R)
    have x2 := SW.out.cel gc 2 (.int .i64 M)
    have x3 := SW.out.cel gc 3 (.int .i64 C)
    have x4 := SW.out.cel gc 4 (.int .i64 Fl)
    have x5 := SW.out.cel gc 5 (.int .i64 A)
    have x6 := SW.out.cel gc 6 (.slice a n cap)
    by_cases ei : i < n
    · have hnw := HN.out.go SW.out.bel
      obtain ⟨bb, oo, ea, hc⟩ := hnw.at (by omega)
      subst ea
      have m0 : wr.cell? ⟨bb, oo + i * 4, none⟩ = some (.int .i64 (G i 0)) := by simpa using hc i 0 ei (by omega)
      have m1 := hc i 1 ei (by omega)
      have m2 := hc i 2 ei (by omega)
      have m3 := hc i 3 ei (by omega)
      have lb := World.block_lt_of_cell? _ _ m0
      obtain ⟨kn, hkn, lkn⟩ := HKN.out i hi1 ei
      have bn1 : In64p (G i 1) := HN.out.wf i 1 ei (by omega)
      have bn2 : In64p (G i 2) := HN.out.wf i 2 ei (by omega)
      have bn3 : In64p (G i 3) := HN.out.wf i 3 ei (by omega)
      rw [hkn] at m0
      obtain ⟨j1, hj1⟩ : ∃ x, G i 1 = x := ⟨_, rfl⟩
      obtain ⟨j2, hj2⟩ : ∃ x, G i 2 = x := ⟨_, rfl⟩
      obtain ⟨j3, hj3⟩ : ∃ x, G i 3 = x := ⟨_, rfl⟩
      rw [hj1] at m1 bn1
      rw [hj2] at m2 bn2
      rw [hj3] at m3 bn3
      obtain ⟨y0, hy0⟩ : ∃ x : ByteArray, s ++ ⟨#[32, 110, 111, 100, 101, 32]⟩ = x := ⟨_, rfl⟩
      obtain ⟨cy0, py0, zy0⟩ := cat9 hy0 4000 6 HSz.out (by decide) (by decide)
      obtain ⟨y1, hy1⟩ : ∃ x : ByteArray, y0 ++ kindT kn = x := ⟨_, rfl⟩
      obtain ⟨cy1, py1, zy1⟩ := cat9 hy1 4006 21 zy0 (kd21 _) (by decide)
      obtain ⟨y2, hy2⟩ : ∃ x : ByteArray, y1 ++ ⟨#[32]⟩ = x := ⟨_, rfl⟩
      obtain ⟨cy2, py2, zy2⟩ := cat9 hy2 4027 1 zy1 (by decide) (by decide)
      obtain ⟨y3, hy3⟩ : ∃ x : ByteArray, y2 ++ itT j1 = x := ⟨_, rfl⟩
      obtain ⟨cy3, py3, zy3⟩ := cat9 hy3 4028 21 zy2 (it21 _ bn1) (by decide)
      obtain ⟨y4, hy4⟩ : ∃ x : ByteArray, y3 ++ ⟨#[32]⟩ = x := ⟨_, rfl⟩
      obtain ⟨cy4, py4, zy4⟩ := cat9 hy4 4049 1 zy3 (by decide) (by decide)
      obtain ⟨y5, hy5⟩ : ∃ x : ByteArray, y4 ++ itT j2 = x := ⟨_, rfl⟩
      obtain ⟨cy5, py5, zy5⟩ := cat9 hy5 4050 21 zy4 (it21 _ bn2) (by decide)
      obtain ⟨y6, hy6⟩ : ∃ x : ByteArray, y5 ++ ⟨#[32]⟩ = x := ⟨_, rfl⟩
      obtain ⟨cy6, py6, zy6⟩ := cat9 hy6 4071 1 zy5 (by decide) (by decide)
      obtain ⟨y7, hy7⟩ : ∃ x : ByteArray, y6 ++ itT j3 = x := ⟨_, rfl⟩
      obtain ⟨cy7, py7, zy7⟩ := cat9 hy7 4072 21 zy6 (it21 _ bn3) (by decide)
      have HY : Hid (y7 = ((((((((s ++ ⟨#[32, 110, 111, 100, 101, 32]⟩) ++ kindT kn) ++ ⟨#[32]⟩) ++ itT j1) ++ ⟨#[32]⟩) ++ itT j2) ++ ⟨#[32]⟩) ++ itT j3)) := by show _ = _; rw [hy0, hy1, hy2, hy3, hy4, hy5, hy6, hy7]
      have HYz : Hid (y7.size ≤ 4093) := zy7
      clear hy0 hy1 hy2 hy3 hy4 hy5 hy6 hy7 zy7 zy6 zy5 zy4 zy3 zy2 zy1 zy0
      have HNX : Hid (y7 = jnT (headT (k : Int) R M C Fl A ++ nodesT G i)) := by
        show _ = _
        obtain ⟨i', rfl⟩ : ∃ i', i = i' + 1 := ⟨i - 1, by omega⟩
        rw [HY.out, HS.out, ← node_text, nodesT, Nat.add_sub_cancel, ← List.append_assoc, head_list, List.cons_append, jnT_app, hkn, hj1, hj2, hj3]
        rfl
      have DK : Hid (∀ W : World, Calls Tryz.prog 28 #[.int .i64 (kn : Int)] W fun e w' => e = .returned (.string (kindT kn)) ∧ Below W.heap.size W w') := fun W => rkind_any kn W lkn
      have lgc : gc < wr.heap.size := World.block_lt_of_cell? _ _ x0
      clear hnw hc hkn hj1 hj2 hj3
      go_upto_region 10 with fail
      have T1 : Hid _ := SW.out.box4 (.int .i64 (kn : Int)) (.int .i64 j1) (.int .i64 j2) (.int .i64 j3) 57 _ rfl
      obtain ⟨gn, egn⟩ : ∃ g, g = wr.heap.size := ⟨_, rfl⟩
      rw [← egn] at T1
      obtain ⟨w6, hw6⟩ : ∃ W, W = wr.alloc (.cells #[.int .i64 (kn : Int), .int .i64 j1, .int .i64 j2, .int .i64 j3] 57) := ⟨_, rfl⟩
      have B6 : Hid (Below w5.heap.size w5 w6) := by show Below _ _ _; rw [hw6]; exact bc_al BWr.out
      rw [← hw6] at T1
      rw [← hw6, ← egn]
      clear hw6 egn m0 m1 m2 m3 lb lgc
      clear x0 x1 x2 x3 x4 x5 x6
      have x0 := fun p : BW w6 => p.cel (T1.out.cel gn 0 (.int .i64 (kn : Int)))
      have x1 := fun p : BW w6 => p.cel (T1.out.cel gn 1 (.int .i64 j1))
      have x2 := fun p : BW w6 => p.cel (T1.out.cel gn 2 (.int .i64 j2))
      have x3 := fun p : BW w6 => p.cel (T1.out.cel gn 3 (.int .i64 j3))
      haveI hne : Nonempty (BW w6) := ⟨⟨w6, bel_refl w6⟩⟩
      refine wp_region_quiet_bel (by kernel_rfl) (by kernel_rfl) ?_
      repeat (quiet_step (first
        | (go_at_call 28; exact calls_bel (DK.out _))
        | (go_at_call 29; exact calls_bel (rdigits9_any _ _ (by assumption)))
        | (go_at_call 29; exact calls_bel (rdigits9_any _ _ (by assumption)))
        | (go_at_call 29; exact calls_bel (rdigits9_any _ _ (by assumption)))))
      refine wpQuiet_nil ?_
      intro w7 hw9
      obtain ⟨p9, hp9⟩ := hw9
      have hb7 := p9.bel
      rw [← hp9] at hb7
      clear hp9 p9 hne
      have B7 : Hid (Below w5.heap.size w5 w7) := bc_go B6.out hb7
      clear hb7 DK bn1 bn2 bn3 x0 x1 x2 x3
      clear cy0 py0 cy1 py1 cy2 py2 cy3 py3 cy4 py4 cy5 py5 cy6 py6 cy7 py7
      go_wp2_with fail
      go_roundw
      case rel => exact ⟨i + 1, by omega, by omega, by go_num, y7, rfl, B7, HNX⟩
      case measure => simp [intOf]; omega
    have HFIN : Hid (s = priS (k : Int) R M C Fl A G n) := by
      show _ = _
      rw [HS.out]
      unfold priS
      rw [if_pos HCE.out]
      unfold confS confT
      by_cases e6 : (k : Int) = 6
      · have := (tre_of ((checkE_zero HCE.out).2.2.2.2.2.2.1 e6)).lo
        rw [if_pos e6, show i - 1 = n - 1 by omega]
        rfl
      have := (checkE_zero HCE.out).2.2.2.2.2.2.2 e6
      rw [if_neg e6, show i - 1 = 0 by omega]
      rfl
    go_wp2_with fail
    exact bodyPost_ret (v := .tuple #[.string s, .int .i64 0]) (by simp [results, Tryz.results8, go_sem]) rfl ⟨by rw [HFIN.out, HCE.out], SW.out.bel⟩
set_option maxHeartbeats 1000000 in
theorem rprint_bad (K R M C Fl A : Int) (a : Option Addr) (n cap : Nat) (G : Nat → Nat → Int) (ce : Int) (w : World) (h : NSl w a n cap G) (hf : checkE K R M C Fl A G n = ce) (h0 : ce ≠ 0) :
    Calls Tryz.prog 8 #[.agg #[.int .i64 K, .int .i64 R, .int .i64 M, .int .i64 C, .int .i64 Fl, .int .i64 A, .slice a n cap]] w fun e w' => e = .returned (.tuple #[.string ⟨#[]⟩, .int .i64 ce]) ∧ Below w.heap.size w w' := by
  have HN : Hid _ := h
  have hl0 : n ≤ 9223372036854775807 := Nat.le_trans h.le h.lim
  have HF : Hid _ := hf
  have d0 : (ce != 0) = true := by simpa using h0
  clear h hf h0
  go_enter Tryz.func8, Tryz.ntmps8
  go_wp2_with fail
  have S0 : Hid _ := (ce_start w).box7 (.int .i64 K) (.int .i64 R) (.int .i64 M) (.int .i64 C) (.int .i64 Fl) (.int .i64 A) (.slice a n cap) 24 _ rfl
  refine (rcheck_any K R M C Fl A a n cap G _ (HN.out.go S0.out.bel)).mono ?_
  rintro e w1 ⟨rfl, hb⟩
  rw [HF.out]
  have W1 : Hid (Below w.heap.size w w1) := bc_go S0.out.bel hb
  clear hb S0
  go_wp2_with fail
  exact bodyPost_ret (v := .tuple #[.string ⟨#[]⟩, .int .i64 ce]) (by simp [results, Tryz.results8, go_sem]) rfl ⟨rfl, W1.out⟩
theorem rprint_any (K R M C Fl A : Int) (a : Option Addr) (n cap : Nat) (G : Nat → Nat → Int) (w : World) (h : NSl w a n cap G) :
    Calls Tryz.prog 8 #[.agg #[.int .i64 K, .int .i64 R, .int .i64 M, .int .i64 C, .int .i64 Fl, .int .i64 A, .slice a n cap]] w fun e w' => e = .returned (.tuple #[.string (priS K R M C Fl A G n), .int .i64 (checkE K R M C Fl A G n)]) ∧ Below w.heap.size w w' := by
  by_cases c0 : checkE K R M C Fl A G n = 0
  · obtain ⟨k, rfl⟩ : ∃ k : Nat, K = (k : Int) := ⟨K.toNat, by have := (checkE_zero c0).1; omega⟩
    exact rprint_good k R M C Fl A a n cap G w h c0
  unfold priS
  rw [if_neg c0]
  exact rprint_bad K R M C Fl A a n cap G _ w h rfl c0
end Go.Proofs.YtchomkadekikdaaGreatDoor
