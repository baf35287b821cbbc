/- Contracts of the program's functions, part 26: own work, joined in build order. -/
import Derived.Test.YtmiiaomdenpceaaGreatDoorJ25
import Derived.Handy
import Derived.Deep.Cut
namespace Go.Proofs.YtmiiaomdenpceaaGreatDoor
open Go.RowKit
set_option maxRecDepth 100000
set_option linter.unusedVariables false
set_option maxHeartbeats 4000000 in
theorem rless2_any (v u : Value) (p q x y A C : Nat) (w : World) (h : RRt w v p q) (k : RRt w u x y) (hs : ∀ v u w, RRt w v p q → RRt w u x y → Calls Tryz.prog 62 #[v, u] w (MakesRRB w A C true)) :
    Calls Tryz.prog 20 #[v, u] w (MakesRR w A C) := by
  have HR : Hid (RRt w v p q ∧ RRt w u x y) := ⟨h, k⟩
  have HS : Hid (∀ v u w, RRt w v p q → RRt w u x y → Calls Tryz.prog 62 #[v, u] w (MakesRRB w A C true)) := hs
  obtain ⟨a1, n1, c1, a2, n2, c2, e0, _, _⟩ := h
  subst e0
  obtain ⟨a3, n3, c3, a4, n4, c4, e1, _, _⟩ := k
  subst e1
  have ba : Hid (Below w.heap.size w (((w.alloc (.cells #[.slice a1 n1 c1, .slice a2 n2 c2] 32)).alloc (.cells #[.slice a3 n3 c3, .slice a4 n4 c4] 32)).alloc (.cells #[.slice none 0 0, .slice none 0 0] 32))) := bel_al (bel_al (bel_al (bel_refl w)))
  clear hs
  go_enter Tryz.func20, Tryz.ntmps20
  go_wp2_with fail
  refine (HS.out _ _ _ (HR.out.1.mono ba.out) (HR.out.2.mono ba.out)).mono ?_
  rintro e w1 ⟨v1, rfl, hv1, hb1⟩
  have hv' := hv1
  obtain ⟨a5, n5, c5, a6, n6, c6, ev, _, _⟩ := hv'
  subst ev
  have bx := bel_go hb1 (bel_al (o := .cells #[.slice a5 n5 c5, .slice a6 n6 c6] 32) (bel_refl _))
  have z0 : (w1.alloc (.cells #[.slice a5 n5 c5, .slice a6 n6 c6] 32)).cell? ⟨w.heap.size + 1 + 1, 0, none⟩ = some (.slice none 0 0) := cell_later bx (by simp [go_sem])
  have z1 : (w1.alloc (.cells #[.slice a5 n5 c5, .slice a6 n6 c6] 32)).cell? ⟨w.heap.size + 1 + 1, 1, none⟩ = some (.slice none 0 0) := cell_later bx (by simp [go_sem])
  have y0 : (w1.alloc (.cells #[.slice a5 n5 c5, .slice a6 n6 c6] 32)).frozen? ⟨w.heap.size + 1 + 1, 0, none⟩ = false := (bx.frozen (by simp)).trans (by simp [go_sem])
  have y1 : (w1.alloc (.cells #[.slice a5 n5 c5, .slice a6 n6 c6] 32)).frozen? ⟨w.heap.size + 1 + 1, 1, none⟩ = false := (bx.frozen (by simp)).trans (by simp [go_sem])
  have Z : Hid _ := rrat_put (w0 := w) (v := .slice a5 n5 c5) (u := .slice a6 n6 c6) z0 z1 (hv1.mono (bel_al (o := .cells #[.slice a5 n5 c5, .slice a6 n6 c6] 32) (bel_refl _))) (bel_go ba.out bx) (by omega)
  clear hv1 hb1 bx ba
  go_wp2_with fail
  exact bodyPost_ret (v := .agg #[.slice a5 n5 c5, .slice a6 n6 c6]) (by simp [results, Tryz.results20, go_sem, z0, z1]) rfl ⟨_, rfl, Z.out.1, Z.out.2⟩
theorem nfrom_by (v : Value) (x : Nat) (w : World) (h : ByIs w v x) (hx : byteLen x ≤ 1099511627776) : Calls Tryz.prog 22 #[v] w (Makes w x) := by
  obtain ⟨g, rfl, hc⟩ := h
  have := fromBytes_any _ _ _ _ w (ByIs.bsl hc hx) hx
  rw [BV_bytes] at this
  exact this
theorem from_low (v u : Value) (p q : Nat) (w : World) (h : IsNat w v p) (k : IsNat w u q) (hp : RS p) (hq : RS q) (hq0 : 0 < q) (hg : Nat.gcd p q = 1) (hT : Tab w) : Calls Tryz.prog 21 #[v, u] w (MakesRB w p q true) := by
  have := from_any v u p q w h k hp hq hq0 hT
  rw [hg, Nat.div_one, Nat.div_one] at this
  exact this
theorem rrt_nats {w : World} {a b : Value} {p q : Nat} (h : RRt w (.agg #[a, b]) p q) : RNat w (.agg #[a]) p ∧ RNat w (.agg #[b]) q := by
  obtain ⟨x1, x2, x3, x4, x5, x6, e, h1, h2⟩ := h
  have e1 : a = .slice x1 x2 x3 ∧ b = .slice x4 x5 x6 := by simpa using e
  rw [e1.1, e1.2]
  exact ⟨h1, h2⟩
theorem Fc.self {p q N D n : Nat} (h : Fc p q N D n) : Fc p q p q n := Fc.own h.low h.pos h.s1 h.s2
theorem Fc.up {p q N D n m : Nat} (h : Fc p q N D n) (hm : n ≤ m) : Fc p q N D m := ⟨h.low, h.pos, h.dpos, h.val, P_up h.s1 hm, P_up h.s2 hm⟩
/-- The document's fraction that lies in a box. -/
def VS (w0 w : World) (b n : Nat) : Prop := ∃ (p q : Nat) (a1 : Option Addr) (n1 c1 : Nat) (a2 : Option Addr) (n2 c2 : Nat), Fc p q p q n ∧ SY w0 w [] [] [] [(.agg #[.slice a1 n1 c1, .slice a2 n2 c2], p, q)] [(b, 0, .slice a1 n1 c1), (b, 1, .slice a2 n2 c2)] [b]
theorem ff_fc (u : Nat) (hu : u < 18446744073709551616) : Fc (ffP u) (ffQ u) (ffP u) (ffQ u) 17 := by
  cases h : isFb u with
  | false =>
    rw [(ff_no h).1, (ff_no h).2]
    exact Fc.own (by decide) (by omega) (P_pos 17) (Nat.lt_of_lt_of_le (show 1 < P 1 by rw [P_one]; omega) (P_le (by omega)))
  | true =>
    by_cases h1 : u = 9223372036854775808
    · rw [h1, ff_zero.1, ff_zero.2]
      exact Fc.own (by decide) (by omega) (P_pos 17) (Nat.lt_of_lt_of_le (show 1 < P 1 by rw [P_one]; omega) (P_le (by omega)))
    · have h2 : u < 9218868437227405312 := by unfold isFb at h; simp at h; omega
      rw [(ff_yes h2).1, (ff_yes h2).2]
      obtain ⟨_, e2, e3⟩ := gcd_low (p := fN u) (fD_pos u)
      exact Fc.own e2 e3 (Nat.lt_of_le_of_lt (Nat.div_le_self _ _) (P_up (fN_lt h2) (by omega))) (Nat.lt_of_le_of_lt (Nat.div_le_self _ _) (fD_lt u))
theorem small_fc {k : Nat} (hk : k ≤ 2200) : Fc 1 (2 ^ k) 1 (2 ^ k) 35 := Fc.own (Nat.gcd_one_left _) (Nat.two_pow_pos _) (Nat.lt_of_lt_of_le (show 1 < P 1 by rw [P_one]; omega) (P_le (by omega))) (two_P (by omega))
theorem bl_RS {x : Nat} (h : RS x) : byteLen x ≤ 1099511627776 := by have := byteLen_P h.lt; omega
set_option maxHeartbeats 1000000 in
theorem nears3 (u : Nat) (half : Bool) (byy : Int) (a0 : Option Addr) (l0 k0 : Nat) (a1 : Option Addr) (l1 k1 : Nat) (m0 m1 x y p q : Nat) (w : World) (hu : u < 18446744073709551616) (h0 : Fed3 w a0 l0 k0 m0 x) (h1 : Fed3 w a1 l1 k1 m1 y) (hT : Tab w) (hp : x / Nat.gcd x (orOne y) = p) (hq : orOne y / Nat.gcd x (orOne y) = q) (hF : Fc p q p q 38) :
    Calls Tryz.prog 3 #[.slice a0 l0 k0, .slice a1 l1 k1, .int .u64 (u : Int), .bool half, .int .i64 byy] w fun e w' => e = .returned (.bool true) ∧ Below w.heap.size w w' := by
  obtain ⟨A0, hA0⟩ : ∃ A0, tfV p q = A0 := ⟨_, rfl⟩
  obtain ⟨ok0, hok0⟩ : ∃ ok0, tfOk p q = ok0 := ⟨_, rfl⟩
  have HA : Hid (tfV p q = A0 ∧ tfOk p q = ok0) := ⟨hA0, hok0⟩
  obtain ⟨U9, hU9⟩ : ∃ U9, u % 9223372036854775808 = U9 := ⟨_, rfl⟩
  have an : bits .andNot .u64 (u : Int) 9223372036854775808 = (U9 : Int) := by rw [← hU9]; exact andNot_top u hu
  obtain ⟨U91, hU91⟩ : ∃ U91, U91 = U9 + 1 := ⟨_, rfl⟩
  have HU : Hid (U9 < 18446744073709551616 ∧ U91 < 18446744073709551616 ∧ IntKind.u64.wrap ((U9 : Int) + 1) = (U91 : Int)) := ⟨by omega, by omega, by rw [IntKind.wrap_u64]; omega⟩
  obtain ⟨m, hm, am⟩ := and1023_ex byy
  obtain ⟨k, hk⟩ : ∃ k, k = 1100 + m := ⟨_, rfl⟩
  have KR : Hid (wrap64 (1100 + (m : Int)) = (k : Int)) := by show _ = _; rw [IntWalk.wrap64_in _ ⟨by omega, by omega⟩]; omega
  have HK : Hid (k ≤ 2200) := by show _ ≤ _; omega
  obtain ⟨z1, hz1⟩ : ∃ z1, bits .and .i64 byy 1024 = z1 := ⟨_, rfl⟩
  obtain ⟨z2, hz2⟩ : ∃ z2, bits .and .i64 byy 2048 = z2 := ⟨_, rfl⟩
  obtain ⟨may, hmay⟩ : ∃ may, isFb U9 = may := ⟨_, rfl⟩
  have HM : Hid (isFb U9 = may) := hmay
  have HC : Hid (RS p ∧ RS q ∧ 0 < q) := ⟨hF.rs1 (by omega), hF.rs2 (by omega), hF.pos⟩
  have HH : Hid (Fed3 w a0 l0 k0 m0 x ∧ Fed3 w a1 l1 k1 m1 y) := ⟨h0, h1⟩
  have HT : Hid (Tab w) := hT
  have HP : Hid (x / Nat.gcd x (orOne y) = p ∧ orOne y / Nat.gcd x (orOne y) = q) := ⟨hp, hq⟩
  clear hA0 hok0 hU9 hU91 hm hk hmay hu h0 h1 hT hp hq hF
  go_enter Tryz.func3, Tryz.ntmps3
  go_wp2_with fail
  refine (made3_true a0 l0 k0 a1 l1 k1 m0 m1 x y _ HH.out.1 HH.out.2 HT.out).mono ?_
  rintro e v5w ⟨v5, v6, rfl, hv, hu, hb⟩
  rw [HP.out.1, HP.out.2] at hv hu
  obtain ⟨a5, n5, c5, d5, m5, g5, ev, _, _⟩ := hv.raw
  subst ev
  obtain ⟨a6, n6, c6, d6, m6, g6, ev, _, _⟩ := id hu
  subst ev
  have S1 : Hid _ := (((((sy_start w).go hb).addF hv).addG hu).box (.slice a5 n5 c5) (.slice d5 m5 g5) 28 _ rfl).box (.slice a6 n6 c6) (.slice d6 m6 g6) 32 _ rfl
  clear hv hu hb HP
  simp only [World.size_alloc] at S1
  go_wp2_with fail
  obtain ⟨w5, ew⟩ : ∃ w5, w5 = (v5w.alloc (.cells #[.slice a5 n5 c5, .slice d5 m5 g5] 28)).alloc (.cells #[.slice a6 n6 c6, .slice d6 m6 g6] 32) := ⟨_, rfl⟩
  obtain ⟨b5, eb⟩ : ∃ b5, b5 = v5w.heap.size := ⟨_, rfl⟩
  rw [← ew, ← eb] at S1
  rw [← ew, ← eb]
  clear ew eb
  refine (toFloat_any _ p q _ (S1.out.fr (.agg #[.slice a5 n5 c5, .slice d5 m5 g5]) p q) HC.out.1 HC.out.2.1 HC.out.2.2).mono ?_
  rintro e w7 ⟨rfl, hb⟩
  rw [HA.out.1, HA.out.2]
  have S2 : Hid _ := S1.out.go hb
  clear hb S1
  have y0 := S2.out.cel (b5 + 1) 0 (.slice a6 n6 c6)
  have y1 := S2.out.cel (b5 + 1) 1 (.slice d6 m6 g6)
  go_wp2_with fail
  refine (rtoFloat_any _ p q _ (S2.out.rfr (.agg #[.slice a6 n6 c6, .slice d6 m6 g6]) p q) HC.out.1 HC.out.2.1 HC.out.2.2).mono ?_
  rintro e w8 ⟨rfl, hb⟩
  rw [HA.out.1, HA.out.2]
  have HB : Hid (Below w.heap.size w w8) := (S2.out.go hb).bel
  clear hb S2 y0 y1
  go_wp2_with fail
  refine (bits_any A0 _).mono ?_
  rintro e wx ⟨rfl, hwx⟩
  rw [hwx]
  clear hwx wx
  go_wp2_with fail
  refine (rfromFloat_all U9 _ HU.out.1).mono ?_
  rintro e v9w ⟨v9, rfl, hv, hb⟩
  rw [HM.out]
  obtain ⟨a9, n9, c9, d9, m9, g9, ev, _, _⟩ := id hv
  subst ev
  have S3 : Hid _ := ((((sy_start w).go HB.out).go hb).addG hv).box (.slice a9 n9 c9) (.slice d9 m9 g9) 32 _ rfl
  clear hv hb HB
  cases may
  · go_wp2_with fail
    obtain ⟨w9, ew⟩ : ∃ w9, w9 = v9w.alloc (.cells #[.slice a9 n9 c9, .slice d9 m9 g9] 32) := ⟨_, rfl⟩
    obtain ⟨b9, eb⟩ : ∃ b9, b9 = v9w.heap.size := ⟨_, rfl⟩
    rw [← ew, ← eb] at S3
    rw [← ew, ← eb]
    clear ew eb
    refine (started3 _ (HT.out.go S3.out.bel)).mono ?_
    rintro e w10 ⟨rfl, hb⟩
    have HB : Hid (Below w.heap.size w w10) := (S3.out.go hb).bel
    clear hb S3
    go_wp2_with fail
    go_ret
    exact ⟨rfl, HB.out⟩
  · go_upto_if 63 with (fail)
    obtain ⟨w9, ew⟩ : ∃ w9, w9 = v9w.alloc (.cells #[.slice a9 n9 c9, .slice d9 m9 g9] 32) := ⟨_, rfl⟩
    obtain ⟨b9, eb⟩ : ∃ b9, b9 = v9w.heap.size := ⟨_, rfl⟩
    rw [← ew, ← eb] at S3
    rw [← ew, ← eb]
    clear ew eb
    go_cut [] from 29 (fun wc => VS w wc b9 36)
    case first =>
      cases half
      · go_wp2_with fail
        go_meet
        exact ⟨_, _, a9, n9, c9, d9, m9, g9, (ff_fc U9 HU.out.1).up (by omega), S3.out.sub _ _ _ _ _ _ (by simp) (by simp) (by simp) (by simp) (by simp) (by simp)⟩
      · have xu := HU.out.2.2
        have hl9 : b9 < w9.heap.size := S3.out.lt b9
        go_wp2_with fail
        refine (rfromFloat_all U91 _ HU.out.2.1).mono ?_
        rintro e v10w ⟨v10, rfl, hv, hb⟩
        obtain ⟨mw, hmw⟩ : ∃ mw, isFb U91 = mw := ⟨_, rfl⟩
        rw [hmw]
        clear hmw
        obtain ⟨a10, n10, c10, d10, m10, g10, ev, _, _⟩ := id hv
        subst ev
        have S4 : Hid _ := ((S3.out.go hb).addG hv).box (.slice a10 n10 c10) (.slice d10 m10 g10) 32 _ rfl
        have hl9' : b9 < v10w.heap.size := (S3.out.go hb).lt b9
        have y0 := (S3.out.go hb).cel b9 0 (.slice a9 n9 c9)
        have y1 := (S3.out.go hb).cel b9 1 (.slice d9 m9 g9)
        clear hv hb S3 hl9 xu
        obtain ⟨X, Y, fa, ad⟩ := (ff_fc U9 HU.out.1).radd (ff_fc U91 HU.out.2.1) (by omega) (by omega)
        obtain ⟨X2, Y2, fd, di⟩ := fa.rdivInt (k := 2) (by omega) (by omega) (by omega)
        have AD : Hid _ := ad
        have DI : Hid (∀ v w, RRt w v X Y → Calls Tryz.prog 14 #[v, .int .i64 2] w (MakesRRB w X2 Y2 true)) := di
        have FD : Hid (Fc X2 Y2 X2 Y2 36) := fd.self
        clear fa ad fd di
        go_wp2_with fail
        clear hl9' y0 y1
        obtain ⟨w10, ew⟩ : ∃ w10, w10 = v10w.alloc (.cells #[.slice a10 n10 c10, .slice d10 m10 g10] 32) := ⟨_, rfl⟩
        obtain ⟨b10, eb⟩ : ∃ b10, b10 = v10w.heap.size := ⟨_, rfl⟩
        rw [← ew, ← eb] at S4
        rw [← ew, ← eb]
        clear ew eb
        refine (AD.out _ _ _ (S4.out.rfr (.agg #[.slice a9 n9 c9, .slice d9 m9 g9]) (ffP U9) (ffQ U9)) (S4.out.rfr (.agg #[.slice a10 n10 c10, .slice d10 m10 g10]) (ffP U91) (ffQ U91))).mono ?_
        rintro e w11 ⟨v11, rfl, hv, hb⟩
        have S5 : Hid _ := (S4.out.go hb).addG hv
        clear hv hb S4
        go_wp2_with fail
        refine (DI.out _ _ (S5.out.rfr v11 X Y)).mono ?_
        rintro e w12 ⟨v12, rfl, hv, hb⟩
        obtain ⟨a12, n12, c12, d12, m12, g12, ev, _, _⟩ := id hv
        subst ev
        have S6 : Hid _ := (S5.out.go hb).addG hv
        clear hv hb S5
        have k0 := S6.out.cel b9 0 (.slice a9 n9 c9)
        have k1 := S6.out.cel b9 1 (.slice d9 m9 g9)
        have f0 := S6.out.fz b9 0
        have f1 := S6.out.fz b9 1
        go_wp2_with fail
        go_meet
        exact ⟨X2, Y2, a12, n12, c12, d12, m12, g12, FD.out, (S6.out.put2 k0 k1 (by simp) [] (by simp) (.slice a12 n12 c12) (.slice d12 m12 g12)).sub _ _ _ _ _ _ (by simp) (by simp) (by simp) (by simp) (by simp) (by simp)⟩
    case rest =>
      clear S3
      obtain ⟨vp, vq, a9, n9, c9, d9, m9, g9, fv, sv⟩ := hcut
      have FV : Hid (Fc vp vq vp vq 36) := fv
      have S3 : Hid _ := sv
      clear fv sv
      go_wp2_with fail
      refine (rof_any 1 _ (by omega)).mono ?_
      rintro e w13 ⟨v13, rfl, hv, hb⟩
      have S4 : Hid _ := (S3.out.go hb).addM hv
      clear hv hb S3
      go_wp2_with fail
      refine (rof_any 1 _ (by omega)).mono ?_
      rintro e w14 ⟨v14, rfl, hv, hb⟩
      have S5 : Hid _ := (S4.out.go hb).addM hv
      clear hv hb S4
      have kr := KR.out
      go_wp2_with fail
      refine (rleft_any _ 1 k _ (S5.out.rat v14 1) (rs_word (by omega)).rfits (by have := HK.out; omega)).mono ?_
      rintro e w15 ⟨v15, rfl, hv, hb⟩
      rw [Nat.one_mul] at hv
      have S6 : Hid _ := (S5.out.go hb).addM hv
      clear hv hb S5 kr
      have SF : Hid (Fc 1 (2 ^ k) 1 (2 ^ k) 35) := small_fc HK.out
      go_wp2_with fail
      refine (rfrom2_yes _ _ 1 (2 ^ k) _ (S6.out.rat v13 1) (S6.out.rat v15 (2 ^ k)) (rs_word (by omega)).rsome (SF.out.rs2 (by omega)).rsome (Nat.two_pow_pos _)).mono ?_
      rintro e v16w ⟨v16, rfl, hv, hb⟩
      rw [Nat.gcd_one_left, Nat.div_one, Nat.div_one] at hv
      obtain ⟨a16, n16, c16, d16, m16, g16, ev, _, _⟩ := id hv
      subst ev
      have S7 : Hid _ := ((S6.out.go hb).addG hv).box (.slice a16 n16 c16) (.slice d16 m16 g16) 32 _ rfl
      have HL : Hid (b9 < v16w.heap.size) := (S6.out.go hb).lt b9
      clear hv hb S6
      go_upto_if 90 with (fail)
      obtain ⟨w16, ew⟩ : ∃ w16, w16 = v16w.alloc (.cells #[.slice a16 n16 c16, .slice d16 m16 g16] 32) := ⟨_, rfl⟩
      obtain ⟨b16, eb⟩ : ∃ b16, b16 = v16w.heap.size := ⟨_, rfl⟩
      rw [← ew, ← eb] at S7
      rw [← ew, ← eb]
      clear ew eb
      go_cut [] from 29 (fun wc => VS w wc b9 72)
      case first =>
        have y0 := S7.out.cel b9 0 (.slice a9 n9 c9)
        have y1 := S7.out.cel b9 1 (.slice d9 m9 g9)
        have y2 := S7.out.cel b16 0 (.slice a16 n16 c16)
        have y3 := S7.out.cel b16 1 (.slice d16 m16 g16)
        have SV : Hid (VS w w16 b9 72) := ⟨vp, vq, a9, n9, c9, d9, m9, g9, FV.out.up (by omega), S7.out.sub _ _ _ _ _ _ (by simp) (by simp) (by simp) (by simp) (by simp) (by simp)⟩
        by_cases c1 : 0 < z1
        · have t1 : decide (0 < z1) = true := decide_eq_true c1
          obtain ⟨X, Y, fa, ad⟩ := FV.out.radd SF.out (by omega) (by omega)
          have AD : Hid _ := ad
          have FA : Hid (Fc X Y X Y 72) := fa.self
          clear fa ad SV
          go_wp2_with fail
          refine (AD.out _ _ _ (S7.out.rfr (.agg #[.slice a9 n9 c9, .slice d9 m9 g9]) vp vq) (S7.out.rfr (.agg #[.slice a16 n16 c16, .slice d16 m16 g16]) 1 (2 ^ k))).mono ?_
          rintro e w17 ⟨v17, rfl, hv, hb⟩
          obtain ⟨a17, n17, c17, d17, m17, g17, ev, _, _⟩ := id hv
          subst ev
          have S8 : Hid _ := (S7.out.go hb).addG hv
          clear hv hb S7 y0 y1 y2 y3
          have k0 := S8.out.cel b9 0 (.slice a9 n9 c9)
          have k1 := S8.out.cel b9 1 (.slice d9 m9 g9)
          have f0 := S8.out.fz b9 0
          have f1 := S8.out.fz b9 1
          go_wp2_with fail
          go_meet
          exact ⟨X, Y, a17, n17, c17, d17, m17, g17, FA.out, (S8.out.put2 k0 k1 (by simp) [] (by simp) (.slice a17 n17 c17) (.slice d17 m17 g17)).sub _ _ _ _ _ _ (by simp) (by simp) (by simp) (by simp) (by simp) (by simp)⟩
        · have t1 : decide (0 < z1) = false := decide_eq_false c1
          by_cases c2 : 0 < z2
          · have t2 : decide (0 < z2) = true := decide_eq_true c2
            obtain ⟨zc, hzc⟩ : ∃ zc, cmpI (vp * 2 ^ k) (1 * vq) = zc := ⟨_, rfl⟩
            have CM : Hid _ := FV.out.rcmp SF.out (by omega) (by omega) hzc
            have HZ : Hid (cmpI (vp * 2 ^ k) (1 * vq) = zc) := hzc
            clear hzc
            go_wp2_with fail
            refine (CM.out _ _ _ (S7.out.rfr (.agg #[.slice a9 n9 c9, .slice d9 m9 g9]) vp vq) (S7.out.rfr (.agg #[.slice a16 n16 c16, .slice d16 m16 g16]) 1 (2 ^ k))).mono ?_
            rintro e w17 ⟨rfl, hb⟩
            have S8 : Hid _ := S7.out.go hb
            clear hb S7 y0 y1 y2 y3 SV
            have y0 := S8.out.cel b9 0 (.slice a9 n9 c9)
            have y1 := S8.out.cel b9 1 (.slice d9 m9 g9)
            have y2 := S8.out.cel b16 0 (.slice a16 n16 c16)
            have y3 := S8.out.cel b16 1 (.slice d16 m16 g16)
            by_cases c3 : 0 < zc
            · have t3 : decide (0 < zc) = true := decide_eq_true c3
              have hle : 1 * vq ≤ vp * 2 ^ k := by
                have h9 := HZ.out
                rcases Nat.lt_or_ge (vp * 2 ^ k) (1 * vq) with h8 | h8
                · rw [cmpI_lt h8] at h9
                  omega
                · exact h8
              obtain ⟨X, Y, fa, ad⟩ := FV.out.rsub SF.out (by omega) (by omega) hle
              have AD : Hid _ := ad
              have FA : Hid (Fc X Y X Y 72) := fa.self.up (by omega)
              clear fa ad hle
              go_wp2_with fail
              refine (rless2_any _ _ vp vq 1 (2 ^ k) X Y _ (S8.out.rfr (.agg #[.slice a9 n9 c9, .slice d9 m9 g9]) vp vq) (S8.out.rfr (.agg #[.slice a16 n16 c16, .slice d16 m16 g16]) 1 (2 ^ k)) AD.out).mono ?_
              rintro e w18 ⟨v17, rfl, hv, hb⟩
              obtain ⟨a17, n17, c17, d17, m17, g17, ev, _, _⟩ := id hv
              subst ev
              have S9 : Hid _ := (S8.out.go hb).addG hv
              clear hv hb S8 y0 y1 y2 y3
              have k0 := S9.out.cel b9 0 (.slice a9 n9 c9)
              have k1 := S9.out.cel b9 1 (.slice d9 m9 g9)
              have f0 := S9.out.fz b9 0
              have f1 := S9.out.fz b9 1
              go_wp2_with fail
              go_meet
              exact ⟨X, Y, a17, n17, c17, d17, m17, g17, FA.out, (S9.out.put2 k0 k1 (by simp) [] (by simp) (.slice a17 n17 c17) (.slice d17 m17 g17)).sub _ _ _ _ _ _ (by simp) (by simp) (by simp) (by simp) (by simp) (by simp)⟩
            · have t3 : decide (0 < zc) = false := decide_eq_false c3
              go_wp2_with fail
              go_meet
              exact ⟨vp, vq, a9, n9, c9, d9, m9, g9, FV.out.up (by omega), S8.out.sub _ _ _ _ _ _ (by simp) (by simp) (by simp) (by simp) (by simp) (by simp)⟩
          · have t2 : decide (0 < z2) = false := decide_eq_false c2
            go_wp2_with fail
            go_meet
            exact SV.out
      case rest =>
        clear S7 FV SF
        obtain ⟨V1, V2, a9, n9, c9, d9, m9, g9, fv, sv⟩ := hcut
        have FV : Hid (Fc V1 V2 V1 V2 72) := fv
        have S3 : Hid _ := sv
        have HN := rrt_nats (S3.out.rfr (.agg #[.slice a9 n9 c9, .slice d9 m9 g9]) V1 V2)
        have S4 : Hid _ := (S3.out.addM HN.1).addM HN.2
        have HF : Hid (RS V1 ∧ RS V2 ∧ 0 < V2 ∧ Nat.gcd V1 V2 = 1) := ⟨fv.rs1 (by omega), fv.rs2 (by omega), fv.pos, fv.low⟩
        obtain ⟨B0, hB0⟩ : ∃ B0, tfV V1 V2 = B0 := ⟨_, rfl⟩
        obtain ⟨ok1, hok1⟩ : ∃ ok1, tfOk V1 V2 = ok1 := ⟨_, rfl⟩
        have HB0 : Hid (tfV V1 V2 = B0 ∧ tfOk V1 V2 = ok1) := ⟨hB0, hok1⟩
        clear fv sv HN S3 hB0 hok1
        go_wp2_with fail
        refine wp_region_inv (JC wc [sEq (.pointer (some ⟨b9, 0, none⟩)), sR (V1), sBy (V1), sNat (V1), sEq (.pointer (some ⟨b9, 1, none⟩)), sR (V2), sBy (V2), sNat (V2), sRtB (V1) (V2) true, sRtB (V1) (V2) true, sRt (V1) (V2), sEq (.bool true), sAny, sAny, sEq (.bool true)] (12, 13, 10)) 140 (by kernel_rfl) rfl (by kernel_rfl) (JC.start _ _ _) (fun HG HN => ⟨?_, ?_, ?_, ?_, ?_, ?_, ?_, ?_, ?_, ?_, ?_, ?_, ?_, ?_, ?_, trivial⟩) ?_
        · intro L vs a w' hJ hF hP hL
          have q17 : (a.tmps[17]?).getD undef = .pointer (some ⟨b9, 0, none⟩) := hF.old 17 rfl
          exact run_val (v := .pointer (some ⟨b9, 0, none⟩)) rfl (by simp [execOp, go_sem, q17]) ⟨_, rfl, hJ.step hL rfl (Below.refl _ _) (by exact rfl)⟩
        · intro L vs a w' hJ hF hP hL
          have p0 : L 0 = true := hP ⟨0, .data⟩ (by simp) rfl
          have s0 : vs 0 = .pointer (some ⟨b9, 0, none⟩) := hJ.sp 0 p0
          have q107 := hF.slot 0 107 rfl p0
          have cb := cell_later hJ.bel (S4.out.cel (b9) 0 (.slice a9 n9 c9))
          exact run_val (v := .agg #[.slice a9 n9 c9]) rfl (by simp [execOp, go_sem, q107, s0, cb]) ⟨_, rfl, hJ.step hL rfl (Below.refl _ _) (by exact ((S4.out.rat (.agg #[.slice a9 n9 c9]) (V1)).mono hJ.bel))⟩
        · intro L vs a w' hJ hF hP hL
          have p1 : L 1 = true := hP ⟨1, .data⟩ (by simp) rfl
          have s1 : RNat w' (vs 1) (V1) := hJ.sp 1 p1
          have q108 := hF.slot 1 108 rfl p1
          refine run_call (f := 23) (args := #[vs 1]) rfl (by simp [go_sem, q108]) (rbytes_any _ V1 _ s1 HF.out.1.rfits) ?_
          rintro e w2 ⟨gb, rfl, hg, hR, hb⟩
          exact ⟨_, rfl, _, rfl, hJ.step hL rfl hb (by exact ⟨gb, rfl, fun i hi => hR.cell hi⟩)⟩
        · intro L vs a w' hJ hF hP hL
          have p2 : L 2 = true := hP ⟨2, .data⟩ (by simp) rfl
          have s2 : ByIs w' (vs 2) (V1) := hJ.sp 2 p2
          have q109 := hF.slot 2 109 rfl p2
          refine run_call (f := 22) (args := #[vs 2]) rfl (by simp [go_sem, q109]) (nfrom_by _ V1 _ s2 (bl_RS HF.out.1)) ?_
          rintro e w2 ⟨v, rfl, hv, hb⟩
          exact ⟨_, rfl, _, rfl, hJ.step hL rfl hb (by exact hv)⟩
        · intro L vs a w' hJ hF hP hL
          have q17 : (a.tmps[17]?).getD undef = .pointer (some ⟨b9, 0, none⟩) := hF.old 17 rfl
          exact run_val (v := .pointer (some ⟨b9, 1, none⟩)) rfl (by simp [execOp, go_sem, q17]) ⟨_, rfl, hJ.step hL rfl (Below.refl _ _) (by exact rfl)⟩
        · intro L vs a w' hJ hF hP hL
          have p4 : L 4 = true := hP ⟨4, .data⟩ (by simp) rfl
          have s4 : vs 4 = .pointer (some ⟨b9, 1, none⟩) := hJ.sp 4 p4
          have q111 := hF.slot 4 111 rfl p4
          have cb := cell_later hJ.bel (S4.out.cel (b9) 1 (.slice d9 m9 g9))
          exact run_val (v := .agg #[.slice d9 m9 g9]) rfl (by simp [execOp, go_sem, q111, s4, cb]) ⟨_, rfl, hJ.step hL rfl (Below.refl _ _) (by exact ((S4.out.rat (.agg #[.slice d9 m9 g9]) (V2)).mono hJ.bel))⟩
        · intro L vs a w' hJ hF hP hL
          have p5 : L 5 = true := hP ⟨5, .data⟩ (by simp) rfl
          have s5 : RNat w' (vs 5) (V2) := hJ.sp 5 p5
          have q112 := hF.slot 5 112 rfl p5
          refine run_call (f := 23) (args := #[vs 5]) rfl (by simp [go_sem, q112]) (rbytes_any _ V2 _ s5 HF.out.2.1.rfits) ?_
          rintro e w2 ⟨gb, rfl, hg, hR, hb⟩
          exact ⟨_, rfl, _, rfl, hJ.step hL rfl hb (by exact ⟨gb, rfl, fun i hi => hR.cell hi⟩)⟩
        · intro L vs a w' hJ hF hP hL
          have p6 : L 6 = true := hP ⟨6, .data⟩ (by simp) rfl
          have s6 : ByIs w' (vs 6) (V2) := hJ.sp 6 p6
          have q113 := hF.slot 6 113 rfl p6
          refine run_call (f := 22) (args := #[vs 6]) rfl (by simp [go_sem, q113]) (nfrom_by _ V2 _ s6 (bl_RS HF.out.2.1)) ?_
          rintro e w2 ⟨v, rfl, hv, hb⟩
          exact ⟨_, rfl, _, rfl, hJ.step hL rfl hb (by exact hv)⟩
        · intro L vs a w' hJ hF hP hL
          have p3 : L 3 = true := hP ⟨3, .data⟩ (by simp) rfl
          have s3 : IsNat w' (vs 3) (V1) := hJ.sp 3 p3
          have q110 := hF.slot 3 110 rfl p3
          have p7 : L 7 = true := hP ⟨7, .data⟩ (by simp) rfl
          have s7 : IsNat w' (vs 7) (V2) := hJ.sp 7 p7
          have q114 := hF.slot 7 114 rfl p7
          refine run_call (f := 21) (args := #[vs 3, vs 7]) rfl (by simp [go_sem, q110, q114]) (from_low _ _ V1 V2 _ s3 s7 HF.out.1 HF.out.2.1 HF.out.2.2.1 HF.out.2.2.2 (HT.out.go (bel_go S4.out.bel hJ.bel))) ?_
          rintro e w2 ⟨v1, rfl, h1, hb⟩
          exact ⟨_, rfl, _, rfl, hJ.step hL rfl hb (by exact ⟨v1, rfl, h1⟩)⟩
        · intro L vs a w' hJ hF hP hL
          have p8 : L 8 = true := hP ⟨8, .data⟩ (by simp) rfl
          have s8 : ∃ p, vs 8 = .tuple #[p, .bool true] ∧ Rt w' p (V1) (V2) := hJ.sp 8 p8
          have q115 := hF.slot 8 115 rfl p8
          exact run_val (v := vs 8) rfl (by simp [execOp, go_sem, q115]) ⟨_, rfl, hJ.step hL rfl (Below.refl _ _) (by exact s8)⟩
        · intro L vs a w' hJ hF hP hL
          have p9 : L 9 = true := hP ⟨9, .data⟩ (by simp) rfl
          have s9 : ∃ p, vs 9 = .tuple #[p, .bool true] ∧ Rt w' p (V1) (V2) := hJ.sp 9 p9
          have q106 := hF.slot 9 106 rfl p9
          obtain ⟨vp, e1, e2⟩ := s9
          exact run_val (v := vp) rfl (by simp [execOp, go_sem, q106, e1]) ⟨_, rfl, hJ.step hL rfl (Below.refl _ _) (by exact e2)⟩
        · intro L vs a w' hJ hF hP hL
          have p9 : L 9 = true := hP ⟨9, .data⟩ (by simp) rfl
          have s9 : ∃ p, vs 9 = .tuple #[p, .bool true] ∧ Rt w' p (V1) (V2) := hJ.sp 9 p9
          have q106 := hF.slot 9 106 rfl p9
          obtain ⟨vp, e1, e2⟩ := s9
          exact run_val (v := .bool true) rfl (by simp [execOp, go_sem, q106, e1]) ⟨_, rfl, hJ.step hL rfl (Below.refl _ _) (by exact rfl)⟩
        · intro L vs a w' hJ hF hP hL
          exact run_val (v := .pointer (some ⟨w'.heap.size, 0, none⟩)) (w' := w'.alloc (.cells #[.slice none 0 0, .slice none 0 0] 28)) rfl (by simp [execOp, go_sem]) ⟨_, rfl, hJ.alloc hL rfl (by decide) rfl _⟩
        · intro L vs a w' hJ hF hP hL
          have p12 : L 12 = true := hP ⟨12, .data⟩ (by simp) rfl
          have q23 := hF.slot 12 23 rfl p12
          have p10 : L 10 = true := hP ⟨10, .data⟩ (by simp) rfl
          have s10 : Rt w' (vs 10) (V1) (V2) := hJ.sp 10 p10
          have q116 := hF.slot 10 116 rfl p10
          obtain ⟨bk, e1, e2, e3, e4, e4', e5, e6⟩ := hJ.bx p12
          obtain ⟨e7, e7'⟩ := e5 hL
          obtain ⟨aa, nn, cc, a2, n2, c2, e8, _, _⟩ := s10.raw
          exact run_unit (w' := (w'.setCell ⟨bk, 0, none⟩ (.slice aa nn cc)).setCell ⟨bk, 1, none⟩ (.slice a2 n2 c2)) rfl (by simp [execOp, go_sem, q23, q116, e1, e8, e7, e4, e7', e4']) ⟨undef, rfl, hJ.store hL p12 p10 (by decide) rfl e1 e8⟩
        · intro L vs a w' hJ hF hP hL
          have p11 : L 11 = true := hP ⟨11, .data⟩ (by simp) rfl
          have s11 : vs 11 = .bool true := hJ.sp 11 p11
          have q117 := hF.slot 11 117 rfl p11
          exact run_val (v := .bool true) rfl (by simp [execOp, go_sem, q117, s11]) ⟨_, rfl, hJ.step hL rfl (Below.refl _ _) (by exact rfl)⟩
        intro L vs w' hA hJ
        have s10 : Rt w' (vs 10) (V1) (V2) := hJ.sp 10 (hA 10 (by simp))
        have s14 : vs 14 = .bool true := hJ.sp 14 (hA 14 (by simp))
        obtain ⟨bk12, eb12, ge12, lt12, fz12, fz12', _, e6⟩ := hJ.bx (hA 12 (by simp))
        obtain ⟨_, u12, u12', eu12, ce12, ce12'⟩ := e6 (hA 13 (by simp))
        clear e6
        simp only [putL, Act.put, List.setIfInBounds_toArray, List.set_cons_zero, List.set_cons_succ, Nat.reduceAdd]
        obtain ⟨a20, n20, c20, d20, m20, g20, ev, _, _⟩ := s10.raw
        rw [ev] at s10 eu12
        obtain ⟨rfl, rfl⟩ : u12 = .slice a20 n20 c20 ∧ u12' = .slice d20 m20 g20 := by simpa [eq_comm] using eu12
        simp only [eb12, s14]
        have S5 : Hid _ := (((S4.out.go hJ.bel).addF s10).addC ce12').addC ce12
        obtain ⟨w20, ew⟩ : ∃ w20, w20 = w' := ⟨_, rfl⟩
        obtain ⟨b20, eb⟩ : ∃ b20, b20 = bk12 := ⟨_, rfl⟩
        rw [← ew, ← eb] at S5
        rw [← ew, ← eb]
        clear ew eb ev s10 s14 eu12 eb12 ce12 ce12' ge12 lt12 fz12 fz12' hJ hA S4
        have y0 := S5.out.cel b20 0 (.slice a20 n20 c20)
        have y1 := S5.out.cel b20 1 (.slice d20 m20 g20)
        go_wp2_with fail
        refine (toFloat_any _ V1 V2 _ (S5.out.fr (.agg #[.slice a20 n20 c20, .slice d20 m20 g20]) V1 V2) HF.out.1 HF.out.2.1 HF.out.2.2.1).mono ?_
        rintro e w21 ⟨rfl, hb⟩
        rw [HB0.out.1, HB0.out.2]
        have S6 : Hid _ := S5.out.go hb
        clear hb S5 y0 y1
        have y0 := S6.out.cel b9 0 (.slice a9 n9 c9)
        have y1 := S6.out.cel b9 1 (.slice d9 m9 g9)
        go_wp2_with fail
        refine (rtoFloat_any _ V1 V2 _ (S6.out.rfr (.agg #[.slice a9 n9 c9, .slice d9 m9 g9]) V1 V2) HF.out.1 HF.out.2.1 HF.out.2.2.1).mono ?_
        rintro e w22 ⟨rfl, hb⟩
        rw [HB0.out.1, HB0.out.2]
        have S7 : Hid _ := S6.out.go hb
        clear hb S6 y0 y1
        go_wp2_with fail
        refine (bits_any B0 _).mono ?_
        rintro e wx ⟨rfl, hwx⟩
        rw [hwx]
        clear hwx wx
        go_wp2_with fail
        refine (started3 _ (HT.out.go S7.out.bel)).mono ?_
        rintro e w23 ⟨rfl, hb⟩
        have HB : Hid (Below w.heap.size w w23) := (S7.out.go hb).bel
        clear hb S7
        go_wp2_with fail
        go_ret
        exact ⟨rfl, HB.out⟩
theorem nears_any {w : World} {u : Nat} {half : Bool} {byy : Int} {a0 : Option Addr} {l0 k0 : Nat} {a1 : Option Addr} {l1 k1 : Nat} {D0 D1 : Nat → Nat} (h0 : BSl w a0 l0 k0 D0) (h1 : BSl w a1 l1 k1 D1) (hu : u < 18446744073709551616) (hT : Tab w) :
    Calls Tryz.prog 3 #[.slice a0 l0 k0, .slice a1 l1 k1, .int .u64 (u : Int), .bool half, .int .i64 byy] w fun e w' => e = .returned (.bool true) ∧ Below w.heap.size w w' := by
  obtain ⟨m0, x, f0⟩ := fed3_of h0
  obtain ⟨m1, y, f1⟩ := fed3_of h1
  exact nears3 u half byy a0 l0 k0 a1 l1 k1 m0 m1 x y _ _ w hu f0 f1 hT rfl rfl (made_fc f0.rs f1.rs)
end Go.Proofs.YtmiiaomdenpceaaGreatDoor


