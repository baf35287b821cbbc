/- Contracts of the program's functions, part 7: own work, joined in build order. -/
import Derived.Test.YtfkkomppfghagaaGreatDoorJ6
import Derived.Shelf.Spec.TrailingZeros
import Derived.Deep.Cut
import Derived.Laws.BytesArg
namespace Go.Proofs.YtfkkomppfghagaaGreatDoor
open Go.RowKit
set_option maxRecDepth 100000
set_option linter.unusedVariables false
def Tab (w : World) : Prop := TabAt 1 Lib.deBruijn64tab w
theorem Tab.go {w w' : World} (h : Tab w) (hb : Below w.heap.size w w') : Tab w' := fun j hj => cell_later hb (h j hj)
set_option maxHeartbeats 1000000 in
theorem tz64_core (x k idx : Nat) (w : World) (hx0 : ((x : Int) == 0) = false)
    (key : IntKind.u64.wrap (bits BinOp.and IntKind.u64 (x : Int) (IntKind.u64.wrap (-(x : Int))) * 285870213051353865) / 288230376151711744 = (idx : Int))
    (hi : idx < 64) (hk : k < 64) (hcell : w.cell? ⟨1, idx, none⟩ = some (.int .u8 k)) :
    Calls Tryz.prog 120 #[.int .u64 x] w fun e w' => e = .returned (.int .i64 k) ∧ w' = w := by
  go_enter Tryz.func120, Tryz.ntmps120
  go_wp2_with (simp only [key])
  go_ret
  exact ⟨rfl, rfl⟩
theorem tz64_any (x : Nat) (hx : x < 18446744073709551616) (w : World) (hT : Tab w) (hx0 : x ≠ 0) :
    Calls Tryz.prog 120 #[.int .u64 x] w fun e w' => (∃ k : Nat, e = .returned (.int .i64 (k : Int)) ∧ k < 64 ∧ x % 2 ^ k = 0) ∧ w' = w := by
  obtain ⟨hlow, hk⟩ := Lib.lowest_bit 64 x hx0 hx
  obtain ⟨hi, htab⟩ := Lib.deBruijn64_at _ hk
  have hcell := hT _ hi
  rw [htab] at hcell
  refine (tz64_core x _ _ w (by simp; omega) (tz64_key x _ hx hx0 hlow) hi hk hcell).mono ?_
  rintro e w' ⟨rfl, rfl⟩
  refine ⟨⟨_, rfl, hk, ?_⟩, rfl⟩
  obtain ⟨m, hm, _⟩ := Lib.ctzFrom_spec 64 x (by omega) hx
  have e : Lib.ctz 64 x = Lib.ctzFrom 64 x := by simp [Lib.ctz, hx0]
  rw [e]
  exact Nat.mod_eq_zero_of_dvd ⟨_, hm⟩
def lng (n m : Nat) : Nat → Nat
  | 0 => 0
  | 1 => n
  | _ => max n m
def sn (f g : Nat) : Nat → Nat
  | 0 => 0
  | 1 => f
  | _ => f ||| g
set_option maxHeartbeats 2000000 in
theorem sharedTwos_any (g : Nat) (a : Option Addr) (n cap : Nat) (F : Nat → Nat) (a' : Option Addr) (m cap' : Nat) (G : Nat → Nat) (w : World) (hF : Sl w a n cap F) (hG : Sl w a' m cap' G) (hn : n ≤ 4294967296) (hm : m ≤ 4294967296) (hT : Tab w)
    (d0 : w.cell? ⟨g, 0, none⟩ = some (.slice a n cap)) (d1 : w.cell? ⟨g, 1, none⟩ = some (.slice a' m cap')) :
    Calls Tryz.prog 95 #[.slice (some ⟨g, 0, none⟩) 2 2] w fun e w' => (∃ t : Nat, e = .returned (.int .i64 (t : Int)) ∧ t ≤ 281474976710656 ∧ 2 ^ t ∣ V F n ∧ 2 ^ t ∣ V G m) ∧ w' = w := by
  have HH : Hid (Sl w a n cap F ∧ Sl w a' m cap' G ∧ Tab w) := ⟨hF, hG, hT⟩
  clear hF hG hT
  obtain ⟨mx, hmx⟩ : ∃ mx : Nat, mx = max n m := ⟨_, rfl⟩
  have hm3 : mx ≤ 4294967296 := by omega
  have E1 : Hid ((if n < m then (m : Int) else (n : Int)) = (mx : Int)) := by show _ = _; split <;> omega
  have MX : Hid (lng n m 2 = mx) := hmx.symm
  clear hmx
  go_enter Tryz.func95, Tryz.ntmps95
  go_wp2_with fail
  go_loop [3, 12] (fun l t => ∃ k : Nat, k ≤ 2 ∧ t = .int .i64 (k : Int) ∧ l = .int .i64 ((lng n m k : Nat) : Int)) (fun _ t => 2 - (intOf t).toNat)
  case atStart => exact ⟨0, by omega, rfl, rfl⟩
  case round =>
    obtain ⟨k, hk, rfl, rfl⟩ := hrel
    by_cases h0 : k = 0
    · subst h0
      have hz : Hid (lng n m 1 = n) := rfl
      have e0 : lng n m 0 = 0 := rfl
      rw [e0]
      have e1 : (if 0 < n then (n : Int) else 0) = (n : Int) := by split <;> omega
      go_wp2_with fail
      go_round
      case rel => exact ⟨1, by omega, rfl, by first | rfl | rw [e1]; rfl⟩
      case measure => simp [intOf]
    by_cases h1 : k = 1
    · subst h1
      have e1 := E1.out
      have e0 : lng n m 1 = n := rfl
      rw [e0]
      go_wp2_with fail
      go_round
      case rel => exact ⟨2, by omega, rfl, by rw [MX.out]⟩
      case measure => simp [intOf]
    obtain rfl : k = 2 := by omega
    rw [MX.out]
    clear h0 h1 hk
    go_wp2_with fail
    go_loop [22] (fun t => ∃ i : Nat, i ≤ mx ∧ t = .int .i64 (i : Int) ∧ Hid (∀ j, j < i → cutU F n 0 j = 0 ∧ cutU G m 0 j = 0)) (fun t => mx - (intOf t).toNat)
    case atStart => exact ⟨0, by omega, rfl, fun j hj => absurd hj (by omega)⟩
    case round =>
      obtain ⟨i, hi, rfl, hz⟩ := hrel
      by_cases him : i < mx
      · have him' : (i : Int) < (mx : Int) := by omega
        go_wp2_with fail
        go_loop [7, 27] (fun q t => ∃ k : Nat, k ≤ 2 ∧ t = .int .i64 (k : Int) ∧ q = .int .u64 ((sn (cutU F n 0 i) (cutU G m 0 i) k : Nat) : Int)) (fun _ t => 2 - (intOf t).toNat)
        case atStart => exact ⟨0, by omega, rfl, rfl⟩
        case round =>
          obtain ⟨k, hk, rfl, rfl⟩ := hrel
          by_cases h0 : k = 0
          · subst h0
            by_cases hin : i < n
            · obtain ⟨b, o, rfl, hw⟩ := HH.out.1.at i hin
              have hc := hw i hin
              have hFi : F i < 18446744073709551616 := HH.out.1.2.2.1 i hin
              have e0 : cutU F n 0 i = F i := by rw [cutU_in (by omega), Nat.zero_add]
              have hb : bits .or .u64 0 ((F i : Nat) : Int) = ((F i : Nat) : Int) := by
                have := bits_or_u64_nat 0 (F i) (by omega) hFi
                rw [Nat.zero_or] at this
                exact this
              have SN : Hid (sn (cutU F n 0 i) (cutU G m 0 i) 1 = F i) := e0
              rw [show sn (cutU F n 0 i) (cutU G m 0 i) 0 = 0 from rfl]
              clear hw e0 hFi
              go_wp2_with fail
              go_round
              case rel => exact ⟨1, by omega, rfl, by rw [SN.out]⟩
              case measure => simp [intOf]
            have SN : Hid (sn (cutU F n 0 i) (cutU G m 0 i) 1 = 0) := cutU_out (by omega)
            have hd : decide (i < n) = false := decide_eq_false hin
            rw [show sn (cutU F n 0 i) (cutU G m 0 i) 0 = 0 from rfl]
            go_wp2_with fail
            go_round
            case rel => exact ⟨1, by omega, rfl, by rw [SN.out]⟩
            case measure => simp [intOf]
          by_cases h1 : k = 1
          · subst h1
            by_cases hin : i < m
            · obtain ⟨b, o, rfl, hw⟩ := HH.out.2.1.at i hin
              have hc := hw i hin
              have hGi : G i < 18446744073709551616 := HH.out.2.1.2.2.1 i hin
              have hFi : cutU F n 0 i < 18446744073709551616 := ok_cut (n := i + 1) HH.out.1.2.2.1 i (by omega)
              have hb := bits_or_u64_nat (cutU F n 0 i) (G i) hFi hGi
              have SN : Hid (sn (cutU F n 0 i) (cutU G m 0 i) 2 = cutU F n 0 i ||| G i) := by
                show _ ||| _ = _
                rw [cutU_in (F := G) (by omega), Nat.zero_add]
              rw [show sn (cutU F n 0 i) (cutU G m 0 i) 1 = cutU F n 0 i from rfl]
              clear hw hFi hGi
              go_wp2_with fail
              go_round
              case rel => exact ⟨2, by omega, rfl, by rw [SN.out]⟩
              case measure => simp [intOf]
            have SN : Hid (sn (cutU F n 0 i) (cutU G m 0 i) 2 = cutU F n 0 i) := by
              show _ ||| _ = _
              rw [cutU_out (F := G) (by omega), Nat.or_zero]
            have hd : decide (i < m) = false := decide_eq_false hin
            rw [show sn (cutU F n 0 i) (cutU G m 0 i) 1 = cutU F n 0 i from rfl]
            go_wp2_with fail
            go_round
            case rel => exact ⟨2, by omega, rfl, by rw [SN.out]⟩
            case measure => simp [intOf]
          obtain rfl : k = 2 := by omega
          clear h0 h1 hk
          have hcF : cutU F n 0 i < 18446744073709551616 := ok_cut (n := i + 1) HH.out.1.2.2.1 i (by omega)
          have hcG : cutU G m 0 i < 18446744073709551616 := ok_cut (n := i + 1) HH.out.2.1.2.2.1 i (by omega)
          obtain ⟨q, hq⟩ : ∃ q, q = sn (cutU F n 0 i) (cutU G m 0 i) 2 := ⟨_, rfl⟩
          have hq64 : q < 18446744073709551616 := by rw [hq]; exact Nat.or_lt_two_pow (n := 64) hcF hcG
          rw [← hq]
          have HQ : Hid (q = cutU F n 0 i ||| cutU G m 0 i) := hq
          clear hq hcF hcG
          by_cases hq0 : q = 0
          · subst hq0
            have hn2 := Nat.or_eq_zero_iff.1 HQ.out.symm
            have HZ : Hid _ := hn2
            clear hn2
            go_wp2_with fail
            go_round
            case rel =>
              refine ⟨i + 1, by omega, by go_num, fun j hj => ?_⟩
              by_cases e : j = i
              · rw [e]; exact HZ.out
              exact hz.out j (by omega)
            case measure => simp [intOf]; omega
          have hqn : ((q : Int) != 0) = true := by simp; omega
          go_wp2_with fail
          refine (tz64_any q hq64 _ HH.out.2.2 hq0).mono ?_
          rintro e w' ⟨⟨kk, rfl, hk64, hmod⟩, hw'⟩
          rw [hw']
          clear hw' w'
          have DV : Hid (2 ^ (64 * i + kk) ∣ V F n ∧ 2 ^ (64 * i + kk) ∣ V G m) := by
            rw [HQ.out] at hmod
            have o1 := or_mod hmod
            exact ⟨V_dvd (fun j hj => (hz.out j hj).1) o1.1 (by omega), V_dvd (fun j hj => (hz.out j hj).2) o1.2 (by omega)⟩
          clear hmod
          go_wp2_with fail
          go_ret
          exact ⟨⟨64 * i + kk, ret_int (by omega), by omega, DV.out⟩, rfl⟩
      obtain rfl : i = mx := by omega
      go_wp2_with fail
      go_ret
      exact ⟨⟨0, rfl, by omega, by rw [Nat.pow_zero]; exact Nat.one_dvd _, by rw [Nat.pow_zero]; exact Nat.one_dvd _⟩, rfl⟩
structure Gd (w wr : World) (g : Nat) (X Y : Value) (p q : Nat) : Prop where
  bx : wr.rowIs w.heap.size 45 1 (fun _ => X)
  hy : wr.rowIs (w.heap.size + 1) 45 1 (fun _ => Y)
  br : wr.rowIs (w.heap.size + 1 + 1) 45 1 (fun _ => .slice none 0 0)
  nx : IsNat wr (.agg #[X]) p
  ny : IsNat wr (.agg #[Y]) q
  le : q ≤ p
  hx : p < P 198
  gcd : Nat.gcd p q = g
  tab : Tab wr
  bel : Below w.heap.size w wr
theorem Gd.go {w wr wr' : World} {g : Nat} {X Y : Value} {p q : Nat} (h : Gd w wr g X Y p q) (hb : Below wr.heap.size wr wr') : Gd w wr' g X Y p q :=
  ⟨h.bx.of_block (hb.block _ h.bx.lt), h.hy.of_block (hb.block _ h.hy.lt), h.br.of_block (hb.block _ h.br.lt), h.nx.mono hb, h.ny.mono hb, h.le, h.hx, h.gcd, h.tab.go hb, bel_go h.bel hb⟩
theorem gd_swap {w wr : World} {x y : Nat} {ax : Option Addr} {nx cx : Nat} {ay : Option Addr} {ny cy : Nat} (b0 : wr.rowIs w.heap.size 45 1 (fun _ => .slice ax nx cx)) (b1 : wr.rowIs (w.heap.size + 1) 45 1 (fun _ => .slice ay ny cy)) (b2 : wr.rowIs (w.heap.size + 1 + 1) 45 1 (fun _ => .slice none 0 0)) (hx : IsNat wr (.agg #[.slice ax nx cx]) x) (hy : IsNat wr (.agg #[.slice ay ny cy]) y) (le : x ≤ y) (hP : y < P 198) (tab : Tab wr) (bel : Below w.heap.size w wr) :
    Gd w ((wr.setCell ⟨w.heap.size, 0, none⟩ (.slice ay ny cy)).setCell ⟨w.heap.size + 1, 0, none⟩ (.slice ax nx cx)) (Nat.gcd x y) (.slice ay ny cy) (.slice ax nx cx) y x := by
  have cx' := b0.cell (i := 0) (by omega)
  have cy' := b1.cell (i := 0) (by omega)
  have n1 : ∀ kk q, (wr.setCell ⟨w.heap.size, 0, none⟩ (.slice ay ny cy)).cell? ⟨w.heap.size + 1, 0, none⟩ ≠ some (.int kk q) := by
    rw [World.cell?_setCell_far _ _ _ _ (by simp)]
    exact no_int_slice cy'
  refine ⟨?_, ?_, ?_, (hy.setCell (no_int_slice cx') _).setCell n1 _, (hx.setCell (no_int_slice cx') _).setCell n1 _, le, hP, Nat.gcd_comm _ _, ?_, (bel.setCell (by simp) _).setCell (by simp) _⟩
  · exact ((b0.set 0 (.slice ay ny cy)).setOther (a := ⟨w.heap.size + 1, 0, none⟩) (by simp) _).congr (fun i hi => by rw [show i = 0 by omega, if_pos rfl])
  · exact (((b1.setOther (a := ⟨w.heap.size, 0, none⟩) (by simp) _)).set 0 (.slice ax nx cx)).congr (fun i hi => by rw [show i = 0 by omega, if_pos rfl])
  · exact (b2.setOther (a := ⟨w.heap.size, 0, none⟩) (by simp <;> omega) _).setOther (a := ⟨w.heap.size + 1, 0, none⟩) (by simp <;> omega) _
  intro j hj
  have hc := tab j hj
  have e1 : (⟨w.heap.size, 0, none⟩ : Addr) ≠ ⟨1, j, none⟩ := fun e => by rw [← e, cx'] at hc; cases hc
  have e2 : (⟨w.heap.size + 1, 0, none⟩ : Addr) ≠ ⟨1, j, none⟩ := fun e => by rw [← e, cy'] at hc; cases hc
  exact (World.cell?_setCell_other (h := e2) ..).trans ((World.cell?_setCell_other (h := e1) ..).trans hc)
theorem two_small {t q n : Nat} (h : 2 ^ t ∣ q) (h0 : q ≠ 0) (hq : q < P n) : t < 64 * n := by
  have h1 := Nat.le_of_dvd (Nat.pos_of_ne_zero h0) h
  rw [P_two] at hq
  exact (Nat.pow_lt_pow_iff_right (show 1 < 2 by decide)).1 (Nat.lt_of_le_of_lt h1 hq)
theorem small_198 {x : Nat} (hx : x < P 198) : Small x := ⟨Nat.lt_of_lt_of_le hx (P_le (show 198 ≤ lim2 by decide))⟩
set_option maxHeartbeats 4000000 in
theorem gcd_any (v u : Value) (x y : Nat) (w : World) (h : IsNat w v x) (k : IsNat w u y) (hx : x < P 198) (hy : y < P 198) (hT : Tab w) :
    Calls Tryz.prog 69 #[v, u] w (Makes w (Nat.gcd x y)) := by
  obtain ⟨ax, nx, cx, rfl⟩ := h.isAgg
  obtain ⟨ay, ny, cy, rfl⟩ := k.isAgg
  have HH : Hid (IsNat w (.agg #[.slice ax nx cx]) x ∧ IsNat w (.agg #[.slice ay ny cy]) y ∧ x < P 198 ∧ y < P 198 ∧ Tab w) := ⟨h, k, hx, hy, hT⟩
  clear h k hx hy hT
  have HB : Hid (Below w.heap.size w (((w.alloc (.cells #[.slice ax nx cx] 45)).alloc (.cells #[.slice ay ny cy] 45)).alloc (.cells #[.slice none 0 0] 45))) := (bel_alloc2 _ _ _).alloc (by simp <;> omega) _
  have r1 := ((World.rowIs_alloc w #[.slice ax nx cx] 45 (fun _ => .slice ax nx cx) (fun i hi => by rw [show i = 0 by simpa using hi]; rfl)).alloc (.cells #[.slice ay ny cy] 45)).alloc (.cells #[.slice none 0 0] 45)
  have r2 := (World.rowIs_alloc (w.alloc (.cells #[.slice ax nx cx] 45)) #[.slice ay ny cy] 45 (fun _ => .slice ay ny cy) (fun i hi => by rw [show i = 0 by simpa using hi]; rfl)).alloc (.cells #[.slice none 0 0] 45)
  have r3 := World.rowIs_alloc ((w.alloc (.cells #[.slice ax nx cx] 45)).alloc (.cells #[.slice ay ny cy] 45)) #[.slice none 0 0] 45 (fun _ => .slice none 0 0) (fun i hi => by rw [show i = 0 by simpa using hi]; rfl)
  have RR : Hid ((((w.alloc (.cells #[.slice ax nx cx] 45)).alloc (.cells #[.slice ay ny cy] 45)).alloc (.cells #[.slice none 0 0] 45)).rowIs w.heap.size 45 1 (fun _ => .slice ax nx cx) ∧ (((w.alloc (.cells #[.slice ax nx cx] 45)).alloc (.cells #[.slice ay ny cy] 45)).alloc (.cells #[.slice none 0 0] 45)).rowIs (w.heap.size + 1) 45 1 (fun _ => .slice ay ny cy) ∧ (((w.alloc (.cells #[.slice ax nx cx] 45)).alloc (.cells #[.slice ay ny cy] 45)).alloc (.cells #[.slice none 0 0] 45)).rowIs (w.heap.size + 1 + 1) 45 1 (fun _ => .slice none 0 0)) := ⟨r1, by simpa using r2, by simpa using r3⟩
  clear r1 r2 r3
  go_enter Tryz.func69, Tryz.ntmps69
  go_wp2_with fail
  refine (cmp_any _ _ x y _ (HH.out.1.mono HB.out) (HH.out.2.1.mono HB.out) (small_198 HH.out.2.2.1).fits (small_198 HH.out.2.2.2.1).fits).mono ?_
  rintro e w1 ⟨rfl, hb1⟩
  have R1 : Hid (w1.rowIs w.heap.size 45 1 (fun _ => .slice ax nx cx) ∧ w1.rowIs (w.heap.size + 1) 45 1 (fun _ => .slice ay ny cy) ∧ w1.rowIs (w.heap.size + 1 + 1) 45 1 (fun _ => .slice none 0 0)) := ⟨RR.out.1.of_block (hb1.block _ RR.out.1.lt), RR.out.2.1.of_block (hb1.block _ RR.out.2.1.lt), RR.out.2.2.of_block (hb1.block _ RR.out.2.2.lt)⟩
  have B1 : Hid (Below w.heap.size w w1) := bel_go HB.out hb1
  have N1 : Hid (IsNat w1 (.agg #[.slice ax nx cx]) x ∧ IsNat w1 (.agg #[.slice ay ny cy]) y ∧ Tab w1) := ⟨HH.out.1.mono B1.out, HH.out.2.1.mono B1.out, HH.out.2.2.2.2.go B1.out⟩
  clear hb1 HB RR
  go_upto_if 9 with (fail)
  go_cut [9] from 6 (fun s9 wc => ∃ ap np cp aq nq cq p q, Hid (Gd w wc (Nat.gcd x y) (.slice ap np cp) (.slice aq nq cq) p q))
  case first =>
    have c0 := R1.out.1.cell (i := 0) (by omega)
    have c1 := R1.out.2.1.cell (i := 0) (by omega)
    have f0 := R1.out.1.frozen 0
    have f1 := R1.out.2.1.frozen 0
    clear f0 f1
    have f0 := R1.out.1.frozen 0
    have f1 := R1.out.2.1.frozen 0
    go_wp2_with fail
    all_goals first
      | (have hc : cmpI x y < 0 := by assumption
         go_meet
         have hlt : x < y := by
           rcases Nat.lt_or_ge x y with h | h
           · exact h
           exact absurd hc (by unfold cmpI; split <;> (try split) <;> omega)
         refine ⟨ay, ny, cy, ax, nx, cx, y, x, gd_swap R1.out.1 R1.out.2.1 R1.out.2.2 N1.out.1 N1.out.2.1 (Nat.le_of_lt hlt) HH.out.2.2.2.1 N1.out.2.2 B1.out⟩)
      | (have hc : 0 ≤ cmpI x y := by omega
         go_meet
         have hge : y ≤ x := by
           rcases Nat.lt_or_ge x y with h | h
           · rw [cmpI_lt h] at hc
             omega
           exact h
         refine ⟨ax, nx, cx, ay, ny, cy, x, y, ⟨R1.out.1, R1.out.2.1, R1.out.2.2, N1.out.1, N1.out.2.1, hge, HH.out.2.2.1, rfl, N1.out.2.2, B1.out⟩⟩)
  case rest =>
    clear R1 B1 N1 HH
    obtain ⟨ap, np, cp, aq, nq, cq, p, q, hG⟩ := hcut
    have c0 := hG.out.bx.cell (i := 0) (by omega)
    have c1 := hG.out.hy.cell (i := 0) (by omega)
    have c2 := hG.out.br.cell (i := 0) (by omega)
    have f2 := hG.out.br.frozen 0
    have SP : Hid (Small p ∧ Small q) := ⟨small_198 hG.out.hx, (small_198 hG.out.hx).le hG.out.le⟩
    obtain ⟨G, ks, k0, k1, kv⟩ := id hG.out.ny.fits
    obtain ⟨F, hs, h0, h1, hvv⟩ := id hG.out.nx.fits
    have hn : np ≤ 4294967296 := fits_len (hvv.symm ▸ SP.out.1.fits) h1
    have hm : nq ≤ 4294967296 := fits_len (kv.symm ▸ SP.out.2.fits) k1
    by_cases hq0 : nq = 0
    · subst hq0
      have hz : q = 0 := natLen_zero hG.out.ny rfl
      have HG : Hid (Nat.gcd x y = p) := by
        show _ = _
        rw [← hG.out.gcd, hz, Nat.gcd_zero_right]
      clear hz ks k0 k1 kv hs h0 h1 hvv
      go_wp2_with fail
      refine bodyPost_ret (v := .agg #[.slice ap np cp]) (by simp [results, Tryz.results69, go_sem, c2]) rfl ⟨_, rfl, ?_, hG.out.bel.setCell (by simp <;> omega) _⟩
      rw [HG.out]
      exact hG.out.nx.setCell (no_int_slice c2) _
    have hqi : ((nq : Int) == 0) = false := by simp; omega
    have HF : Hid (Sl wc ap np cp F ∧ V F np = p ∧ Sl wc aq nq cq G ∧ V G nq = q) := ⟨hs, hvv, ks, kv⟩
    have hl0 := hG.out.bx.lt
    have hl1 := hG.out.hy.lt
    have hl2 := hG.out.br.lt
    clear ks k0 k1 kv hs h0 h1 hvv
    go_wp2_with fail
    have BA : Hid (Below wc.heap.size wc (wc.alloc (.cells #[.slice ap np cp, .slice aq nq cq] 43))) := (Below.refl _ _).alloc (Nat.le_refl _) _
    have GA : Hid _ := hG.out.go BA.out
    refine (sharedTwos_any wc.heap.size ap np cp F aq nq cq G _ (HF.out.1.mono BA.out) (HF.out.2.2.1.mono BA.out) hn hm GA.out.tab (by simp [go_sem]) (by simp [go_sem])).mono ?_
    rintro e w' ⟨⟨t, rfl, ht, d1, d2⟩, hw'⟩
    rw [hw']
    clear hw' w'
    rw [HF.out.2.1] at d1
    rw [HF.out.2.2.2] at d2
    have DV : Hid (2 ^ t ∣ p ∧ 2 ^ t ∣ q) := ⟨d1, d2⟩
    obtain ⟨wd, hwd⟩ : ∃ wd, wd = wc.alloc (.cells #[.slice ap np cp, .slice aq nq cq] 43) := ⟨_, rfl⟩
    rw [← hwd] at GA ⊢
    clear hwd BA HF d1 d2 c0 c1 c2 f2 hl0 hl1 hl2 hG
    have c0 := GA.out.bx.cell (i := 0) (by omega)
    have c1 := GA.out.hy.cell (i := 0) (by omega)
    have ht2 : t ≤ 12672 := by
      have hq1 : q ≠ 0 := fun e => hq0 ((isNat_zero_iff GA.out.ny).2 e)
      have h2 := two_small DV.out.2 hq1 (Nat.lt_of_le_of_lt GA.out.le GA.out.hx)
      omega
    have BD : Hid (p / 2 ^ t < P 198 ∧ q / 2 ^ t ≤ p / 2 ^ t ∧ Fits (Nat.gcd (p / 2 ^ t) (q / 2 ^ t)) ∧ t ≤ 68719476736) := by
      have h1 : q / 2 ^ t ≤ p / 2 ^ t := Nat.div_le_div_right GA.out.le
      have h2 : p / 2 ^ t < P 198 := Nat.lt_of_le_of_lt (Nat.div_le_self _ _) GA.out.hx
      refine ⟨h2, h1, (small_198 (x := Nat.gcd (p / 2 ^ t) (q / 2 ^ t)) ?_).fits, by omega⟩
      rcases Nat.eq_zero_or_pos (q / 2 ^ t) with e | e
      · rw [e, Nat.gcd_zero_right]
        exact h2
      exact Nat.lt_of_le_of_lt (Nat.gcd_le_right _ e) (Nat.lt_of_le_of_lt h1 h2)
    clear ht ht2 hq0
    have ht3 : (t : Int) ≤ 68719476736 := by have := BD.out.2.2.2; omega
    go_wp2_with fail
    go_region_held3 (fun w' => w'.cell? ⟨w.heap.size, 0, none⟩ = some (.slice ap np cp) ∧ w'.cell? ⟨w.heap.size + 1, 0, none⟩ = some (.slice aq nq cq)) (simp [go_sem, *])
      (first
        | (go_at_call 97; have zz := c0; clear zz; refine Calls.mono (right_any _ p (t : Int) _ (GA.out.nx.mono (bel_dr (Below.refl _ _))) SP.out.1.fits (by omega) (by omega)) ?_; rintro e w1 ⟨v1, rfl, hv1, hb1⟩; rw [Int.toNat_natCast] at hv1; have G1 : Hid _ := GA.out.go (bel_undrew hb1); have X1 : Hid _ := hv1; clear hv1 c0 c1; have d0 := G1.out.bx.cell (i := 0) (by omega); have d1 := G1.out.hy.cell (i := 0) (by omega); clear hb1)
        | (go_at_call 97; have zz := d0; clear zz; refine Calls.mono (right_any _ q (t : Int) _ G1.out.ny SP.out.2.fits (by omega) (by omega)) ?_; rintro e w2 ⟨v2, rfl, hv2, hb2⟩; rw [Int.toNat_natCast] at hv2; have G2 : Hid _ := G1.out.go hb2; have X2 : Hid _ := hv2; have Y1 : Hid (IsNat w2 v1 (p / 2 ^ t)) := IsNat.mono X1.out hb2; clear hv2 d0 d1; have e0 := G2.out.bx.cell (i := 0) (by omega); have e1 := G2.out.hy.cell (i := 0) (by omega); clear hb2)
        | (go_at_call 96; have zz := e0; clear zz; refine Calls.mono (divisor_any _ _ (p / 2 ^ t) (q / 2 ^ t) _ Y1.out X2.out BD.out.1 BD.out.2.1) ?_; rintro e w3 ⟨v3, rfl, hv3, hb3⟩; have G3 : Hid _ := G2.out.go hb3; have X3 : Hid _ := hv3; clear hv3 e0 e1; have i0 := G3.out.bx.cell (i := 0) (by omega); have i1 := G3.out.hy.cell (i := 0) (by omega); clear hb3)
        | (go_at_call 98; have zz := i0; clear zz; refine Calls.mono (up_any _ (Nat.gcd (p / 2 ^ t) (q / 2 ^ t)) t _ X3.out BD.out.2.2.1 BD.out.2.2.2) ?_; rintro e w4 ⟨v4, rfl, hv4, hb4⟩; obtain ⟨a4, n4, c4, rfl⟩ := hv4.isAgg; have G4 : Hid _ := G3.out.go hb4; have X4 : Hid (IsNat w4 (.agg #[.slice a4 n4 c4]) (Nat.gcd (p / 2 ^ t) (q / 2 ^ t) * 2 ^ t)) := hv4; clear hv4 i0 i1; have j0 := G4.out.bx.cell (i := 0) (by omega); have j1 := G4.out.hy.cell (i := 0) (by omega); have j2 := G4.out.br.cell (i := 0) (by omega); have g2 := G4.out.br.frozen 0; clear hb4))
    go_wp2_with fail
    have HG : Hid (Nat.gcd x y = Nat.gcd (p / 2 ^ t) (q / 2 ^ t) * 2 ^ t) := by
      show _ = _
      rw [gcd_up DV.out.1 DV.out.2, GA.out.gcd]
    refine bodyPost_ret (v := .agg #[.slice a4 n4 c4]) (by simp [results, Tryz.results69, go_sem, j2]) rfl ⟨_, rfl, ?_, G4.out.bel.setCell (by simp <;> omega) _⟩
    rw [HG.out]
    exact X4.out.setCell (no_int_slice j2) _
theorem bitLen_P {x n : Nat} (h : x < P n) : bitLen x ≤ 64 * n := by
  rw [P_two] at h
  rcases Nat.lt_or_ge (64 * n) (bitLen x) with hh | hh
  · have h1 := (bitLen_spec x).2 (by intro e; subst e; simp [bitLen] at hh)
    have h2 : (2 : Nat) ^ (64 * n) ≤ 2 ^ (bitLen x - 1) := Nat.pow_le_pow_right (by omega) (by omega)
    omega
  exact hh
def sb (s : ByteArray) (i : Nat) : Nat := if h : i < s.size then (s[i]'h).toNat else 0
theorem OR.sl {w : World} {base n : Nat} {v : Value} {F : Nat → Nat} (h : OR w 82 base v n (wd F)) (hF : Ok F n) : ∃ a cap, v = .slice a n cap ∧ Sl w a n cap F := by
  rcases h with ⟨rfl, rfl⟩ | ⟨g, cap, f, rfl, h1, h2, h3, h4, h5⟩
  · exact ⟨none, 0, rfl, Nat.le_refl _, by omega, hF, .inl rfl⟩
  refine ⟨_, cap, rfl, h2, by simp only [maxLen] at h3; omega, hF, .inr ⟨g, 0, rfl, fun i hi => ?_⟩⟩
  rw [Nat.zero_add, h4.cell (show i < cap by omega), h5 i hi]
  rfl
theorem tx_word {x : Nat} (h : x ≤ 18446744073709551616) : Tx x := ⟨Nat.lt_of_le_of_lt h (by decide +kernel)⟩
theorem bitLen_zero : bitLen 0 = 0 := by simp [bitLen]
theorem bitLen_pos {x : Nat} (h : 0 < x) : 0 < bitLen x := by
  rcases Nat.eq_zero_or_pos (bitLen x) with e | e
  · have := bitLen_lt x
    rw [e] at this
    omega
  exact e
def updB (L : Nat → Bool) (i : Nat) : Nat → Bool := fun j => if j = i then true else L j
def updV (vs : Nat → Value) (i : Nat) (v : Value) : Nat → Value := fun j => if j = i then v else vs j
structure Fr (ops : Array Oper) (a0 : Act) (L : Nat → Bool) (vs : Nat → Value) (a : Act) : Prop where
  size : a.tmps.size = a0.tmps.size
  defers : a.defers = a0.defers
  out : ∀ t, (∀ (j : Nat) o, ops[j]? = some o → L j = true → o.dst ≠ some t) → a.tmps.getD t undef = a0.tmps.getD t undef
  inn : ∀ (j : Nat) o t, ops[j]? = some o → L j = true → o.dst = some t → a.tmps.getD t undef = vs j
structure Good (ops : Array Oper) (a0 : Act) : Prop where
  once : ∀ (i j : Nat) oi oj t, ops[i]? = some oi → ops[j]? = some oj → oi.dst = some t → oj.dst = some t → i = j
  lt : ∀ (i : Nat) oi t, ops[i]? = some oi → oi.dst = some t → t < a0.tmps.size
theorem put_getD_same (a : Act) (t : Nat) (v : Value) (h : t < a.tmps.size) : (a.put (some t) v).tmps.getD t undef = v := by
  simp [Act.put, h]
theorem put_getD_other (a : Act) (d : Option Nat) (t : Nat) (v : Value) (h : d ≠ some t) : (a.put d v).tmps.getD t undef = a.tmps.getD t undef := by
  cases d with
  | none => rfl
  | some d =>
    have hne : d ≠ t := fun e => h (by rw [e])
    simp [Act.put, Array.getElem?_setIfInBounds_ne hne]
theorem put_size (a : Act) (d : Option Nat) (v : Value) : (a.put d v).tmps.size = a.tmps.size := by cases d <;> simp [Act.put]
theorem put_defers' (a : Act) (d : Option Nat) (v : Value) : (a.put d v).defers = a.defers := by cases d <;> rfl
theorem Fr.step {ops : Array Oper} {a0 a : Act} {L : Nat → Bool} {vs : Nat → Value} (h : Fr ops a0 L vs a) (hg : Good ops a0) {i : Nat} {o : Oper} (hi : ops[i]? = some o) (hL : L i = false) (v : Value) :
    Fr ops a0 (updB L i) (updV vs i v) (a.put o.dst v) := by
  refine ⟨by rw [put_size, h.size], by rw [put_defers', h.defers], fun t ht => ?_, fun j oj t hj hLj ht => ?_⟩
  · have h1 : o.dst ≠ some t := ht i o hi (by simp [updB])
    rw [put_getD_other _ _ _ _ h1]
    refine h.out t fun j oj hj hLj => ?_
    have := ht j oj hj (by unfold updB; split <;> simp_all)
    exact this
  by_cases e : j = i
  · subst e
    rw [hi] at hj
    cases hj
    rw [ht]
    have := hg.lt j o t hi ht
    rw [put_getD_same _ _ _ (by rw [h.size]; exact this)]
    simp [updV]
  have h1 : o.dst ≠ some t := fun e2 => e (hg.once j i oj o t hj hi ht e2)
  rw [put_getD_other _ _ _ _ h1, h.inn j oj t hj (by simpa [updB, e] using hLj) ht]
  simp [updV, e]
def Owes (P : Program) (ops : Array Oper) (Q : Exit → Act → World → Prop) (a0 : Act) (J : (Nat → Bool) → (Nat → Value) → World → Prop) (i : Nat) (o : Oper) : Prop :=
  ∀ L vs a w, J L vs w → Fr ops a0 L vs a → (∀ e ∈ o.after, Region.binds .any e = true → L e.on = true) → L i = false →
    if Region.wanted o (yielded ops a.tmps) then o.wp P a w (fun a' w' => ∃ v, a' = a.put o.dst v ∧ J (updB L i) (updV vs i v) w') Q else J (updB L i) (updV vs i undef) w
def OwesAll (Φ : Nat → Oper → Prop) : Nat → List Oper → Prop
  | _, [] => True
  | k, o :: l => Φ k o ∧ OwesAll Φ (k + 1) l
theorem OwesAll.at {Φ : Nat → Oper → Prop} : ∀ {k : Nat} {l : List Oper}, OwesAll Φ k l → ∀ i o, l[i]? = some o → Φ (k + i) o
  | k, [], _, i, o, h => by simp at h
  | k, x :: l, h, i, o, hi => by
    cases i with
    | zero => simp at hi; subst hi; exact h.1
    | succ i =>
      have := OwesAll.at h.2 i o (by simpa using hi)
      rw [show k + (i + 1) = k + 1 + i by omega]
      exact this
def left (n : Nat) (L : Nat → Bool) : Nat := ((List.range n).filter fun i => !L i).length
theorem left_upd {n : Nat} {L : Nat → Bool} {i : Nat} (hi : i < n) (h : L i = false) : left n (updB L i) + 1 = left n L := by
  unfold left
  induction n with
  | zero => omega
  | succ n ih =>
    rw [List.range_succ, List.filter_append, List.filter_append, List.length_append, List.length_append]
    by_cases e : i = n
    · subst e
      have h1 : ((List.range i).filter fun j => !updB L i j) = (List.range i).filter fun j => !L j := List.filter_congr fun j hj => by
        have : j ≠ i := by have := List.mem_range.1 hj; omega
        simp [updB, this]
      rw [h1]
      simp [updB, h]
    have h2 := ih (by omega)
    have h3 : ([n].filter fun j => !updB L i j) = [n].filter fun j => !L j := by simp [updB, Ne.symm e, List.filter_cons]
    rw [h3]
    omega
theorem wpAny_inv {P : Program} {ops : Array Oper} {Q : Exit → Act → World → Prop} {a0 : Act} {J : (Nat → Bool) → (Nat → Value) → World → Prop} (hg : Good ops a0) (hback : ∀ (i : Nat) o, ops[i]? = some o → ∀ e ∈ o.after, Region.binds .any e = true → e.on < i)
    (hop : ∀ (i : Nat) o, ops[i]? = some o → Owes P ops Q a0 J i o) (hfin : ∀ L vs a w, (∀ i, i < ops.size → L i = true) → Fr ops a0 L vs a → J L vs w → Q .normal a w) :
    ∀ (fuel : Nat) (listed : Array Bool) (L : Nat → Bool) (vs : Nat → Value) (a : Act) (w : World), listed.size = ops.size → (∀ i, i < ops.size → listed.getD i true = L i) → left ops.size L = fuel → Fr ops a0 L vs a → J L vs w → wpAny P .any ops Q fuel listed a w
  | fuel, listed, L, vs, a, w, hsz, hL, hf, hF, hJ => by
    have hall : left ops.size L = 0 → ∀ i, i < ops.size → L i = true := fun h0 i hi => by
      cases hLi : L i
      · have := left_upd hi hLi
        omega
      rfl
    have hnone : left ops.size L ≠ 0 → Region.ready .any ops listed ≠ [] := fun hne hr => by
      have hex : ∃ i, i < ops.size ∧ L i = false := by
        rcases Classical.em (∃ i, i < ops.size ∧ L i = false) with h | h
        · exact h
        exfalso
        apply hne
        unfold left
        rw [List.length_eq_zero_iff, List.filter_eq_nil_iff]
        intro i hi
        have := List.mem_range.1 hi
        cases hLi : L i
        · exact absurd ⟨i, this, hLi⟩ h
        simp
      obtain ⟨i, hi, hmin⟩ := exists_least hex
      have ho : ops[i]? = some (ops[i]'hi.1) := Array.getElem?_eq_getElem hi.1
      have hmem : i ∈ Region.ready .any ops listed := mem_ready.2 ⟨(hL i hi.1).trans hi.2, _, ho, fun e he hb => by
        have hlt := hback i _ ho e he hb
        have h1 : L e.on = true := by
          cases hLe : L e.on
          · have := hmin e.on ⟨by omega, hLe⟩
            omega
          rfl
        have h2 := hL e.on (by omega)
        rw [h1] at h2
        have h3 : e.on < listed.size := by omega
        simpa [h3] using h2⟩
      rw [hr] at hmem
      cases hmem
    match fuel with
    | 0 =>
      refine ⟨?_, hfin L vs a w (hall hf) hF hJ⟩
      refine List.eq_nil_iff_forall_not_mem.2 fun i hi => ?_
      obtain ⟨h1, o, ho, _⟩ := mem_ready.1 hi
      have hlt : i < ops.size := (Array.getElem?_eq_some_iff.1 ho).1
      rw [hL i hlt, hall hf i hlt] at h1
      cases h1
    | fuel + 1 =>
      refine ⟨fun hr => absurd hr (hnone (by omega)), fun i hi => ?_⟩
      obtain ⟨h1, o, ho, hedges⟩ := mem_ready.1 hi
      have hlt : i < ops.size := (Array.getElem?_eq_some_iff.1 ho).1
      have hLi : L i = false := (hL i hlt).symm.trans h1
      have hP : ∀ e ∈ o.after, Region.binds .any e = true → L e.on = true := fun e he hb => by
        have h2 := hedges e he hb
        have h3 := hback i o ho e he hb
        have h4 : e.on < listed.size := by omega
        rw [← hL e.on (by omega)]
        simpa [h4] using h2
      have key := hop i o ho L vs a w hJ hF hP hLi
      have go : ∀ v w', J (updB L i) (updV vs i v) w' → wpAny P .any ops Q fuel (listed.setIfInBounds i true) (a.put o.dst v) w' := fun v w' hJ' =>
        wpAny_inv hg hback hop hfin fuel _ (updB L i) (updV vs i v) _ w' (by simpa using hsz) (fun j hj => by
          by_cases e : j = i
          · subst e
            have : j < listed.size := by omega
            simp [updB, this]
          rw [getD_set_ne true (Ne.symm e), hL j hj]
          simp [updB, e]) (by have := left_upd hlt hLi; omega) (hF.step hg ho hLi v) hJ'
      unfold wpOp
      simp only [ho]
      split
      · rename_i hw
        rw [if_pos hw] at key
        exact .inl (Oper.wp_mono (fun a' w' ⟨v, e, hj⟩ => by subst e; exact go v w' hj) key)
      rename_i hw
      rw [if_neg hw] at key
      exact go undef w key
def putL : List Oper → (Nat → Value) → Nat → Act → Act
  | [], _, _, a => a
  | o :: l, vs, k, a => putL l vs (k + 1) (a.put o.dst (vs k))
theorem Fr.congr {ops : Array Oper} {a0 a : Act} {L L' : Nat → Bool} {vs vs' : Nat → Value} (h : Fr ops a0 L vs a) (hL : ∀ j, L j = L' j) (hv : ∀ j, vs j = vs' j) : Fr ops a0 L' vs' a := by
  rw [← show L = L' from funext hL, ← show vs = vs' from funext hv]
  exact h
theorem putL_fr {ops : Array Oper} {a0 : Act} {vs : Nat → Value} (hg : Good ops a0) : ∀ (l : List Oper) (k : Nat) (b : Act), ops.toList.drop k = l → Fr ops a0 (fun j => decide (j < k)) vs b → ∃ m, ops.size ≤ m ∧ Fr ops a0 (fun j => decide (j < m)) vs (putL l vs k b)
  | [], k, b, hl, h => ⟨k, by have := List.drop_eq_nil_iff.1 hl; simpa using this, h⟩
  | o :: l, k, b, hl, h => by
    have hk : ops[k]? = some o := by
      have : (ops.toList.drop k)[0]? = some o := by rw [hl]; rfl
      simpa using this
    have hl2 : ops.toList.drop (k + 1) = l := by
      have : (ops.toList.drop k).drop 1 = l := by rw [hl]; rfl
      simpa [List.drop_drop, Nat.add_comm] using this
    have h2 := (h.step hg hk (by simp) (vs k)).congr (L' := fun j => decide (j < k + 1)) (vs' := vs) (fun j => by unfold updB; by_cases e : j = k <;> simp [e] <;> omega) (fun j => by unfold updV; split <;> simp_all)
    exact putL_fr hg l (k + 1) _ hl2 h2
theorem Fr.start (ops : Array Oper) (a0 : Act) (vs : Nat → Value) : Fr ops a0 (fun _ => false) vs a0 := ⟨rfl, rfl, fun _ _ => rfl, fun _ _ _ _ h => by cases h⟩
theorem Fr.ext {ops : Array Oper} {a0 a b : Act} {L L' : Nat → Bool} {vs : Nat → Value} (h : Fr ops a0 L vs a) (k : Fr ops a0 L' vs b) (hL : ∀ i, i < ops.size → L i = true) (hL' : ∀ i, i < ops.size → L' i = true) : a = b := by
  have key : ∀ t, a.tmps.getD t undef = b.tmps.getD t undef := fun t => by
    rcases Classical.em (∃ (j : Nat) (o : Oper), ops[j]? = some o ∧ o.dst = some t) with ⟨j, o, hj, ht⟩ | hne
    · have hlt : j < ops.size := (Array.getElem?_eq_some_iff.1 hj).1
      rw [h.inn j o t hj (hL j hlt) ht, k.inn j o t hj (hL' j hlt) ht]
    rw [h.out t fun j o hj _ ht => hne ⟨j, o, hj, ht⟩, k.out t fun j o hj _ ht => hne ⟨j, o, hj, ht⟩]
  obtain ⟨at', ad⟩ := a
  obtain ⟨bt, bd⟩ := b
  have hs : at'.size = bt.size := h.size.trans k.size.symm
  have hd : ad = bd := h.defers.trans k.defers.symm
  have ht : at' = bt := Array.ext hs fun i h1 h2 => by
    have := key i
    simpa [h1, h2] using this
  rw [hd, ht]
theorem Fr.all {ops : Array Oper} {a0 a : Act} {L : Nat → Bool} {vs : Nat → Value} (hg : Good ops a0) (h : Fr ops a0 L vs a) (hL : ∀ i, i < ops.size → L i = true) : a = putL ops.toList vs 0 a0 := by
  obtain ⟨m, hm, hF⟩ := putL_fr (vs := vs) hg ops.toList 0 a0 rfl ((Fr.start ops a0 vs).congr (fun j => by simp) (fun _ => rfl))
  exact h.ext hF hL fun i hi => by simp; omega
def goodB (l : List Oper) (n : Nat) : Bool :=
  (l.filterMap (·.dst)).all (fun t => decide (t < n)) && ((List.range l.length).all fun i => (List.range l.length).all fun j => i == j || (match (l[i]?).bind (·.dst), (l[j]?).bind (·.dst) with | some t, some u => t != u | _, _ => true)) &&
  ((List.range l.length).all fun i => ((l[i]?).map fun o => o.after.toList.all fun e => !Region.binds .any e || decide (e.on < i)).getD true)
theorem good_of {ops : Array Oper} {a0 : Act} (h : goodB ops.toList a0.tmps.size = true) : Good ops a0 ∧ ∀ (i : Nat) o, ops[i]? = some o → ∀ e ∈ o.after, Region.binds .any e = true → e.on < i := by
  unfold goodB at h
  rw [Bool.and_eq_true, Bool.and_eq_true] at h
  obtain ⟨⟨h1, h2⟩, h3⟩ := h
  refine ⟨⟨fun i j oi oj t hi hj hti htj => ?_, fun i oi t hi ht => ?_⟩, fun i o hi e he hb => ?_⟩
  · have li : i < ops.toList.length := by have := (Array.getElem?_eq_some_iff.1 hi).1; simpa using this
    have lj : j < ops.toList.length := by have := (Array.getElem?_eq_some_iff.1 hj).1; simpa using this
    have := List.all_eq_true.1 (List.all_eq_true.1 h2 i (List.mem_range.2 li)) j (List.mem_range.2 lj)
    have ei : ops.toList[i]? = some oi := by simpa using hi
    have ej : ops.toList[j]? = some oj := by simpa using hj
    rw [ei, ej] at this
    simpa [hti, htj] using this
  · have := List.all_eq_true.1 h1 t (List.mem_filterMap.2 ⟨oi, by have := Array.mem_of_getElem? hi; simpa using this, ht⟩)
    simpa using this
  have li : i < ops.toList.length := by have := (Array.getElem?_eq_some_iff.1 hi).1; simpa using this
  have h4 := List.all_eq_true.1 h3 i (List.mem_range.2 li)
  have ei : ops.toList[i]? = some o := by simpa using hi
  rw [ei] at h4
  simp only [Option.map_some, Option.getD_some] at h4
  have := List.all_eq_true.1 h4 e (by simpa using he)
  simpa [hb] using this
theorem wp_region_inv {P : Program} {id : Nat} {ops : Array Oper} {Q : Exit → Act → World → Prop} {a0 : Act} {w : World} (J : (Nat → Bool) → (Nat → Value) → World → Prop) (n : Nat) (hm : P.follows .mixedOrders = true) (hn : a0.tmps.size = n) (hg : goodB ops.toList n = true)
    (h0 : J (fun _ => false) (fun _ => undef) w.drew) (hop : goodB ops.toList n = true → a0.tmps.size = n → OwesAll (Owes P ops Q a0 J) 0 ops.toList) (hfin : ∀ L vs w', (∀ i, i < ops.size → L i = true) → J L vs w' → Q .normal (putL ops.toList vs 0 a0) w') :
    (Code.region id ops true).wp P Q a0 w := by
  subst hn
  obtain ⟨g1, g2⟩ := good_of hg
  refine wp_region_any hm (wpAny_inv g1 g2 (fun i o hi => ?_) (fun L vs a w' hL hF hJ => ?_) ops.size _ (fun _ => false) (fun _ => undef) a0 _ (by simp) (fun i hi => by simp [hi]) ?_ (Fr.start _ _ _) h0)
  · have := (hop hg rfl).at i o (by simpa using hi)
    rw [Nat.zero_add] at this
    exact this
  · rw [hF.all g1 hL]
    exact hfin L vs w' hL hJ
  unfold left
  rw [List.filter_eq_self.2 (by simp)]
  simp
structure Stab (R : World → Value → Prop) : Prop where
  mono : ∀ {w w' : World} {v : Value}, R w v → Below w.heap.size w w' → R w' v
  set : ∀ {w : World} {v : Value} {p : Addr}, R w v → (∀ k q, w.cell? p ≠ some (.int k q)) → ∀ u, R (w.setCell p u) v
def Spec : Type := { R : World → Value → Prop // Stab R }
def sAny : Spec := ⟨fun _ _ => True, ⟨fun _ _ => trivial, fun _ _ _ => trivial⟩⟩
def sEq (u : Value) : Spec := ⟨fun _ v => v = u, ⟨fun h _ => h, fun h _ _ => h⟩⟩
def sNat (x : Nat) : Spec := ⟨fun w v => IsNat w v x, ⟨fun h hb => h.mono hb, fun h hp u => h.setCell hp u⟩⟩
def BoxIs (w0 : World) (L : Nat → Bool) (vs : Nat → Value) (w : World) (b : Nat × Nat × Nat) : Prop :=
  ∃ bk, vs b.1 = .pointer (some ⟨bk, 0, none⟩) ∧ w0.heap.size ≤ bk ∧ bk < w.heap.size ∧ w.frozen? ⟨bk, 0, none⟩ = false ∧ (L b.2.1 = false → w.cell? ⟨bk, 0, none⟩ = some (.slice none 0 0)) ∧ (L b.2.1 = true → L b.2.2 = true ∧ ∃ u, vs b.2.2 = .agg #[u] ∧ w.cell? ⟨bk, 0, none⟩ = some u)
structure JB (w0 : World) (specs : List Spec) (bxs : List (Nat × Nat × Nat)) (L : Nat → Bool) (vs : Nat → Value) (w : World) : Prop where
  bel : Below w0.heap.size w0 w
  sp : ∀ i, L i = true → (specs.getD i sAny).1 w (vs i)
  bx : ∀ b ∈ bxs, L b.1 = true → BoxIs w0 L vs w b
  dj : ∀ b ∈ bxs, ∀ b' ∈ bxs, L b.1 = true → L b'.1 = true → b.1 ≠ b'.1 → vs b.1 ≠ vs b'.1
  cl : ∀ b ∈ bxs, L b.2.1 = true → L b.1 = true
theorem JB.start (w : World) (specs : List Spec) (bxs : List (Nat × Nat × Nat)) : JB w specs bxs (fun _ => false) (fun _ => undef) w.drew :=
  ⟨bel_dr (Below.refl _ _), (fun _ h => by cases h), (fun _ _ h => by cases h), (fun _ _ _ _ h => by cases h), (fun _ _ h => by cases h)⟩
def freeB (bxs : List (Nat × Nat × Nat)) (i : Nat) : Bool := bxs.all fun b => b.1 != i && b.2.1 != i
theorem JB.step {w0 : World} {specs : List Spec} {bxs : List (Nat × Nat × Nat)} {L : Nat → Bool} {vs : Nat → Value} {w w' : World} (h : JB w0 specs bxs L vs w) {i : Nat} (hL : L i = false) (hf : freeB bxs i = true) (hb : Below w.heap.size w w') {v : Value} (hs : (specs.getD i sAny).1 w' v) : JB w0 specs bxs (updB L i) (updV vs i v) w' := by
  have hne : ∀ b ∈ bxs, b.1 ≠ i ∧ b.2.1 ≠ i := fun b hb' => by
    have := List.all_eq_true.1 hf b hb'
    simpa using this
  have oldV : ∀ j, L j = true → updV vs i v j = vs j := fun j hj => by
    have : j ≠ i := fun e => by rw [e, hL] at hj; cases hj
    simp [updV, this]
  refine ⟨bel_go h.bel hb, fun j hj => ?_, fun b hbm hLb => ?_, fun b hbm b' hbm' h1 h2 h3 => ?_, fun b hbm hs' => ?_⟩
  · by_cases e : j = i
    · subst e
      simpa [updV] using hs
    have hj' : L j = true := by simpa [updB, e] using hj
    rw [oldV j hj']
    exact (specs.getD j sAny).2.mono (h.sp j hj') hb
  · obtain ⟨n1, n2⟩ := hne b hbm
    have hLb' : L b.1 = true := by simpa [updB, n1] using hLb
    obtain ⟨bk, e1, e2, e3, e4, e5, e6⟩ := h.bx b hbm hLb'
    have hcell : w'.cell? ⟨bk, 0, none⟩ = w.cell? ⟨bk, 0, none⟩ := hb.cell (p := ⟨bk, 0, none⟩) e3
    refine ⟨bk, by rw [oldV _ hLb']; exact e1, e2, Nat.lt_of_lt_of_le e3 hb.size, (hb.frozen (p := ⟨bk, 0, none⟩) e3).trans e4, fun hs' => ?_, fun hs' => ?_⟩
    · rw [hcell]
      exact e5 (by simpa [updB, n2] using hs')
    obtain ⟨q1, u, q2, q3⟩ := e6 (by simpa [updB, n2] using hs')
    refine ⟨by unfold updB; split <;> simp_all, u, ?_, by rw [hcell]; exact q3⟩
    rw [oldV _ q1]
    exact q2
  · have m1 : L b.1 = true := by simpa [updB, (hne b hbm).1] using h1
    have m2 : L b'.1 = true := by simpa [updB, (hne b' hbm').1] using h2
    rw [oldV _ m1, oldV _ m2]
    exact h.dj b hbm b' hbm' m1 m2 h3
  have := h.cl b hbm (by simpa [updB, (hne b hbm).2] using hs')
  unfold updB; split <;> simp_all
theorem JB.alloc {w0 : World} {specs : List Spec} {bxs : List (Nat × Nat × Nat)} {L : Nat → Bool} {vs : Nat → Value} {w : World} (h : JB w0 specs bxs L vs w) {i : Nat} (hL : L i = false) (hns : bxs.all (fun b => b.2.1 != i) = true) (hsp : specs.getD i sAny = sAny) (t : TypeId) :
    JB w0 specs bxs (updB L i) (updV vs i (.pointer (some ⟨w.heap.size, 0, none⟩))) (w.alloc (.cells #[.slice none 0 0] t)) := by
  have hb : Below w.heap.size w (w.alloc (.cells #[.slice none 0 0] t)) := (Below.refl _ _).alloc (Nat.le_refl _) _
  have hst : ∀ b ∈ bxs, b.1 = i → L b.2.1 = false := fun b hbm e => by
    cases hs' : L b.2.1
    · rfl
    have := h.cl b hbm hs'
    rw [e, hL] at this
    cases this
  have ns : ∀ b ∈ bxs, b.2.1 ≠ i := fun b hb' => by
    have := List.all_eq_true.1 hns b hb'
    simpa using this
  have oldV : ∀ j, L j = true → updV vs i (.pointer (some ⟨w.heap.size, 0, none⟩)) j = vs j := fun j hj => by
    have : j ≠ i := fun e => by rw [e, hL] at hj; cases hj
    simp [updV, this]
  have hnew : ∀ b ∈ bxs, L b.1 = true → vs b.1 ≠ .pointer (some ⟨w.heap.size, 0, none⟩) := fun b hbm hLb e => by
    obtain ⟨bk, e1, _, e3, _⟩ := h.bx b hbm hLb
    rw [e1] at e
    cases e
    omega
  refine ⟨bel_go h.bel hb, fun j hj => ?_, fun b hbm hLb => ?_, fun b hbm b' hbm' h1 h2 h3 => ?_, fun b hbm hs' => ?_⟩
  · by_cases e : j = i
    · subst e
      rw [hsp]
      trivial
    have hj' : L j = true := by simpa [updB, e] using hj
    rw [oldV j hj']
    exact (specs.getD j sAny).2.mono (h.sp j hj') hb
  · by_cases e : b.1 = i
    · refine ⟨w.heap.size, by rw [e]; simp [updV], h.bel.size, by simp, by simp [go_sem], fun _ => by simp [go_sem], fun hs' => ?_⟩
      have := hst b hbm e
      have n2 := ns b hbm
      simp [updB, n2, this] at hs'
    have hLb' : L b.1 = true := by simpa [updB, e] using hLb
    obtain ⟨bk, e1, e2, e3, e4, e5, e6⟩ := h.bx b hbm hLb'
    have hcell : (w.alloc (.cells #[.slice none 0 0] t)).cell? ⟨bk, 0, none⟩ = w.cell? ⟨bk, 0, none⟩ := hb.cell (p := ⟨bk, 0, none⟩) e3
    have n2 := ns b hbm
    refine ⟨bk, by rw [oldV _ hLb']; exact e1, e2, Nat.lt_of_lt_of_le e3 hb.size, (hb.frozen (p := ⟨bk, 0, none⟩) e3).trans e4, fun hs' => ?_, fun hs' => ?_⟩
    · rw [hcell]
      exact e5 (by simpa [updB, n2] using hs')
    obtain ⟨q1, u, q2, q3⟩ := e6 (by simpa [updB, n2] using hs')
    refine ⟨by unfold updB; split <;> simp_all, u, ?_, by rw [hcell]; exact q3⟩
    rw [oldV _ q1]
    exact q2
  · by_cases e : b.1 = i
    · have e' : b'.1 ≠ i := fun e2 => h3 (e.trans e2.symm)
      have m2 : L b'.1 = true := by simpa [updB, e'] using h2
      rw [oldV _ m2, e]
      simp only [updV, if_true]
      exact fun e3 => hnew b' hbm' m2 e3.symm
    have m1 : L b.1 = true := by simpa [updB, e] using h1
    by_cases e' : b'.1 = i
    · rw [oldV _ m1, e']
      simp only [updV, if_true]
      exact hnew b hbm m1
    have m2 : L b'.1 = true := by simpa [updB, e'] using h2
    rw [oldV _ m1, oldV _ m2]
    exact h.dj b hbm b' hbm' m1 m2 h3
  have := h.cl b hbm (by simpa [updB, ns b hbm] using hs')
  unfold updB; split <;> simp_all
theorem JB.store {w0 : World} {specs : List Spec} {bxs : List (Nat × Nat × Nat)} {L : Nat → Bool} {vs : Nat → Value} {w : World} (h : JB w0 specs bxs L vs w) {b : Nat × Nat × Nat} (hbm : b ∈ bxs) (hL : L b.2.1 = false) (hA : L b.1 = true) (hV : L b.2.2 = true) (hone : ∀ b' ∈ bxs, b'.1 ≠ b.2.1 ∧ (b'.2.1 = b.2.1 → b' = b) ∧ (b'.1 = b.1 → b' = b)) (hsp : specs.getD b.2.1 sAny = sAny) {bk : Nat} {u : Value} (hp : vs b.1 = .pointer (some ⟨bk, 0, none⟩)) (hu : vs b.2.2 = .agg #[u]) :
    JB w0 specs bxs (updB L b.2.1) (updV vs b.2.1 undef) (w.setCell ⟨bk, 0, none⟩ u) := by
  have oldV : ∀ j, L j = true → updV vs b.2.1 undef j = vs j := fun j hj => by
    have : j ≠ b.2.1 := fun e => by rw [e, hL] at hj; cases hj
    simp [updV, this]
  obtain ⟨bk', e1, e2, e3, e4, e5, e6⟩ := h.bx b hbm hA
  obtain rfl : bk' = bk := by rw [e1] at hp; cases hp; rfl
  have hc0 := e5 hL
  have hno : ∀ k q, w.cell? ⟨bk', 0, none⟩ ≠ some (.int k q) := no_int_slice hc0
  refine ⟨h.bel.setCell (p := ⟨bk', 0, none⟩) e2 u, fun j hj => ?_, fun b' hbm' hLb => ?_, fun b1 hm1 b2 hm2 h1 h2 h3 => ?_, fun b1 hm1 hs' => ?_⟩
  · by_cases e : j = b.2.1
    · subst e
      rw [hsp]
      trivial
    have hj' : L j = true := by simpa [updB, e] using hj
    rw [oldV j hj']
    exact (specs.getD j sAny).2.set (h.sp j hj') hno u
  · obtain ⟨n1, n2, n3⟩ := hone b' hbm'
    have hLb' : L b'.1 = true := by simpa [updB, n1] using hLb
    by_cases e : b' = b
    · subst e
      refine ⟨bk', by rw [oldV _ hA]; exact e1, e2, by simpa [World.setCell] using e3, by simp [World.frozen?_setCell, e4], fun hs' => ?_, fun _ => ⟨?_, u, ?_, ?_⟩⟩
      · simp [updB] at hs'
      · unfold updB; split <;> simp_all
      · rw [oldV _ hV]; exact hu
      simp [go_sem, hc0]
    obtain ⟨bk2, q1, q2, q3, q4, q5, q6⟩ := h.bx b' hbm' hLb'
    have hne : bk2 ≠ bk' := fun e7 => h.dj b' hbm' b hbm hLb' hA (fun e8 => e (n3 e8)) (by rw [q1, e1, e7])
    have hcell : (w.setCell ⟨bk', 0, none⟩ u).cell? ⟨bk2, 0, none⟩ = w.cell? ⟨bk2, 0, none⟩ := World.cell?_setCell_far _ _ _ _ (by simpa using Ne.symm hne)
    refine ⟨bk2, by rw [oldV _ hLb']; exact q1, q2, by simpa [World.setCell] using q3, by simp [World.frozen?_setCell, q4], fun hs' => ?_, fun hs' => ?_⟩
    · rw [hcell]
      exact q5 (by
        have : b'.2.1 ≠ b.2.1 := fun e9 => e (n2 e9)
        simpa [updB, this] using hs')
    have n4 : b'.2.1 ≠ b.2.1 := fun e9 => e (n2 e9)
    obtain ⟨r1, u2, r2, r3⟩ := q6 (by simpa [updB, n4] using hs')
    refine ⟨by unfold updB; split <;> simp_all, u2, ?_, by rw [hcell]; exact r3⟩
    rw [oldV _ r1]
    exact r2
  · have m1 : L b1.1 = true := by simpa [updB, (hone b1 hm1).1] using h1
    have m2 : L b2.1 = true := by simpa [updB, (hone b2 hm2).1] using h2
    rw [oldV _ m1, oldV _ m2]
    exact h.dj b1 hm1 b2 hm2 m1 m2 h3
  have m1 : L b1.1 = true := by
    by_cases e : b1.2.1 = b.2.1
    · rw [(hone b1 hm1).2.1 e]
      exact hA
    exact h.cl b1 hm1 (by simpa [updB, e] using hs')
  simp [updB, (hone b1 hm1).1, m1]
theorem run_val {P : Program} {ops : Array Oper} {Q : Exit → Act → World → Prop} {K : Act → World → Prop} {o : Oper} {a : Act} {w w' : World} {X : Prop} {v : Value} (hw : Region.wanted o (yielded ops a.tmps) = true) (hr : (execOp a.eval o).run P w = .ok (.value v) w') (h : K (a.put o.dst v) w') : if Region.wanted o (yielded ops a.tmps) then o.wp P a w K Q else X := by
  rw [if_pos hw]
  unfold Oper.wp
  rw [hr]
  exact h
theorem run_unit {P : Program} {ops : Array Oper} {Q : Exit → Act → World → Prop} {K : Act → World → Prop} {o : Oper} {a : Act} {w w' : World} {X : Prop} (hw : Region.wanted o (yielded ops a.tmps) = true) (hr : (execOp a.eval o).run P w = .ok .skip w') (h : K (a.put o.dst undef) w') : if Region.wanted o (yielded ops a.tmps) then o.wp P a w K Q else X := by
  rw [if_pos hw]
  unfold Oper.wp
  rw [hr]
  exact h
theorem run_call {P : Program} {ops : Array Oper} {Q : Exit → Act → World → Prop} {K : Act → World → Prop} {o : Oper} {a : Act} {w : World} {X : Prop} {f : FuncId} {args : Array Value} {R : Ending → World → Prop} (hw : Region.wanted o (yielded ops a.tmps) = true) (hr : (execOp a.eval o).run P w = .ok (.enter f args) w) (hc : Calls P f args w R) (h : ∀ e w', R e w' → ∃ v, e = .returned v ∧ K (a.put o.dst v) w') : if Region.wanted o (yielded ops a.tmps) then o.wp P a w K Q else X := by
  rw [if_pos hw]
  unfold Oper.wp
  rw [hr]
  refine hc.mono fun e w'' he => ?_
  obtain ⟨v, rfl, hk⟩ := h e w'' he
  exact hk
theorem Fr.slot {ops : Array Oper} {a0 a : Act} {L : Nat → Bool} {vs : Nat → Value} (h : Fr ops a0 L vs a) (j t : Nat) (hd : (ops[j]?).bind (·.dst) = some t) (hL : L j = true) : (a.tmps[t]?).getD undef = vs j := by
  cases ho : ops[j]? with
  | none => rw [ho] at hd; cases hd
  | some o =>
    rw [ho] at hd
    have := h.inn j o t ho hL hd
    simpa using this
theorem Fr.old {ops : Array Oper} {a0 a : Act} {L : Nat → Bool} {vs : Nat → Value} (h : Fr ops a0 L vs a) (t : Nat) (hd : ops.toList.all (fun o => o.dst != some t) = true) : (a.tmps[t]?).getD undef = a0.eval (.tmp t) := by
  have e : (a.tmps[t]?).getD undef = a.tmps.getD t undef := by simp
  rw [e]
  refine h.out t fun j o ho _ e => ?_
  have := List.all_eq_true.1 hd o (by have := Array.mem_of_getElem? ho; simpa using this)
  rw [e] at this
  simp at this
theorem Fr.wants {ops : Array Oper} {a0 a : Act} {L : Nat → Bool} {vs : Nat → Value} (h : Fr ops a0 L vs a) (n : Nat) (hn : a0.tmps.size = n) (hg : goodB ops.toList n = true) (o : Oper) (g : Nat) (b c : Bool) (ho : o.guard = some (g, b)) (hd : ((ops[g]?).bind (·.dst)).isSome = true) (hL : L g = true) (hv : vs g = .bool c) : Region.wanted o (yielded ops a.tmps) = (c == b) := by
  subst hn
  cases hg' : ops[g]? with
  | none => rw [hg'] at hd; cases hd
  | some og =>
    rw [hg'] at hd
    cases hdst : og.dst with
    | none => rw [show (some og).bind (·.dst) = og.dst from rfl, hdst] at hd; cases hd
    | some t =>
      have h1 := h.inn g og t hg' hL hdst
      have h2 := (good_of hg).1.lt g og t hg' hdst
      have h3 : t < a.tmps.size := by rw [h.size]; exact h2
      have h4 : a.tmps[t]? = some (.bool c) := by
        rw [Array.getElem?_eq_getElem h3]
        have : a.tmps.getD t undef = a.tmps[t] := by simp [h3]
        rw [← this, h1, hv]
      unfold Region.wanted
      rw [ho]
      simp only [yielded, hg', Option.bind_some, hdst, h4]
      cases b <;> cases c <;> rfl
def B (n : Nat) : Nat := 4294967296 ^ n
def U (F : Nat → Nat) : Nat → Nat
  | 0 => 0
  | n + 1 => U F n + F n * B n
def Dg (F : Nat → Nat) (n : Nat) : Prop := ∀ i, i < n → F i < 4294967296
theorem Dg.mono {F : Nat → Nat} {m n : Nat} (h : Dg F n) (hm : m ≤ n) : Dg F m := fun i hi => h i (by omega)
def RNat (w : World) (v : Value) (x : Nat) : Prop :=
  ∃ a n cap F, v = .agg #[.slice a n cap] ∧ Sl w a n cap F ∧ Dg F n ∧ (0 < n → F (n - 1) ≠ 0) ∧ U F n = x
theorem RNat.mono {w w' : World} {v : Value} {x : Nat} (h : RNat w v x) (hb : Below w.heap.size w w') : RNat w' v x := by
  obtain ⟨a, n, cap, F, e, hs, hd, h1, hv⟩ := h
  exact ⟨a, n, cap, F, e, hs.mono hb, hd, h1, hv⟩
theorem RNat.setCell {w : World} {v : Value} {x : Nat} (h : RNat w v x) {p : Addr} (hp : ∀ k q, w.cell? p ≠ some (.int k q)) (u : Value) : RNat (w.setCell p u) v x := by
  obtain ⟨a, n, cap, F, e, hs, hd, h1, hv⟩ := h
  exact ⟨a, n, cap, F, e, hs.setCell hp u, hd, h1, hv⟩
theorem RNat.isAgg {w : World} {v : Value} {x : Nat} (h : RNat w v x) : ∃ a n cap, v = .agg #[.slice a n cap] := by
  obtain ⟨a, n, cap, F, e, _⟩ := h
  exact ⟨a, n, cap, e⟩
theorem RNat.open {w : World} {a : Option Addr} {n cap : Nat} {x : Nat} (h : RNat w (.agg #[.slice a n cap]) x) : ∃ F, Sl w a n cap F ∧ Dg F n ∧ (0 < n → F (n - 1) ≠ 0) ∧ U F n = x := by
  obtain ⟨a', n', cap', F, e, h2⟩ := h
  cases e
  exact ⟨F, h2⟩
def two (x y : Nat) (i : Nat) : Nat := if i = 0 then x else y
theorem fits_P {x n : Nat} (h : x < P n) (hn : n ≤ 4294967296) : Fits x := ⟨Nat.lt_of_lt_of_le h (P_le (show n ≤ lim from hn))⟩
structure SR (w0 w : World) (N M : List (Value × Nat)) (C : List (Nat × Value)) : Prop where
  nats : ∀ p ∈ N, IsNat w p.1 p.2
  rnats : ∀ p ∈ M, RNat w p.1 p.2
  cells : ∀ p ∈ C, w.cell? ⟨p.1, 0, none⟩ = some p.2
  bel : Below w0.heap.size w0 w
theorem SR.go {w0 w w' : World} {N M : List (Value × Nat)} {C : List (Nat × Value)} (h : SR w0 w N M C) (hb : Below w.heap.size w w') : SR w0 w' N M C :=
  ⟨fun p hp => (h.nats p hp).mono hb, fun p hp => (h.rnats p hp).mono hb, fun p hp => cell_later hb (h.cells p hp), bel_go h.bel hb⟩
theorem SR.at {w0 w : World} {N M : List (Value × Nat)} {C : List (Nat × Value)} (h : SR w0 w N M C) (v : Value) (x : Nat) (hm : (v, x) ∈ N := by simp) : IsNat w v x := h.nats _ hm
theorem SR.rat {w0 w : World} {N M : List (Value × Nat)} {C : List (Nat × Value)} (h : SR w0 w N M C) (v : Value) (x : Nat) (hm : (v, x) ∈ M := by simp) : RNat w v x := h.rnats _ hm
theorem SR.cell {w0 w : World} {N M : List (Value × Nat)} {C : List (Nat × Value)} (h : SR w0 w N M C) (b : Nat) (u : Value) (hm : (b, u) ∈ C := by simp) : w.cell? ⟨b, 0, none⟩ = some u := h.cells _ hm
theorem SR.nat {w0 w : World} {N M : List (Value × Nat)} {C : List (Nat × Value)} (h : SR w0 w N M C) {v : Value} {x : Nat} (hp : IsNat w v x) : SR w0 w ((v, x) :: N) M C :=
  ⟨fun p hp' => by
    rcases List.mem_cons.1 hp' with e | e
    · subst e; exact hp
    exact h.nats p e, h.rnats, h.cells, h.bel⟩
theorem SR.box {w0 w : World} {N M : List (Value × Nat)} {C : List (Nat × Value)} (h : SR w0 w N M C) (u : Value) (t : TypeId) (g : Nat) (hg : g = w.heap.size) : SR w0 (w.alloc (.cells #[u] t)) N M ((g, u) :: C) := by
  subst hg
  have h' := h.go (w' := w.alloc (.cells #[u] t)) (bel_al (Below.refl _ _))
  refine ⟨h'.nats, h'.rnats, fun p hp => ?_, h'.bel⟩
  rcases List.mem_cons.1 hp with e | e
  · subst e
    simp
  exact h'.cells p e
theorem sr_start (w : World) : SR w w [] [] [] := ⟨(fun _ h => by cases h), (fun _ h => by cases h), (fun _ h => by cases h), Below.refl _ _⟩
end Go.Proofs.YtfkkomppfghagaaGreatDoor
