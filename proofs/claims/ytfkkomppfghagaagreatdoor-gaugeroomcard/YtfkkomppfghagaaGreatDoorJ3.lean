/- Contracts of the program's functions, part 3: own work, joined in build order. -/
import Derived.Test.YtfkkomppfghagaaGreatDoorJ2
import Derived.Shelf.Bits.Mul64
namespace Go.Proofs.YtfkkomppfghagaaGreatDoor
open Go.RowKit
set_option maxRecDepth 100000
set_option linter.unusedVariables false
theorem natLen_zero {w : World} {a : Option Addr} {n cap : Nat} {x : Nat} (h : IsNat w (.agg #[.slice a n cap]) x) (h0 : n = 0) : x = 0 := (isNat_zero_iff h).1 h0
set_option maxHeartbeats 1000000 in
theorem left_zero (v : Value) (s : Int) (w : World) (h : IsNat w v 0) :
    Calls Tryz.prog 130 #[v, .int .i64 s] w (Makes2 w 0 true) := by
  obtain ⟨a, n, cap, rfl⟩ := h.isAgg
  have hn : n = 0 := (isNat_zero_iff h).2 rfl
  subst hn
  clear h
  go_enter Tryz.func130, Tryz.ntmps130
  go_wp2_with fail
  refine bodyPost_ret (v := .tuple #[.agg #[.slice none 0 0], .bool true]) (by simp [results, Tryz.results130, go_sem]) rfl ⟨_, rfl, isNat_zero _, bel_alloc2 _ _ _⟩
def LeftRes (w : World) (x t : Nat) (e : Ending) (w' : World) : Prop := if t ≤ 16777216 then Makes2 w (x * 2 ^ t) true e w' else Makes2 w 0 false e w'
set_option maxHeartbeats 1000000 in
theorem left_pos (v : Value) (x t : Nat) (w : World) (h : IsNat w v x) (hx : Fits x) (h0 : x ≠ 0) (hs1 : t ≤ 9223372036854775807) :
    Calls Tryz.prog 130 #[v, .int .i64 (t : Int)] w (LeftRes w x t) := by
  obtain ⟨a, n, cap, rfl⟩ := h.isAgg
  have hn : n ≠ 0 := fun e => h0 ((isNat_zero_iff h).1 e)
  obtain ⟨F, hs, _, h1, hv⟩ := h.fits
  have hnl : n ≤ 4294967296 := fits_len (hv.symm ▸ hx) h1
  have hbl := bitLen_words hs h1 hv
  have hb0 : 0 < bitLen x := by
    rcases Nat.eq_zero_or_pos (bitLen x) with e | e
    · have := bitLen_lt x
      rw [e, Nat.pow_zero] at this
      omega
    exact e
  have HN : Hid (IsNat w (.agg #[.slice a n cap]) x) := h
  have hnb : ((n : Int) == 0) = false := by simp <;> omega
  have HX : Hid (Fits x) := hx
  clear h hs h1 hv hx
  go_enter Tryz.func130, Tryz.ntmps130
  go_wp2_with fail
  refine (len_any _ x _ (HN.out.mono (bel_alloc2 _ _ _)) HX.out).mono ?_
  rintro e w1 ⟨rfl, hb1⟩
  have c1 : w1.cell? ⟨w.heap.size, 0, none⟩ = some (.slice a n cap) := cell_later hb1 (by simp [go_sem])
  have c2 : w1.cell? ⟨w.heap.size + 1, 0, none⟩ = some (.slice none 0 0) := cell_later hb1 (by simp [go_sem])
  have f2 : w1.frozen? ⟨w.heap.size + 1, 0, none⟩ = false := (hb1.frozen (by simp <;> omega)).trans (by simp [go_sem])
  have B1 : Hid (Below w.heap.size w w1) := bel_trans (bel_alloc2 _ _ _) hb1
  clear hb1
  have d1 : decide ((t : Int) ≤ -((bitLen x : Nat) : Int)) = false := decide_eq_false (by omega)
  have d2 : decide ((t : Int) < 0) = false := decide_eq_false (by omega)
  by_cases hfar : t ≤ 16777216
  · have d3 : decide ((16777216 : Int) < (t : Int)) = false := decide_eq_false (by omega)
    have E : Hid (∀ e w', Makes2 w (x * 2 ^ t) true e w' → LeftRes w x t e w') := fun e w' hh => by unfold LeftRes; rw [if_pos hfar]; exact hh
    go_wp2_with fail
    refine (up_any _ x t _ (HN.out.mono B1.out) HX.out (by omega)).mono ?_
    rintro e w2 ⟨v2, rfl, hv2, hb2⟩
    have c4 : w2.cell? ⟨w.heap.size + 1, 0, none⟩ = some (.slice none 0 0) := cell_later hb2 c2
    have f4 : w2.frozen? ⟨w.heap.size + 1, 0, none⟩ = false := (hb2.frozen (World.block_lt_of_cell? _ _ c2)).trans f2
    obtain ⟨a3, n3, cap3, rfl⟩ := hv2.isAgg
    have V2 : Hid (IsNat w2 (.agg #[.slice a3 n3 cap3]) (x * 2 ^ t)) := hv2
    have B2 : Hid (Below w.heap.size w w2) := bel_trans B1.out hb2
    clear hv2 hb2 c1 c2 f2 B1
    go_wp2_with fail
    refine bodyPost_ret (v := .tuple #[.agg #[.slice a3 n3 cap3], .bool true]) (by simp [results, Tryz.results130, go_sem, c4]) rfl (E.out _ _ ⟨_, rfl, V2.out.setCell (no_int_slice c4) _, B2.out.setCell (by simp) _⟩)
  have d3 : (16777216 : Int) < (t : Int) := by omega
  have E : Hid (∀ e w', Makes2 w 0 false e w' → LeftRes w x t e w') := fun e w' hh => by unfold LeftRes; rw [if_neg hfar]; exact hh
  clear hfar
  go_wp2_with fail
  refine bodyPost_ret (v := .tuple #[.agg #[.slice none 0 0], .bool false]) (by simp [results, Tryz.results130, go_sem, c2]) rfl (E.out _ _ ⟨_, rfl, isNat_zero _, B1.out.setCell (by simp) _⟩)
theorem left_yes (v : Value) (x t : Nat) (w : World) (h : IsNat w v x) (hx : Fits x) (hs1 : t ≤ 16777216) :
    Calls Tryz.prog 130 #[v, .int .i64 (t : Int)] w (Makes2 w (x * 2 ^ t) true) := by
  by_cases e : x = 0
  · subst e
    rw [Nat.zero_mul]
    exact left_zero v _ w h
  refine (left_pos v x t w h hx e (by omega)).mono fun e w' hh => ?_
  unfold LeftRes at hh
  rw [if_pos hs1] at hh
  exact hh
def bitOf (x i : Nat) : Bool := x / 2 ^ i % 2 == 1
theorem bit_of_word {F : Nat → Nat} {n q r : Nat} (h : Ok F n) (hq : q < n) (hr : r < 64) : F q / 2 ^ r % 2 = V F n / 2 ^ (64 * q + r) % 2 := by
  rw [← word_at h hq, Nat.pow_add, ← P_two, ← Nat.div_div_eq_div_mul]
  generalize V F n / P q = y
  rw [two64 r (by omega), Nat.mod_mul_right_div_self]
  exact Nat.mod_mod_of_dvd _ ⟨2 ^ (63 - r), by rw [show 64 - r = (63 - r) + 1 by omega, Nat.pow_succ, Nat.mul_comm]⟩
theorem bit_int {F : Nat → Nat} {n q r : Nat} (h : Ok F n) (hq : q < n) (hr : r < 64) : (bits .and .u64 (((F q : Nat) : Int) / 2 ^ r) 1 == 1) = bitOf (V F n) (64 * q + r) := by
  have hl : F q / 2 ^ r < 18446744073709551616 := Nat.lt_of_le_of_lt (Nat.div_le_self _ _) (h q hq)
  have e := bits_and_u64_nat (F q / 2 ^ r) 1 hl (by omega)
  rw [Nat.and_one_is_mod, bit_of_word h hq hr] at e
  unfold bitOf
  rw [div_int]
  refine Eq.trans (congrArg (· == 1) e) ?_
  rcases Nat.mod_two_eq_zero_or_one (V F n / 2 ^ (64 * q + r)) with z | z <;> rw [z] <;> rfl
set_option maxHeartbeats 1000000 in
theorem bit_any (v : Value) (x : Nat) (s : Int) (w : World) (h : IsNat w v x) (hx : Fits x) (hs0 : -9223372036854775808 ≤ s) (hs1 : s ≤ 9223372036854775807) :
    Calls Tryz.prog 131 #[v, .int .i64 s] w fun e w' => e = .returned (.bool (decide (0 ≤ s) && bitOf x s.toNat)) ∧ Below w.heap.size w w' := by
  obtain ⟨a, n, cap, rfl⟩ := h.isAgg
  obtain ⟨F, hs, _, h1, hv⟩ := h.fits
  have hnl : n ≤ 4294967296 := fits_len (hv.symm ▸ hx) h1
  have hbl := bitLen_words hs h1 hv
  have HN : Hid (IsNat w (.agg #[.slice a n cap]) x ∧ Sl w a n cap F ∧ V F n = x) := ⟨h, hs, hv⟩
  have HX : Hid (Fits x) := hx
  clear h hs h1 hv hx
  by_cases hneg : s < 0
  · have E : Hid ((decide (0 ≤ s) && bitOf x s.toNat) = false) := by show _ = false; simp; intro _; omega
    go_enter Tryz.func131, Tryz.ntmps131
    go_wp2_with fail
    go_ret
    exact ⟨by rw [E.out]; rfl, (Below.refl _ _).alloc (Nat.le_refl _) _⟩
  obtain ⟨t, rfl⟩ := Int.eq_ofNat_of_zero_le (show 0 ≤ s by omega)
  have d1 : decide ((t : Int) < 0) = false := decide_eq_false hneg
  have E : Hid ((decide (0 ≤ (t : Int)) && bitOf x (t : Int).toNat) = bitOf x t) := by show _ = _; simp
  clear hneg
  go_enter Tryz.func131, Tryz.ntmps131
  go_wp2_with fail
  refine (len_any _ x _ (HN.out.1.mono ((Below.refl _ _).alloc (Nat.le_refl _) _)) HX.out).mono ?_
  rintro e w1 ⟨rfl, hb1⟩
  have c1 : w1.cell? ⟨w.heap.size, 0, none⟩ = some (.slice a n cap) := cell_later hb1 (by simp [go_sem])
  have B1 : Hid (Below w.heap.size w w1) := bel_trans ((Below.refl _ _).alloc (Nat.le_refl _) _) hb1
  clear hb1
  by_cases hbig : bitLen x ≤ t
  · have hbi : decide (bitLen x ≤ t) = true := decide_eq_true hbig
    have E2 : Hid (bitOf x t = false) := by
      show bitOf x t = false
      unfold bitOf
      rw [Nat.div_eq_of_lt (Nat.lt_of_lt_of_le (bitLen_lt x) (Nat.pow_le_pow_right (by omega) hbig))]
      rfl
    go_wp2_with fail
    go_ret
    exact ⟨by rw [E.out, E2.out]; rfl, B1.out⟩
  have hbi : decide (bitLen x ≤ t) = false := decide_eq_false hbig
  have hft : t / 64 < n := by omega
  obtain ⟨b, o, rfl, hw⟩ := HN.out.2.1.at (t / 64) hft
  have hcw : w1.cell? ⟨b, o + t / 64, none⟩ = some (.int .u64 (F (t / 64) : Nat)) := cell_later B1.out (hw (t / 64) hft)
  have htb : t ≤ 274877906944 := by omega
  clear hbig hw
  have E2 : Hid ((bits .and .u64 (((F (t / 64) : Nat) : Int) / 2 ^ (t % 64)) 1 == 1) = bitOf x t) := by
    have := bit_int (r := t % 64) HN.out.2.1.2.2.1 hft (by omega)
    rw [HN.out.2.2, show 64 * (t / 64) + t % 64 = t by omega] at this
    exact this
  go_wp2_with fail
  go_ret
  exact ⟨by rw [E.out, ← E2.out]; rfl, B1.out⟩
end Go.Proofs.YtfkkomppfghagaaGreatDoor
namespace Go.Proofs.YtfkkomppfghagaaGreatDoor
open Go.RowKit Go.Lib
set_option maxRecDepth 100000
def mulHi (x y : Nat) : Nat := x * y / 18446744073709551616
def mulLo (x y : Nat) : Nat := x * y % 18446744073709551616
set_option maxHeartbeats 1000000 in
theorem mul64_any (x y : Nat) (w : World) (hx : x < 18446744073709551616) (hy : y < 18446744073709551616) :
    Calls Tryz.prog 133 #[.int .u64 (x : Int), .int .u64 (y : Int)] w fun e w' => e = .returned (.tuple #[.int .u64 ((mulHi x y : Nat) : Int), .int .u64 ((mulLo x y : Nat) : Int)]) ∧ w' = w := by
  unfold mulHi mulLo
  obtain ⟨bd, bt, bw, hhi⟩ := Lib.mul64_hi x y hx hy
  have ba := Lib.half_mul_le (a := x / 4294967296) (b := y / 4294967296) (by omega) (by omega)
  have bb := Lib.half_mul_le (a := x / 4294967296) (b := y % 4294967296) (by omega) (by omega)
  have bc := Lib.half_mul_le (a := x % 4294967296) (b := y / 4294967296) (by omega) (by omega)
  have ba' : x / 4294967296 * (y / 4294967296) < 18446744073709551616 := by omega
  have bb' : x / 4294967296 * (y % 4294967296) < 18446744073709551616 := by omega
  have bc' : x % 4294967296 * (y / 4294967296) < 18446744073709551616 := by omega
  have bh1 : x / 4294967296 * (y / 4294967296) + (x / 4294967296 * (y % 4294967296) + x % 4294967296 * (y % 4294967296) / 4294967296) / 4294967296 < 18446744073709551616 := by omega
  have bh : x / 4294967296 * (y / 4294967296) + (x / 4294967296 * (y % 4294967296) + x % 4294967296 * (y % 4294967296) / 4294967296) / 4294967296 + ((x / 4294967296 * (y % 4294967296) + x % 4294967296 * (y % 4294967296) / 4294967296) % 4294967296 + x % 4294967296 * (y / 4294967296)) / 4294967296 < 18446744073709551616 := by omega
  go_enter Tryz.func133, Tryz.ntmps133
  go_wp2
  simp only [Go.Proofs.Mul64.maskN x hx, Go.Proofs.Mul64.maskN y hy, Go.Proofs.Mul64.divN, Go.Proofs.Mul64.mulN, Go.Proofs.Mul64.addN, Go.Proofs.Mul64.wrapN _ bd, Go.Proofs.Mul64.wrapN _ bb', Go.Proofs.Mul64.wrapN _ bt, Go.Proofs.Mul64.maskN _ bt, Go.Proofs.Mul64.wrapN _ bc', Go.Proofs.Mul64.wrapN _ bw, Go.Proofs.Mul64.wrapN _ ba', Go.Proofs.Mul64.wrapN _ bh1, Go.Proofs.Mul64.wrapN _ bh, Go.Proofs.Mul64.wrapM (x * y)]
  rw [hhi]
  go_ret2
  exact ⟨rfl, rfl⟩
theorem mul_eq (x y : Nat) : mulLo x y + mulHi x y * 18446744073709551616 = x * y := by unfold mulLo mulHi; have := Nat.mod_add_div (x * y) 18446744073709551616; omega
theorem mulLo_lt (x y : Nat) : mulLo x y < 18446744073709551616 := Nat.mod_lt _ (by omega)
theorem mulHi_le (x y : Nat) (hx : x < 18446744073709551616) (hy : y < 18446744073709551616) : mulHi x y ≤ 18446744073709551614 := by
  have h1 : x * y ≤ 18446744073709551615 * 18446744073709551615 := Nat.mul_le_mul (by omega) (by omega)
  have := mul_eq x y
  omega
end Go.Proofs.YtfkkomppfghagaaGreatDoor
namespace Go.Proofs.YtfkkomppfghagaaGreatDoor
open Go.RowKit
set_option maxRecDepth 100000
theorem mul_top (w d s c : Nat) (hw : w < 18446744073709551616) (hd : d < 18446744073709551616) (hs : s < 18446744073709551616) (hc : c < 18446744073709551616) : s + c + w * d < 18446744073709551616 * 18446744073709551616 := by
  have h1 : w * d ≤ 18446744073709551615 * 18446744073709551615 := Nat.mul_le_mul (by omega) (by omega)
  omega
def apLo (w d s c : Nat) : Nat := addLo s (addLo (mulLo w d) c 0) 0
def apHi (w d s c : Nat) : Nat := mulHi w d + addHi (mulLo w d) c 0 + addHi s (addLo (mulLo w d) c 0) 0
def spLo (w d s c : Nat) : Nat := subLo s (addLo (mulLo w d) c 0) 0
def spHi (w d s c : Nat) : Nat := mulHi w d + addHi (mulLo w d) c 0 + subHi s (addLo (mulLo w d) c 0) 0
theorem lin3 (p t u x s c vb rb qb : Nat) (h1 : u + vb = x) (h2 : t + rb = u + c + 0) (h3 : p + qb = s + t + 0) : p + (vb + rb + qb) = s + x + c := by omega
theorem lin3m (p t u x s c vb rb qb : Nat) (h1 : u + vb = x) (h2 : t + rb = u + c + 0) (h3 : p + t + 0 = s + qb) : p + x + c = s + (vb + rb + qb) := by omega
theorem ap_eq (w d s c : Nat) : apLo w d s c + apHi w d s c * 18446744073709551616 = s + w * d + c := by
  unfold apLo apHi
  rw [Nat.add_mul, Nat.add_mul]
  exact lin3 _ _ _ _ _ _ _ _ _ (mul_eq w d) (add_eq (mulLo w d) c 0) (add_eq s (addLo (mulLo w d) c 0) 0)
theorem ap_lt (w d s c : Nat) (hw : w < 18446744073709551616) (hd : d < 18446744073709551616) (hs : s < 18446744073709551616) (hc : c < 18446744073709551616) : apHi w d s c < 18446744073709551616 := by
  have h1 := ap_eq w d s c
  have h2 := mul_top w d s c hw hd hs hc
  omega
theorem sp_eq (w d s c : Nat) (hs : s < 18446744073709551616) : spLo w d s c + w * d + c = s + spHi w d s c * 18446744073709551616 := by
  unfold spLo spHi
  rw [Nat.add_mul, Nat.add_mul]
  exact lin3m _ _ _ _ _ _ _ _ _ (mul_eq w d) (add_eq (mulLo w d) c 0) (sub_eq s (addLo (mulLo w d) c 0) 0 hs (addLo_lt _ _ _) (by omega))
theorem sp_lt (w d s c : Nat) (hw : w < 18446744073709551616) (hd : d < 18446744073709551616) (hs : s < 18446744073709551616) (hc : c < 18446744073709551616) : spHi w d s c < 18446744073709551616 := by
  have h1 := sp_eq w d s c hs
  have h2 := mul_top w d (spLo w d s c) c hw hd (subLo_lt _ _ _) hc
  omega
theorem mid_le (w d c : Nat) (hw : w < 18446744073709551616) (hd : d < 18446744073709551616) (hc : c < 18446744073709551616) : mulHi w d + addHi (mulLo w d) c 0 < 18446744073709551616 := by
  have h1 := mulHi_le w d hw hd
  have h2 := addHi_le (mulLo w d) c 0 (mulLo_lt _ _) hc (by omega)
  omega
def Prod (w wr : World) (b N o : Nat) (F : Nat → Nat) (y k c : Nat) (H : Nat → Nat) : Prop :=
  Row wr b N H ∧ (∀ j, j < o ∨ o + k ≤ j → H j = F j) ∧ c < 18446744073709551616 ∧ V (fro H o) k + c * P k = V (fro F o) k + y ∧ w.grownBy wr (some b)
def Prodm (w wr : World) (b N o : Nat) (F : Nat → Nat) (y k c : Nat) (H : Nat → Nat) : Prop :=
  Row wr b N H ∧ (∀ j, j < o ∨ o + k ≤ j → H j = F j) ∧ c < 18446744073709551616 ∧ V (fro H o) k + y = V (fro F o) k + c * P k ∧ w.grownBy wr (some b)
theorem Prod.start {w : World} {b N : Nat} {F : Nat → Nat} (o : Nat) (h : Row w b N F) : Prod w w b N o F 0 0 0 F :=
  ⟨h, fun _ _ => rfl, by omega, by simp [V_zero], World.grownBy.refl _ _⟩
theorem Prodm.start {w : World} {b N : Nat} {F : Nat → Nat} (o : Nat) (h : Row w b N F) : Prodm w w b N o F 0 0 0 F :=
  ⟨h, fun _ _ => rfl, by omega, by simp [V_zero], World.grownBy.refl _ _⟩
theorem Prod.step {w wr : World} {b N o : Nat} {F : Nat → Nat} {G : Nat → Nat} {d k c : Nat} {H : Nat → Nat} (h : Prod w wr b N o F (V G k * d) k c H) (hk : o + k < N) (hg : G k < 18446744073709551616) (hd : d < 18446744073709551616) :
    Prod w (wr.setCell ⟨b, o + k, none⟩ (.int .u64 (apLo (G k) d (H (o + k)) c : Nat))) b N o F (V G (k + 1) * d) (k + 1) (apHi (G k) d (H (o + k)) c) (put H (o + k) (apLo (G k) d (H (o + k)) c)) := by
  obtain ⟨h1, h2, h3, h4, h5⟩ := h
  refine ⟨h1.set _ (addLo_lt _ _ _), fun j hj => ?_, ap_lt _ _ _ _ hg hd (h1.2 _ hk) h3, ?_, grown_set _ h5 _ _⟩
  · rw [put_other _ _ (by omega)]
    exact h2 j (by omega)
  have hF : F (o + k) = H (o + k) := (h2 _ (by omega)).symm
  rw [V_succ, V_succ, V_succ, V_put, P_succ, Nat.add_mul]
  show V (fro H o) k + put H (o + k) _ (o + k) * P k + _ = V (fro F o) k + F (o + k) * P k + _
  rw [put_same, hF, Nat.mul_right_comm (G k)]
  exact add_step _ _ _ _ _ _ _ _ _ (ap_eq _ _ _ _) h4
theorem Prodm.step {w wr : World} {b N o : Nat} {F : Nat → Nat} {G : Nat → Nat} {d k c : Nat} {H : Nat → Nat} (h : Prodm w wr b N o F (V G k * d) k c H) (hk : o + k < N) (hg : G k < 18446744073709551616) (hd : d < 18446744073709551616) :
    Prodm w (wr.setCell ⟨b, o + k, none⟩ (.int .u64 (spLo (G k) d (H (o + k)) c : Nat))) b N o F (V G (k + 1) * d) (k + 1) (spHi (G k) d (H (o + k)) c) (put H (o + k) (spLo (G k) d (H (o + k)) c)) := by
  obtain ⟨h1, h2, h3, h4, h5⟩ := h
  refine ⟨h1.set _ (subLo_lt _ _ _), fun j hj => ?_, sp_lt _ _ _ _ hg hd (h1.2 _ hk) h3, ?_, grown_set _ h5 _ _⟩
  · rw [put_other _ _ (by omega)]
    exact h2 j (by omega)
  have hF : F (o + k) = H (o + k) := (h2 _ (by omega)).symm
  rw [V_succ, V_succ, V_succ, V_put, P_succ, Nat.add_mul]
  show V (fro H o) k + put H (o + k) _ (o + k) * P k + _ = V (fro F o) k + F (o + k) * P k + _
  rw [put_same, hF, Nat.mul_right_comm (G k)]
  exact sub_step _ _ _ _ _ _ _ _ _ (sp_eq _ _ _ _ (h1.2 _ hk)) h4
set_option linter.unusedVariables false
set_option maxHeartbeats 1000000 in
theorem addProduct_any (b N o n cap : Nat) (F : Nat → Nat) (a : Option Addr) (m cap' : Nat) (G : Nat → Nat) (d : Nat) (w : World) (hF : Row w b N F) (hG : Sl w a m cap' G) (ho : o + m ≤ N) (hn : m ≤ 1099511627776) (hm : m ≤ cap) (hnc : n ≤ cap) (hd : d < 18446744073709551616)
    (hne : ∀ b' o', a = some ⟨b', o', none⟩ → b' ≠ b) :
    Calls Tryz.prog 108 #[.slice (some ⟨b, o, none⟩) n cap, .slice a m cap', .int .u64 (d : Int)] w fun e w' => ∃ c : Nat, e = .returned (.int .u64 (c : Int)) ∧ ∃ H, Prod w w' b N o F (V G m * d) m c H := by
  have A0 := Prod.start o hF
  have HG : Hid (Sl w a m cap' G) := hG
  have HN : Hid _ := hne
  clear hG hF hne
  have hmc : (m : Int) ≤ cap := by omega
  go_enter Tryz.func108, Tryz.ntmps108
  go_wp2_with fail
  go_loopw [7, 19] (fun cv t wr => ∃ (k c : Nat) (H : Nat → Nat), k ≤ m ∧ t = .int .i64 (k : Int) ∧ cv = .int .u64 ((c : Nat) : Int) ∧ Prod w wr b N o F (V G k * d) k c H) (fun _ t _ => m - (intOf t).toNat)
  case atStart => exact ⟨0, 0, F, by omega, rfl, rfl, by rw [V_zero, Nat.zero_mul]; exact A0⟩
  case round =>
    clear A0
    obtain ⟨k, c, H, hk, rfl, rfl, hA⟩ := hrel
    by_cases hkm : k < m
    · obtain ⟨b', o', rfl, hw⟩ := HG.out.at k hkm
      have hbb : b' ≠ b := HN.out b' o' rfl
      have hc1 : wr.cell? ⟨b', o' + k, none⟩ = some (.int .u64 (G k : Nat)) := hA.2.2.2.2.cell (hw k hkm) (by simpa using hbb)
      have hc2 : wr.cell? ⟨b, o + k, none⟩ = some (.int .u64 (H (o + k) : Nat)) := hA.1.cell (by omega)
      have hf2 : wr.frozen? ⟨b, o + k, none⟩ = false := hA.1.frozen _
      have hGk : G k < 18446744073709551616 := HG.out.2.2.1 k hkm
      have ad1 := add64_c0 (mulLo (G k) d) c
      have ad2 := add64_c0 (H (o + k)) (addLo (mulLo (G k) d) c 0)
      have S : Hid _ := hA.step (by omega) hGk hd
      have hb1 : ((mulHi (G k) d : Nat) : Int) + ((addHi (mulLo (G k) d) c 0 : Nat) : Int) < 18446744073709551616 := by have := mid_le (G k) d c hGk hd hA.2.2.1; omega
      have hb2 : ((mulHi (G k) d : Nat) : Int) + ((addHi (mulLo (G k) d) c 0 : Nat) : Int) + ((addHi (H (o + k)) (addLo (mulLo (G k) d) c 0) 0 : Nat) : Int) < 18446744073709551616 := by
        have := ap_lt (G k) d (H (o + k)) c hGk hd (hA.1.2 _ (by omega)) hA.2.2.1
        unfold apHi at this
        omega
      clear hA hw hbb
      go_wp2_with fail
      refine (mul64_any (G k) d _ hGk hd).mono ?_
      rintro e w1 ⟨rfl, rfl⟩
      go_wp2_with fail
      go_roundw
      case rel => exact ⟨k + 1, _, _, by omega, by go_num, by unfold apHi; go_num, S.out⟩
      case measure => simp [intOf]; omega
    obtain rfl : k = m := by omega
    have HA : Hid _ := hA
    clear hA
    go_wp2_with fail
    go_ret
    exact ⟨c, rfl, H, HA.out⟩
set_option maxHeartbeats 1000000 in
theorem subProduct_any (b N o n cap : Nat) (F : Nat → Nat) (a : Option Addr) (m cap' : Nat) (G : Nat → Nat) (d : Nat) (w : World) (hF : Row w b N F) (hG : Sl w a m cap' G) (ho : o + m ≤ N) (hn : m ≤ 1099511627776) (hm : m ≤ cap) (hnc : n ≤ cap) (hd : d < 18446744073709551616)
    (hne : ∀ b' o', a = some ⟨b', o', none⟩ → b' ≠ b) :
    Calls Tryz.prog 150 #[.slice (some ⟨b, o, none⟩) n cap, .slice a m cap', .int .u64 (d : Int)] w fun e w' => ∃ c : Nat, e = .returned (.int .u64 (c : Int)) ∧ ∃ H, Prodm w w' b N o F (V G m * d) m c H := by
  have A0 := Prodm.start o hF
  have HG : Hid (Sl w a m cap' G) := hG
  have HN : Hid _ := hne
  clear hG hF hne
  have hmc : (m : Int) ≤ cap := by omega
  go_enter Tryz.func150, Tryz.ntmps150
  go_wp2_with fail
  go_loopw [7, 19] (fun cv t wr => ∃ (k c : Nat) (H : Nat → Nat), k ≤ m ∧ t = .int .i64 (k : Int) ∧ cv = .int .u64 ((c : Nat) : Int) ∧ Prodm w wr b N o F (V G k * d) k c H) (fun _ t _ => m - (intOf t).toNat)
  case atStart => exact ⟨0, 0, F, by omega, rfl, rfl, by rw [V_zero, Nat.zero_mul]; exact A0⟩
  case round =>
    clear A0
    obtain ⟨k, c, H, hk, rfl, rfl, hA⟩ := hrel
    by_cases hkm : k < m
    · obtain ⟨b', o', rfl, hw⟩ := HG.out.at k hkm
      have hbb : b' ≠ b := HN.out b' o' rfl
      have hc1 : wr.cell? ⟨b', o' + k, none⟩ = some (.int .u64 (G k : Nat)) := hA.2.2.2.2.cell (hw k hkm) (by simpa using hbb)
      have hc2 : wr.cell? ⟨b, o + k, none⟩ = some (.int .u64 (H (o + k) : Nat)) := hA.1.cell (by omega)
      have hf2 : wr.frozen? ⟨b, o + k, none⟩ = false := hA.1.frozen _
      have hGk : G k < 18446744073709551616 := HG.out.2.2.1 k hkm
      have ad1 := add64_c0 (mulLo (G k) d) c
      have ad2 := sub64_c0 (H (o + k)) (addLo (mulLo (G k) d) c 0)
      have S : Hid _ := hA.step (by omega) hGk hd
      have hb1 : ((mulHi (G k) d : Nat) : Int) + ((addHi (mulLo (G k) d) c 0 : Nat) : Int) < 18446744073709551616 := by have := mid_le (G k) d c hGk hd hA.2.2.1; omega
      have hb2 : ((mulHi (G k) d : Nat) : Int) + ((addHi (mulLo (G k) d) c 0 : Nat) : Int) + ((subHi (H (o + k)) (addLo (mulLo (G k) d) c 0) 0 : Nat) : Int) < 18446744073709551616 := by
        have := sp_lt (G k) d (H (o + k)) c hGk hd (hA.1.2 _ (by omega)) hA.2.2.1
        unfold spHi at this
        omega
      clear hA hw hbb
      go_wp2_with fail
      refine (mul64_any (G k) d _ hGk hd).mono ?_
      rintro e w1 ⟨rfl, rfl⟩
      go_wp2_with fail
      go_roundw
      case rel => exact ⟨k + 1, _, _, by omega, by go_num, by unfold spHi; go_num, S.out⟩
      case measure => simp [intOf]; omega
    obtain rfl : k = m := by omega
    have HA : Hid _ := hA
    clear hA
    go_wp2_with fail
    go_ret
    exact ⟨c, rfl, H, HA.out⟩
def Mulled (X Y : Nat → Nat) (n k : Nat) (H : Nat → Nat) : Prop := V H (n + k) = V X n * V Y k ∧ ∀ j, n + k ≤ j → H j = 0
theorem mulled_start (X Y : Nat → Nat) (n : Nat) : Mulled X Y n 0 (fun _ => 0) := ⟨by rw [V_const0, V_zero, Nat.mul_zero], fun _ _ => rfl⟩
theorem Mulled.step {w w' : World} {g N n k c d : Nat} {X Y H H' : Nat → Nat} (h : Mulled X Y n k H) (hp : Prod w w' g N k H (V X n * d) n c H') (hd : Y k = d) : Mulled X Y n (k + 1) (put H' (k + n) c) := by
  obtain ⟨h1, h2⟩ := h
  obtain ⟨p1, p2, p3, p4, p5⟩ := hp
  refine ⟨?_, fun j hj => ?_⟩
  · have e1 : V (put H' (k + n) c) (n + (k + 1)) = V (put H' (k + n) c) (n + k) + c * P (n + k) := by
      rw [← Nat.add_assoc, V_succ, Nat.add_comm n k, put_same]
    have e2 : V (put H' (k + n) c) (n + k) = V H k + P k * V (fro H' k) n := by
      rw [V_congr (G := H') fun i hi => put_other _ _ (by omega), Nat.add_comm n k, V_split, V_congr (F := H') (G := H) fun i hi => p2 i (.inl hi)]
      rfl
    have e3 : V H (n + k) = V H k + P k * V (fro H k) n := by rw [Nat.add_comm n k, V_split]; rfl
    have e4 := congrArg (P k * ·) p4
    simp only [Nat.mul_add] at e4
    rw [e1, e2, V_succ, hd, Nat.mul_add, ← h1, e3, Nat.add_comm n k, P_add]
    have e5 : c * (P k * P n) = P k * (c * P n) := Nat.mul_left_comm ..
    have e6 : V X n * (d * P k) = P k * (V X n * d) := by rw [← Nat.mul_assoc, Nat.mul_comm]
    omega
  rw [put_other _ _ (by omega), p2 j (.inr (by omega))]
  exact h2 j (by omega)
set_option maxHeartbeats 1000000 in
theorem plain_any (a : Option Addr) (n cap : Nat) (X : Nat → Nat) (a' : Option Addr) (m cap' : Nat) (Y : Nat → Nat) (w : World) (hX : Sl w a n cap X) (hY : Sl w a' m cap' Y) (hX0 : n = 0 → a = none) (hn : n ≤ 4294967296) (hm : m ≤ 4294967296) :
    Calls Tryz.prog 81 #[.slice a n cap, .slice a' m cap'] w (Makes w (V X n * V Y m)) := by
  have HX : Hid (Sl w a n cap X ∧ Sl w a' m cap' Y ∧ (n = 0 → a = none)) := ⟨hX, hY, hX0⟩
  clear hX hY hX0
  have mk := make_at ((n : Int) + m) ((n : Int) + m) (n + m) (n + m) (by omega) (by omega) (Nat.le_refl _) (by omega)
  go_enter Tryz.func81, Tryz.ntmps81
  go_wp2_with fail
  go_loopw [16] (fun t wr => ∃ (k : Nat) (H : Nat → Nat), k ≤ m ∧ t = .int .i64 (k : Int) ∧ Row wr (w.heap.size + 1) (n + m) H ∧ Mulled X Y n k H ∧ ((w.alloc (.cells #[.slice none 0 0] 45)).alloc (.cells (zeros (n + m)) 82)).grownBy wr (some (w.heap.size + 1))) (fun t _ => m - (intOf t).toNat)
  case atStart => exact ⟨0, fun _ => 0, by omega, rfl, row_zeros_at _ _ _ (by simp), mulled_start _ _ _, World.grownBy.refl _ _⟩
  case round =>
    clear mk
    obtain ⟨k, H, hk, rfl, hR, hM, hg⟩ := hrel
    have B0 : Hid (Below w.heap.size w wr) := (bel_alloc2 _ _ _).grown hg (by simp <;> omega) (fun k hk => by cases hk; omega)
    by_cases hkm : k < m
    · obtain ⟨b, o, rfl, hw⟩ := HX.out.2.1.at k hkm
      have hb : b < w.heap.size := World.block_lt_of_cell? _ _ (hw k hkm)
      have hcw : wr.cell? ⟨b, o + k, none⟩ = some (.int .u64 (Y k : Nat)) := cell_later B0.out (hw k hkm)
      have hkm' : (k : Int) < m := by omega
      have hni : ¬ (n + m = k) := by omega
      have hYk : Y k < 18446744073709551616 := HX.out.2.1.2.2.1 k hkm
      have HH : Hid (Row wr (w.heap.size + 1) (n + m) H ∧ Mulled X Y n k H ∧ ((w.alloc (.cells #[.slice none 0 0] 45)).alloc (.cells (zeros (n + m)) 82)).grownBy wr (some (w.heap.size + 1))) := ⟨hR, hM, hg⟩
      clear hR hM hg hw
      go_wp2_with fail
      refine (addProduct_any (w.heap.size + 1) (n + m) k (n + m - k) (n + m - k) H a n cap X (Y k) wr HH.out.1 (HX.out.1.mono B0.out) (by omega) (by omega) (by omega) (Nat.le_refl _) hYk ?_).mono ?_
      · intro b' o' ha
        by_cases e0 : n = 0
        · rw [HX.out.2.2 e0] at ha
          cases ha
        have := HX.out.1.ne_block (by omega) (g := w.heap.size + 1) (by omega) b' o' ha
        exact this
      rintro e w1 ⟨c, rfl, H', hP⟩
      have hc2 : w1.cell? ⟨w.heap.size + 1, k + n, none⟩ = some (.int .u64 (H' (k + n) : Nat)) := hP.1.cell (by omega)
      have hf2 : w1.frozen? ⟨w.heap.size + 1, k + n, none⟩ = false := hP.1.frozen _
      have S : Hid _ := And.intro (hP.1.set (k + n) hP.2.2.1) (And.intro (HH.out.2.1.step hP rfl) (grown_set _ (grown_trans HH.out.2.2 hP.2.2.2.2) (k + n) (.int .u64 (c : Int))))
      clear hP
      go_wp2_with fail
      go_roundw
      case rel => exact ⟨k + 1, _, by omega, by go_num, S.out.1, S.out.2.1, S.out.2.2⟩
      case measure => simp [intOf]; omega
    obtain rfl : k = m := by omega
    have hcr : wr.cell? ⟨w.heap.size, 0, none⟩ = some (.slice none 0 0) := hg.cell (by simp [go_sem]) (by simp)
    have hfr : wr.frozen? ⟨w.heap.size, 0, none⟩ = false := (World.frozen?_of_block (hg.block _ (by simp <;> omega) (by simp))).trans (by simp [go_sem])
    have HF : Hid (V H (n + k) = V X n * V Y k) := hM.1
    have HR : Hid (Row wr (w.heap.size + 1) (n + k) H) := hR
    clear hR hM hg
    go_wp2_with fail
    refine (trimmed_any _ (n + k) (n + k) H wr (by have := HR.out.sl (o := 0) (n := n + k) (cap := n + k) (by omega) (Nat.le_refl _) (by omega); rw [fro_zero] at this; exact this) (by omega)).mono ?_
    rintro e w3 ⟨v3, rfl, hv3, hb3⟩
    have hcr3 : w3.cell? ⟨w.heap.size, 0, none⟩ = some (.slice none 0 0) := cell_later hb3 hcr
    have hfr3 : w3.frozen? ⟨w.heap.size, 0, none⟩ = false := (hb3.frozen (World.block_lt_of_cell? _ _ hcr)).trans hfr
    obtain ⟨a3, n3, cap3, rfl⟩ := hv3.isAgg
    have HV3 : Hid (IsNat w3 (.agg #[.slice a3 n3 cap3]) (V H (n + k))) := hv3
    have B3 : Hid (Below w.heap.size w w3) := B0.out.trans (hb3.mono B0.out.size)
    clear hv3 hb3 hcr hfr
    go_wp2_with fail
    refine bodyPost_ret (v := .agg #[.slice a3 n3 cap3]) (by simp [results, Tryz.results81, go_sem, hcr3]) rfl ⟨_, rfl, ?_, B3.out.setCell (by simp) _⟩
    rw [← HF.out]
    exact HV3.out.setCell (no_int_slice hcr3) _
set_option maxHeartbeats 1000000 in
theorem mul_ge (a : Option Addr) (n cap : Nat) (a' : Option Addr) (m cap' : Nat) (x y : Nat) (w : World) (h : IsNat w (.agg #[.slice a n cap]) x) (k : IsNat w (.agg #[.slice a' m cap']) y) (hx : Fits x) (hy : Fits y) (hmn : m ≤ n) (hsh : m < 100) :
    Calls Tryz.prog 52 #[.agg #[.slice a n cap], .agg #[.slice a' m cap']] w (Makes w (x * y)) := by
  obtain ⟨F, hs, h0, h1, hv⟩ := h.fits
  obtain ⟨G, ks, k0, k1, kv⟩ := k.fits
  have hn : n ≤ 4294967296 := fits_len (hv.symm ▸ hx) h1
  have hm : m ≤ 4294967296 := fits_len (kv.symm ▸ hy) k1
  have hd : decide ((n : Int) < m) = false := decide_eq_false (by omega)
  have HH : Hid (Sl w a n cap F ∧ V F n = x ∧ (n = 0 → a = none) ∧ Sl w a' m cap' G ∧ V G m = y ∧ (m = 0 → a' = none)) := ⟨hs, hv, fun e => (h0 e).1, ks, kv, fun e => (k0 e).1⟩
  clear hs h0 h1 hv ks k0 k1 kv hx hy h k
  have HB : Hid (Below w.heap.size w (((w.alloc (.cells #[.slice a n cap] 45)).alloc (.cells #[.slice a' m cap'] 45)).alloc (.cells #[.slice none 0 0] 45))) := (bel_alloc2 _ _ _).alloc (by simp <;> omega) _
  go_enter Tryz.func52, Tryz.ntmps52
  go_wp2_with fail
  refine (plain_any a n cap F a' m cap' G _ (HH.out.1.mono HB.out) (HH.out.2.2.2.1.mono HB.out) HH.out.2.2.1 (by omega) (by omega)).mono ?_
  rintro e w3 ⟨v3, rfl, hv3, hb3⟩
  have hcr3 : w3.cell? ⟨w.heap.size + 1 + 1, 0, none⟩ = some (.slice none 0 0) := cell_later hb3 (by simp [go_sem])
  have hfr3 : w3.frozen? ⟨w.heap.size + 1 + 1, 0, none⟩ = false := (hb3.frozen (by simp <;> omega)).trans (by simp [go_sem])
  obtain ⟨a3, n3, cap3, rfl⟩ := hv3.isAgg
  have HV3 : Hid (IsNat w3 (.agg #[.slice a3 n3 cap3]) (V F n * V G m)) := hv3
  have B3 : Hid (Below w.heap.size w w3) := bel_trans HB.out hb3
  clear hv3 hb3
  go_wp2_with fail
  refine bodyPost_ret (v := .agg #[.slice a3 n3 cap3]) (by simp [results, Tryz.results52, go_sem, hcr3]) rfl ⟨_, rfl, ?_, B3.out.setCell (by simp <;> omega) _⟩
  have e1 : V F n * V G m = x * y := by rw [HH.out.2.1, HH.out.2.2.2.2.1]
  rw [← e1]
  exact HV3.out.setCell (no_int_slice hcr3) _
set_option maxHeartbeats 1000000 in
theorem mul_lt (a : Option Addr) (n cap : Nat) (a' : Option Addr) (m cap' : Nat) (x y : Nat) (w : World) (h : IsNat w (.agg #[.slice a n cap]) x) (k : IsNat w (.agg #[.slice a' m cap']) y) (hx : Fits x) (hy : Fits y) (hmn : n < m) (hsh : n < 100) :
    Calls Tryz.prog 52 #[.agg #[.slice a n cap], .agg #[.slice a' m cap']] w (Makes w (x * y)) := by
  obtain ⟨F, hs, h0, h1, hv⟩ := h.fits
  obtain ⟨G, ks, k0, k1, kv⟩ := k.fits
  have hn : n ≤ 4294967296 := fits_len (hv.symm ▸ hx) h1
  have hm : m ≤ 4294967296 := fits_len (kv.symm ▸ hy) k1
  have hd : (n : Int) < m := by omega
  have HH : Hid (Sl w a n cap F ∧ V F n = x ∧ (n = 0 → a = none) ∧ Sl w a' m cap' G ∧ V G m = y ∧ (m = 0 → a' = none)) := ⟨hs, hv, fun e => (h0 e).1, ks, kv, fun e => (k0 e).1⟩
  clear hs h0 h1 hv ks k0 k1 kv hx hy h k
  have HB : Hid (Below w.heap.size w (((w.alloc (.cells #[.slice a' m cap'] 45)).alloc (.cells #[.slice a n cap] 45)).alloc (.cells #[.slice none 0 0] 45))) := (bel_alloc2 _ _ _).alloc (by simp <;> omega) _
  go_enter Tryz.func52, Tryz.ntmps52
  go_wp2_with fail
  refine (plain_any a' m cap' G a n cap F _ (HH.out.2.2.2.1.mono HB.out) (HH.out.1.mono HB.out) HH.out.2.2.2.2.2 (by omega) (by omega)).mono ?_
  rintro e w3 ⟨v3, rfl, hv3, hb3⟩
  have hcr3 : w3.cell? ⟨w.heap.size + 1 + 1, 0, none⟩ = some (.slice none 0 0) := cell_later hb3 (by simp [go_sem])
  have hfr3 : w3.frozen? ⟨w.heap.size + 1 + 1, 0, none⟩ = false := (hb3.frozen (by simp <;> omega)).trans (by simp [go_sem])
  obtain ⟨a3, n3, cap3, rfl⟩ := hv3.isAgg
  have HV3 : Hid (IsNat w3 (.agg #[.slice a3 n3 cap3]) (V G m * V F n)) := hv3
  have B3 : Hid (Below w.heap.size w w3) := bel_trans HB.out hb3
  clear hv3 hb3
  go_wp2_with fail
  refine bodyPost_ret (v := .agg #[.slice a3 n3 cap3]) (by simp [results, Tryz.results52, go_sem, hcr3]) rfl ⟨_, rfl, ?_, B3.out.setCell (by simp <;> omega) _⟩
  have e1 : V G m * V F n = x * y := by rw [HH.out.2.1, HH.out.2.2.2.2.1]; exact Nat.mul_comm ..
  rw [← e1]
  exact HV3.out.setCell (no_int_slice hcr3) _
theorem isNat_len_le {w : World} {a : Option Addr} {n cap : Nat} {x m : Nat} (h : IsNat w (.agg #[.slice a n cap]) x) (hx : x < P m) : n ≤ m := by
  obtain ⟨F, hs, h0, h1, hv⟩ := h.fits
  exact len_le_of (hv.symm ▸ hx) h1
theorem mul_short (v u : Value) (x y : Nat) (w : World) (h : IsNat w v x) (k : IsNat w u y) (hx : Fits x) (hy : Fits y) (hsh : x < P 99 ∨ y < P 99) :
    Calls Tryz.prog 52 #[v, u] w (Makes w (x * y)) := by
  obtain ⟨a, n, cap, rfl⟩ := h.isAgg
  obtain ⟨a', m, cap', rfl⟩ := k.isAgg
  have hmin : n ≤ 99 ∨ m ≤ 99 := hsh.imp (isNat_len_le h) (isNat_len_le k)
  rcases Nat.lt_or_ge n m with hh | hh
  · exact mul_lt a n cap a' m cap' x y w h k hx hy hh (by omega)
  exact mul_ge a n cap a' m cap' x y w h k hx hy hh (by omega)
def Dig (A u Y y1 q r : Nat) : Prop := q * y1 + r = A ∧ (A * 4294967296 + u) / Y ≤ q
theorem dig_lt {A u Y : Nat} (hA : A < Y) (hu : u < 4294967296) : (A * 4294967296 + u) / Y < 4294967296 := by
  rw [Nat.div_lt_iff_lt_mul (by omega)]
  have h : (A + 1) * 4294967296 ≤ Y * 4294967296 := Nat.mul_le_mul_right _ hA
  rw [Nat.mul_comm 4294967296 Y]
  omega
theorem dig_id (y1 y0 q r u : Nat) : q * (y1 * 4294967296 + y0) + (r * 4294967296 + u) = (q * y1 + r) * 4294967296 + u + q * y0 := by
  rw [Nat.mul_add, Nat.add_mul, Nat.mul_assoc q]
  omega
theorem dig_start {A u Y y1 y0 : Nat} (hY : Y = y1 * 4294967296 + y0) (hu : u < 4294967296) (hy1 : 0 < y1) : Dig A u Y y1 (A / y1) (A % y1) := by
  refine ⟨by rw [Nat.mul_comm]; exact Nat.div_add_mod A y1, ?_⟩
  have h1 : (A * 4294967296 + u) / Y ≤ (A * 4294967296 + u) / (y1 * 4294967296) := Nat.div_le_div_left (by omega) (by omega)
  have h2 : (A * 4294967296 + u) / (y1 * 4294967296) = A / y1 := by
    rw [Nat.mul_comm y1, ← Nat.div_div_eq_div_mul, Nat.mul_comm A, Nat.mul_add_div (by omega), Nat.div_eq_of_lt hu, Nat.add_zero]
  omega
theorem lin_lt {a b c d : Nat} (h : a + b = c + d) (hc : b < d) : c < a := by omega
theorem lin_le {a b c d : Nat} (h : a + b = c + d) (hc : d ≤ b) : a ≤ c := by omega
theorem Dig.step {A u Y y1 y0 q r : Nat} (h : Dig A u Y y1 q r) (hY : Y = y1 * 4294967296 + y0) (hA : A < Y) (hu : u < 4294967296) (hc : 4294967296 ≤ q ∨ r * 4294967296 + u < q * y0) : 0 < q ∧ Dig A u Y y1 (q - 1) (r + y1) := by
  obtain ⟨h1, h2⟩ := h
  have hlt : (A * 4294967296 + u) / Y < q := by
    rcases hc with hc | hc
    · have := dig_lt hA hu
      omega
    rw [Nat.div_lt_iff_lt_mul (by omega)]
    have := dig_id y1 y0 q r u
    rw [h1, ← hY] at this
    exact lin_lt this hc
  refine ⟨Nat.lt_of_le_of_lt (Nat.zero_le _) hlt, ?_, Nat.le_sub_one_of_lt hlt⟩
  have hq0 : 0 < q := Nat.lt_of_le_of_lt (Nat.zero_le _) hlt
  clear hlt hc h2
  obtain ⟨t, rfl⟩ : ∃ t, q = t + 1 := ⟨q - 1, by omega⟩
  rw [Nat.add_mul] at h1
  simp only [Nat.add_sub_cancel]
  omega
theorem Dig.done {A u Y y1 y0 q r : Nat} (h : Dig A u Y y1 q r) (hY : Y = y1 * 4294967296 + y0) (hA : A < Y) (hc : q * y0 ≤ r * 4294967296 + u) : q = (A * 4294967296 + u) / Y := by
  obtain ⟨h1, h2⟩ := h
  refine Nat.le_antisymm ?_ h2
  rw [Nat.le_div_iff_mul_le (by omega)]
  have := dig_id y1 y0 q r u
  rw [h1, ← hY] at this
  exact lin_le this hc
theorem Dig.broke {A u Y y1 y0 q r : Nat} (h : Dig A u Y y1 q r) (hY : Y = y1 * 4294967296 + y0) (hA : A < Y) (h0 : y0 < 4294967296) (hr : 4294967296 ≤ r) : q = (A * 4294967296 + u) / Y := by
  refine h.done hY hA ?_
  have hq : q < 4294967296 := by
    rcases Nat.lt_or_ge q 4294967296 with hq | hq
    · exact hq
    have h3 : 4294967296 * y1 ≤ q * y1 := Nat.mul_le_mul_right _ hq
    have := h.1
    omega
  have h4 : q * y0 ≤ 4294967296 * 4294967296 := Nat.mul_le_mul (by omega) (by omega)
  have h5 : 4294967296 * 4294967296 ≤ r * 4294967296 := Nat.mul_le_mul_right _ hr
  omega
theorem rest_wrap {A u Y q : Nat} (hq : q = (A * 4294967296 + u) / Y) (hY : Y < 18446744073709551616) (hA : A < Y) :
    IntKind.u64.wrap (IntKind.u64.wrap (IntKind.u64.wrap ((A : Int) * 4294967296) + (u : Int)) - IntKind.u64.wrap ((q : Int) * (Y : Int))) = (((A * 4294967296 + u) % Y : Nat) : Int) := by
  have h1 := Nat.div_add_mod (A * 4294967296 + u) Y
  rw [← hq, Nat.mul_comm] at h1
  have h2 : (A * 4294967296 + u) % Y < Y := Nat.mod_lt _ (by omega)
  have e : (q : Int) * (Y : Int) = ((q * Y : Nat) : Int) := (Int.natCast_mul ..).symm
  rw [e]
  simp only [IntKind.wrap_u64]
  omega
end Go.Proofs.YtfkkomppfghagaaGreatDoor
