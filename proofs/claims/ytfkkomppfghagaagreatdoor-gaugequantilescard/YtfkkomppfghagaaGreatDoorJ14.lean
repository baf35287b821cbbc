/- Contracts of the program's functions, part 14: own work, joined in build order. -/
import Derived.Test.YtfkkomppfghagaaGreatDoorJ13
import Derived.Test.YtfkkomppfghagaaGreatDoorRows
import Derived.WalkKit
import Derived.WalkMore
import Derived.ScopeJumps
import Derived.Handy
import Derived.Laws.Bits64b
import Derived.Laws.Cover1
namespace Go.Proofs.YtfkkomppfghagaaGreatDoor
open Go.RowKit
set_option maxRecDepth 100000
set_option linter.unusedVariables false
set_option maxHeartbeats 2000000 in
theorem near_any (v : Value) (p q : Nat) (w : World) (h : Rt w v p q) (hp : RS p) (hq : RS q) :
    Calls Tryz.prog 50 #[v] w fun e w' => e = .returned (.float .f64 (tfV p q)) ∧ Below w.heap.size w w' := by
  obtain ⟨a, n, c, a', n', c', rfl⟩ := rt_slices h
  have bl := bel_al (o := .cells #[.slice a n c, .slice a' n' c'] 47) (bel_refl w)
  have cT : Hid (Calls Tryz.prog 80 #[.agg #[.slice a n c, .slice a' n' c']] (w.alloc (.cells #[.slice a n c, .slice a' n' c'] 47)) fun e w' => e = .returned (.tuple #[.float .f64 (tfV p q), .bool (tfOk p q)]) ∧ Below (w.alloc (.cells #[.slice a n c, .slice a' n' c'] 47)).heap.size (w.alloc (.cells #[.slice a n c, .slice a' n' c'] 47)) w') := toFloat_any _ p q _ (h.mono bl) hp hq h.pos
  have B1 : Hid _ := bl
  clear h hp hq bl
  go_enter Tryz.func50, Tryz.ntmps50
  go_wp2_with fail
  refine cT.out.mono ?_
  rintro e w1 ⟨rfl, hb⟩
  go_wp2_with fail
  go_ret
  exact ⟨rfl, bel_go B1.out hb⟩
set_option maxHeartbeats 2000000 in
theorem gwhole_any (k : Nat) (w : World) (hk : k ≤ 9223372036854775807) (hT : Tab w) : Calls Tryz.prog 49 #[.int .i64 (k : Int)] w (MakesR w k 1) := by
  have S0 : Hid _ := (sx_start w).box (.slice none 0 0) (.slice none 0 0) 47 _ rfl
  obtain ⟨w0, hw0⟩ : ∃ w0, w0 = w.alloc (.cells #[.slice none 0 0, .slice none 0 0] 47) := ⟨_, rfl⟩
  have f6 : w0.frozen? ⟨w.heap.size, 0, none⟩ = false := by rw [hw0]; simp [go_sem]
  have f7 : w0.frozen? ⟨w.heap.size, 1, none⟩ = false := by rw [hw0]; simp [go_sem]
  rw [← hw0] at S0
  have cO : Hid (Calls Tryz.prog 20 #[.int .i64 (k : Int), .int .i64 1] w0 (MakesRB w0 k 1 true)) := by
    have h := ratOf_yes k 1 w0 hk (by omega) (by omega) (hT.go S0.out.bel)
    rw [Nat.gcd_one_right, Nat.div_one] at h
    exact h
  clear hT
  go_enter Tryz.func49, Tryz.ntmps49
  go_wp2_with fail
  rw [← hw0]
  obtain ⟨b, hb⟩ : ∃ b, b = w.heap.size := ⟨_, rfl⟩
  have HB : Hid (w.heap.size ≤ b) := by show _ ≤ _; omega
  rw [← hb] at S0 f6 f7
  rw [← hb]
  clear hw0 hb
  refine cO.out.mono ?_
  rintro e w1 ⟨v, rfl, hv, hb⟩
  obtain ⟨a, n, c, a', n', c', rfl⟩ := rt_slices hv
  have S1 : Hid _ := ((S0.out.go hb).addF hv).box (.slice a n c) (.slice a' n' c') 47 _ rfl
  have bl := bel_al (o := .cells #[.slice a n c, .slice a' n' c'] 47) (bel_refl w1)
  have y0 := S1.out.cel b 0 (.slice none 0 0)
  have y1 := S1.out.cel b 1 (.slice none 0 0)
  have g6 := ((bel_go hb bl).frozen (World.block_lt_of_cell? _ _ (S0.out.cel b 0 (.slice none 0 0)))).trans f6
  have g7 := ((bel_go hb bl).frozen (World.block_lt_of_cell? _ _ (S0.out.cel b 1 (.slice none 0 0)))).trans f7
  have Z : Hid _ := rat_put (w0 := w) (v := .slice a n c) (u := .slice a' n' c') y0 y1 (S1.out.fr (.agg #[.slice a n c, .slice a' n' c']) k 1) S1.out.bel HB.out
  clear hb hv bl S0 f6 f7 HB
  obtain ⟨c3, hc3⟩ : ∃ c3, c3 = w1.heap.size := ⟨_, rfl⟩
  have l0 := S1.out.cel w1.heap.size 0 (.slice a n c)
  have l1 := S1.out.cel w1.heap.size 1 (.slice a' n' c')
  clear S1
  go_wp2_with fail
  exact bodyPost_ret (v := .agg #[.slice a n c, .slice a' n' c']) (by simp [results, Tryz.results49, go_sem, y0, y1]) rfl ⟨_, rfl, Z.out.1, Z.out.2⟩
theorem keysG_one {L : List Nat} {ss ss' : List Int} (h : KeysG L ss) (k : KeysG L ss') : ss = ss' := by
  have n1 : ss.Nodup := h.asc.imp fun {a b} e => by omega
  have n2 : ss'.Nodup := k.asc.imp fun {a b} e => by omega
  have hp : ss.Perm ss' := (List.perm_ext_iff_of_nodup n1 n2).2 fun x => by rw [h.mem, k.mem]
  exact List.Perm.eq_of_pairwise (le := fun a b => a < b) (fun a b _ _ h1 h2 => by omega) h.asc k.asc hp
set_option maxHeartbeats 2000000 in
theorem quantileP_any (g mb : Nat) (L : List Nat) (B : Nat) (p q : Int) (w : World) (h : Gau w g mb L B) (hp : 0 ≤ p) (hpq : p ≤ q) (hq : 1 ≤ q) (hq2 : q ≤ 2147483648) :
    Calls Tryz.prog 18 #[.pointer (some ⟨g, 0, none⟩), .int .i64 p, .int .i64 q] w fun e w' => ∃ ss, KeysG L ss ∧ e = .returned (.tuple #[.int .i64 (qfG (cntL L) ss (plG L.length p q)).1, .bool (qfG (cntL L) ss (plG L.length p q)).2]) ∧ Below w.heap.size w w' := by
  have G1 : Hid (Gau w g mb L B) := h
  have HP : Hid (0 ≤ p ∧ p ≤ 2147483648 ∧ 1 ≤ q ∧ q ≤ 2147483648) := ⟨hp, by omega, hq, hq2⟩
  have h1 : ¬ q < 1 := by omega
  have h2 : ¬ q > 2147483648 := by omega
  have h3 : ¬ p < 0 := by omega
  have h4 : ¬ p > q := by omega
  clear h hp hpq hq hq2
  go_enter Tryz.func18, Tryz.ntmps18
  go_wp2_with fail
  refine Calls.mono (ranked_any g mb L B _ G1.out) ?_
  rintro e w1 ⟨v, ss, rfl, hk, hrow, hb⟩
  have HK : Hid (KeysG L ss ∧ Below w.heap.size w w1) := ⟨hk, hb⟩
  have CQ : Hid (Calls Tryz.prog 47 #[.pointer (some ⟨g, 0, none⟩), v, .int .i64 p, .int .i64 q] w1 fun e w' => e = .returned (.tuple #[.int .i64 (qfG (cntL L) ss (plG L.length p q)).1, .bool (qfG (cntL L) ss (plG L.length p q)).2]) ∧ w' = w1) := quantile_any g mb L B v ss _ p q w1 (G1.out.go hb) hk hrow HP.out.1 HP.out.2.1 HP.out.2.2.1 HP.out.2.2.2
  clear hk hrow hb
  generalize hz : qfG (cntL L) ss (plG L.length p q) = z at CQ
  obtain ⟨z1, z2⟩ := z
  have HZ : Hid _ := hz
  clear hz
  go_wp2_with fail
  refine Calls.mono CQ.out ?_
  rintro e w2 ⟨rfl, rfl⟩
  go_wp2_with fail
  exact bodyPost_ret (v := .tuple #[.int .i64 z1, .bool z2]) (by simp [results, Tryz.results18, go_sem]) rfl ⟨ss, HK.out.1, by rw [HZ.out], HK.out.2⟩
def mnP (L : List Nat) : Nat := if L.length = 0 then 0 else sumG L / Nat.gcd (sumG L) L.length
def mnQ (L : List Nat) : Nat := if L.length = 0 then 1 else L.length / Nat.gcd (sumG L) L.length
theorem sum_rs {w : World} {g mb : Nat} {L : List Nat} {B : Nat} (h : Gau w g mb L B) : RS (sumG L) ∧ RS L.length := by
  have := sumG_le h.del
  have h1 := h.few
  have h2 : L.length * 9223372036854775807 ≤ 1000 * 9223372036854775807 := Nat.mul_le_mul (by omega) (Nat.le_refl _)
  exact ⟨⟨Nat.lt_of_lt_of_le (show sumG L < P 2 from Nat.lt_of_le_of_lt (Nat.le_trans this h2) (by decide +kernel)) (P_le (by omega))⟩, rs_word (by omega)⟩
theorem mn_rs {w : World} {g mb : Nat} {L : List Nat} {B : Nat} (h : Gau w g mb L B) : RS (mnP L) ∧ RS (mnQ L) := by
  obtain ⟨h1, h2⟩ := sum_rs h
  unfold mnP mnQ
  split
  · exact ⟨rs_few (by omega), rs_few (by omega)⟩
  exact ⟨h1.le (Nat.div_le_self _ _), h2.le (Nat.div_le_self _ _)⟩
theorem gmean_from {w w1 w' : World} {g mb : Nat} {L : List Nat} {B : Nat} (h : Gau w g mb L B) (hb : Below w.heap.size w w1) (hb2 : Below w1.heap.size w1 w') {v u : Value} (hv : IsNat w1 v (sumG L)) (hu : IsNat w' u L.length) (hT : Tab w) : Calls Tryz.prog 51 #[v, u] w' (MakesRB w' (mnP L) (mnQ L) (decide (0 < L.length))) := by
  obtain ⟨h1, h2⟩ := sum_rs h
  by_cases e : L.length = 0
  · have := from_none v u (sumG L) w' (hv.mono hb2) (by rw [← e]; exact hu)
    simpa [mnP, mnQ, e] using this
  have := from_any v u (sumG L) L.length w' (hv.mono hb2) hu h1 h2 (by omega) (hT.go (bel_go hb hb2))
  simpa [mnP, mnQ, e, show 0 < L.length by omega] using this
set_option maxHeartbeats 8000000 in
theorem gmean_any (g mb : Nat) (L : List Nat) (B : Nat) (w : World) (h : Gau w g mb L B) (hT : Tab w) :
    Calls Tryz.prog 28 #[.pointer (some ⟨g, 0, none⟩)] w (MakesRB w (mnP L) (mnQ L) (decide (0 < L.length))) := by
  obtain ⟨a, n, c, hr, hn⟩ := h.row
  obtain ⟨W, hW⟩ : ∃ W, W = w.alloc (.cells #[.slice none 0 0, .slice none 0 0] 47) := ⟨_, rfl⟩
  have B0 : Below w.heap.size w W := by rw [hW]; exact bel_al (bel_refl w)
  have s0 : W.cell? ⟨w.heap.size, 0, none⟩ = some (.slice none 0 0) := by rw [hW]; simp [go_sem]
  have s1 : W.cell? ⟨w.heap.size, 1, none⟩ = some (.slice none 0 0) := by rw [hW]; simp [go_sem]
  have f0 : W.frozen? ⟨w.heap.size, 0, none⟩ = false := by rw [hW]; simp [go_sem]
  have f1 : W.frozen? ⟨w.heap.size, 1, none⟩ = false := by rw [hW]; simp [go_sem]
  have HG : Hid (Gau w g mb L B ∧ Tab w ∧ Below w.heap.size w W) := ⟨h, hT, B0⟩
  have NW : Hid (IsNat W (.agg #[.slice a n c]) (sumG L)) := hn.mono B0
  have RW := hr.of_block (B0.block _ hr.lt)
  have hfew := h.few
  obtain ⟨b, hb⟩ : ∃ b, b = w.heap.size := ⟨_, rfl⟩
  have HB : Hid (w.heap.size ≤ b) := by show _ ≤ _; omega
  rw [← hb] at s0 s1 f0 f1
  have KC : Hid (∀ w', Below W.heap.size W w' → w'.cell? ⟨g, 0, none⟩ = some (.int .i64 (L.length : Int)) ∧ w'.cell? ⟨g, 2, none⟩ = some (.slice a n c) ∧ w'.cell? ⟨b, 0, none⟩ = some (.slice none 0 0) ∧ w'.cell? ⟨b, 1, none⟩ = some (.slice none 0 0) ∧ w'.frozen? ⟨b, 0, none⟩ = false ∧ w'.frozen? ⟨b, 1, none⟩ = false) := fun w' h' => by
    have r := RW.of_block (h'.block _ RW.lt)
    exact ⟨r.cell (i := 0) (by omega), r.cell (i := 2) (by omega), cell_later h' s0, cell_later h' s1, (h'.frozen (World.block_lt_of_cell? _ _ s0)).trans f0, (h'.frozen (World.block_lt_of_cell? _ _ s1)).trans f1⟩
  obtain ⟨k0, k1, _⟩ := KC.out W (Below.refl _ _)
  have CO : Hid (∀ w', Below W.heap.size W w' → Calls Tryz.prog 27 #[.int .u64 (IntKind.u64.wrap (L.length : Int))] w' fun e w9 => ∃ (r : Option Addr) (k j : Nat), e = .returned (.agg #[.slice r k j]) ∧ Hid (IsNat w9 (.agg #[.slice r k j]) L.length ∧ Below W.heap.size W w9)) := fun w' h' => by
    rw [IntKind.wrap_u64, show ((L.length : Int) % 18446744073709551616) = (L.length : Int) by omega]
    refine (of_any L.length w' (by omega)).mono fun e w9 ⟨v, ev, hv, hb⟩ => ?_
    obtain ⟨r, k, j, e1⟩ := hv.isAgg
    subst e1
    exact ⟨r, k, j, ev, hv, bel_go h' hb⟩
  have CF : Hid (∀ (r : Option Addr) (k j : Nat) w', Hid (IsNat w' (.agg #[.slice r k j]) L.length ∧ Below W.heap.size W w') → Calls Tryz.prog 51 #[.agg #[.slice a n c], .agg #[.slice r k j]] w' (MkC W (mnP L) (mnQ L) (decide (0 < L.length)))) := fun r k j w' h' => (gmean_from HG.out.1 HG.out.2.2 h'.out.2 NW.out h'.out.1 HG.out.2.1).mono fun _ _ h => mkc_of h'.out.2 h
  clear h hT hr hn B0 RW
  generalize decide (0 < L.length) = ok at *
  go_enter Tryz.func28, Tryz.ntmps28
  go_upto_region 1 with fail
  rw [← hW, ← hb]
  clear hW hb
  go_region_with (first
    | (go_at_call 27; refine Calls.mono (CO.out _ (show Below _ _ _ from (by with_reducible exact bel_drew (Below.refl _ _)))) ?_; rintro e w6 ⟨r1, i1, j1, rfl, hM⟩; obtain ⟨c0, c1, c2, c3, c4, c5⟩ := KC.out _ hM.out.2)
    | (go_at_call 51; refine Calls.mono (CF.out _ _ _ _ hM) ?_; rintro e w7 ⟨r3, i3, j3, r4, i4, j4, rfl, hA⟩; obtain ⟨d0, d1, d2, d3, d4, d5⟩ := KC.out _ hA.out.2))
  all_goals
    have Z : Hid _ := rat_put (w0 := w) (v := .slice r3 i3 j3) (u := .slice r4 i4 j4) d2 d3 hA.out.1 (bel_go HG.out.2.2 hA.out.2) HB.out
    go_wp2_with fail
    exact bodyPost_ret (v := .tuple #[.agg #[.slice r3 i3 j3, .slice r4 i4 j4], .bool ok]) (by simp [results, Tryz.results28, go_sem, d2, d3]) rfl ⟨_, rfl, Z.out.1, Z.out.2⟩
def em : ByteArray := ⟨#[]⟩
def FC (s : ByteArray) (b i f : Nat) (u : Nat → Value) : Act := { tmps := #[.string s, u 1, .pointer (some ⟨b, 0, none⟩), u 3, .int .i64 (i : Int), .int .i64 (f : Int), u 6, u 7, u 8, u 9, u 10, u 11, u 12, u 13, u 14, u 15, u 16, u 17, u 18, u 19, u 20, u 21, u 22, u 23, u 24, u 25, u 26, u 27, u 28, u 29, u 30, u 31, u 32, u 33, u 34, u 35, u 36, u 37, u 38, u 39, u 40, u 41, u 42, u 43, u 44, u 45, u 46, u 47, u 48, u 49, u 50, u 51, u 52, u 53, u 54, u 55, u 56, u 57, u 58, u 59, u 60, u 61, u 62, u 63, u 64, u 65, u 66, u 67, u 68, u 69, u 70, u 71, u 72, u 73, u 74, u 75, u 76, u 77, u 78, u 79, u 80, u 81, u 82, u 83, u 84, u 85, u 86, u 87, u 88, u 89, u 90, u 91, u 92, u 93, u 94, u 95, u 96, u 97, u 98, u 99, u 100, u 101, u 102, u 103, u 104, u 105, u 106, u 107, u 108, u 109, u 110, u 111, u 112, u 113, u 114, u 115, u 116, u 117, u 118, u 119, u 120, u 121, u 122, u 123, u 124], defers := [] }
def dst (a b : Nat) : Nat := (a - b) + (b - a)
theorem tf_mono {p q r s : Nat} (hq : 0 < q) (hs : 0 < s) (h : p * s ≤ r * q) (hk : tfOk r s = true) : tfOk p q = true ∧ tfV p q ≤ tfV r s := by
  rcases Nat.eq_zero_or_pos p with hp | hp
  · unfold tfOk tfV
    rw [if_pos hp, decide_eq_true hp]
    exact ⟨rfl, Nat.zero_le _⟩
  have hr : 0 < r := by
    rcases Nat.eq_zero_or_pos r with e | e
    · rw [e, Nat.zero_mul] at h
      have := Nat.mul_pos hp hs
      omega
    exact e
  have hb : tfB r s < 9218868437227405312 := by
    unfold tfOk at hk
    simp at hk
    omega
  have hm : tfB p q ≤ tfB r s := bits_mono (sz_at hp hq) (sz_at hr hs) hq hs h
  obtain ⟨e1, e2⟩ := tf_in (q := q) hp (by omega)
  obtain ⟨e3, e4⟩ := tf_in (q := s) hr hb
  rw [e1, e3]
  exact ⟨e2, hm⟩
def fmG (u : Nat) : Nat := if u / 4503599627370496 = 0 then u % 4503599627370496 else 4503599627370496 + u % 4503599627370496
def feG (u : Nat) : Nat := if u / 4503599627370496 = 0 then 0 else u / 4503599627370496 - 1
theorem read_numG {u : Nat} (h : u < 9218868437227405312) : Ieee.double.read u = .number false (fmG u) (-1074 + (feG u : Int)) := by
  have d1 : Ieee.double.signWeight = 9223372036854775808 := by decide
  have d2 : Ieee.double.binade = 4503599627370496 := by decide
  have d3 : Ieee.double.infRung = 9218868437227405312 := by decide
  have d4 : Ieee.double.leastPlace = -1074 := by decide
  have h1 : (u / 9223372036854775808 % 2 == 1) = false := by rw [Nat.div_eq_of_lt (by omega)]; rfl
  have h2 : u % 9223372036854775808 = u := Nat.mod_eq_of_lt (by omega)
  unfold Ieee.Format.read
  rw [d1, d2, d3, d4, h2]
  simp only [h1]
  unfold fmG feG
  by_cases hs : u < 4503599627370496
  · have e0 : u / 4503599627370496 = 0 := Nat.div_eq_of_lt hs
    have e1 : u % 4503599627370496 = u := Nat.mod_eq_of_lt hs
    rw [if_pos hs, e0, if_pos rfl, e1]
    rfl
  have e0 : ¬ u / 4503599627370496 = 0 := by omega
  rw [if_neg hs, if_pos h, if_neg e0, if_neg e0]
theorem mono_num {u v : Nat} (h : u ≤ v) : fmG u * 2 ^ feG u ≤ fmG v * 2 ^ feG v := by
  unfold fmG feG
  have d1 := Nat.div_add_mod u 4503599627370496
  have d2 := Nat.div_add_mod v 4503599627370496
  have m1 := Nat.mod_lt u (show 0 < 4503599627370496 by omega)
  have m2 := Nat.mod_lt v (show 0 < 4503599627370496 by omega)
  generalize u / 4503599627370496 = a at *
  generalize v / 4503599627370496 = b at *
  generalize u % 4503599627370496 = x at *
  generalize v % 4503599627370496 = y at *
  have hab : a ≤ b := by omega
  have one : ∀ c d m n : Nat, c ≤ d → m ≤ n → m * 2 ^ c ≤ n * 2 ^ d := fun c d m n h1 h2 => Nat.mul_le_mul h2 (Nat.pow_le_pow_right (by omega) h1)
  by_cases ha : a = 0
  · subst ha
    rw [if_pos rfl, if_pos rfl]
    by_cases hb : b = 0
    · subst hb
      rw [if_pos rfl, if_pos rfl]
      exact one _ _ _ _ (by omega) (by omega)
    rw [if_neg hb, if_neg hb]
    exact one _ _ _ _ (by omega) (by omega)
  have hb : ¬ b = 0 := by omega
  rw [if_neg ha, if_neg ha, if_neg hb, if_neg hb]
  by_cases e : a = b
  · subst e
    exact one _ _ _ _ (Nat.le_refl _) (by omega)
  have hp : 2 ^ (b - 1) = 2 * 2 ^ (b - 2) := by rw [show b - 1 = (b - 2) + 1 by omega, Nat.pow_succ, Nat.mul_comm]
  have h1 : 2 ^ (a - 1) ≤ 2 ^ (b - 2) := Nat.pow_le_pow_right (by omega) (by omega)
  rw [hp]
  calc (4503599627370496 + x) * 2 ^ (a - 1) ≤ (2 * 4503599627370496) * 2 ^ (b - 2) := Nat.mul_le_mul (by omega) h1
    _ = 4503599627370496 * (2 * 2 ^ (b - 2)) := by grind
    _ ≤ (4503599627370496 + y) * (2 * 2 ^ (b - 2)) := Nat.mul_le_mul (by omega) (Nat.le_refl _)
theorem signed_posG (m k : Nat) : Ieee.signed false m k = ((m * 2 ^ k : Nat) : Int) := by
  unfold Ieee.signed
  rw [Nat.shiftLeft_eq]
  simp
theorem order_le {u v : Nat} (h : u ≤ v) (hv : v < 9218868437227405312) : FloatKind.f64.format.order u v = some .lt ∨ FloatKind.f64.format.order u v = some .eq := by
  show (Ieee.double.read u).order (Ieee.double.read v) = _ ∨ (Ieee.double.read u).order (Ieee.double.read v) = _
  rw [read_numG (Nat.lt_of_le_of_lt h hv), read_numG hv]
  have hm := mono_num h
  generalize fmG u = m at *
  generalize feG u = i at *
  generalize fmG v = n at *
  generalize feG v = j at *
  unfold Ieee.Datum.order
  simp only [signed_posG]
  have fin : ∀ a b : Nat, a ≤ b → some (compare (a : Int) (b : Int)) = some .lt ∨ some (compare (a : Int) (b : Int)) = some .eq := fun a b hab => by
    rcases Nat.lt_or_ge a b with h1 | h1
    · left
      rw [Int.compare_eq_lt.2 (by omega)]
    right
    rw [Int.compare_eq_eq.2 (by omega)]
  by_cases hij : i ≤ j
  · have e1 : (-1074 + (i : Int) - min (-1074 + (i : Int)) (-1074 + (j : Int))).toNat = 0 := by omega
    have e2 : (-1074 + (j : Int) - min (-1074 + (i : Int)) (-1074 + (j : Int))).toNat = j - i := by omega
    rw [e1, e2]
    refine fin _ _ ?_
    have e3 : 2 ^ j = 2 ^ (j - i) * 2 ^ i := by rw [← Nat.pow_add, show j - i + i = j by omega]
    rw [e3, ← Nat.mul_assoc] at hm
    rw [Nat.pow_zero, Nat.mul_one]
    exact Nat.le_of_mul_le_mul_right hm (Nat.two_pow_pos i)
  have e1 : (-1074 + (i : Int) - min (-1074 + (i : Int)) (-1074 + (j : Int))).toNat = i - j := by omega
  have e2 : (-1074 + (j : Int) - min (-1074 + (i : Int)) (-1074 + (j : Int))).toNat = 0 := by omega
  rw [e1, e2]
  refine fin _ _ ?_
  have e3 : 2 ^ i = 2 ^ (i - j) * 2 ^ j := by rw [← Nat.pow_add, show i - j + j = i by omega]
  rw [e3, ← Nat.mul_assoc] at hm
  rw [Nat.pow_zero, Nat.mul_one]
  exact Nat.le_of_mul_le_mul_right hm (Nat.two_pow_pos j)
def leC (L : List Nat) (x : Int) : Nat := L.countP fun (d : Nat) => decide ((d : Int) ≤ x)
def ltC (L : List Nat) (x : Int) : Nat := L.countP fun (d : Nat) => decide ((d : Int) < x)
theorem lt_le (L : List Nat) {x y : Int} (h : x < y) : leC L x ≤ ltC L y := List.countP_mono_left fun d _ e => by simp only [decide_eq_true_eq] at *; omega
theorem le_le (L : List Nat) (x : Int) : leC L x ≤ L.length := List.countP_le_length
theorem countP_or (L : List Nat) (p q r : Nat → Bool) (h : ∀ d ∈ L, r d = (p d || q d)) (hd : ∀ d ∈ L, p d = true → q d = false) : L.countP r = L.countP p + L.countP q := by
  induction L with
  | nil => rfl
  | cons a l ih =>
    have h1 := h a (List.mem_cons_self ..)
    have h2 := hd a (List.mem_cons_self ..)
    have h3 := ih (fun d hd' => h d (List.mem_cons_of_mem _ hd')) (fun d hd' => hd d (List.mem_cons_of_mem _ hd'))
    rw [List.countP_cons, List.countP_cons, List.countP_cons, h3, h1]
    cases hp : p a <;> cases hq : q a <;> simp_all <;> omega
theorem qf_spec (L : List Nat) : ∀ (r : List Int) (pl : Int), r.Pairwise (· < ·) → (∀ d ∈ L, (d : Int) ∉ r → ∀ x ∈ r, (d : Int) < x) → 0 < pl → pl + (L.countP fun (d : Nat) => decide ((d : Int) ∉ r) : Nat) ≤ L.length →
    ∃ x, qfG (cntL L) r pl = (x, true) ∧ x ∈ r ∧ (ltC L x : Int) < pl + (L.countP fun (d : Nat) => decide ((d : Int) ∉ r) : Nat) ∧ pl + (L.countP fun (d : Nat) => decide ((d : Int) ∉ r) : Nat) ≤ (leC L x : Int)
  | [], pl, _, _, h1, h2 => by
    have : (L.countP fun (d : Nat) => decide ((d : Int) ∉ ([] : List Int))) = L.length := by
      rw [List.countP_eq_length]
      intro d _
      simp
    omega
  | x :: r, pl, hs, hI, h1, h2 => by
    obtain ⟨hx, hr⟩ := List.pairwise_cons.1 hs
    have m' : (L.countP fun (d : Nat) => decide ((d : Int) ∉ r)) = (L.countP fun (d : Nat) => decide ((d : Int) ∉ x :: r)) + cntL L x := by
      unfold cntL
      refine countP_or L _ _ _ (fun d _ => ?_) (fun d _ e => ?_)
      · by_cases e1 : (d : Int) = x
        · have : x ∉ r := fun h => by have := hx x h; omega
          simp [e1, this]
        simp [e1]
      simp at e ⊢
      exact e.1
    have hlt : ltC L x = L.countP fun (d : Nat) => decide ((d : Int) ∉ x :: r) := by
      unfold ltC
      refine List.countP_congr fun d hd => ?_
      simp only [decide_eq_true_eq]
      constructor
      · intro h e
        rcases List.mem_cons.1 e with e | e
        · omega
        have := hx _ e; omega
      intro h
      exact hI d hd h x (List.mem_cons_self ..)
    have hle : leC L x = ltC L x + cntL L x := by
      unfold leC ltC cntL
      refine countP_or L _ _ _ (fun d _ => ?_) (fun d _ e => ?_)
      · by_cases e1 : (d : Int) = x
        · simp [e1]
        by_cases e2 : (d : Int) < x
        · simp [e1, e2]; omega
        simp [e1, e2]; omega
      simp at e ⊢
      omega
    rw [qfG_cons]
    by_cases hc : pl - (cntL L x : Int) ≤ 0
    · rw [if_pos hc]
      exact ⟨x, rfl, List.mem_cons_self .., by omega, by omega⟩
    rw [if_neg hc]
    obtain ⟨y, e1, e2, e3, e4⟩ := qf_spec L r (pl - (cntL L x : Int)) hr (fun d hd hn y hy => by
      by_cases e : (d : Int) = x
      · rw [e]; exact hx y hy
      exact hI d hd (fun h => by
        rcases List.mem_cons.1 h with h | h
        · exact e h
        exact hn h) y (List.mem_cons_of_mem _ hy)) (by omega) (by rw [m']; omega)
    rw [m'] at e3 e4
    exact ⟨y, e1, List.mem_cons_of_mem _ e2, by omega, by omega⟩
structure Kth (L : List Nat) (k x : Int) : Prop where
  mem : ∃ d ∈ L, (d : Int) = x
  lo : (ltC L x : Int) < k
  hi : k ≤ (leC L x : Int)
theorem qf_kth {L : List Nat} {ss : List Int} (hk : KeysG L ss) {pl : Int} (h1 : 0 < pl) (h2 : pl ≤ L.length) : ∃ x, qfG (cntL L) ss pl = (x, true) ∧ Kth L pl x := by
  have hz : (L.countP fun (d : Nat) => decide ((d : Int) ∉ ss)) = 0 := by
    rw [List.countP_eq_zero]
    intro d hd
    simp only [decide_eq_true_eq, Classical.not_not]
    exact (hk.mem _).2 (cntL_pos.2 ⟨d, hd, rfl⟩)
  obtain ⟨x, e1, e2, e3, e4⟩ := qf_spec L ss pl hk.asc (fun d hd hn => absurd ((hk.mem _).2 (cntL_pos.2 ⟨d, hd, rfl⟩)) hn) h1 (by rw [hz]; omega)
  rw [hz] at e3 e4
  exact ⟨x, e1, cntL_pos.1 ((hk.mem x).1 e2), by omega, by omega⟩
theorem Kth.mono {L : List Nat} {k k' x x' : Int} (h : Kth L k x) (h' : Kth L k' x') (hk : k ≤ k') : x ≤ x' := by
  rcases Int.lt_or_le x' x with e | e
  · have := lt_le L e
    have h1 := h.lo
    have h2 := h'.hi
    omega
  exact e
theorem Kth.perm {L M : List Nat} (hp : L.Perm M) {k x : Int} (h : Kth L k x) : Kth M k x := by
  obtain ⟨⟨d, hd, e⟩, h1, h2⟩ := h
  refine ⟨⟨d, hp.mem_iff.1 hd, e⟩, ?_, ?_⟩
  · rw [ltC, ← hp.countP_eq]; exact h1
  rw [leC, ← hp.countP_eq]; exact h2
theorem Kth.one {L : List Nat} {k x x' : Int} (h : Kth L k x) (h' : Kth L k x') : x = x' := Int.le_antisymm (h.mono h' (Int.le_refl _)) (h'.mono h (Int.le_refl _))
theorem Kth.least {L : List Nat} {x : Int} (h : Kth L 1 x) : ∀ d ∈ L, x ≤ (d : Int) := fun d hd => by
  have h1 := h.lo
  have h0 : ltC L x = 0 := by omega
  rw [ltC, List.countP_eq_zero] at h0
  have := h0 d hd
  simp only [decide_eq_true_eq] at this
  omega
theorem Kth.most {L : List Nat} {x : Int} (h : Kth L L.length x) : ∀ d ∈ L, (d : Int) ≤ x := fun d hd => by
  have h1 := h.hi
  have h2 := le_le L x
  have h0 : leC L x = L.length := by omega
  rw [leC, List.countP_eq_length] at h0
  have := h0 d hd
  simpa only [decide_eq_true_eq] using this
theorem plG_le {n : Nat} {p q : Int} (hn : 0 < n) (hp : 0 ≤ p) (hpq : p ≤ q) (hq : 1 ≤ q) : plG n p q ≤ n := by
  unfold plG
  have h1 : (n : Int) * p ≤ (n : Int) * q := Int.mul_le_mul_of_nonneg_left hpq (by omega)
  have h2 : ((n : Int) * p + q - 1) / q < (n : Int) + 1 := by
    refine Int.ediv_lt_of_lt_mul (by omega) ?_
    rw [Int.add_mul, Int.one_mul]
    omega
  omega
theorem plG_mono {n : Nat} {p p' q : Int} (hpp : p ≤ p') (hq : 1 ≤ q) : plG n p q ≤ plG n p' q := by
  unfold plG
  have h1 : (n : Int) * p ≤ (n : Int) * p' := Int.mul_le_mul_of_nonneg_left hpp (by omega)
  have h2 : ((n : Int) * p + q - 1) / q ≤ ((n : Int) * p' + q - 1) / q := Int.ediv_le_ediv (by omega) (by omega)
  omega
theorem plG_zero (n : Nat) {q : Int} (hq : 1 ≤ q) : plG n 0 q = 1 := by
  unfold plG
  rw [Int.mul_zero, Int.zero_add, Int.ediv_eq_zero_of_lt (by omega) (by omega)]
  rfl
theorem plG_one {n : Nat} {q : Int} (hn : 0 < n) (hq : 1 ≤ q) : plG n q q = n := by
  unfold plG
  have : ((n : Int) * q + q - 1) / q = n := by
    rw [show (n : Int) * q + q - 1 = (q - 1) + (n : Int) * q by omega, Int.add_mul_ediv_right _ _ (by omega), Int.ediv_eq_zero_of_lt (by omega) (by omega)]
    omega
  rw [this]
  omega
theorem plG_at (n : Nat) {p q : Int} (hq : 1 ≤ q) : (n : Int) * p ≤ plG n p q * q ∧ (plG n p q = 1 ∨ (plG n p q - 1) * q < (n : Int) * p) := by
  unfold plG
  have h1 := Int.emod_add_mul_ediv ((n : Int) * p + q - 1) q
  have h2 := Int.emod_lt_of_pos ((n : Int) * p + q - 1) (show 0 < q by omega)
  have h3 := Int.emod_nonneg ((n : Int) * p + q - 1) (show q ≠ 0 by omega)
  generalize ((n : Int) * p + q - 1) / q = t at *
  generalize ((n : Int) * p + q - 1) % q = r at *
  have h4 : t * q = q * t := Int.mul_comm _ _
  constructor
  · have h5 : t * q ≤ max 1 t * q := Int.mul_le_mul_of_nonneg_right (Int.le_max_right _ _) (by omega)
    omega
  by_cases e : t ≤ 1
  · left; omega
  right
  rw [Int.max_eq_right (by omega), Int.sub_mul, Int.one_mul]
  omega
theorem plG_half (n : Nat) : plG n 1 2 ≤ plG n 99 100 := by unfold plG; omega
theorem plG_tail (n : Nat) : plG n 99 100 ≤ plG n 1 1 := by unfold plG; omega
theorem plG_all {n : Nat} (hn : 0 < n) : plG n 1 1 = n := by unfold plG; omega
theorem tf_le {p q k : Nat} (hq : 0 < q) (hk : k ≤ 9223372036854775807) (h : p ≤ k * q) : tfV p q ≤ tfV k 1 ∧ tfV k 1 < 9218868437227405312 := by
  have ht : tfOk 9223372036854775807 1 = true := by decide +kernel
  obtain ⟨h1, h2⟩ := tf_mono (p := k) (q := 1) (r := 9223372036854775807) (s := 1) (by omega) (by omega) (by omega) ht
  obtain ⟨h3, h4⟩ := tf_mono (p := p) (q := q) (r := k) (s := 1) hq (by omega) (by omega) h1
  have h5 : tfV 9223372036854775807 1 < 9218868437227405312 := by decide +kernel
  exact ⟨h4, by omega⟩
theorem mean_le {L : List Nat} {k : Nat} (h : ∀ d ∈ L, d ≤ k) : mnP L ≤ k * mnQ L ∧ 0 < mnQ L := by
  have h1 := sumG_le h
  unfold mnP mnQ
  split
  · exact ⟨Nat.zero_le _, by omega⟩
  rename_i e
  have hg : 0 < Nat.gcd (sumG L) L.length := Nat.gcd_pos_of_pos_right _ (by omega)
  obtain ⟨a, ha⟩ := Nat.gcd_dvd_left (sumG L) L.length
  obtain ⟨b, hb⟩ := Nat.gcd_dvd_right (sumG L) L.length
  generalize Nat.gcd (sumG L) L.length = g at *
  rw [ha, hb] at h1
  rw [ha, hb, Nat.mul_div_cancel_left _ hg, Nat.mul_div_cancel_left _ hg]
  refine ⟨Nat.le_of_mul_le_mul_left (by rw [show g * (k * b) = g * b * k by grind]; exact h1) hg, Nat.pos_of_ne_zero fun e2 => ?_⟩
  rw [e2] at hb
  omega
structure Two0 (w0 w : World) (b : Nat) : Prop where
  c0 : w.cell? ⟨b + 1, 0, none⟩ = some (.slice none 0 0)
  c1 : w.cell? ⟨b + 1, 1, none⟩ = some (.slice none 0 0)
  r0 : w.cell? ⟨b, 0, none⟩ = some (.slice none 0 0)
  r1 : w.cell? ⟨b, 1, none⟩ = some (.slice none 0 0)
  g0 : w.frozen? ⟨b, 0, none⟩ = false
  g1 : w.frozen? ⟨b, 1, none⟩ = false
  bel : Below w0.heap.size w0 w
  lo : w0.heap.size ≤ b
theorem Two0.go {w0 w w' : World} {b : Nat} (h : Two0 w0 w b) (hb : Below w.heap.size w w') : Two0 w0 w' b :=
  ⟨cell_later hb h.c0, cell_later hb h.c1, cell_later hb h.r0, cell_later hb h.r1, (hb.frozen (World.block_lt_of_cell? _ _ h.r0)).trans h.g0, (hb.frozen (World.block_lt_of_cell? _ _ h.r1)).trans h.g1, bel_go h.bel hb, h.lo⟩
theorem fc_nought (m : Nat) (hm : 1 ≤ m) : Fc 0 1 0 1 m := ⟨by simp, by omega, by omega, by simp, P_pos _, Nat.lt_of_lt_of_le (by rw [P_one]; omega) (P_le hm)⟩
set_option maxHeartbeats 16000000 in
theorem jain_none (w : World) (hT : Tab w) : Calls Tryz.prog 13 #[.slice none 0 0] w (MakesRB w 0 1 false) := by
  obtain ⟨w0, hw0⟩ : ∃ w0, w0 = (w.alloc (.cells #[.slice none 0 0, .slice none 0 0] 47)).alloc (.cells #[.slice none 0 0, .slice none 0 0] 47) := ⟨_, rfl⟩
  have ba : Below w.heap.size w w0 := by rw [hw0]; exact bel_al (bel_al (bel_refl w))
  have S0 : Hid (Two0 w w0 w.heap.size) := by
    refine ⟨?_, ?_, ?_, ?_, ?_, ?_, ba, Nat.le_refl _⟩ <;> rw [hw0] <;> simp [go_sem]
  have HT : Hid (Tab w) := hT
  obtain ⟨A, B, fM, cM⟩ := (fc_nought 1 (by omega)).mul (fc_nought 1 (by omega)) (by omega) (by omega)
  obtain ⟨ia, ib, fI, cI⟩ := (fc_nought 1 (by omega)).mulInt (k := 0) (by omega) (by omega)
  have CI : Hid (∀ v w, Rt w v 0 1 → Tab w → Calls Tryz.prog 24 #[v, .int .i64 0] w (MakesRB w ia ib true)) := cI
  have CM0 : Hid (∀ v u w, Rt w v 0 1 → Rt w u 0 1 → Tab w → Calls Tryz.prog 36 #[v, u] w (MakesR w A B)) := cM
  have CD0 : Hid (∀ v u w, Rt w v A B → Rt w u ia ib → Tab w → Calls Tryz.prog 38 #[v, u] w (MakesRB w 0 1 false)) := fun v u w e1 e2 hT => ratDiv_no v u A B ia ib w e1 e2 (fM.rs1 (by omega)) (fM.rs2 (by omega)) (fI.rs1 (by omega)) (fI.rs2 (by omega)) (fI.zero.2 (by omega)) hT
  clear hT ba fM cM fI cI
  go_enter Tryz.func13, Tryz.ntmps13
  go_wp2_with fail
  rw [← hw0]
  obtain ⟨b, hb⟩ : ∃ b, b = w.heap.size := ⟨_, rfl⟩
  rw [← hb] at S0
  rw [← hb]
  clear hw0 hb
  go_loopw [12] (fun t wr => t = .int .i64 0 ∧ Two0 w wr b) (fun t _ => 0)
  case atStart => exact ⟨rfl, S0.out⟩
  case round =>
    clear S0
    obtain ⟨rfl, hS⟩ := hrel
    have S1 : Hid (Two0 w wr b) := hS
    clear hS
    have CS : Hid (Calls Tryz.prog 37 #[.slice none 0 0] wr (MakesR wr 0 1)) := ratSum_none wr
    go_upto_region 8 with (go_at_call 37; refine CS.out.mono ?_; rintro e w7 ⟨v7, rfl, hv7, hb7⟩; obtain ⟨r1, i1, j1, r2, i2, j2, rfl⟩ := rt_slices hv7)
    have bl7 := bel_al (o := .cells #[.slice r1 i1 j1, .slice r2 i2 j2] 47) (bel_refl w7)
    obtain ⟨w8, hw8⟩ : ∃ w8, w8 = w7.alloc (.cells #[.slice r1 i1 j1, .slice r2 i2 j2] 47) := ⟨_, rfl⟩
    obtain ⟨b7, hb7'⟩ : ∃ b7, b7 = w7.heap.size := ⟨_, rfl⟩
    have k0 : w8.cell? ⟨b7, 0, none⟩ = some (.slice r1 i1 j1) := by rw [hw8, hb7']; simp [go_sem]
    have k1 : w8.cell? ⟨b7, 1, none⟩ = some (.slice r2 i2 j2) := by rw [hw8, hb7']; simp [go_sem]
    rw [← hw8] at bl7
    have S8 : Hid _ := (S1.out.go hb7).go bl7
    have R7 : Hid _ := hv7.mono bl7
    have y0 := S8.out.c0
    have y1 := S8.out.c1
    have CI8 : Hid (Calls Tryz.prog 24 #[.agg #[.slice none 0 0, .slice none 0 0], .int .i64 0] w8 (MakesRB w8 ia ib true)) := CI.out _ w8 (rt_zero _) (HT.out.go S8.out.bel)
    rw [← hw8, ← hb7']
    clear hw8 hb7' bl7 hb7 hv7 S1 CS CI
    go_upto_region 9 with (go_at_call 24; refine CI8.out.mono ?_; rintro e w9 ⟨v9, rfl, hv9, hb9⟩; obtain ⟨r3, i3, j3, r4, i4, j4, rfl⟩ := rt_slices hv9)
    have bl9 := bel_al (o := .cells #[.slice r3 i3 j3, .slice r4 i4 j4] 47) (bel_refl w9)
    obtain ⟨wa, hwa⟩ : ∃ wa, wa = w9.alloc (.cells #[.slice r3 i3 j3, .slice r4 i4 j4] 47) := ⟨_, rfl⟩
    obtain ⟨b8, hb8⟩ : ∃ b8, b8 = w9.heap.size := ⟨_, rfl⟩
    have k2 : wa.cell? ⟨b8, 0, none⟩ = some (.slice r3 i3 j3) := by rw [hwa, hb8]; simp [go_sem]
    have k3 : wa.cell? ⟨b8, 1, none⟩ = some (.slice r4 i4 j4) := by rw [hwa, hb8]; simp [go_sem]
    rw [← hwa] at bl9
    have b8a := bel_go hb9 bl9
    have SA : Hid _ := S8.out.go b8a
    have R7a : Hid _ := R7.out.mono b8a
    have R9a : Hid _ := hv9.mono bl9
    have l0 := cell_later b8a k0
    have l1 := cell_later b8a k1
    have z0 := SA.out.r0
    have z1 := SA.out.r1
    have f0 := SA.out.g0
    have f1 := SA.out.g1
    rw [← hwa, ← hb8]
    have KC : Hid (∀ w', Below wa.heap.size wa w' → w'.cell? ⟨b7, 0, none⟩ = some (.slice r1 i1 j1) ∧ w'.cell? ⟨b7, 1, none⟩ = some (.slice r2 i2 j2) ∧ w'.cell? ⟨b8, 0, none⟩ = some (.slice r3 i3 j3) ∧ w'.cell? ⟨b8, 1, none⟩ = some (.slice r4 i4 j4) ∧ w'.cell? ⟨b, 0, none⟩ = some (.slice none 0 0) ∧ w'.cell? ⟨b, 1, none⟩ = some (.slice none 0 0) ∧ w'.frozen? ⟨b, 0, none⟩ = false ∧ w'.frozen? ⟨b, 1, none⟩ = false) := fun w' h' => ⟨cell_later h' l0, cell_later h' l1, cell_later h' k2, cell_later h' k3, (SA.out.go h').r0, (SA.out.go h').r1, (SA.out.go h').g0, (SA.out.go h').g1⟩
    have CM : Hid (∀ w', Below wa.heap.size wa w' → Calls Tryz.prog 36 #[.agg #[.slice r1 i1 j1, .slice r2 i2 j2], .agg #[.slice r1 i1 j1, .slice r2 i2 j2]] w' (MkB wa A B)) := fun w' h' => (CM0.out _ _ w' (R7a.out.mono h') (R7a.out.mono h') (HT.out.go (bel_go SA.out.bel h'))).mono fun _ _ h => mkb_of h' h
    have CD : Hid (∀ (s : Option Addr) (k d : Nat) (s' : Option Addr) (k' d' : Nat) (w' : World), Hid (Rt w' (.agg #[.slice s k d, .slice s' k' d']) A B ∧ Below wa.heap.size wa w') → Calls Tryz.prog 38 #[.agg #[.slice s k d, .slice s' k' d'], .agg #[.slice r3 i3 j3, .slice r4 i4 j4]] w' (MkC wa 0 1 false)) := fun s k d s' k' d' w' h' => (CD0.out _ _ w' h'.out.1 (R9a.out.mono h'.out.2) (HT.out.go (bel_go SA.out.bel h'.out.2))).mono fun _ _ h => mkc_of h'.out.2 h
    clear hwa hb8 bl9 b8a R7 R7a R9a S8 CI8 CM0 CD0 hv9 hb9 y0 y1 k0 k1
    go_region_with (first
      | (go_at_call 36; refine Calls.mono (CM.out _ (show Below _ _ _ from (by with_reducible exact bel_drew (Below.refl _ _)))) ?_; rintro e w6 ⟨s1, i5, j5, s2, i6, j6, rfl, hM⟩; obtain ⟨c0, c1, c2, c3, c4, c5, c6, c7⟩ := KC.out _ hM.out.2)
      | (go_at_call 38; refine Calls.mono (CD.out _ _ _ _ _ _ _ hM) ?_; rintro e wb ⟨s3, i7, j7, s4, i8, j8, rfl, hD⟩; obtain ⟨d0, d1, d2, d3, d4, d5, d6, d7⟩ := KC.out _ hD.out.2))
    all_goals
      have Z : Hid _ := rat_put (w0 := w) (v := .slice s3 i7 j7) (u := .slice s4 i8 j8) d4 d5 hD.out.1 (bel_go SA.out.bel hD.out.2) SA.out.lo
      go_wp2_with fail
      exact bodyPost_ret (v := .tuple #[.agg #[.slice s3 i7 j7, .slice s4 i8 j8], .bool false]) (by simp [results, Tryz.results13, go_sem, d4, d5]) rfl ⟨_, rfl, Z.out.1, Z.out.2⟩
end Go.Proofs.YtfkkomppfghagaaGreatDoor
