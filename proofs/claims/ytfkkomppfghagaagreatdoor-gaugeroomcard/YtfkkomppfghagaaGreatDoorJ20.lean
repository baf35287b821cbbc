/- Contracts of the program's functions, part 20: own work, joined in build order. -/
import Derived.Test.YtfkkomppfghagaaGreatDoorJ19
namespace Go.Proofs.YtfkkomppfghagaaGreatDoor
open Go.RowKit Go.Maps Go.Sort Go.Shelf
set_option maxRecDepth 100000
set_option linter.unusedVariables false
theorem Tryz.sortsG (m : Nat) : AnyZI.SortsIn Tryz.prog Tryz.sortedG_ren Fence.wide m :=
  ⟨fun blk off cap ss W hH hblk hsz => callsIn_wide.2 (AnyM.slices_Sort_int Tryz.sortG blk off cap ss W hH hblk hsz),
   fun p cap W => callsIn_wide.2 (AnyM.slices_Sort_int_none Tryz.sortG p cap W)⟩
theorem keysG_of {W : World} {mb n : Nat} {D : DataW Unit} {L : List Nat} (hown : W.ownsMap Tryz.prog 3 RiG mb n D) (hn : n ≤ L.length) (hm : ∀ i : Int, Maps.has D (.int .i64 i) = true ↔ 0 < cntL L i) {ss : List Int} (hp : ss.Perm (intKeys D)) : KeysG L (ss.mergeSort (fun x y => decide (x ≤ y))) ∧ (ss.mergeSort (fun x y => decide (x ≤ y))).length = ss.length := by
  have K := Maps.int_keyed Tryz.underlying3
  obtain ⟨es, hD, hpw, _⟩ := hown.entries K
  obtain ⟨es', hD', hko⟩ := hown.keysOf
  obtain rfl : es = es' := by rw [hD] at hD'; simpa using hD'
  have hsz := hown.size_le
  subst hD
  have hk : ∀ p ∈ es, ∃ x, p.1 = .int .i64 x := fun p hp => by obtain ⟨v, hv⟩ := hko p hp; obtain ⟨x, _, hx, _⟩ := Maps.keyOf_i64 Tryz.underlying3 hv; exact ⟨x, hx⟩
  have hnd : (intKeys (.map es)).Nodup := by
    show (es.map fun p => Go.intOf p.1).Nodup
    refine List.pairwise_map.2 (hpw.imp_of_mem fun {p q} hp' hq' hne e => hne ?_)
    obtain ⟨a, ha⟩ := hk p hp'
    obtain ⟨b, hb⟩ := hk q hq'
    rw [ha, hb] at e ⊢
    exact congrArg _ e
  have hmem : ∀ x, x ∈ intKeys (.map es) ↔ Maps.has (.map es) (.int .i64 x) = true := fun x => by
    rw [has_eq, List.any_eq_true]
    show x ∈ es.map (fun p => Go.intOf p.1) ↔ _
    rw [List.mem_map]
    constructor
    · rintro ⟨p, hp', rfl⟩
      obtain ⟨a, ha⟩ := hk p hp'
      exact ⟨p, hp', by rw [ha]; simp [Lit.sameKey, Go.intOf]⟩
    rintro ⟨p, hp', hs⟩
    obtain ⟨a, ha⟩ := hk p hp'
    rw [ha] at hs
    exact ⟨p, hp', by rw [ha]; simpa [Lit.sameKey, Go.intOf] using hs⟩
  have hpm := (List.mergeSort_perm ss (fun x y => decide (x ≤ y))).trans hp
  have hlen : (ss.mergeSort (fun x y => decide (x ≤ y))).length = ss.length := (List.mergeSort_perm ss _).length_eq
  refine ⟨⟨fun x => by rw [hpm.mem_iff, hmem x, hm x], ?_, ?_⟩, hlen⟩
  · have tr : ∀ a b c : Int, decide (a ≤ b) = true → decide (b ≤ c) = true → decide (a ≤ c) = true := fun a b c h1 h2 => by simp only [decide_eq_true_eq] at *; omega
    have tt : ∀ a b : Int, (decide (a ≤ b) || decide (b ≤ a)) = true := fun a b => by simp only [Bool.or_eq_true, decide_eq_true_eq]; omega
    have h1 := List.pairwise_mergeSort tr tt ss
    have h2 : (ss.mergeSort (fun x y => decide (x ≤ y))).Nodup := hpm.nodup_iff.2 hnd
    refine (h1.and h2).imp fun {a b} ⟨e1, e2⟩ => ?_
    simp only [decide_eq_true_eq] at e1
    omega
  rw [hpm.length_eq]
  have : (intKeys (.map es)).length = Maps.size (.map es) := by
    show (es.map _).length = es.length
    rw [List.length_map]
  omega
set_option maxHeartbeats 2000000 in
theorem ranked_any (g mb : Nat) (L : List Nat) (B : Nat) (w : World) (h : Gau w g mb L B) :
    Calls Tryz.prog 48 #[.pointer (some ⟨g, 0, none⟩)] w fun e w' => ∃ (v : Value) (ss : List Int), e = .returned v ∧ KeysG L ss ∧ w'.ownsRow w.heap.size 3 1 v ss.length (ss.map encZ) ∧ Below w.heap.size w w' := by
  refine (callsIn_wide (n := 6)).1 ?_
  obtain ⟨D, n, hown, hln, hat, hhas⟩ := h.mp
  obtain ⟨a0, n0, c0, hr, _⟩ := h.row
  have c3 := hr.cell (i := 3) (by omega)
  have k3 : gaF L.length B (.slice a0 n0 c0) mb 3 = .map (some mb) := rfl
  rw [k3] at c3
  have hfew := h.few
  have hbl := hown.lt
  have hsz := hown.size_le
  have hmax : Maps.size D ≤ maxLen := by simp only [maxLen]; omega
  have hbytes : Maps.size D * 8 ≤ 140737488355328 := by omega
  have hseq : SeqGives Fence.wide 2 Tryz.prog 103 #[.pointer (some ⟨w.heap.size, 0, none⟩)] encZ (fun ss => ss.Perm (intKeys D)) (Maps.size D) (w.alloc (.cells #[.map (some mb)] 73)) :=
    AnyZI.keys_gives (ρ := Tryz.keysG_ren) { Tryz.keysG with } Fence.wide _ trivial rfl (by omega) w.heap.size mb n D _ (by simp) (by simp) (by
      obtain ⟨es, clock, hb, Ft, hs, hD⟩ := hown
      exact ⟨es, clock, (Below.heap_alloc _ _ mb hbl).trans hb, Ft, hs, hD⟩)
  have cK : ∀ mb W, CallsIn Fence.wide 5 Tryz.prog 79 #[.map mb] W fun e w' => e = .returned (.func (.func 103) #[] #[.pointer (some ⟨W.heap.size, 0, none⟩)]) ∧ w' = W.alloc (.cells #[.map mb] 73) := fun mb W => AnyZI.keys_in Tryz.keysG Fence.wide 5 trivial rfl mb W
  have cS := AnyZI.sorted_in Tryz.sortedG Fence.wide 5 trivial trivial trivial trivial rfl (by omega) (Tryz.sortsG _) (enters_of Tryz.func102 (by kernel_rfl) rfl) 103 #[.pointer (some ⟨w.heap.size, 0, none⟩)] trivial (enters_of Tryz.func103 (by kernel_rfl) rfl) _ _ hmax hbytes _ hseq
  change CallsIn _ _ Tryz.prog 78 _ _ _ at cS
  have hfK : Fence.wide.fn 79 := trivial
  have hfS : Fence.wide.fn 78 := trivial
  have KO : Hid (w.ownsMap Tryz.prog 3 RiG mb n D ∧ n ≤ L.length ∧ (∀ i : Int, Maps.has D (.int .i64 i) = true ↔ 0 < cntL L i)) := ⟨hown, hln, hhas⟩
  clear hr hown h k3 hat hhas hln
  refine callsIn_of_wp Tryz.func48 rfl trivial ?_ rfl
  simp only [Tryz.ntmps48, List.size_toArray, List.length_cons, List.length_nil, Nat.reduceAdd, Nat.reduceSub, Array.replicate_succ, Array.replicate_zero, List.push_toArray, List.append_toArray, List.nil_append, List.cons_append]
  gi_wp2_with (first
    | (gi_at_call 79; refine (cK _ _).mono ?_; rintro e w' ⟨rfl, rfl⟩)
    | (gi_at_call 78; refine cS.mono ?_; rintro e w' ⟨v, ss, rfl, hS, hrow, hnil, hb⟩))
  go_ret
  obtain ⟨hk, hlen⟩ := keysG_of KO.out.1 KO.out.2.1 KO.out.2.2 hS
  exact ⟨v, _, rfl, hk, by rw [hlen]; exact ownsRow_base_a hrow (by simp), ((Below.refl _ w).alloc (Nat.le_refl _) _).trans (hb.mono (by simp))⟩
end Go.Proofs.YtfkkomppfghagaaGreatDoor
namespace Go.Proofs.YtfkkomppfghagaaGreatDoor
open Go.RowKit
set_option maxRecDepth 100000
set_option linter.unusedVariables false
def qfG (c : Int → Nat) : List Int → Int → Int × Bool
  | [], _ => (0, false)
  | d :: r, pl => if pl - (c d : Int) ≤ 0 then (d, true) else qfG c r (pl - (c d : Int))
theorem qfG_cons (c : Int → Nat) (d : Int) (r : List Int) (pl : Int) : qfG c (d :: r) pl = if pl - (c d : Int) ≤ 0 then (d, true) else qfG c r (pl - (c d : Int)) := rfl
def plG (n : Nat) (p q : Int) : Int := max 1 (((n : Int) * p + q - 1) / q)
theorem plG_pos (n : Nat) (p q : Int) : 1 ≤ plG n p q := Int.le_max_left _ _
theorem rowI_sl {base : Nat} {W : World} {v : Value} {ss : List Int} (h : W.ownsRow base 3 1 v ss.length (ss.map encZ)) : ∃ a cap, v = .slice a ss.length cap ∧ ss.length ≤ cap ∧ cap ≤ 9223372036854775807 ∧ (0 < ss.length → ∃ g, a = some ⟨g, 0, none⟩ ∧ ∀ i, (hi : i < ss.length) → W.cell? ⟨g, i, none⟩ = some (.int .i64 (ss[i]))) := by
  rcases h.2 with ⟨e, e0⟩ | ⟨g, cap, cur, e, hb', hg, h1, h2, h3, h4⟩
  · refine ⟨none, 0, by rw [e]; congr 1; omega, by omega, by omega, fun h => by omega⟩
  refine ⟨_, cap, e, h1, by simp only [maxLen] at h2; omega, fun _ => ⟨g, rfl, fun i hi => ?_⟩⟩
  have q4 := congrArg (fun l => l[i]?) h4
  simp only [Nat.mul_one] at q4
  rw [List.getElem?_take_of_lt hi, Array.getElem?_toList] at q4
  simp only [World.cell?, hg]
  simp [q4, hi, encZ]
set_option maxHeartbeats 4000000 in
theorem quantile_any (g mb : Nat) (L : List Nat) (B : Nat) (v : Value) (ss : List Int) (base : Nat) (p q : Int) (w : World) (h : Gau w g mb L B) (hk : KeysG L ss) (hv : w.ownsRow base 3 1 v ss.length (ss.map encZ)) (hp : 0 ≤ p) (hpq : p ≤ 2147483648) (hq : 1 ≤ q) (hq2 : q ≤ 2147483648) :
    Calls Tryz.prog 47 #[.pointer (some ⟨g, 0, none⟩), v, .int .i64 p, .int .i64 q] w fun e w' => e = .returned (.tuple #[.int .i64 (qfG (cntL L) ss (plG L.length p q)).1, .bool (qfG (cntL L) ss (plG L.length p q)).2]) ∧ w' = w := by
  obtain ⟨a, cap, rfl, hc1, hc2, hcel⟩ := rowI_sl hv
  obtain ⟨a0, n0, c0, hr, _⟩ := h.row
  have c3 := hr.cell (i := 3) (by omega)
  have k3 : gaF L.length B (.slice a0 n0 c0) mb 3 = .map (some mb) := rfl
  rw [k3] at c3
  have e0 := hr.cell (i := 0) (by omega)
  have k0 : gaF L.length B (.slice a0 n0 c0) mb 0 = .int .i64 (L.length : Int) := rfl
  rw [k0] at e0
  have hfew := h.few
  have hlen := hk.len
  have HB : Hid (∀ x ∈ ss, -9223372036854775808 ≤ x ∧ x ≤ 9223372036854775807) := fun x hx => by
    obtain ⟨d, hd, e⟩ := cntL_pos.1 ((hk.mem x).1 hx)
    have := h.del d hd
    omega
  have LK : Hid (McG w mb L) := h.mp
  have CE : Hid (0 < ss.length → ∃ g, a = some ⟨g, 0, none⟩ ∧ ∀ i, (hi : i < ss.length) → w.cell? ⟨g, i, none⟩ = some (.int .i64 (ss[i]))) := hcel
  have hmul : (L.length : Int) * p ≤ 1000 * 2147483648 := Int.mul_le_mul (by omega) hpq hp (by omega)
  have hmul0 : 0 ≤ (L.length : Int) * p := Int.mul_nonneg (by omega) hp
  obtain ⟨m, hm⟩ : ∃ m, m = (L.length : Int) * p := ⟨_, rfl⟩
  rw [← hm] at hmul hmul0
  have hq0 : ¬ q = 0 := by omega
  have P0 : Hid (1 ≤ plG L.length p q ∧ plG L.length p q ≤ 3000000000000) := by
    refine ⟨plG_pos _ _ _, ?_⟩
    unfold plG
    rw [← hm]
    have h1 : (m + q - 1) / q ≤ m + q - 1 := Int.ediv_le_self _ (by omega)
    omega
  clear hv h hr hk hcel k3 k0
  go_enter Tryz.func47, Tryz.ntmps47
  go_upto_region 2 with fail
  rw [show max 1 (((L.length : Int) * p + q - 1) / q) = plG L.length p q from rfl]
  obtain ⟨P, hP⟩ : ∃ P, P = plG L.length p q := ⟨_, rfl⟩
  rw [← hP] at P0 ⊢
  have HP : Hid (P = plG L.length p q) := hP
  clear hm hmul hmul0 hP e0
  go_wp2_with fail
  go_loopw [28, 10] (fun t pv wr => ∃ (i : Nat) (pl : Int), i ≤ ss.length ∧ t = .int .i64 (i : Int) ∧ pv = .int .i64 pl ∧ 1 ≤ pl ∧ pl ≤ 3000000000000 ∧ qfG (cntL L) (ss.drop i) pl = qfG (cntL L) ss P ∧ wr = w) (fun t _ _ => ss.length - (intOf t).toNat)
  case atStart => exact ⟨0, P, by omega, rfl, rfl, P0.out.1, P0.out.2, rfl, rfl⟩
  case round =>
    obtain ⟨i, pl, hi, rfl, rfl, hl1, hl2, he, rfl⟩ := hrel
    by_cases hin : i < ss.length
    · obtain ⟨gr, rfl, hcel⟩ := CE.out (by omega)
      have z := hcel i hin
      obtain ⟨d, hd⟩ : ∃ d, d = ss[i] := ⟨_, rfl⟩
      have hb := HB.out d (by rw [hd]; exact List.getElem_mem hin)
      have hdr : ss.drop i = d :: ss.drop (i + 1) := by rw [hd]; exact List.drop_eq_getElem_cons hin
      rw [hdr] at he
      rw [← hd] at z
      have lk := LK.out.look Tryz.underlying73 (by rfl) (i := d) hb.1 hb.2
      have hcl : cntL L d ≤ 1000 := Nat.le_trans (cntL_le L _) hfew
      have HE : Hid (qfG (cntL L) (d :: ss.drop (i + 1)) pl = qfG (cntL L) ss P) := he
      clear he hdr hd hcel
      by_cases hle : pl - (cntL L d : Int) ≤ 0
      · go_wp2_with fail
        have e := HE.out
        rw [qfG_cons, if_pos hle] at e
        exact bodyPost_ret (v := .tuple #[.int .i64 d, .bool true]) (by simp [results, Tryz.results47, go_sem]) rfl ⟨by rw [← HP.out, ← e], rfl⟩
      go_wp2_with fail
      go_roundw
      case rel =>
        have e := HE.out
        rw [qfG_cons, if_neg hle] at e
        exact ⟨i + 1, _, by omega, by go_num, rfl, by omega, by omega, e, by trivial⟩
      case measure => simp [intOf]; omega
    obtain rfl : i = ss.length := by omega
    rw [List.drop_length] at he
    have HE : Hid _ := he
    clear he
    go_wp2_with fail
    exact bodyPost_ret (v := .tuple #[.int .i64 0, .bool false]) (by simp [results, Tryz.results47, go_sem]) rfl ⟨by rw [← HP.out, ← HE.out]; rfl, rfl⟩
theorem keysG_one {L : List Nat} {ss ss' : List Int} (h : KeysG L ss) (k : KeysG L ss') : ss = ss' := by
  have n1 : ss.Nodup := h.asc.imp fun {a b} e => by omega
  have n2 : ss'.Nodup := k.asc.imp fun {a b} e => by omega
  have hp : ss.Perm ss' := (List.perm_ext_iff_of_nodup n1 n2).2 fun x => by rw [h.mem, k.mem]
  exact List.Perm.eq_of_pairwise (le := fun a b => a < b) (fun a b _ _ h1 h2 => by omega) h.asc k.asc hp
set_option maxHeartbeats 2000000 in
theorem quantileP_any (g mb : Nat) (L : List Nat) (B : Nat) (p q : Int) (w : World) (h : Gau w g mb L B) (hp : 0 ≤ p) (hpq : p ≤ q) (hq : 1 ≤ q) (hq2 : q ≤ 2147483648) :
    Calls Tryz.prog 18 #[.pointer (some ⟨g, 0, none⟩), .int .i64 p, .int .i64 q] w fun e w' => ∃ ss, KeysG L ss ∧ e = .returned (.tuple #[.int .i64 (qfG (cntL L) ss (plG L.length p q)).1, .bool (qfG (cntL L) ss (plG L.length p q)).2]) ∧ Below w.heap.size w w' := by
  have G1 : Hid (Gau w g mb L B) := h
  have HP : Hid (0 ≤ p ∧ p ≤ 2147483648 ∧ 1 ≤ q ∧ q ≤ 2147483648) := ⟨hp, by omega, hq, hq2⟩
  have h1 : ¬ q < 1 := by omega
  have h2 : ¬ q > 2147483648 := by omega
  have h3 : ¬ p < 0 := by omega
  have h4 : ¬ p > q := by omega
  clear h hp hpq hq hq2
  go_enter Tryz.func18, Tryz.ntmps18
  go_wp2_with fail
  refine Calls.mono (ranked_any g mb L B _ G1.out) ?_
  rintro e w1 ⟨v, ss, rfl, hk, hrow, hb⟩
  have HK : Hid (KeysG L ss ∧ Below w.heap.size w w1) := ⟨hk, hb⟩
  have CQ : Hid (Calls Tryz.prog 47 #[.pointer (some ⟨g, 0, none⟩), v, .int .i64 p, .int .i64 q] w1 fun e w' => e = .returned (.tuple #[.int .i64 (qfG (cntL L) ss (plG L.length p q)).1, .bool (qfG (cntL L) ss (plG L.length p q)).2]) ∧ w' = w1) := quantile_any g mb L B v ss _ p q w1 (G1.out.go hb) hk hrow HP.out.1 HP.out.2.1 HP.out.2.2.1 HP.out.2.2.2
  clear hk hrow hb
  generalize hz : qfG (cntL L) ss (plG L.length p q) = z at CQ
  obtain ⟨z1, z2⟩ := z
  have HZ : Hid _ := hz
  clear hz
  go_wp2_with fail
  refine Calls.mono CQ.out ?_
  rintro e w2 ⟨rfl, rfl⟩
  go_wp2_with fail
  exact bodyPost_ret (v := .tuple #[.int .i64 z1, .bool z2]) (by simp [results, Tryz.results18, go_sem]) rfl ⟨ss, HK.out.1, by rw [HZ.out], HK.out.2⟩
def mnP (L : List Nat) : Nat := if L.length = 0 then 0 else sumG L / Nat.gcd (sumG L) L.length
def mnQ (L : List Nat) : Nat := if L.length = 0 then 1 else L.length / Nat.gcd (sumG L) L.length
theorem sum_rs {w : World} {g mb : Nat} {L : List Nat} {B : Nat} (h : Gau w g mb L B) : RS (sumG L) ∧ RS L.length := by
  have := sumG_le h.del
  have h1 := h.few
  have h2 : L.length * 9223372036854775807 ≤ 1000 * 9223372036854775807 := Nat.mul_le_mul (by omega) (Nat.le_refl _)
  exact ⟨⟨Nat.lt_of_lt_of_le (show sumG L < P 2 from Nat.lt_of_le_of_lt (Nat.le_trans this h2) (by decide +kernel)) (P_le (by omega))⟩, rs_word (by omega)⟩
theorem mn_rs {w : World} {g mb : Nat} {L : List Nat} {B : Nat} (h : Gau w g mb L B) : RS (mnP L) ∧ RS (mnQ L) := by
  obtain ⟨h1, h2⟩ := sum_rs h
  unfold mnP mnQ
  split
  · exact ⟨rs_few (by omega), rs_few (by omega)⟩
  exact ⟨h1.le (Nat.div_le_self _ _), h2.le (Nat.div_le_self _ _)⟩
theorem gmean_from {w w1 w' : World} {g mb : Nat} {L : List Nat} {B : Nat} (h : Gau w g mb L B) (hb : Below w.heap.size w w1) (hb2 : Below w1.heap.size w1 w') {v u : Value} (hv : IsNat w1 v (sumG L)) (hu : IsNat w' u L.length) (hT : Tab w) : Calls Tryz.prog 51 #[v, u] w' (MakesRB w' (mnP L) (mnQ L) (decide (0 < L.length))) := by
  obtain ⟨h1, h2⟩ := sum_rs h
  by_cases e : L.length = 0
  · have := from_none v u (sumG L) w' (hv.mono hb2) (by rw [← e]; exact hu)
    simpa [mnP, mnQ, e] using this
  have := from_any v u (sumG L) L.length w' (hv.mono hb2) hu h1 h2 (by omega) (hT.go (bel_go hb hb2))
  simpa [mnP, mnQ, e, show 0 < L.length by omega] using this
set_option maxHeartbeats 8000000 in
theorem gmean_any (g mb : Nat) (L : List Nat) (B : Nat) (w : World) (h : Gau w g mb L B) (hT : Tab w) :
    Calls Tryz.prog 28 #[.pointer (some ⟨g, 0, none⟩)] w (MakesRB w (mnP L) (mnQ L) (decide (0 < L.length))) := by
  obtain ⟨a, n, c, hr, hn⟩ := h.row
  obtain ⟨W, hW⟩ : ∃ W, W = w.alloc (.cells #[.slice none 0 0, .slice none 0 0] 47) := ⟨_, rfl⟩
  have B0 : Below w.heap.size w W := by rw [hW]; exact bel_al (bel_refl w)
  have s0 : W.cell? ⟨w.heap.size, 0, none⟩ = some (.slice none 0 0) := by rw [hW]; simp [go_sem]
  have s1 : W.cell? ⟨w.heap.size, 1, none⟩ = some (.slice none 0 0) := by rw [hW]; simp [go_sem]
  have f0 : W.frozen? ⟨w.heap.size, 0, none⟩ = false := by rw [hW]; simp [go_sem]
  have f1 : W.frozen? ⟨w.heap.size, 1, none⟩ = false := by rw [hW]; simp [go_sem]
  have HG : Hid (Gau w g mb L B ∧ Tab w ∧ Below w.heap.size w W) := ⟨h, hT, B0⟩
  have NW : Hid (IsNat W (.agg #[.slice a n c]) (sumG L)) := hn.mono B0
  have RW := hr.of_block (B0.block _ hr.lt)
  have hfew := h.few
  obtain ⟨b, hb⟩ : ∃ b, b = w.heap.size := ⟨_, rfl⟩
  have HB : Hid (w.heap.size ≤ b) := by show _ ≤ _; omega
  rw [← hb] at s0 s1 f0 f1
  have KC : Hid (∀ w', Below W.heap.size W w' → w'.cell? ⟨g, 0, none⟩ = some (.int .i64 (L.length : Int)) ∧ w'.cell? ⟨g, 2, none⟩ = some (.slice a n c) ∧ w'.cell? ⟨b, 0, none⟩ = some (.slice none 0 0) ∧ w'.cell? ⟨b, 1, none⟩ = some (.slice none 0 0) ∧ w'.frozen? ⟨b, 0, none⟩ = false ∧ w'.frozen? ⟨b, 1, none⟩ = false) := fun w' h' => by
    have r := RW.of_block (h'.block _ RW.lt)
    exact ⟨r.cell (i := 0) (by omega), r.cell (i := 2) (by omega), cell_later h' s0, cell_later h' s1, (h'.frozen (World.block_lt_of_cell? _ _ s0)).trans f0, (h'.frozen (World.block_lt_of_cell? _ _ s1)).trans f1⟩
  obtain ⟨k0, k1, _⟩ := KC.out W (Below.refl _ _)
  have CO : Hid (∀ w', Below W.heap.size W w' → Calls Tryz.prog 27 #[.int .u64 (IntKind.u64.wrap (L.length : Int))] w' fun e w9 => ∃ (r : Option Addr) (k j : Nat), e = .returned (.agg #[.slice r k j]) ∧ Hid (IsNat w9 (.agg #[.slice r k j]) L.length ∧ Below W.heap.size W w9)) := fun w' h' => by
    rw [IntKind.wrap_u64, show ((L.length : Int) % 18446744073709551616) = (L.length : Int) by omega]
    refine (of_any L.length w' (by omega)).mono fun e w9 ⟨v, ev, hv, hb⟩ => ?_
    obtain ⟨r, k, j, e1⟩ := hv.isAgg
    subst e1
    exact ⟨r, k, j, ev, hv, bel_go h' hb⟩
  have CF : Hid (∀ (r : Option Addr) (k j : Nat) w', Hid (IsNat w' (.agg #[.slice r k j]) L.length ∧ Below W.heap.size W w') → Calls Tryz.prog 51 #[.agg #[.slice a n c], .agg #[.slice r k j]] w' (MkC W (mnP L) (mnQ L) (decide (0 < L.length)))) := fun r k j w' h' => (gmean_from HG.out.1 HG.out.2.2 h'.out.2 NW.out h'.out.1 HG.out.2.1).mono fun _ _ h => mkc_of h'.out.2 h
  clear h hT hr hn B0 RW
  generalize decide (0 < L.length) = ok at *
  go_enter Tryz.func28, Tryz.ntmps28
  go_upto_region 1 with fail
  rw [← hW, ← hb]
  clear hW hb
  go_region_with (first
    | (go_at_call 27; refine Calls.mono (CO.out _ (show Below _ _ _ from (by with_reducible exact bel_drew (Below.refl _ _)))) ?_; rintro e w6 ⟨r1, i1, j1, rfl, hM⟩; obtain ⟨c0, c1, c2, c3, c4, c5⟩ := KC.out _ hM.out.2)
    | (go_at_call 51; refine Calls.mono (CF.out _ _ _ _ hM) ?_; rintro e w7 ⟨r3, i3, j3, r4, i4, j4, rfl, hA⟩; obtain ⟨d0, d1, d2, d3, d4, d5⟩ := KC.out _ hA.out.2))
  all_goals
    have Z : Hid _ := rat_put (w0 := w) (v := .slice r3 i3 j3) (u := .slice r4 i4 j4) d2 d3 hA.out.1 (bel_go HG.out.2.2 hA.out.2) HB.out
    go_wp2_with fail
    exact bodyPost_ret (v := .tuple #[.agg #[.slice r3 i3 j3, .slice r4 i4 j4], .bool ok]) (by simp [results, Tryz.results28, go_sem, d2, d3]) rfl ⟨_, rfl, Z.out.1, Z.out.2⟩
theorem qfG_mem (c : Int → Nat) : ∀ (ss : List Int) (pl : Int), (qfG c ss pl).1 = 0 ∨ (qfG c ss pl).1 ∈ ss
  | [], _ => .inl rfl
  | d :: r, pl => by
    rw [qfG_cons]
    split
    · exact .inr (List.mem_cons_self ..)
    rcases qfG_mem c r (pl - (c d : Int)) with e | e
    · exact .inl e
    exact .inr (List.mem_cons_of_mem _ e)
theorem qfG_nat {w : World} {g mb : Nat} {L : List Nat} {B : Nat} (h : Gau w g mb L B) {ss : List Int} (hk : KeysG L ss) (pl : Int) : ∃ k : Nat, (qfG (cntL L) ss pl).1 = (k : Int) ∧ k ≤ 9223372036854775807 := by
  rcases qfG_mem (cntL L) ss pl with e | e
  · exact ⟨0, by rw [e]; rfl, by omega⟩
  obtain ⟨d, hd, e2⟩ := cntL_pos.1 ((hk.mem _).1 e)
  exact ⟨d, e2.symm, h.del d hd⟩
def shP (B : Nat) (z : Int) : Nat := if z < 1 then 0 else B / Nat.gcd B z.toNat
def shQ (B : Nat) (z : Int) : Nat := if z < 1 then 1 else z.toNat / Nat.gcd B z.toNat
theorem sh_of (B : Nat) (z : Int) (hB : B ≤ 9223372036854775807) (hz : z ≤ 9223372036854775807) : RS (shP B z) ∧ RS (shQ B z) ∧ ∀ w, Tab w → ∃ ok, Calls Tryz.prog 20 #[.int .i64 (B : Int), .int .i64 z] w (MakesRB w (shP B z) (shQ B z) ok) := by
  unfold shP shQ
  by_cases h : z < 1
  · rw [if_pos h, if_pos h]
    exact ⟨rs_few (by omega), rs_few (by omega), fun w _ => ⟨false, ratOf_no B z w (.inr h)⟩⟩
  rw [if_neg h, if_neg h]
  obtain ⟨n, rfl⟩ : ∃ n : Nat, z = (n : Int) := ⟨z.toNat, by omega⟩
  rw [Int.toNat_natCast]
  exact ⟨(rs_word (x := B) (by omega)).le (Nat.div_le_self _ _), (rs_word (x := n) (by omega)).le (Nat.div_le_self _ _), fun w hT => ⟨true, ratOf_yes B n w hB (by omega) (by omega) hT⟩⟩
def Sto6 (R : Nat) (w : World) (v : Value) (w' : World) : Prop := ∃ u0 u1 u2 u3 u4 u5, v = .agg #[u0, u1, u2, u3, u4, u5] ∧ w' = (((((w.setCell ⟨R, 0, none⟩ u0).setCell ⟨R, 1, none⟩ u1).setCell ⟨R, 2, none⟩ u2).setCell ⟨R, 3, none⟩ u3).setCell ⟨R, 4, none⟩ u4).setCell ⟨R, 5, none⟩ u5
def telV (L : List Nat) (B : Nat) (z : Int) (k1 k2 k3 x y : Nat) : Value := .agg #[.float .f64 (tfV (mnP L) (mnQ L)), .float .f64 (tfV k1 1), .float .f64 (tfV k2 1), .float .f64 (tfV k3 1), .float .f64 (tfV (shP B z) (shQ B z)), .float .f64 (tfV x y)]
theorem frz_go {w w' : World} {b i : Nat} {v : Value} (hb : Below w.heap.size w w') (hc : w.cell? ⟨b, 0, none⟩ = some v) (h : w.frozen? ⟨b, i, none⟩ = false) : w'.frozen? ⟨b, i, none⟩ = false :=
  (hb.frozen (show b < w.heap.size from World.block_lt_of_cell? w ⟨b, 0, none⟩ hc)).trans h
theorem rowI_below {W W' : World} {base n : Nat} {e : TypeId} {v : Value} {xs : List Value} (h : W.ownsRow base e 1 v n xs) (hb : Below W.heap.size W W') : W'.ownsRow base e 1 v n xs := by
  refine ⟨h.1, h.2.imp id ?_⟩
  rintro ⟨g, cap, cur, e, hb', hg, rest⟩
  exact ⟨g, cap, cur, e, hb', (hb.block g (Array.getElem?_eq_some_iff.1 hg).1).trans hg, rest⟩
theorem SX.subG {w0 w : World} {N M : List (Value × Nat)} {F G : List (Value × Nat × Nat)} {C : List (Nat × Nat × Value)} (h : SX w0 w N M F G C) (F' : List (Value × Nat × Nat)) (C' : List (Nat × Nat × Value)) (h1 : ∀ p ∈ F', p ∈ F) (h2 : ∀ p ∈ C', p ∈ C) : SX w0 w N M F' G C' :=
  ⟨h.nats, h.rnats, fun p hp => h.frs p (h1 p hp), h.rfrs, fun p hp => h.cells p (h2 p hp), h.bel⟩
theorem run_store_floatG {P : Program} {w : World} {a : Addr} {m : Mode} (k : FloatKind) (n : Nat) : (store a (.float k n) m).run P w = stored P w a (.float k n) m := run_store P w a _ m rfl
theorem box_put {w : World} {g : Nat} {a a' : Option Addr} {n c n' c' : Nat} {u1 u2 : Value} (h0 : w.cell? ⟨g, 0, none⟩ = some u1) (h1 : w.cell? ⟨g, 1, none⟩ = some u2) : ((w.setCell ⟨g, 0, none⟩ (.slice a n c)).setCell ⟨g, 1, none⟩ (.slice a' n' c')).cell? ⟨g, 0, none⟩ = some (.slice a n c) ∧ ((w.setCell ⟨g, 0, none⟩ (.slice a n c)).setCell ⟨g, 1, none⟩ (.slice a' n' c')).cell? ⟨g, 1, none⟩ = some (.slice a' n' c') := by
  have hd : (w.setCell ⟨g, 0, none⟩ (.slice a n c)).cell? ⟨g, 1, none⟩ = some u2 := by rw [World.cell?_setCell_other (h := by simp), h1]
  constructor
  · rw [World.cell?_setCell_other (h := by simp)]
    simp [go_sem, h0]
  simp [go_sem, hd]
theorem SX.putG {w0 w : World} {N M : List (Value × Nat)} {F G : List (Value × Nat × Nat)} {C : List (Nat × Nat × Value)} (h : SX w0 w N M F G C) {b : Nat} {a a' r r' : Option Addr} {n c n' c' k j k' j' p q : Nat} (c0 : w.cell? ⟨b, 0, none⟩ = some (.slice r k j)) (c1 : w.cell? ⟨b, 1, none⟩ = some (.slice r' k' j')) (hlo : w0.heap.size ≤ b) (hv : Rt w (.agg #[.slice a n c, .slice a' n' c']) p q) (C' : List (Nat × Nat × Value)) (hC : ∀ p ∈ C', p ∈ C ∧ p.1 ≠ b) :
    SX w0 ((w.setCell ⟨b, 0, none⟩ (.slice a n c)).setCell ⟨b, 1, none⟩ (.slice a' n' c')) N M ((.agg #[.slice a n c, .slice a' n' c'], p, q) :: F) G ((b, 0, .slice a n c) :: (b, 1, .slice a' n' c') :: C') := by
  have hd : (w.setCell ⟨b, 0, none⟩ (.slice a n c)).cell? ⟨b, 1, none⟩ = some (.slice r' k' j') := by rw [World.cell?_setCell_other (h := by simp), c1]
  have h1 := (h.addF hv).set c0 hlo C' hC (.slice a n c)
  have h2 := h1.set hd hlo C' (fun p hp => ⟨hp, (hC p hp).2⟩) (.slice a' n' c')
  obtain ⟨g0, g1⟩ := box_put (a := a) (n := n) (c := c) (a' := a') (n' := n') (c' := c') c0 c1
  exact (h2.addC g1).addC g0
set_option maxHeartbeats 16000000 in
theorem gtell_any (Res : Nat → Nat → Bool → Prop) (hRes : ∀ x y ok, Res x y ok → RS x ∧ RS y) (g mb : Nat) (L : List Nat) (B : Nat) (z : Int) (sh : Value) (w : World) (h : Gau w g mb L B) (hT : Tab w) (hz : z ≤ 9223372036854775807) (HJ : ∀ w', Below w.heap.size w w' → Calls Tryz.prog 13 #[sh] w' fun e w9 => ∃ x y ok, Res x y ok ∧ MakesRB w' x y ok e w9) :
    Calls Tryz.prog 19 #[.pointer (some ⟨g, 0, none⟩), .int .i64 z, sh] w fun e w' => ∃ (ss : List Int) (k1 k2 k3 x y : Nat) (ok : Bool), KeysG L ss ∧ (qfG (cntL L) ss (plG L.length 1 1)).1 = (k1 : Int) ∧ (qfG (cntL L) ss (plG L.length 1 2)).1 = (k2 : Int) ∧ (qfG (cntL L) ss (plG L.length 99 100)).1 = (k3 : Int) ∧ Res x y ok ∧ e = .returned (telV L B z k1 k2 k3 (if ok = true then x else 1) (if ok = true then y else 1)) ∧ Below w.heap.size w w' := by
  obtain ⟨w0, hw0⟩ : ∃ w0, w0 = w.alloc (.cells #[.float .f64 0, .float .f64 0, .float .f64 0, .float .f64 0, .float .f64 0, .float .f64 0] 64) := ⟨_, rfl⟩
  obtain ⟨b6, hb6⟩ : ∃ b6, b6 = w.heap.size := ⟨_, rfl⟩
  have B0 : Below w.heap.size w w0 := by rw [hw0]; exact bel_al (bel_refl w)
  have e0 : w0.cell? ⟨b6, 0, none⟩ = some (.float .f64 0) := by rw [hw0, hb6]; simp [go_sem]
  have e1 : w0.cell? ⟨b6, 1, none⟩ = some (.float .f64 0) := by rw [hw0, hb6]; simp [go_sem]
  have e2 : w0.cell? ⟨b6, 2, none⟩ = some (.float .f64 0) := by rw [hw0, hb6]; simp [go_sem]
  have e3 : w0.cell? ⟨b6, 3, none⟩ = some (.float .f64 0) := by rw [hw0, hb6]; simp [go_sem]
  have e4 : w0.cell? ⟨b6, 4, none⟩ = some (.float .f64 0) := by rw [hw0, hb6]; simp [go_sem]
  have e5 : w0.cell? ⟨b6, 5, none⟩ = some (.float .f64 0) := by rw [hw0, hb6]; simp [go_sem]
  have F6 : Hid (∀ i, w0.frozen? ⟨b6, i, none⟩ = false) := fun i => by rw [hw0, hb6]; simp [go_sem]
  have S0 : Hid (SX w w0 [] [] [] [] [(b6, 0, .float .f64 0), (b6, 1, .float .f64 0), (b6, 2, .float .f64 0), (b6, 3, .float .f64 0), (b6, 4, .float .f64 0), (b6, 5, .float .f64 0)]) := by
    refine ⟨(fun _ h => by cases h), (fun _ h => by cases h), (fun _ h => by cases h), (fun _ h => by cases h), fun p hp => ?_, B0⟩
    simp only [List.mem_cons, List.not_mem_nil, or_false] at hp
    rcases hp with rfl | rfl | rfl | rfl | rfl | rfl
    · exact e0
    · exact e1
    · exact e2
    · exact e3
    · exact e4
    exact e5
  have GA : Hid (Gau w g mb L B ∧ Tab w ∧ z ≤ 9223372036854775807 ∧ w.heap.size ≤ b6 ∧ B ≤ 9223372036854775807) := ⟨h, hT, hz, by omega, by have := h.byt; have := h.few; omega⟩
  have JC : Hid (∀ w', Below w.heap.size w w' → Calls Tryz.prog 13 #[sh] w' fun e w9 => ∃ x y ok, Res x y ok ∧ MakesRB w' x y ok e w9) := HJ
  have HRS : Hid (∀ x y ok, Res x y ok → RS x ∧ RS y) := hRes
  clear h hT hz HJ hRes e0 e1 e2 e3 e4 e5 B0
  go_enter Tryz.func19, Tryz.ntmps19
  go_upto_region 1 with fail
  rw [← hw0, ← hb6]
  clear hw0 hb6
  go_upto_region 2 with (go_at_call 48; refine Calls.mono (ranked_any g mb L B _ (GA.out.1.go S0.out.bel)) ?_; rintro e w1 ⟨v1, ss, rfl, hk, hrow, hb1⟩)
  have HK : Hid (KeysG L ss) := hk
  have S1 : Hid _ := S0.out.go hb1
  have F1 : Hid (∀ i, i < 6 → w1.frozen? ⟨b6, i, none⟩ = false) := fun i hi => frz_go hb1 (S0.out.cel b6 0 (.float .f64 0)) (F6.out i)
  have HRW : Hid (w1.ownsRow w0.heap.size 3 1 v1 ss.length (ss.map encZ)) := hrow
  clear hk hrow hb1 S0 F6
  have CME : Hid (Calls Tryz.prog 28 #[.pointer (some ⟨g, 0, none⟩)] w1 (MakesRB w1 (mnP L) (mnQ L) (decide (0 < L.length)))) := gmean_any g mb L B w1 (GA.out.1.go S1.out.bel) (GA.out.2.1.go S1.out.bel)
  obtain ⟨okm, hokm⟩ : ∃ okm, okm = decide (0 < L.length) := ⟨_, rfl⟩
  rw [← hokm] at CME
  clear hokm
  go_upto_region 3 with (go_at_call 28; refine Calls.mono CME.out ?_; rintro e w2 ⟨v2, rfl, hv2, hb2⟩; obtain ⟨p1, n1, c1, p2, n2, c2, rfl⟩ := rt_slices hv2)
  have bl2 := bel_al (o := .cells #[.slice p1 n1 c1, .slice p2 n2 c2] 47) (bel_refl w2)
  have S2 : Hid _ := ((S1.out.go hb2).addF hv2).box (.slice p1 n1 c1) (.slice p2 n2 c2) 47 _ rfl
  obtain ⟨w3, hw3⟩ : ∃ w3, w3 = w2.alloc (.cells #[.slice p1 n1 c1, .slice p2 n2 c2] 47) := ⟨_, rfl⟩
  obtain ⟨b8, hb8⟩ : ∃ b8, b8 = w2.heap.size := ⟨_, rfl⟩
  rw [← hw3, ← hb8] at S2
  rw [← hw3] at bl2
  have hb13 := bel_go hb2 bl2
  have F3 : Hid (∀ i, i < 6 → w3.frozen? ⟨b6, i, none⟩ = false) := fun i hi => frz_go hb13 (S1.out.cel b6 0 (.float .f64 0)) (F1.out i hi)
  have HRW3 : Hid (w3.ownsRow w0.heap.size 3 1 v1 ss.length (ss.map encZ)) := rowI_below HRW.out hb13
  rw [← hw3, ← hb8]
  clear hw3 hb8 bl2 hb2 hv2 hb13 S1 F1 HRW CME
  have G3 : Hid (Gau w3 g mb L B) := GA.out.1.go S2.out.bel
  obtain ⟨k1, hk1, hl1⟩ := qfG_nat GA.out.1 HK.out (plG L.length 1 1)
  obtain ⟨k2, hk2, hl2⟩ := qfG_nat GA.out.1 HK.out (plG L.length 1 2)
  obtain ⟨k3, hk3, hl3⟩ := qfG_nat GA.out.1 HK.out (plG L.length 99 100)
  obtain ⟨z1, hz1⟩ : ∃ z1, z1 = (qfG (cntL L) ss (plG L.length 1 1)).2 := ⟨_, rfl⟩
  obtain ⟨z2, hz2⟩ : ∃ z2, z2 = (qfG (cntL L) ss (plG L.length 1 2)).2 := ⟨_, rfl⟩
  obtain ⟨z3, hz3⟩ : ∃ z3, z3 = (qfG (cntL L) ss (plG L.length 99 100)).2 := ⟨_, rfl⟩
  have CQ1 : Hid (Calls Tryz.prog 47 #[.pointer (some ⟨g, 0, none⟩), v1, .int .i64 1, .int .i64 1] w3 fun e w' => e = .returned (.tuple #[.int .i64 (k1 : Int), .bool z1]) ∧ w' = w3) := by
    rw [hz1, ← hk1]; exact quantile_any g mb L B v1 ss _ 1 1 w3 G3.out HK.out HRW3.out (by omega) (by omega) (by omega) (by omega)
  have CQ2 : Hid (Calls Tryz.prog 47 #[.pointer (some ⟨g, 0, none⟩), v1, .int .i64 1, .int .i64 2] w3 fun e w' => e = .returned (.tuple #[.int .i64 (k2 : Int), .bool z2]) ∧ w' = w3) := by
    rw [hz2, ← hk2]; exact quantile_any g mb L B v1 ss _ 1 2 w3 G3.out HK.out HRW3.out (by omega) (by omega) (by omega) (by omega)
  have CQ3 : Hid (Calls Tryz.prog 47 #[.pointer (some ⟨g, 0, none⟩), v1, .int .i64 99, .int .i64 100] w3 fun e w' => e = .returned (.tuple #[.int .i64 (k3 : Int), .bool z3]) ∧ w' = w3) := by
    rw [hz3, ← hk3]; exact quantile_any g mb L B v1 ss _ 99 100 w3 G3.out HK.out HRW3.out (by omega) (by omega) (by omega) (by omega)
  have KK : Hid (k1 ≤ 9223372036854775807 ∧ k2 ≤ 9223372036854775807 ∧ k3 ≤ 9223372036854775807 ∧ (qfG (cntL L) ss (plG L.length 1 1)).1 = (k1 : Int) ∧ (qfG (cntL L) ss (plG L.length 1 2)).1 = (k2 : Int) ∧ (qfG (cntL L) ss (plG L.length 99 100)).1 = (k3 : Int)) := ⟨hl1, hl2, hl3, hk1, hk2, hk3⟩
  clear hk1 hk2 hk3 hl1 hl2 hl3 hz1 hz2 hz3
  obtain ⟨hs1, hs2, hs3⟩ := sh_of B z GA.out.2.2.2.2 GA.out.2.2.1
  obtain ⟨oks, cO⟩ := hs3 w3 (GA.out.2.1.go S2.out.bel)
  have CO : Hid (Calls Tryz.prog 20 #[.int .i64 (B : Int), .int .i64 z] w3 (MakesRB w3 (shP B z) (shQ B z) oks)) := cO
  have HS : Hid (RS (shP B z) ∧ RS (shQ B z) ∧ RS (mnP L) ∧ RS (mnQ L)) := ⟨hs1, hs2, (mn_rs GA.out.1).1, (mn_rs GA.out.1).2⟩
  clear hs1 hs2 hs3 cO
  have c1g : w3.cell? ⟨g, 1, none⟩ = some (.int .i64 (B : Int)) := by
    obtain ⟨a, n, c, hr, _⟩ := G3.out.row
    exact hr.cell (i := 1) (by omega)
  go_upto_region 7 with (first
    | (go_at_call 47; with_reducible refine Calls.mono CQ1.out ?_; rintro e wq ⟨rfl, rfl⟩)
    | (go_at_call 47; with_reducible refine Calls.mono CQ2.out ?_; rintro e wq ⟨rfl, rfl⟩)
    | (go_at_call 47; with_reducible refine Calls.mono CQ3.out ?_; rintro e wq ⟨rfl, rfl⟩)
    | (go_at_call 20; refine Calls.mono CO.out ?_; rintro e w4 ⟨v4, rfl, hv4, hb4⟩; obtain ⟨p3, n3, c3, p4, n4, c4, rfl⟩ := rt_slices hv4))
  have bl4 := bel_al (o := .cells #[.slice p3 n3 c3, .slice p4 n4 c4] 47) (bel_refl w4)
  have S4 : Hid _ := ((S2.out.go hb4).addF hv4).box (.slice p3 n3 c3) (.slice p4 n4 c4) 47 _ rfl
  obtain ⟨w5, hw5⟩ : ∃ w5, w5 = w4.alloc (.cells #[.slice p3 n3 c3, .slice p4 n4 c4] 47) := ⟨_, rfl⟩
  obtain ⟨b16, hb16⟩ : ∃ b16, b16 = w4.heap.size := ⟨_, rfl⟩
  rw [← hw5, ← hb16] at S4
  rw [← hw5] at bl4
  have F5 : Hid (∀ i, i < 6 → w5.frozen? ⟨b6, i, none⟩ = false) := fun i hi => frz_go (bel_go hb4 bl4) (S2.out.cel b6 0 (.float .f64 0)) (F3.out i hi)
  rw [← hw5, ← hb16]
  clear hw5 hb16 bl4 hb4 hv4 S2 F3 HRW3 CQ1 CQ2 CQ3 CO G3 c1g
  have CJ : Hid (Calls Tryz.prog 13 #[sh] w5 fun e w9 => ∃ x y ok, Res x y ok ∧ MakesRB w5 x y ok e w9) := JC.out w5 S4.out.bel
  go_upto_region 8 with (go_at_call 13; (with_reducible refine Calls.mono CJ.out ?_); rintro e w6 ⟨x, y, ok, hres, v6, rfl, hv6, hb6'⟩; obtain ⟨p5, n5, c5, p6, n6, c6, rfl⟩ := rt_slices hv6)
  have bl6 := bel_al (o := .cells #[.slice p5 n5 c5, .slice p6 n6 c6] 47) (bel_refl w6)
  have S6 : Hid _ := ((S4.out.go hb6').addF hv6).box (.slice p5 n5 c5) (.slice p6 n6 c6) 47 _ rfl
  obtain ⟨w7, hw7⟩ : ∃ w7, w7 = w6.alloc (.cells #[.slice p5 n5 c5, .slice p6 n6 c6] 47) := ⟨_, rfl⟩
  obtain ⟨b18, hb18⟩ : ∃ b18, b18 = w6.heap.size := ⟨_, rfl⟩
  have HLT : Hid (b6 < b18 ∧ b8 < b18 ∧ b16 < b18 ∧ w.heap.size ≤ b18) := by
    have S5 := S4.out.go hb6'
    exact ⟨by rw [hb18]; exact World.block_lt_of_cell? _ ⟨b6, 0, none⟩ (S5.cel b6 0 (.float .f64 0)), by rw [hb18]; exact World.block_lt_of_cell? _ ⟨b8, 0, none⟩ (S5.cel b8 0 (.slice p1 n1 c1)), by rw [hb18]; exact World.block_lt_of_cell? _ ⟨b16, 0, none⟩ (S5.cel b16 0 (.slice p3 n3 c3)), by rw [hb18]; exact S5.bel.size⟩
  have fz0 : w7.frozen? ⟨b18, 0, none⟩ = false := by rw [hw7, hb18]; simp [go_sem]
  have fz1 : w7.frozen? ⟨b18, 1, none⟩ = false := by rw [hw7, hb18]; simp [go_sem]
  rw [← hw7, ← hb18] at S6
  rw [← hw7] at bl6
  have F7 : Hid (∀ i, i < 6 → w7.frozen? ⟨b6, i, none⟩ = false) := fun i hi => frz_go (bel_go hb6' bl6) (S4.out.cel b6 0 (.float .f64 0)) (F5.out i hi)
  rw [← hw7, ← hb18]
  have HRES : Hid (Res x y ok) := hres
  clear hw7 hb18 bl6 hb6' hv6 S4 F5 CJ JC hres
  have y0 := S6.out.cel b18 0 (.slice p5 n5 c5)
  have y1 := S6.out.cel b18 1 (.slice p6 n6 c6)
  have CW : Hid (Calls Tryz.prog 49 #[.int .i64 1] w7 (MakesR w7 1 1)) := gwhole_any 1 w7 (by omega) (GA.out.2.1.go S6.out.bel)
  go_upto_if 61 with fail
  go_cut [18] from 62 to 62 (fun s18 wx => s18 = .pointer (some ⟨b18, 0, none⟩) ∧ ∃ (p5 : Option Addr) (n5 c5 : Nat) (p6 : Option Addr) (n6 c6 : Nat), Hid (SX w wx [] [] [(.agg #[.slice p5 n5 c5, .slice p6 n6 c6], if ok = true then x else 1, if ok = true then y else 1), (.agg #[.slice p3 n3 c3, .slice p4 n4 c4], shP B z, shQ B z), (.agg #[.slice p1 n1 c1, .slice p2 n2 c2], mnP L, mnQ L)] [] [(b18, 0, .slice p5 n5 c5), (b18, 1, .slice p6 n6 c6), (b16, 0, .slice p3 n3 c3), (b16, 1, .slice p4 n4 c4), (b8, 0, .slice p1 n1 c1), (b8, 1, .slice p2 n2 c2), (b6, 0, .float .f64 0), (b6, 1, .float .f64 0), (b6, 2, .float .f64 0), (b6, 3, .float .f64 0), (b6, 4, .float .f64 0), (b6, 5, .float .f64 0)] ∧ ∀ i, i < 6 → wx.frozen? ⟨b6, i, none⟩ = false))
  case first =>
    cases ok with
    | true =>
      go_wp2_with fail
      go_meet
      exact ⟨rfl, p5, n5, c5, p6, n6, c6, S6.out.subG _ _ (by simp) (by simp), F7.out⟩
    | false =>
      go_wp2_with fail
      with_reducible refine Calls.mono CW.out ?_
      rintro e w8 ⟨v8, rfl, hv8, hb8⟩
      obtain ⟨p7, n7, c7, p8, n8, c8, rfl⟩ := rt_slices hv8
      have S8 : Hid _ := S6.out.go hb8
      have x0 := S8.out.cel b18 0 (.slice p5 n5 c5)
      have x1 := S8.out.cel b18 1 (.slice p6 n6 c6)
      have gz0 := frz_go hb8 y0 fz0
      have gz1 := frz_go hb8 y0 fz1
      have F8 : Hid (∀ i, i < 6 → w8.frozen? ⟨b6, i, none⟩ = false) := fun i hi => frz_go hb8 (S6.out.cel b6 0 (.float .f64 0)) (F7.out i hi)
      have S9 : Hid _ := S8.out.putG x0 x1 HLT.out.2.2.2 hv8 [(b16, 0, .slice p3 n3 c3), (b16, 1, .slice p4 n4 c4), (b8, 0, .slice p1 n1 c1), (b8, 1, .slice p2 n2 c2), (b6, 0, .float .f64 0), (b6, 1, .float .f64 0), (b6, 2, .float .f64 0), (b6, 3, .float .f64 0), (b6, 4, .float .f64 0), (b6, 5, .float .f64 0)] (by have := HLT.out; simp; omega)
      clear hv8 hb8 S6 F7 CW
      go_wp2_with fail
      go_meet
      exact ⟨rfl, p7, n7, c7, p8, n8, c8, S9.out.subG _ _ (by simp) (by simp), fun i hi => by simpa [World.frozen?_setCell] using F8.out i hi⟩
  case rest =>
    obtain ⟨rfl, p5, n5, c5, p6, n6, c6, hcu⟩ := hcut
    have SC : Hid _ := hcu.out.1
    have FC : Hid (∀ i, i < 6 → wc.frozen? ⟨b6, i, none⟩ = false) := hcu.out.2
    clear hcu y0 y1 fz0 fz1 S6 F7 CW
    obtain ⟨xf, hxf⟩ : ∃ xf, xf = if ok = true then x else 1 := ⟨_, rfl⟩
    obtain ⟨yf, hyf⟩ : ∃ yf, yf = if ok = true then y else 1 := ⟨_, rfl⟩
    obtain ⟨um, hum⟩ : ∃ um, um = mnP L := ⟨_, rfl⟩
    obtain ⟨uq, huq⟩ : ∃ uq, uq = mnQ L := ⟨_, rfl⟩
    obtain ⟨us, hus⟩ : ∃ us, us = shP B z := ⟨_, rfl⟩
    obtain ⟨ut, hut⟩ : ∃ ut, ut = shQ B z := ⟨_, rfl⟩
    rw [← hxf, ← hyf, ← hum, ← huq, ← hus, ← hut] at SC
    rw [← hum, ← huq, ← hus, ← hut] at HS
    have HXY : Hid (RS xf ∧ RS yf) := by
      rw [hxf, hyf]
      obtain ⟨r1, r2⟩ := HRS.out x y ok HRES.out
      cases ok with
      | true => exact ⟨r1, r2⟩
      | false => exact ⟨rs_few (by simp), rs_few (by simp)⟩
    have HE : Hid ((if ok = true then x else 1) = xf ∧ (if ok = true then y else 1) = yf ∧ mnP L = um ∧ mnQ L = uq ∧ shP B z = us ∧ shQ B z = ut) := ⟨hxf.symm, hyf.symm, hum.symm, huq.symm, hus.symm, hut.symm⟩
    clear hxf hyf HRS hum huq hus hut
    have R1 : Hid (RS 1) := rs_few (by omega)
    have RK : Hid (RS k1 ∧ RS k2 ∧ RS k3) := ⟨rs_word (by have := KK.out.1; omega), rs_word (by have := KK.out.2.1; omega), rs_word (by have := KK.out.2.2.1; omega)⟩
    have e0 := SC.out.cel b6 0 (.float .f64 0)
    have f0 := FC.out 0 (by omega)
    have e1 := SC.out.cel b6 1 (.float .f64 0)
    have f1 := FC.out 1 (by omega)
    have e2 := SC.out.cel b6 2 (.float .f64 0)
    have f2 := FC.out 2 (by omega)
    have e3 := SC.out.cel b6 3 (.float .f64 0)
    have f3 := FC.out 3 (by omega)
    have e4 := SC.out.cel b6 4 (.float .f64 0)
    have f4 := FC.out 4 (by omega)
    have e5 := SC.out.cel b6 5 (.float .f64 0)
    have f5 := FC.out 5 (by omega)
    go_wp2_with fail
    refine wp_region_inv (JD wc [sRt (um) (uq), sEq (.float .f64 (tfV (um) (uq))), sEq (.int .i64 (k1 : Int)), sRt (k1) (1), sEq (.float .f64 (tfV (k1) (1))), sEq (.int .i64 (k2 : Int)), sRt (k2) (1), sEq (.float .f64 (tfV (k2) (1))), sEq (.int .i64 (k3 : Int)), sRt (k3) (1), sEq (.float .f64 (tfV (k3) (1))), sRt (us) (ut), sEq (.float .f64 (tfV (us) (ut))), sRt (xf) (yf), sEq (.float .f64 (tfV (xf) (yf))), sEq (.agg #[(.float .f64 (tfV (um) (uq))), (.float .f64 (tfV (k1) (1))), (.float .f64 (tfV (k2) (1))), (.float .f64 (tfV (k3) (1))), (.float .f64 (tfV (us) (ut))), (.float .f64 (tfV (xf) (yf)))]), sAny] [[], [0], [], [2], [3], [], [5], [6], [], [8], [9], [], [11], [], [13], [1, 4, 7, 10, 12, 14], [15]] 16 15 [0, 1, 2, 3, 4, 5, 6, 7, 8, 9, 10, 11, 12, 13, 14, 15] (Sto6 (b6))) 79 (by kernel_rfl) rfl (by kernel_rfl) (JD.start _ _ _ _ _ _ _) (fun HG HN => ⟨?_, ?_, ?_, ?_, ?_, ?_, ?_, ?_, ?_, ?_, ?_, ?_, ?_, ?_, ?_, ?_, ?_, trivial⟩) ?_
    · intro L vs a w' hJ hF hP hL
      have hK := hJ
      have hJ := hK.open hL (by decide)
      have q8 : (a.tmps[8]?).getD undef = .pointer (some ⟨b8, 0, none⟩) := hF.old 8 rfl
      have cb := cell_later hJ.bel (SC.out.cel (b8) 0 (.slice p1 n1 c1))
      have cc := cell_later hJ.bel (SC.out.cel (b8) 1 (.slice p2 n2 c2))
      exact run_val (v := .agg #[.slice p1 n1 c1, .slice p2 n2 c2]) rfl (by simp [execOp, go_sem, q8, cb, cc]) ⟨_, rfl, hK.step hL (by decide) (by decide) rfl (nd_nil) <| hJ.step hL rfl (Below.refl _ _) (by exact ((SC.out.fr (.agg #[.slice p1 n1 c1, .slice p2 n2 c2]) (um) (uq)).mono hJ.bel))⟩
    · intro L vs a w' hJ hF hP hL
      have hK := hJ
      have hJ := hK.open hL (by decide)
      have p0 : L 0 = true := hP ⟨0, .data⟩ (by simp) rfl
      have s0 : Rt w' (vs 0) (um) (uq) := hJ.sp 0 p0
      have q63 := hF.slot 0 63 rfl p0
      refine run_call (f := 50) (args := #[vs 0]) rfl (by simp [go_sem, q63]) (near_any _ (um) (uq) _ s0 HS.out.2.2.1 HS.out.2.2.2) ?_
      rintro e w2 ⟨rfl, hb⟩
      exact ⟨_, rfl, _, rfl, hK.step hL (by decide) (by decide) rfl (nd_cons p0 (nd_nil)) <| hJ.step hL rfl hb (by exact rfl)⟩
    · intro L vs a w' hJ hF hP hL
      have hK := hJ
      have hJ := hK.open hL (by decide)
      have q10 : (a.tmps[10]?).getD undef = .int .i64 (k1 : Int) := hF.old 10 rfl
      exact run_val (v := .int .i64 (k1 : Int)) rfl (by simp [execOp, go_sem, q10]) ⟨_, rfl, hK.step hL (by decide) (by decide) rfl (nd_nil) <| hJ.step hL rfl (Below.refl _ _) (by exact rfl)⟩
    · intro L vs a w' hJ hF hP hL
      have hK := hJ
      have hJ := hK.open hL (by decide)
      have p2 : L 2 = true := hP ⟨2, .data⟩ (by simp) rfl
      have s2 : vs 2 = .int .i64 (k1 : Int) := hJ.sp 2 p2
      have q65 := hF.slot 2 65 rfl p2
      refine run_call (f := 49) (args := #[.int .i64 (k1 : Int)]) rfl (by simp [go_sem, q65, s2]) (gwhole_any k1 _ KK.out.1 (GA.out.2.1.go (bel_go SC.out.bel hJ.bel))) ?_
      rintro e w2 ⟨v, rfl, hv, hb⟩
      exact ⟨_, rfl, _, rfl, hK.step hL (by decide) (by decide) rfl (nd_cons p2 (nd_nil)) <| hJ.step hL rfl hb (by exact hv)⟩
    · intro L vs a w' hJ hF hP hL
      have hK := hJ
      have hJ := hK.open hL (by decide)
      have p3 : L 3 = true := hP ⟨3, .data⟩ (by simp) rfl
      have s3 : Rt w' (vs 3) (k1) (1) := hJ.sp 3 p3
      have q66 := hF.slot 3 66 rfl p3
      refine run_call (f := 50) (args := #[vs 3]) rfl (by simp [go_sem, q66]) (near_any _ (k1) (1) _ s3 RK.out.1 R1.out) ?_
      rintro e w2 ⟨rfl, hb⟩
      exact ⟨_, rfl, _, rfl, hK.step hL (by decide) (by decide) rfl (nd_cons p3 (nd_nil)) <| hJ.step hL rfl hb (by exact rfl)⟩
    · intro L vs a w' hJ hF hP hL
      have hK := hJ
      have hJ := hK.open hL (by decide)
      have q12 : (a.tmps[12]?).getD undef = .int .i64 (k2 : Int) := hF.old 12 rfl
      exact run_val (v := .int .i64 (k2 : Int)) rfl (by simp [execOp, go_sem, q12]) ⟨_, rfl, hK.step hL (by decide) (by decide) rfl (nd_nil) <| hJ.step hL rfl (Below.refl _ _) (by exact rfl)⟩
    · intro L vs a w' hJ hF hP hL
      have hK := hJ
      have hJ := hK.open hL (by decide)
      have p5 : L 5 = true := hP ⟨5, .data⟩ (by simp) rfl
      have s5 : vs 5 = .int .i64 (k2 : Int) := hJ.sp 5 p5
      have q68 := hF.slot 5 68 rfl p5
      refine run_call (f := 49) (args := #[.int .i64 (k2 : Int)]) rfl (by simp [go_sem, q68, s5]) (gwhole_any k2 _ KK.out.2.1 (GA.out.2.1.go (bel_go SC.out.bel hJ.bel))) ?_
      rintro e w2 ⟨v, rfl, hv, hb⟩
      exact ⟨_, rfl, _, rfl, hK.step hL (by decide) (by decide) rfl (nd_cons p5 (nd_nil)) <| hJ.step hL rfl hb (by exact hv)⟩
    · intro L vs a w' hJ hF hP hL
      have hK := hJ
      have hJ := hK.open hL (by decide)
      have p6 : L 6 = true := hP ⟨6, .data⟩ (by simp) rfl
      have s6 : Rt w' (vs 6) (k2) (1) := hJ.sp 6 p6
      have q69 := hF.slot 6 69 rfl p6
      refine run_call (f := 50) (args := #[vs 6]) rfl (by simp [go_sem, q69]) (near_any _ (k2) (1) _ s6 RK.out.2.1 R1.out) ?_
      rintro e w2 ⟨rfl, hb⟩
      exact ⟨_, rfl, _, rfl, hK.step hL (by decide) (by decide) rfl (nd_cons p6 (nd_nil)) <| hJ.step hL rfl hb (by exact rfl)⟩
    · intro L vs a w' hJ hF hP hL
      have hK := hJ
      have hJ := hK.open hL (by decide)
      have q14 : (a.tmps[14]?).getD undef = .int .i64 (k3 : Int) := hF.old 14 rfl
      exact run_val (v := .int .i64 (k3 : Int)) rfl (by simp [execOp, go_sem, q14]) ⟨_, rfl, hK.step hL (by decide) (by decide) rfl (nd_nil) <| hJ.step hL rfl (Below.refl _ _) (by exact rfl)⟩
    · intro L vs a w' hJ hF hP hL
      have hK := hJ
      have hJ := hK.open hL (by decide)
      have p8 : L 8 = true := hP ⟨8, .data⟩ (by simp) rfl
      have s8 : vs 8 = .int .i64 (k3 : Int) := hJ.sp 8 p8
      have q71 := hF.slot 8 71 rfl p8
      refine run_call (f := 49) (args := #[.int .i64 (k3 : Int)]) rfl (by simp [go_sem, q71, s8]) (gwhole_any k3 _ KK.out.2.2.1 (GA.out.2.1.go (bel_go SC.out.bel hJ.bel))) ?_
      rintro e w2 ⟨v, rfl, hv, hb⟩
      exact ⟨_, rfl, _, rfl, hK.step hL (by decide) (by decide) rfl (nd_cons p8 (nd_nil)) <| hJ.step hL rfl hb (by exact hv)⟩
    · intro L vs a w' hJ hF hP hL
      have hK := hJ
      have hJ := hK.open hL (by decide)
      have p9 : L 9 = true := hP ⟨9, .data⟩ (by simp) rfl
      have s9 : Rt w' (vs 9) (k3) (1) := hJ.sp 9 p9
      have q72 := hF.slot 9 72 rfl p9
      refine run_call (f := 50) (args := #[vs 9]) rfl (by simp [go_sem, q72]) (near_any _ (k3) (1) _ s9 RK.out.2.2 R1.out) ?_
      rintro e w2 ⟨rfl, hb⟩
      exact ⟨_, rfl, _, rfl, hK.step hL (by decide) (by decide) rfl (nd_cons p9 (nd_nil)) <| hJ.step hL rfl hb (by exact rfl)⟩
    · intro L vs a w' hJ hF hP hL
      have hK := hJ
      have hJ := hK.open hL (by decide)
      have q16 : (a.tmps[16]?).getD undef = .pointer (some ⟨b16, 0, none⟩) := hF.old 16 rfl
      have cb := cell_later hJ.bel (SC.out.cel (b16) 0 (.slice p3 n3 c3))
      have cc := cell_later hJ.bel (SC.out.cel (b16) 1 (.slice p4 n4 c4))
      exact run_val (v := .agg #[.slice p3 n3 c3, .slice p4 n4 c4]) rfl (by simp [execOp, go_sem, q16, cb, cc]) ⟨_, rfl, hK.step hL (by decide) (by decide) rfl (nd_nil) <| hJ.step hL rfl (Below.refl _ _) (by exact ((SC.out.fr (.agg #[.slice p3 n3 c3, .slice p4 n4 c4]) (us) (ut)).mono hJ.bel))⟩
    · intro L vs a w' hJ hF hP hL
      have hK := hJ
      have hJ := hK.open hL (by decide)
      have p11 : L 11 = true := hP ⟨11, .data⟩ (by simp) rfl
      have s11 : Rt w' (vs 11) (us) (ut) := hJ.sp 11 p11
      have q74 := hF.slot 11 74 rfl p11
      refine run_call (f := 50) (args := #[vs 11]) rfl (by simp [go_sem, q74]) (near_any _ (us) (ut) _ s11 HS.out.1 HS.out.2.1) ?_
      rintro e w2 ⟨rfl, hb⟩
      exact ⟨_, rfl, _, rfl, hK.step hL (by decide) (by decide) rfl (nd_cons p11 (nd_nil)) <| hJ.step hL rfl hb (by exact rfl)⟩
    · intro L vs a w' hJ hF hP hL
      have hK := hJ
      have hJ := hK.open hL (by decide)
      have q18 : (a.tmps[18]?).getD undef = .pointer (some ⟨b18, 0, none⟩) := hF.old 18 rfl
      have cb := cell_later hJ.bel (SC.out.cel (b18) 0 (.slice p5 n5 c5))
      have cc := cell_later hJ.bel (SC.out.cel (b18) 1 (.slice p6 n6 c6))
      exact run_val (v := .agg #[.slice p5 n5 c5, .slice p6 n6 c6]) rfl (by simp [execOp, go_sem, q18, cb, cc]) ⟨_, rfl, hK.step hL (by decide) (by decide) rfl (nd_nil) <| hJ.step hL rfl (Below.refl _ _) (by exact ((SC.out.fr (.agg #[.slice p5 n5 c5, .slice p6 n6 c6]) (xf) (yf)).mono hJ.bel))⟩
    · intro L vs a w' hJ hF hP hL
      have hK := hJ
      have hJ := hK.open hL (by decide)
      have p13 : L 13 = true := hP ⟨13, .data⟩ (by simp) rfl
      have s13 : Rt w' (vs 13) (xf) (yf) := hJ.sp 13 p13
      have q76 := hF.slot 13 76 rfl p13
      refine run_call (f := 50) (args := #[vs 13]) rfl (by simp [go_sem, q76]) (near_any _ (xf) (yf) _ s13 HXY.out.1 HXY.out.2) ?_
      rintro e w2 ⟨rfl, hb⟩
      exact ⟨_, rfl, _, rfl, hK.step hL (by decide) (by decide) rfl (nd_cons p13 (nd_nil)) <| hJ.step hL rfl hb (by exact rfl)⟩
    · intro L vs a w' hJ hF hP hL
      have hK := hJ
      have hJ := hK.open hL (by decide)
      have p1 : L 1 = true := hP ⟨1, .data⟩ (by simp) rfl
      have s1 : vs 1 = .float .f64 (tfV (um) (uq)) := hJ.sp 1 p1
      have q64 := hF.slot 1 64 rfl p1
      have p4 : L 4 = true := hP ⟨4, .data⟩ (by simp) rfl
      have s4 : vs 4 = .float .f64 (tfV (k1) (1)) := hJ.sp 4 p4
      have q67 := hF.slot 4 67 rfl p4
      have p7 : L 7 = true := hP ⟨7, .data⟩ (by simp) rfl
      have s7 : vs 7 = .float .f64 (tfV (k2) (1)) := hJ.sp 7 p7
      have q70 := hF.slot 7 70 rfl p7
      have p10 : L 10 = true := hP ⟨10, .data⟩ (by simp) rfl
      have s10 : vs 10 = .float .f64 (tfV (k3) (1)) := hJ.sp 10 p10
      have q73 := hF.slot 10 73 rfl p10
      have p12 : L 12 = true := hP ⟨12, .data⟩ (by simp) rfl
      have s12 : vs 12 = .float .f64 (tfV (us) (ut)) := hJ.sp 12 p12
      have q75 := hF.slot 12 75 rfl p12
      have p14 : L 14 = true := hP ⟨14, .data⟩ (by simp) rfl
      have s14 : vs 14 = .float .f64 (tfV (xf) (yf)) := hJ.sp 14 p14
      have q77 := hF.slot 14 77 rfl p14
      exact run_val (v := .agg #[(.float .f64 (tfV (um) (uq))), (.float .f64 (tfV (k1) (1))), (.float .f64 (tfV (k2) (1))), (.float .f64 (tfV (k3) (1))), (.float .f64 (tfV (us) (ut))), (.float .f64 (tfV (xf) (yf)))]) rfl (by simp [execOp, go_sem, q64, s1, q67, s4, q70, s7, q73, s10, q75, s12, q77, s14]) ⟨_, rfl, hK.step hL (by decide) (by decide) rfl (nd_cons p1 (nd_cons p4 (nd_cons p7 (nd_cons p10 (nd_cons p12 (nd_cons p14 (nd_nil))))))) <| hJ.step hL rfl (Below.refl _ _) (by exact rfl)⟩
    · intro L vs a w' hJ hF hP hL
      have hK := hJ
      have hJ := hK.core hL
      have q6 : (a.tmps[6]?).getD undef = .pointer (some ⟨b6, 0, none⟩) := hF.old 6 rfl
      have p15 : L 15 = true := hP ⟨15, .data⟩ (by simp) rfl
      have s15 : vs 15 = .agg #[(.float .f64 (tfV (um) (uq))), (.float .f64 (tfV (k1) (1))), (.float .f64 (tfV (k2) (1))), (.float .f64 (tfV (k3) (1))), (.float .f64 (tfV (us) (ut))), (.float .f64 (tfV (xf) (yf)))] := hJ.sp 15 p15
      have q78 := hF.slot 15 78 rfl p15
      have p1 : L 1 = true := hK.cl 15 p15 1 (by simp)
      have p0 : L 0 = true := hK.cl 1 p1 0 (by simp)
      have p4 : L 4 = true := hK.cl 15 p15 4 (by simp)
      have p3 : L 3 = true := hK.cl 4 p4 3 (by simp)
      have p2 : L 2 = true := hK.cl 3 p3 2 (by simp)
      have p7 : L 7 = true := hK.cl 15 p15 7 (by simp)
      have p6 : L 6 = true := hK.cl 7 p7 6 (by simp)
      have p5 : L 5 = true := hK.cl 6 p6 5 (by simp)
      have p10 : L 10 = true := hK.cl 15 p15 10 (by simp)
      have p9 : L 9 = true := hK.cl 10 p10 9 (by simp)
      have p8 : L 8 = true := hK.cl 9 p9 8 (by simp)
      have p12 : L 12 = true := hK.cl 15 p15 12 (by simp)
      have p11 : L 11 = true := hK.cl 12 p12 11 (by simp)
      have p14 : L 14 = true := hK.cl 15 p15 14 (by simp)
      have p13 : L 13 = true := hK.cl 14 p14 13 (by simp)
      have x0 := cell_later hJ.bel e0
      have y0 := (hJ.bel.frozen (World.block_lt_of_cell? _ _ e0)).trans f0
      have x1 := cell_later hJ.bel e1
      have y1 := (hJ.bel.frozen (World.block_lt_of_cell? _ _ e1)).trans f1
      have x2 := cell_later hJ.bel e2
      have y2 := (hJ.bel.frozen (World.block_lt_of_cell? _ _ e2)).trans f2
      have x3 := cell_later hJ.bel e3
      have y3 := (hJ.bel.frozen (World.block_lt_of_cell? _ _ e3)).trans f3
      have x4 := cell_later hJ.bel e4
      have y4 := (hJ.bel.frozen (World.block_lt_of_cell? _ _ e4)).trans f4
      have x5 := cell_later hJ.bel e5
      have y5 := (hJ.bel.frozen (World.block_lt_of_cell? _ _ e5)).trans f5
      have e8 := s15
      exact run_unit (w' := ((((((w'.setCell ⟨b6, 0, none⟩ ((.float .f64 (tfV (um) (uq))))).setCell ⟨b6, 1, none⟩ ((.float .f64 (tfV (k1) (1))))).setCell ⟨b6, 2, none⟩ ((.float .f64 (tfV (k2) (1))))).setCell ⟨b6, 3, none⟩ ((.float .f64 (tfV (k3) (1))))).setCell ⟨b6, 4, none⟩ ((.float .f64 (tfV (us) (ut))))).setCell ⟨b6, 5, none⟩ ((.float .f64 (tfV (xf) (yf)))))) rfl (by simp [execOp, go_sem, run_store_floatG, q6, q78, s15, x0, y0, x1, y1, x2, y2, x3, y3, x4, y4, x5, y5]) ⟨undef, rfl, hK.put hL (by decide) rfl (nd_cons p15 (nd_nil)) (nd_cons p0 (nd_cons p1 (nd_cons p2 (nd_cons p3 (nd_cons p4 (nd_cons p5 (nd_cons p6 (nd_cons p7 (nd_cons p8 (nd_cons p9 (nd_cons p10 (nd_cons p11 (nd_cons p12 (nd_cons p13 (nd_cons p14 (nd_cons p15 (nd_nil))))))))))))))))) p15 ⟨_, _, _, _, _, _, e8, rfl⟩⟩
    intro L vs w' hA hK
    obtain ⟨_, w1, hb1, sv, u1, u2, u3, u4, u5, u6, ev, ew⟩ := hK.fin (hA 16 (by simp))
    replace sv : vs 15 = .agg #[(.float .f64 (tfV (um) (uq))), (.float .f64 (tfV (k1) (1))), (.float .f64 (tfV (k2) (1))), (.float .f64 (tfV (k3) (1))), (.float .f64 (tfV (us) (ut))), (.float .f64 (tfV (xf) (yf)))] := sv
    rw [sv] at ev
    obtain ⟨rfl, rfl, rfl, rfl, rfl, rfl⟩ : u1 = (.float .f64 (tfV um uq)) ∧ u2 = (.float .f64 (tfV k1 1)) ∧ u3 = (.float .f64 (tfV k2 1)) ∧ u4 = (.float .f64 (tfV k3 1)) ∧ u5 = (.float .f64 (tfV us ut)) ∧ u6 = (.float .f64 (tfV xf yf)) := by simpa [eq_comm] using ev
    have x0 := cell_later hb1 e0
    have x1 := cell_later hb1 e1
    have x2 := cell_later hb1 e2
    have x3 := cell_later hb1 e3
    have x4 := cell_later hb1 e4
    have x5 := cell_later hb1 e5
    have l0 : w'.cell? ⟨b6, 0, none⟩ = some (.float .f64 (tfV (um) (uq))) := by rw [ew]; simp [go_sem, x0]
    have l1 : w'.cell? ⟨b6, 1, none⟩ = some (.float .f64 (tfV (k1) (1))) := by rw [ew]; simp [go_sem, x1]
    have l2 : w'.cell? ⟨b6, 2, none⟩ = some (.float .f64 (tfV (k2) (1))) := by rw [ew]; simp [go_sem, x2]
    have l3 : w'.cell? ⟨b6, 3, none⟩ = some (.float .f64 (tfV (k3) (1))) := by rw [ew]; simp [go_sem, x3]
    have l4 : w'.cell? ⟨b6, 4, none⟩ = some (.float .f64 (tfV (us) (ut))) := by rw [ew]; simp [go_sem, x4]
    have l5 : w'.cell? ⟨b6, 5, none⟩ = some (.float .f64 (tfV (xf) (yf))) := by rw [ew]; simp [go_sem, x5]
    have ZB : Hid (Below w.heap.size w w') := by
      rw [ew]
      have hlo : w.heap.size ≤ b6 := GA.out.2.2.2.1
      exact ((((((bel_go SC.out.bel hb1).setCell (p := ⟨b6, 0, none⟩) hlo _).setCell (p := ⟨b6, 1, none⟩) hlo _).setCell (p := ⟨b6, 2, none⟩) hlo _).setCell (p := ⟨b6, 3, none⟩) hlo _).setCell (p := ⟨b6, 4, none⟩) hlo _).setCell (p := ⟨b6, 5, none⟩) hlo _
    clear ew x0 x1 x2 x3 x4 x5 ev hb1 hK hA SC FC sv e0 e1 e2 e3 e4 e5 f0 f1 f2 f3 f4 f5
    simp only [putL, Act.put, List.setIfInBounds_toArray, List.set_cons_zero, List.set_cons_succ, Nat.reduceAdd]
    go_wp2_with fail
    refine bodyPost_ret (v := .agg #[.float .f64 (tfV um uq), .float .f64 (tfV k1 1), .float .f64 (tfV k2 1), .float .f64 (tfV k3 1), .float .f64 (tfV us ut), .float .f64 (tfV xf yf)]) (by simp [results, Tryz.results19, go_sem, l0, l1, l2, l3, l4, l5]) rfl ⟨ss, k1, k2, k3, x, y, ok, HK.out, KK.out.2.2.2.1, KK.out.2.2.2.2.1, KK.out.2.2.2.2.2, HRES.out, ?_, ZB.out⟩
    unfold telV
    rw [HE.out.1, HE.out.2.1, HE.out.2.2.1, HE.out.2.2.2.1, HE.out.2.2.2.2.1, HE.out.2.2.2.2.2]
end Go.Proofs.YtfkkomppfghagaaGreatDoor
