/- Contracts of the program's functions, part 8: own work, joined in build order. -/
import Derived.Test.YtfjmnhmdipjenaaGreatDoorJ7
import Derived.Laws.BytesArg
namespace Go.Proofs.YtfjmnhmdipjenaaGreatDoor
open Go.RowKit
set_option linter.unusedVariables false
theorem Tryz.info27 : (Tryz.prog.info? 64).map (fun i => (i.zero, i.size, i.bytes)) = some (some (.agg #[.slice none 0 0]), 1, 24) := by kernel_rfl
/-- A number stays where a block is written that holds no word. -/
theorem IsNat.keep {w w' : World} {v : Value} {x b : Nat} (h : IsNat w v x) (hg : w.grownBy w' (some b)) (hb : ∀ i z, w.cell? ⟨b, i, none⟩ ≠ some (.int .u64 z)) : IsNat w' v x := by
  obtain ⟨a, n, cap, F, rfl, ⟨s1, s2, s3, s4⟩, h0, h1, hv⟩ := h
  refine ⟨a, n, cap, F, rfl, ⟨s1, s2, s3, ?_⟩, h0, h1, hv⟩
  rcases s4 with e | ⟨b', o, rfl, hw⟩
  · exact .inl e
  · rcases Nat.eq_zero_or_pos n with e | hn
    · exact .inl e
    · refine .inr ⟨b', o, rfl, fun i hi => hg.cell (hw i hi) ?_⟩
      intro e
      cases e
      exact hb _ _ (hw i hi)
/-- v is a slice of the call's own of n numbers' cells; what is spare is nought. -/
def OZ (w : World) (base : Nat) (v : Value) (n : Nat) (G : Nat → Value) : Prop :=
  ∃ g cap f, v = .slice (some ⟨g, 0, none⟩) n cap ∧ base ≤ g ∧ n ≤ cap ∧ cap ≤ maxLen ∧ w.rowIs g 64 cap f ∧ (∀ i, i < n → f i = G i) ∧ ∀ i, n ≤ i → i < cap → f i = .slice none 0 0
theorem rowIs_noword {w : World} {g cap : Nat} {t : TypeId} {f : Nat → Value} (h : w.rowIs g t cap f) (hf : ∀ i, i < cap → ∀ z, f i ≠ .int .u64 z) : ∀ i z, w.cell? ⟨g, i, none⟩ ≠ some (.int .u64 z) := by
  intro i z e
  rcases Nat.lt_or_ge i cap with hi | hi
  · rw [h.cell hi] at e
    exact hf i hi z (by simpa using e)
  · obtain ⟨c, h1, h2, h3⟩ := h
    rw [World.cell?] at e
    simp [h1] at e
    rw [Array.getElem?_eq_none (by omega)] at e
    cases e
theorem zeroCells_nat (k : Nat) {j : Nat} (h : j < k) : (Builtin.zeroCells (Value.agg #[.slice none 0 0]).cells k)[j]? = some (.slice none 0 0) := by
  have e : (Value.agg #[.slice none 0 0]).cells = #[.slice none 0 0] := rfl
  rw [e]
  unfold Builtin.zeroCells
  rw [Array.getElem?_map, Array.getElem?_range, if_pos (by simpa using h)]
  simp [Nat.mod_one]
theorem append_oz (w : World) (base : Nat) (v : Value) (n : Nat) (G : Nat → Value) (h : OZ w base v n G) (ty : TypeId) (b c : Nat) (u : Value) (hc : w.cell? ⟨b, 0, none⟩ = some u) (h1 : u.oneCell' = true) (hn : n + 1 ≤ 1099511627776) (hbase : base ≤ w.heap.size) :
    ∃ v' w', (Builtin.append_ #[120, 120] ty #[v, .slice (some ⟨b, 0, none⟩) 1 c]).run Tryz.prog w = .ok v' w' ∧ OZ w' base v' (n + 1) (fun j => if j = n then u else G j) ∧ w.grownBy w' v.ownBlock := by
  obtain ⟨g, cap, f, rfl, hb, hnc, hcm, hr, hf, hz⟩ := h
  obtain ⟨i, hi, hzz, hsz, hby⟩ := info_parts Tryz.info27
  obtain ⟨cur, hg, hcs, hcur⟩ := id hr
  have hnews : ∀ j u', [u][j]? = some u' → w.cell? ((⟨b, 0, none⟩ : Addr).add j) = some u' := by
    intro j u' hj
    match j, hj with
    | 0, hj => simp at hj; subst hj; simpa [Addr.add] using hc
  by_cases hroom : n + 1 ≤ cap
  · have e := run_append_room (P := Tryz.prog) w 120 ty 64 i Tryz.underlying120 hi g n cap cur hg ⟨b, 0, none⟩ 1 c [u] (by rw [hsz]; rfl) hnews (by intro u' hu; simp at hu; subst hu; exact h1) hroom (by rw [hsz]; simp; omega)
    refine ⟨_, _, e, ⟨g, cap, fun j => if j = n then u else f j, rfl, hb, hroom, hcm, ⟨_, setRow_heap w g _ _ _ _ hg, ?_, fun j hj => ?_⟩, fun j hj => ?_, fun j hj1 hj2 => ?_⟩, ⟨rfl, rfl, rfl, by simp [World.setRow], fun k _ hne => setRow_other w g k _ (fun e => hne (by rw [e]; rfl))⟩⟩
    · simp [hsz]; omega
    · show _ = some (if j = n then u else f j)
      rw [List.getElem?_toArray, hsz, Nat.mul_one, List.append_assoc]
      have e1 : (cur.toList.take n).length = n := by simp; omega
      by_cases h1 : j < n
      · rw [if_neg (by omega), List.getElem?_append_left (by omega), List.getElem?_take_of_lt h1]
        simpa using hcur j hj
      · by_cases h2 : j = n
        · subst h2
          rw [if_pos rfl, List.getElem?_append_right (by omega), e1]
          simp
        · rw [if_neg h2, List.getElem?_append_right (by omega), e1, List.getElem?_append_right (by simp; omega), List.getElem?_drop]
          simp only [List.length_cons, List.length_nil]
          rw [show n + (0 + 1) + (j - n - (0 + 1)) = j by omega]
          simpa using hcur j hj
    · show (if j = n then u else f j) = if j = n then u else G j
      split
      · rfl
      · exact hf j (by omega)
    · show (if j = n then u else f j) = _
      rw [if_neg (by omega)]
      exact hz j (by omega) hj2
  · obtain rfl : n = cap := by omega
    have e := run_append_grow (P := Tryz.prog) w 120 ty 64 i _ Tryz.underlying120 hi hzz ⟨g, 0, none⟩ n n cur.toList (by rw [hsz]; simp; omega) (by
      intro j u' hj
      have hj2 : cur[j]? = some u' := by simpa using hj
      rw [Addr.add_lit]
      simp [World.cell?, hg, hj2]) ⟨b, 0, none⟩ 1 c [u] (by rw [hsz]; rfl) hnews (by omega) (by omega) (growslice_fits (by omega) (by rw [hby]; omega))
    have hge := grownCap_ge w (n + 1) n 64
    have hcm2 := grownCap_le_maxLen w (n + 1) n 64 (by simp only [maxLen]; omega)
    generalize grownCap w (n + 1) n 64 = gc at e hge hcm2
    refine ⟨_, _, e, ⟨w.heap.size, gc, fun j => if j = n then u else if j < n then f j else .slice none 0 0, rfl, hbase, hge, hcm2, ⟨_, heap_alloc_new w.drew _, ?_, fun j hj => ?_⟩, fun j hj => ?_, fun j hj1 hj2 => ?_⟩, ⟨rfl, rfl, rfl, by simp, fun k hk _ => heap_alloc_old w.drew _ hk⟩⟩
    · rw [Array.size_append, Array.size_append, size_zeroCells]
      show cur.toList.toArray.size + 1 + (gc - (n + 1)) * 1 = gc
      simp
      omega
    · show _ = some (if j = n then u else if j < n then f j else .slice none 0 0)
      rcases Nat.lt_trichotomy j n with h2 | h2 | h2
      · rw [if_neg (by omega), if_pos h2, Array.append_assoc, Array.getElem?_append_left (by simp; omega)]
        simpa using hcur j h2
      · subst h2
        rw [if_pos rfl, Array.append_assoc, Array.getElem?_append_right (by simp; omega), Array.getElem?_append_left (by simp; omega)]
        simp [hcs]
      · rw [if_neg (by omega), if_neg (by omega), Array.getElem?_append_right (by simp; omega)]
        have e3 : j - (cur.toList.toArray ++ [u].toArray).size = j - (n + 1) := by simp [hcs]
        rw [e3, zeroCells_nat _ (by omega)]
    · show (if j = n then u else if j < n then f j else _) = if j = n then u else G j
      split
      · rfl
      · rw [if_pos (by omega)]
        exact hf j (by omega)
    · show (if j = n then u else if j < n then f j else _) = _
      rw [if_neg (by omega), if_neg (by omega)]
end Go.Proofs.YtfjmnhmdipjenaaGreatDoor

namespace Go.Proofs.YtfjmnhmdipjenaaGreatDoor
open Go.RowKit
set_option maxRecDepth 100000
set_option linter.unusedVariables false
/-- A slice of the call's own that holds the first powers. -/
def PowsAt (w : World) (base : Nat) (v : Value) (K : Nat) : Prop := ∃ G, OZ w base v K G ∧ ∀ i, i < K → IsNat w (.agg #[G i]) (pw i)
theorem IsNat.cellOf {w : World} {u : Value} {x : Nat} (h : IsNat w (.agg #[u]) x) : ∃ a n c, u = .slice a n c := by
  obtain ⟨a, n, c, e1⟩ := h.isAgg
  exact ⟨a, n, c, by simpa using e1⟩
theorem PowsAt.nrow {w : World} {base : Nat} {v : Value} {K : Nat} (h : PowsAt w base v K) : ∃ g cap, v = .slice (some ⟨g, 0, none⟩) K cap ∧ base ≤ g ∧ g < w.heap.size ∧ NRow w g 0 K pw := by
  obtain ⟨G, ⟨g, cap, f, rfl, k1, k2, k3, k4, k5, k6⟩, h2⟩ := h
  refine ⟨g, cap, rfl, k1, k4.lt, fun i hi => ?_⟩
  obtain ⟨a, n, c, e2⟩ := (h2 i hi).cellOf
  refine ⟨a, n, c, ?_, e2 ▸ h2 i hi⟩
  rw [Nat.zero_add, k4.cell (show i < cap by omega), k5 i hi, e2]
theorem PowsAt.below {w w' : World} {base : Nat} {v : Value} {K : Nat} (h : PowsAt w base v K) (hb : Below w.heap.size w w') : PowsAt w' base v K := by
  obtain ⟨G, ⟨g, cap, f, rfl, k1, k2, k3, k4, k5, k6⟩, h2⟩ := h
  exact ⟨G, ⟨g, cap, f, rfl, k1, k2, k3, k4.of_block (hb.block g k4.lt), k5, k6⟩, fun i hi => (h2 i hi).mono hb⟩
theorem PowsAt.lower {w : World} {base base' : Nat} {v : Value} {K : Nat} (h : PowsAt w base v K) (hb : base' ≤ base) : PowsAt w base' v K := by
  obtain ⟨G, ⟨g, cap, f, rfl, k1, k2⟩, h2⟩ := h
  exact ⟨G, ⟨g, cap, f, rfl, by omega, k2⟩, h2⟩
theorem box_noword {w : World} {b : Nat} {u : Value} {x : Nat} {y : World} (h : w.rowIs b 64 1 fun _ => u) (k : IsNat y (.agg #[u]) x) : ∀ i z, w.cell? ⟨b, i, none⟩ ≠ some (.int .u64 z) := by
  obtain ⟨a, n, c, rfl⟩ := k.cellOf
  exact rowIs_noword h fun i hi z => by simp
/-- A store into a box of a number. -/
theorem PowsAt.box {w w' : World} {base b : Nat} {v : Value} {K : Nat} (h : PowsAt w base v K) (hb : b < base) (hg : w.grownBy w' (some b)) (hw : ∀ i z, w.cell? ⟨b, i, none⟩ ≠ some (.int .u64 z)) : PowsAt w' base v K := by
  obtain ⟨G, ⟨g, cap, f, rfl, k1, k2, k3, k4, k5, k6⟩, h2⟩ := h
  exact ⟨G, ⟨g, cap, f, rfl, k1, k2, k3, k4.of_block (hg.block g k4.lt (by intro e; cases e; omega)), k5, k6⟩, fun i hi => (h2 i hi).keep hg hw⟩
theorem PowsAt.noword {w : World} {base : Nat} {v : Value} {K : Nat} (h : PowsAt w base v K) : ∃ g, v.ownBlock = some g ∧ base ≤ g ∧ ∀ i z, w.cell? ⟨g, i, none⟩ ≠ some (.int .u64 z) := by
  obtain ⟨G, ⟨g, cap, f, rfl, k1, k2, k3, k4, k5, k6⟩, h2⟩ := h
  refine ⟨g, rfl, k1, rowIs_noword k4 fun i hi z => ?_⟩
  rcases Nat.lt_or_ge i K with hh | hh
  · obtain ⟨a, n, c, e⟩ := (h2 i hh).cellOf
    rw [k5 i hh, e]
    simp
  · rw [k6 i hh hi]
    simp
theorem hold {p : Prop} (h : True → p) : p := h trivial
/-- One power more, by append. -/
theorem wpList_append_pow {w : World} {ops : Array Oper} {rest : List Oper} {o : Oper} {ac : Act} {Q : Exit → Act → World → Prop} (hgd : o.guard = none) (s x : Operand)
    (ho : o.op = .call { callee := .builtin .append, args := #[s, x], argTypes := #[120, 120] }) (base : Nat) (v : Value) (K : Nat) (hs : ac.eval s = v) (hown : PowsAt w base v K)
    (b : Nat) (c : Nat) (hx : ac.eval x = .slice (some ⟨b, 0, none⟩) 1 c) (u : Value) (hc : w.cell? ⟨b, 0, none⟩ = some u) (hu : IsNat w (.agg #[u]) (pw K)) (hn : K + 1 ≤ 1099511627776) (hbase : base ≤ w.heap.size)
    (h : ∀ v' w', PowsAt w' base v' (K + 1) → w.grownBy w' v.ownBlock → (∀ y z, IsNat w y z → IsNat w' y z) → wpList Tryz.prog ops Q rest (ac.put o.dst v') w') : wpList Tryz.prog ops Q (o :: rest) ac w := by
  obtain ⟨g, e1, e2, e3⟩ := hown.noword
  obtain ⟨G, h1, h2⟩ := hown
  have hone : u.oneCell' = true := by
    obtain ⟨a, n, c, rfl⟩ := hu.cellOf
    rfl
  obtain ⟨v', w', hr, k1, k2⟩ := append_oz w base v K G h1 o.type b c u hc hone hn hbase
  refine wpList_plain hgd fun K' hK => ?_
  unfold Oper.wp execOp
  simp only [ho, resolve, invoke, builtin, Sem.run_bind, Sem.run_pure, Result.andThen_ok, List.map_toArray, List.map_cons, List.map_nil, hs, hx, hr]
  have k3 := k2
  rw [e1] at k3
  refine hK _ _ (h v' w' ⟨_, k1, fun i hi => ?_⟩ k2 fun y z hy => hy.keep k3 e3)
  by_cases e : i = K
  · subst e
    show IsNat w' (.agg #[if i = i then u else G i]) _
    rw [if_pos rfl]
    exact hu.keep k3 e3
  · show IsNat w' (.agg #[if i = K then u else G i]) _
    rw [if_neg e]
    exact (h2 i (by omega)).keep k3 e3
set_option maxHeartbeats 1000000 in
theorem chunkPowers_short (v : Value) (x : Nat) (w : World) (h : IsNat w v x) (hx : x < P 40) :
    Calls Tryz.prog 66 #[v] w fun e w' => e = .returned (.slice none 0 0) ∧ Below w.heap.size w w' := by
  obtain ⟨a, n, c, rfl⟩ := h.isAgg
  obtain ⟨F, hs, h0, h1, hv⟩ := h.fits
  have hn : n ≤ 40 := len_le_of (hv.symm ▸ hx) h1
  clear h hx hs h0 h1 hv
  go_enter Tryz.func66, Tryz.ntmps66
  go_wp2_with fail
  go_ret
  exact ⟨rfl, (Below.refl _ _).alloc (Nat.le_refl _) _⟩
set_option maxHeartbeats 2000000 in
theorem chunkPowers_long (v : Value) (x : Nat) (w : World) (h : IsNat w v x) (hx : P 40 ≤ x) (ht : Tx x) :
    Calls Tryz.prog 66 #[v] w fun e w' => ∃ u, e = .returned u ∧ ∃ K, 0 < K ∧ K ≤ 8 ∧ PowsAt w' w.heap.size u K ∧ Below w.heap.size w w' := by
  obtain ⟨a, n, c, rfl⟩ := h.isAgg
  obtain ⟨F, hs, h0, h1, hv⟩ := h.fits
  have hn : n ≤ 225 := len_le_of (hv.symm ▸ ht.lt) h1
  have hn2 : 40 < n := by
    rcases Nat.lt_or_ge 40 n with hh | hh
    · exact hh
    · have := V_lt (hs.2.2.1)
      have := P_le hh
      omega
  clear hs h0 h1 hv hx ht h
  go_enter Tryz.func66, Tryz.ntmps66
  go_wp2_with fail
  refine (of_any 10000000000000000000 _ (by omega)).mono ?_
  rintro e w1 ⟨v1, rfl, hv1, hb1⟩
  obtain ⟨a1, n1, c1, rfl⟩ := hv1.isAgg
  have hs1 : w.heap.size < w1.heap.size := by have := hb1.size; simp at this; omega
  have hcx : w1.cell? ⟨w.heap.size, 0, none⟩ = some (.slice a n c) := by
    have := hb1.block w.heap.size (by simp)
    rw [World.cell?_of_block this]
    simp
  have B1 : Hid (Below w.heap.size w w1) := bel_trans ((Below.refl _ _).alloc (Nat.le_refl _) _) hb1
  have V1 : Hid (IsNat w1 (.agg #[.slice a1 n1 c1]) (pw 0)) := by rw [pw_zero]; exact hv1
  have X1 : Hid _ := hcx
  clear hb1 hv1 hcx
  go_wp2_with fail
  go_loopw [4] (fun pv wr => ∃ (i : Nat) (u : Value), i ≤ 7 ∧ wr.rowIs w1.heap.size 64 1 (fun _ => u) ∧ IsNat wr (.agg #[u]) (pw i) ∧ PowsAt wr (w1.heap.size + 1) pv (i + 1) ∧ wr.cell? ⟨w.heap.size, 0, none⟩ = some (.slice a n c) ∧ Below w.heap.size w wr) (fun pv _ => match pv with | .slice _ k _ => 9 - k | _ => 0)
  case atStart =>
    have hbw : Below w1.heap.size w1 ((w1.alloc (Obj.cells #[Value.slice a1 n1 c1] 64)).alloc (Obj.cells #[Value.slice a1 n1 c1] 64)) := bel_alloc2 _ _ _
    refine ⟨0, .slice a1 n1 c1, by omega, ?_, V1.out.mono hbw, ?_, cell_later hbw X1.out, bel_trans B1.out hbw⟩
    · exact (World.rowIs_alloc w1 #[Value.slice a1 n1 c1] 64 (fun _ => Value.slice a1 n1 c1) (fun i hi => by rw [show i = 0 by simpa using hi]; rfl)).alloc _
    · refine ⟨fun _ => .slice a1 n1 c1, ⟨w1.heap.size + 1, 1, fun _ => .slice a1 n1 c1, rfl, Nat.le_refl _, Nat.le_refl _, by simp only [maxLen]; omega, ?_, fun _ _ => rfl, fun i h1 h2 => by omega⟩, fun i hi => ?_⟩
      · have h := World.rowIs_alloc (w1.alloc (Obj.cells #[Value.slice a1 n1 c1] 64)) #[Value.slice a1 n1 c1] 64 (fun _ => Value.slice a1 n1 c1) (fun i hi => by rw [show i = 0 by simpa using hi]; rfl)
        simpa using h
      · rw [show i = 0 by omega]
        exact V1.out.mono hbw
  case round =>
    clear V1 X1 B1
    obtain ⟨i, u, hi, hrow, hu, hP, hcx, hb⟩ := hrel
    obtain ⟨ap, np, cp, rfl⟩ := hu.cellOf
    obtain ⟨g, gc, rfl, hg1, hg2, hg3⟩ := id hP.nrow
    have hcb : wr.cell? ⟨w1.heap.size, 0, none⟩ = some (.slice ap np cp) := hrow.cell (by omega)
    have hfb : wr.frozen? ⟨w1.heap.size, 0, none⟩ = false := hrow.frozen _
    obtain ⟨Fp, ps, p0, p1, pv⟩ := id hu.fits
    have hnp : np ≤ 127 := len_le_of (pv.symm ▸ (show pw i < P 127 from Nat.lt_of_le_of_lt (pw_le hi) (by decide +kernel))) p1
    have HH : Hid (wr.rowIs w1.heap.size 64 1 (fun _ => .slice ap np cp) ∧ IsNat wr (.agg #[.slice ap np cp]) (pw i) ∧ PowsAt wr (w1.heap.size + 1) (.slice (some ⟨g, 0, none⟩) (i + 1) gc) (i + 1) ∧ Below w.heap.size w wr) := ⟨hrow, hu, hP, hb⟩
    have H6 : Hid (np ≤ 113 → i ≤ 6) := fun hh => by
      rcases Nat.lt_or_ge i 7 with h7 | h7
      · omega
      · have e1 := V_lt ps.2.2.1
        rw [pv] at e1
        have e2 := P_le hh
        have e3 : P 113 < pw 7 := by decide +kernel
        have e4 := pw_le h7
        omega
    clear hrow hu hP hb ps p0 p1 pv hg3
    by_cases hl : 2 * np ≤ n + 1
    · have hlb : decide (2 * (np : Int) - 1 ≤ n) = true := decide_eq_true (by omega)
      have hi6 : i ≤ 6 := H6.out (by omega)
      go_wp2_with fail
      have htx : Tx (pw i) := pw_tx hi
      refine (mul_short _ _ (pw i) (pw i) wr HH.out.2.1 HH.out.2.1 htx.fits htx.fits (.inl (Nat.lt_of_le_of_lt (pw_le hi6) pw_six))).mono ?_
      rintro e w2 ⟨v2, rfl, hv2, hb2⟩
      rw [← pw_succ] at hv2
      obtain ⟨a2, n2, c2, rfl⟩ := hv2.isAgg
      have hrow2 := HH.out.1.of_block (hb2.block _ HH.out.1.lt)
      have hcb2 : w2.cell? ⟨w1.heap.size, 0, none⟩ = some (.slice ap np cp) := hrow2.cell (by omega)
      have hfb2 : w2.frozen? ⟨w1.heap.size, 0, none⟩ = false := hrow2.frozen _
      have hnw : ∀ i z, w2.cell? ⟨w1.heap.size, i, none⟩ ≠ some (.int .u64 z) := box_noword hrow2 HH.out.2.1
      have hgs : w2.grownBy (w2.setCell ⟨w1.heap.size, 0, none⟩ (.slice a2 n2 c2)) (some w1.heap.size) := grown_set w2 (World.grownBy.refl _ _) _ _
      have hrow3 := hrow2.set 0 (.slice a2 n2 c2)
      have hP3 := (HH.out.2.2.1.below hb2).box (by omega) hgs hnw
      have hv3 := hv2.keep hgs hnw
      have I3 : Hid (_ ∧ _ ∧ _) := ⟨hrow3, hP3, hv3⟩
      have hcx2 : w2.cell? ⟨w.heap.size, 0, none⟩ = some (.slice a n c) := by
        rw [World.cell?_of_block (hb2.block w.heap.size (by have := HH.out.1.lt; omega))]
        exact hcx
      have B2 : Hid (Below w.heap.size w w2) := bel_trans HH.out.2.2.2 hb2
      have hsz : w1.heap.size + 1 < w2.heap.size := Nat.lt_of_lt_of_le (by omega) hb2.size
      clear hrow2 hnw hgs hrow3 hP3 hv3 hv2 hb2 htx HH
      go_wp2_with (refine (id ?_ : wpList Tryz.prog _ _ (⟨some 27, _, _, _, _, _⟩ :: _) _ _); refine hold ?_)
      intro _
      refine wpList_append_pow rfl (.tmp 24) (.tmp 26) rfl (w1.heap.size + 1) _ (i + 1) rfl (I3.out.2.1.below ((Below.refl _ _).alloc (Nat.le_refl _) _)) w2.heap.size 1 rfl (.slice a2 n2 c2) ?_ (I3.out.2.2.mono ((Below.refl _ _).alloc (Nat.le_refl _) _)) (by omega) ?_ ?_
      · have e : (w2.setCell ⟨w1.heap.size, 0, none⟩ (Value.slice a2 n2 c2)).heap.size = w2.heap.size := by simp
        have h := (World.rowIs_alloc (w2.setCell ⟨w1.heap.size, 0, none⟩ (Value.slice a2 n2 c2)) #[Value.slice a2 n2 c2] 64 (fun _ => Value.slice a2 n2 c2) (fun i hi => by rw [show i = 0 by simpa using hi]; rfl)).cell (i := 0) (by simp)
        rw [e] at h
        exact h
      · simp
        omega
      intro v5 w5 hP5 hg5 hk5
      have hg5' : ((w2.setCell ⟨w1.heap.size, 0, none⟩ (Value.slice a2 n2 c2)).alloc (Obj.cells #[Value.slice a2 n2 c2] 64)).grownBy w5 (some g) := hg5
      have hn5 := hk5 _ _ (I3.out.2.2.mono ((Below.refl _ _).alloc (Nat.le_refl _) _))
      have hgs : w2.grownBy (w2.setCell ⟨w1.heap.size, 0, none⟩ (.slice a2 n2 c2)) (some w1.heap.size) := grown_set w2 (World.grownBy.refl _ _) _ _
      have hb3 := B2.out.grown hgs (by omega) (fun k hk => by cases hk; omega)
      have hb4 := hb3.alloc (by simp; omega) (Obj.cells #[Value.slice a2 n2 c2] 64)
      have hb5 := hb4.grown hg5' (by simp; omega) (fun k hk => by cases hk; omega)
      have hr5 := ((I3.out.1.congr (g := fun _ => Value.slice a2 n2 c2) (fun i hi => by rw [show i = 0 by omega, if_pos rfl])).alloc (Obj.cells #[Value.slice a2 n2 c2] 64)).of_block (hg5'.block w1.heap.size (by simp; omega) (by intro e; cases e; omega))
      have hx5 : w5.cell? ⟨w.heap.size, 0, none⟩ = some (.slice a n c) := by
        have n1 : some w.heap.size ≠ some g := fun e => by simp at e; omega
        have n2 : some w.heap.size ≠ some w1.heap.size := fun e => by simp at e; omega
        refine hg5'.cell ?_ n1
        rw [World.cell?_alloc_past _ _ _ (by simp; omega)]
        exact hgs.cell hcx2 n2
      obtain ⟨g5, gc5, rfl, _, _, _⟩ := id hP5.nrow
      have I5 : Hid (_ ∧ _ ∧ _ ∧ _ ∧ _) := ⟨hr5, hn5, hP5, hx5, hb5⟩
      clear hP5 hg5 hk5 hg5' hn5 hgs hb3 hb4 hb5 hr5 hx5 I3 B2
      go_wp2_with fail
      go_roundw
      case rel => exact ⟨i + 1, .slice a2 n2 c2, by omega, I5.out⟩
      case measure => simp; omega
    · have hlb : decide (2 * (np : Int) - 1 ≤ n) = false := decide_eq_false (by omega)
      go_wp2_with fail
      go_ret
      exact ⟨_, rfl, i + 1, by omega, by omega, HH.out.2.2.1.lower (by omega), HH.out.2.2.2⟩
end Go.Proofs.YtfjmnhmdipjenaaGreatDoor

namespace Go.Proofs.YtfjmnhmdipjenaaGreatDoor
open Go.RowKit
set_option maxRecDepth 100000
set_option linter.unusedVariables false
theorem cnt_full {M : Nat → Nat} {x : Nat} : ∀ {K : Nat}, (∀ i, i < K → M i ≤ x) → cnt M x K = K
  | 0, _ => rfl
  | K + 1, h => by
    unfold cnt
    rw [cnt_full fun i hi => h i (by omega), if_pos (h K (by omega))]
theorem cnt_pw {x : Nat} : ∀ {K t : Nat}, cnt pw x K = t + 1 → t < K ∧ pw t ≤ x
  | 0, t, h => by
    unfold cnt at h
    omega
  | K + 1, t, h => by
    by_cases hk : pw K ≤ x
    · rw [cnt_full fun i hi => Nat.le_trans (pw_le (show i ≤ K by omega)) hk] at h
      obtain rfl : t = K := by omega
      exact ⟨by omega, hk⟩
    · unfold cnt at h
      rw [if_neg hk, Nat.add_zero] at h
      obtain ⟨h1, h2⟩ := cnt_pw h
      exact ⟨by omega, h2⟩
theorem cnt_one {x : Nat} (h : pw 0 ≤ x) : ∀ {K : Nat}, 0 < K → 0 < cnt pw x K
  | 0, hk => absurd hk (by omega)
  | 1, _ => by
    unfold cnt cnt
    rw [if_pos h]
    omega
  | K + 2, _ => by
    have := cnt_one h (show 0 < K + 1 by omega)
    rw [cnt]
    omega
theorem BRow.noword {w : World} {b N : Nat} {D : Nat → Nat} (h : BRow w b N D) : ∀ i z, w.cell? ⟨b, i, none⟩ ≠ some (.int .u64 z) := rowIs_noword h.1 fun i hi z => by simp
theorem PowsAt.bytes {w w' : World} {base b N K : Nat} {v : Value} {D : Nat → Nat} (h : PowsAt w base v K) (hD : BRow w b N D) (hg : w.grownBy w' (some b)) : PowsAt w' base v K := by
  obtain ⟨G, ⟨g, cap, f, rfl, k1, k2, k3, k4, k5, k6⟩, h2⟩ := h
  refine ⟨G, ⟨g, cap, f, rfl, k1, k2, k3, k4.of_block (hg.block g k4.lt ?_), k5, k6⟩, fun i hi => (h2 i hi).keep hg hD.noword⟩
  intro e
  cases e
  obtain ⟨c1, e1, _⟩ := k4
  obtain ⟨c2, e2, _⟩ := hD.1
  rw [e1] at e2
  simp at e2
/-- The digits of two parts are those of the whole. -/
theorem DecFill.join {D D' D'' : Nat → Nat} {o n cut x m : Nat} (hc : n = cut + m) (h : DecFill D D' o cut 0 (x / 10 ^ m)) (k : DecFill D' D'' (o + cut) m 0 (x % 10 ^ m)) : DecFill D D'' o n 0 x := by
  subst hc
  refine ⟨fun i _ hi => ?_, fun j hj => ?_⟩
  · rcases Nat.lt_or_ge i cut with hh | hh
    · rw [k.2 _ (by omega), h.1 i (by omega) hh, decAt_div]
      congr 1
      omega
    · have := k.1 (i - cut) (by omega) (by omega)
      rw [show o + cut + (i - cut) = o + i by omega] at this
      rw [this, decAt_mod _ _ _ (by omega)]
      congr 1
      omega
  · rw [k.2 _ (by omega), h.2 _ (by omega)]
theorem slice_bh (g o len cap c : Nat) (hc : c ≤ cap) (w : World) :
    (Instr.slice 84 (.slice (some ⟨g, o, none⟩) len cap) none (some (.int .i64 (c : Int))) none).run Tryz.prog w = .ok (.slice (some ⟨g, o, none⟩) c cap) w := by
  rw [run_slice_h (P := Tryz.prog) (kh := .i64) (h := (c : Int)) (ht := by kernel_rfl) (h0 := by omega) (h2 := by omega)]
  have hz : (sizeOf (Tryz.prog.elem 84)).run Tryz.prog w = .ok 1 w := by kernel_rfl
  rw [hz]
  simp [Result.andThen, sliced]
  intro _
  simp [Addr.add]
theorem slice_bl (g o len cap c : Nat) (hc : c < cap) (hl : c ≤ len) (w : World) :
    (Instr.slice 84 (.slice (some ⟨g, o, none⟩) len cap) (some (.int .i64 (c : Int))) none none).run Tryz.prog w = .ok (.slice (some ⟨g, o + c, none⟩) (len - c) (cap - c)) w := by
  rw [run_slice_l (P := Tryz.prog) (kl := .i64) (l := (c : Int)) (ht := by kernel_rfl) (h0 := by omega) (h1 := by omega)]
  have hz : (sizeOf (Tryz.prog.elem 84)).run Tryz.prog w = .ok 1 w := by kernel_rfl
  have hne : ¬ cap = c := by omega
  rw [hz]
  simp only [Result.andThen, sliced, Int.toNat_natCast, Nat.mul_one, if_neg hne, Option.map_some]
  congr 3
  unfold Addr.add
  split <;> simp_all
theorem gb_undrew {w w' : World} {r : Option Nat} (h : w.drew.grownBy w' r) : w.grownBy w' r := ⟨h.os, h.tape, h.output, h.size, h.block⟩
/-- What fill makes. -/
def Fills (w : World) (b N o n x : Nat) (D : Nat → Nat) (e : Ending) (w' : World) : Prop := e = .returned (.tuple #[]) ∧ ∃ D', BRow w' b N D' ∧ DecFill D D' o n 0 x ∧ w.grownBy w' (some b)
set_option maxHeartbeats 1000000 in
theorem fill_short (b N o n cap : Nat) (v pv : Value) (x : Nat) (D : Nat → Nat) (w : World) (hD : BRow w b N D) (ho : o + n ≤ N) (hn : n ≤ 1099511627776) (hcap : n ≤ cap) (hcap2 : cap ≤ 1099511627776) (h : IsNat w v x) (hx : x < P 40) :
    Calls Tryz.prog 65 #[.slice (some ⟨b, o, none⟩) n cap, v, pv] w (Fills w b N o n x D) := by
  obtain ⟨a, m, c, rfl⟩ := h.isAgg
  obtain ⟨F, hs, h0, h1, hv⟩ := id h.fits
  have hm : m ≤ 40 := len_le_of (hv.symm ▸ hx) h1
  have HH : Hid (BRow w b N D ∧ IsNat w (.agg #[.slice a m c]) x) := ⟨hD, h⟩
  have HX : Hid (Fits x) := ⟨Nat.lt_trans hx (P_lt (show 40 < lim by decide))⟩
  clear hD h hs h0 h1 hv hx
  go_enter Tryz.func65, Tryz.ntmps65
  go_wp2_with fail
  have ba : Below w.heap.size w (w.alloc (Obj.cells #[Value.slice a m c] 64)) := (Below.refl _ _).alloc (Nat.le_refl _) _
  refine (fillPlain_any b N o n cap _ x D _ (HH.out.1.below ba) ho hn hcap hcap2 (HH.out.2.mono ba) HX.out).mono ?_
  rintro e w2 ⟨rfl, D', hb, hf, hg⟩
  have I2 : Hid (_ ∧ _ ∧ _) := ⟨hb, hf, gb_go (gb_of_below ba (some b)) hg (fun j hj => .inr hj)⟩
  clear hb hf hg ba
  go_wp2_with fail
  exact bodyPost_end (v := .tuple #[]) (by simp [results, Tryz.results65, go_sem]) rfl ⟨rfl, D', I2.out⟩
set_option maxHeartbeats 2000000 in
theorem fill_step (b N o n cap : Nat) (v pv : Value) (x base K : Nat) (D : Nat → Nat) (w : World) (hD : BRow w b N D) (ho : o + n ≤ N) (hn : n ≤ 1099511627776) (hcap : n ≤ cap) (hcap2 : cap ≤ 1099511627776) (h : IsNat w v x) (hx : P 40 ≤ x) (ht : Tx x) (hxn : x < 10 ^ n) (hP : PowsAt w base pv K) (hK : 0 < K) (hK2 : K ≤ 8)
    (ih : ∀ y, y < x → ∀ (o n cap : Nat) (v : Value) (D : Nat → Nat) (w : World), BRow w b N D → o + n ≤ N → n ≤ 1099511627776 → n ≤ cap → cap ≤ 1099511627776 → IsNat w v y → y < 10 ^ n → PowsAt w base pv K → Calls Tryz.prog 65 #[.slice (some ⟨b, o, none⟩) n cap, v, pv] w (Fills w b N o n y D)) :
    Calls Tryz.prog 65 #[.slice (some ⟨b, o, none⟩) n cap, v, pv] w (Fills w b N o n x D) := by
  obtain ⟨a, m, c, rfl⟩ := h.isAgg
  obtain ⟨F, hs, h0, h1, hv⟩ := id h.fits
  have hm : 40 < m := by
    rcases Nat.lt_or_ge 40 m with hh | hh
    · exact hh
    · have := V_lt (hs.2.2.1)
      have := P_le hh
      omega
  have hm2 : m ≤ 225 := len_le_of (hv.symm ▸ ht.lt) h1
  have hp0 : pw 0 ≤ x := Nat.le_trans (show pw 0 ≤ P 40 by decide +kernel) hx
  obtain ⟨t, ht1⟩ : ∃ t, cnt pw x K = t + 1 := ⟨cnt pw x K - 1, by have := cnt_one hp0 hK; omega⟩
  obtain ⟨ht2, ht3⟩ := cnt_pw ht1
  obtain ⟨g, gc, rfl, hg1, hg2, hg3⟩ := id hP.nrow
  obtain ⟨ap, np, cp, e1, e2⟩ := hg3 t ht2
  rw [Nat.zero_add] at e1
  have ba : Below w.heap.size w (w.alloc (Obj.cells #[Value.slice a m c] 64)) := (Below.refl _ _).alloc (Nat.le_refl _) _
  have HH : Hid (BRow w b N D ∧ IsNat w (.agg #[.slice a m c]) x ∧ PowsAt w base (.slice (some ⟨g, 0, none⟩) K gc) K ∧ IsNat w (.agg #[.slice ap np cp]) (pw t) ∧ w.cell? ⟨g, t, none⟩ = some (.slice ap np cp) ∧ NRow w g 0 K pw) := ⟨hD, h, hP, e2, e1, hg3⟩
  have HT : Hid (Tx x ∧ pw t ≤ x ∧ x < 10 ^ n ∧ cnt pw x K = t + 1) := ⟨ht, ht3, hxn, ht1⟩
  have IH : Hid _ := ih
  clear hD h hs h0 h1 hv hx ht hxn hP hp0 e1 e2 hg3 ih ht1 ht3 hg1
  go_enter Tryz.func65, Tryz.ntmps65
  go_wp2_with fail
  refine (reached_any _ x g 0 K gc pw _ (HH.out.2.1.mono ba) HT.out.1.fits (HH.out.2.2.2.2.2.mono ba) (fun i hi => (pw_tx (show i ≤ 7 by omega)).fits) (by omega)).mono ?_
  rintro e w2 ⟨rfl, hb2⟩
  rw [HT.out.2.2.2, show (((t + 1 : Nat) : Nat) : Int) = (t : Int) + 1 from rfl]
  have B2 : Hid (Below w.heap.size w w2) := bel_go ba hb2
  have c0 : w2.cell? ⟨w.heap.size, 0, none⟩ = some (.slice a m c) := cell_later hb2 (by simp [go_sem])
  have c1 : w2.cell? ⟨g, t, none⟩ = some (.slice ap np cp) := cell_later B2.out HH.out.2.2.2.2.1
  have hl0 : w.heap.size < w2.heap.size := World.block_lt_of_cell? _ _ c0
  have hl1 : g < w2.heap.size := World.block_lt_of_cell? _ _ c1
  have hl2 : w.heap.size < w2.heap.size + 1 := by omega
  have hl3 : g < w2.heap.size + 1 := by omega
  have hl4 : w.heap.size < w2.heap.size + 1 + 1 := by omega
  have hl5 : g < w2.heap.size + 1 + 1 := by omega
  have hwr : IntKind.i64.wrap ((t : Int) + 1 - 1) = (t : Int) := by rw [IntKind.wrap_i64]; omega
  have hwr2 : IntKind.i64.wrap (t : Int) = (t : Int) := by rw [IntKind.wrap_i64]; omega
  have hti : (0 : Int) ≤ (t : Int) := by omega
  have hti2 : (t : Int) < (K : Int) := by omega
  have I2 : Hid (IsNat w2 (.agg #[.slice a m c]) x ∧ IsNat w2 (.agg #[.slice ap np cp]) (pw t) ∧ BRow w2 b N D ∧ PowsAt w2 base (.slice (some ⟨g, 0, none⟩) K gc) K ∧ w.grownBy w2 (some b)) := ⟨HH.out.2.1.mono B2.out, HH.out.2.2.2.1.mono B2.out, HH.out.1.below B2.out, HH.out.2.2.1.below B2.out, gb_of_below B2.out _⟩
  clear hb2 ba HH hg2
  go_wp2_with fail
  go_cut [7, 8] (fun p q wx => TwoVars w2 wx (x / pw t) (x % pw t) p q)
  case first =>
    go_region_held3 (fun w' => w'.cell? ⟨w.heap.size, 0, none⟩ = some (.slice a m c) ∧ w'.cell? ⟨g, t, none⟩ = some (.slice ap np cp)) (first | (simp [go_sem, *]; done) | (trace_state; fail))
      (first
        | (go_at_call 85; refine Calls.mono (divMod_any _ _ x (pw t) _ ?_ ?_ HT.out.1.small (HT.out.1.le HT.out.2.1).small (pw_pos t) ((pw_cond HT.out.1 HT.out.2.1).imp .inl id)) ?_; (refine IsNat.mono I2.out.1 ?_; repeat (first | exact Below.refl _ _ | refine bel_al ?_ | refine bel_dr ?_)); (refine IsNat.mono I2.out.2.1 ?_; repeat (first | exact Below.refl _ _ | refine bel_al ?_ | refine bel_dr ?_)); rintro e w3 ⟨v3, u3, rfl, hv3, hu3, hb3⟩; obtain ⟨a5, n5, cap5, rfl⟩ := hv3.isAgg; obtain ⟨a6, n6, cap6, rfl⟩ := hu3.isAgg; (first | have ⟨p1, p2, p3, p4, p5, p6, p7, p8, p9⟩ := bel_rules_dr hb3 | have ⟨p1, p2, p3, p4, p5, p6, p7, p8, p9⟩ := bel_rules hb3); have X5 : Hid (IsNat w3 (.agg #[.slice a5 n5 cap5]) (x / pw t) ∧ IsNat w3 (.agg #[.slice a6 n6 cap6]) (x % pw t)) := ⟨hv3, hu3⟩; (have B3 : Hid (Below w2.heap.size w2 w3) := bel_go (by repeat (first | exact Below.refl _ _ | refine bel_al ?_ | refine bel_dr ?_)) hb3); have z3 := B3.out.size; have g0 := Nat.lt_of_lt_of_le hl0 z3; have g1 := Nat.lt_of_lt_of_le hl1 z3; (first | have e0 : w2.heap.size < w3.heap.size := lt_al p3 | (have e0 : w2.heap.size < w3.heap.size := lt_al2 p3; have e1 : w2.heap.size + 1 < w3.heap.size := lt_al3 p3) | skip); clear hv3 hu3 hb3 z3))
    all_goals (have y3 := B3.out.size)
    all_goals go_wp2_with fail
    all_goals go_meet
    all_goals go_light
    all_goals clear HT I2 IH B2 c0 c1 hwr hwr2 hti hti2 ho hn hcap hcap2 hK hK2 hm hm2 ht2
    all_goals (have BB := B3.out)
    all_goals (have X6 := X5.out.1)
    all_goals (have X7 := X5.out.2)
    all_goals clear X5 B3
    all_goals refine ⟨_, _, a5, n5, cap5, a6, n6, cap6, rfl, rfl, ?_, ?_, ?_, ?_, ?_, ?_, ?_⟩
    all_goals try (simp (config := { maxDischargeDepth := 9 }) [go_sem, *]; done)
    all_goals try (repeat (first | exact BB | refine bel_al ?_ | refine bel_st ?_ (Nat.le_trans ?_ (Nat.le_refl _))))
    all_goals try (repeat (first | exact X6 | exact X7 | refine IsNat.mono ?_ (bel_al (Below.refl _ _)) | refine IsNat.setCell ?_ (no_int_slice (a := none) (n := 0) (c := 0) ?_) _))
    all_goals try omega
    all_goals try (simp (config := { maxDischargeDepth := 9 }) [go_sem, *]; done)
    all_goals (dsimp only; omega)
  case rest =>
    obtain ⟨bp, bq, a5, n5, c5, a6, n6, c6, rfl, rfl, d0, d1, hv5, hu5, hB, lp, lq⟩ := hcut
    have I3 : Hid (IsNat wc (.agg #[.slice a5 n5 c5]) (x / pw t) ∧ IsNat wc (.agg #[.slice a6 n6 c6]) (x % pw t) ∧ BRow wc b N D ∧ PowsAt wc base (.slice (some ⟨g, 0, none⟩) K gc) K ∧ w.grownBy wc (some b)) := ⟨hv5, hu5, I2.out.2.2.1.below hB, I2.out.2.2.2.1.below hB, gb_go I2.out.2.2.2.2 (gb_of_below hB (some b)) (fun j hj => .inr hj)⟩
    have hbb : b < w2.heap.size := I2.out.2.2.1.1.lt
    have hpb : b ≠ bp := by omega
    have hqb : b ≠ bq := by omega
    clear hv5 hu5 hB I2 B2 c0 c1 hl0 hl1 hl2 hl3 hl4 hl5 lp lq hbb
    go_wp2_with fail
    obtain ⟨M, hM⟩ : ∃ M, M = 19 * 2 ^ t := ⟨_, rfl⟩
    have hpw : pw t = 10 ^ M := by rw [hM]; rfl
    have hMn : M < n := (Nat.pow_lt_pow_iff_right (show 1 < 10 by decide)).1 (hpw ▸ Nat.lt_of_le_of_lt HT.out.2.1 HT.out.2.2.1)
    have hM0 : 0 < M := by rw [hM]; exact Nat.mul_pos (by decide) (Nat.two_pow_pos t)
    have hMi : (19 : Int) * 2 ^ t = (M : Int) := by rw [hM]; simp
    rw [hMi]
    have J : Hid (pw t = 10 ^ M ∧ x / pw t < x ∧ x % pw t < x ∧ x / pw t < 10 ^ (n - M) ∧ x % pw t < 10 ^ M) := by
      have h0 := HT.out.2.1
      have h1 := pw_two t
      have h2 : 0 < x := Nat.lt_of_lt_of_le (pw_pos t) h0
      refine ⟨hpw, Nat.div_lt_self h2 h1, Nat.lt_of_lt_of_le (Nat.mod_lt _ (pw_pos t)) h0, ?_, hpw ▸ Nat.mod_lt _ (pw_pos t)⟩
      refine Nat.div_lt_of_lt_mul ?_
      rw [hpw, ← Nat.pow_add, Nat.add_sub_cancel' (Nat.le_of_lt hMn)]
      exact HT.out.2.2.1
    clear hM hpw hMi hwr hwr2 hti hti2 HT
    obtain ⟨k, rfl⟩ : ∃ k, n = k + M := ⟨n - M, by omega⟩
    rw [Nat.add_sub_cancel] at J
    have hk0 : 0 < k := by omega
    have hw1 : wrap64 (((k + M : Nat) : Int) - wrap64 (M : Int)) = (k : Int) := by
      have : wrap64 (M : Int) = (M : Int) := by simp only [wrap64]; omega
      rw [this]
      simp only [wrap64]
      omega
    rw [hw1]
    have sl1 := slice_bh b o (k + M) cap k (by omega)
    have sl2 := slice_bl b o (k + M) cap k (by omega) (by omega)
    rw [Nat.add_sub_cancel_left] at sl2
    have hbp : some bp ≠ some b := fun e => hpb (Option.some.inj e).symm
    have hbq : some bq ≠ some b := fun e => hqb (Option.some.inj e).symm
    clear hw1
    go_region_held3 (fun w' => w'.cell? ⟨bp, 0, none⟩ = some (.slice a5 n5 c5)) (first | (simp [go_sem, *]; done) | (trace_state; fail))
      (first
        | (go_at_call 65; refine Calls.mono (IH.out (x / pw t) J.out.2.1 o k cap _ D _ ?_ ?_ ?_ ?_ ?_ ?_ ?_ ?_) ?_; exact I3.out.2.2.1; omega; omega; omega; omega; exact I3.out.1; exact J.out.2.2.2.1; exact I3.out.2.2.2.1; rintro e w4 ⟨rfl, D4, hb4, hf4, hg4⟩; have d2 : w4.cell? ⟨bp, 0, none⟩ = some (.slice a5 n5 c5) := hg4.cell d0 hbp; have d3 : w4.cell? ⟨bq, 0, none⟩ = some (.slice a6 n6 c6) := hg4.cell d1 hbq; have I4 : Hid (BRow w4 b N D4 ∧ DecFill D D4 o k 0 (x / pw t) ∧ wc.grownBy w4 (some b)) := ⟨hb4, hf4, (by first | exact hg4 | exact gb_undrew hg4)⟩; clear hb4 hf4 hg4))
    have I5 : Hid (IsNat w4 (.agg #[.slice a6 n6 c6]) (x % pw t) ∧ PowsAt w4 base (.slice (some ⟨g, 0, none⟩) K gc) K ∧ w.grownBy w4 (some b)) := ⟨I3.out.2.1.keep I4.out.2.2 I3.out.2.2.1.noword, I3.out.2.2.2.1.bytes I3.out.2.2.1 I4.out.2.2, gb_go I3.out.2.2.2.2 I4.out.2.2 (fun j hj => .inr hj)⟩
    clear d0 d1 d2 I3
    go_wp2_with fail
    go_region_held3 (fun w' => w'.cell? ⟨bq, 0, none⟩ = some (.slice a6 n6 c6)) (first | (simp [go_sem, *]; done) | (trace_state; fail))
      (first
        | (go_at_call 65; refine Calls.mono (IH.out (x % pw t) J.out.2.2.1 (o + k) M (cap - k) _ D4 _ ?_ ?_ ?_ ?_ ?_ ?_ ?_ ?_) ?_; exact I4.out.1; omega; omega; omega; omega; exact I5.out.1; exact J.out.2.2.2.2; exact I5.out.2.1; rintro e w6 ⟨rfl, D6, hb6, hf6, hg6⟩; have d4 : w6.cell? ⟨bq, 0, none⟩ = some (.slice a6 n6 c6) := hg6.cell d3 hbq; have I6 : Hid (BRow w6 b N D6 ∧ DecFill D4 D6 (o + k) M 0 (x % pw t) ∧ w4.grownBy w6 (some b)) := ⟨hb6, hf6, (by first | exact hg6 | exact gb_undrew hg6)⟩; clear hb6 hf6 hg6))
    go_wp2_with fail
    refine bodyPost_end (v := .tuple #[]) (by simp [results, Tryz.results65, go_sem]) rfl ⟨rfl, D6, I6.out.1, ?_, gb_go I5.out.2.2 I6.out.2.2 (fun j hj => .inr hj)⟩
    have h1 := I4.out.2.1
    have h2 := I6.out.2.1
    rw [J.out.1] at h1 h2
    exact h1.join rfl h2
theorem fill_any (b N : Nat) (pv : Value) (base K : Nat) (hK : 0 < K) (hK2 : K ≤ 8) : ∀ (x : Nat), Tx x → ∀ (o n cap : Nat) (v : Value) (D : Nat → Nat) (w : World), BRow w b N D → o + n ≤ N → n ≤ 1099511627776 → n ≤ cap → cap ≤ 1099511627776 → IsNat w v x → x < 10 ^ n → PowsAt w base pv K → Calls Tryz.prog 65 #[.slice (some ⟨b, o, none⟩) n cap, v, pv] w (Fills w b N o n x D) := by
  intro x
  induction x using Nat.strongRecOn with
  | ind x ih =>
    intro ht o n cap v D w hD ho hn hcap hcap2 h hxn hP
    rcases Nat.lt_or_ge x (P 40) with hx | hx
    · exact fill_short b N o n cap v pv x D w hD ho hn hcap hcap2 h hx
    · exact fill_step b N o n cap v pv x base K D w hD ho hn hcap hcap2 h hx ht hxn hP hK hK2 fun y hy => ih y hy (ht.le (Nat.le_of_lt hy))
end Go.Proofs.YtfjmnhmdipjenaaGreatDoor

namespace Go.Proofs.YtfjmnhmdipjenaaGreatDoor
open Go.RowKit
set_option maxRecDepth 100000
set_option linter.unusedVariables false
/-- The powers serve for x. -/
def PowsOk (w : World) (u : Value) (x : Nat) : Prop := x < P 40 ∨ ∃ base K, 0 < K ∧ K ≤ 8 ∧ PowsAt w base u K
theorem PowsOk.below {w w' : World} {u : Value} {x : Nat} (h : PowsOk w u x) (hb : Below w.heap.size w w') : PowsOk w' u x := by
  rcases h with h | ⟨base, K, h1, h2, h3⟩
  · exact .inl h
  · exact .inr ⟨base, K, h1, h2, h3.below hb⟩
theorem chunkPowers_any (v : Value) (x : Nat) (w : World) (h : IsNat w v x) (ht : Tx x) :
    Calls Tryz.prog 66 #[v] w fun e w' => ∃ u, e = .returned u ∧ PowsOk w' u x ∧ Below w.heap.size w w' := by
  rcases Nat.lt_or_ge x (P 40) with hx | hx
  · refine (chunkPowers_short v x w h hx).mono ?_
    rintro e w' ⟨rfl, hb⟩
    exact ⟨_, rfl, .inl hx, hb⟩
  · refine (chunkPowers_long v x w h hx ht).mono ?_
    rintro e w' ⟨u, rfl, K, h1, h2, h3, hb⟩
    exact ⟨_, rfl, .inr ⟨_, K, h1, h2, h3⟩, hb⟩
theorem fill_ok (b N o n cap : Nat) (v pv : Value) (x : Nat) (D : Nat → Nat) (w : World) (ht : Tx x) (hD : BRow w b N D) (ho : o + n ≤ N) (hn : n ≤ 1099511627776) (hcap : n ≤ cap) (hcap2 : cap ≤ 1099511627776) (h : IsNat w v x) (hxn : x < 10 ^ n) (hP : PowsOk w pv x) :
    Calls Tryz.prog 65 #[.slice (some ⟨b, o, none⟩) n cap, v, pv] w (Fills w b N o n x D) := by
  rcases hP with hx | ⟨base, K, h1, h2, h3⟩
  · exact fill_short b N o n cap v pv x D w hD ho hn hcap hcap2 h hx
  · exact fill_any b N pv base K h1 h2 x ht o n cap v D w hD ho hn hcap hcap2 h hxn h3
/-- n bytes as a string. -/
def strOf (D : Nat → Nat) (n : Nat) : ByteArray := strOfNums ((List.range n).map fun i => ((D i : Nat) : Int))
theorem strOf_congr {D E : Nat → Nat} {n : Nat} (h : ∀ i, i < n → D i = E i) : strOf D n = strOf E n := by
  unfold strOf
  congr 1
  refine List.map_congr_left fun i hi => ?_
  rw [h i (by simpa using hi)]
theorem conv_bytes {w : World} {b N : Nat} {D : Nat → Nat} (h : BRow w b N D) (o n cap : Nat) (ho : o + n ≤ N) :
    (convert 84 9 (.slice (some ⟨b, o, none⟩) n cap)).run Tryz.prog w = .ok (.string (strOf (fun i => D (o + i)) n)) w := by
  refine run_convert_bytes_arg (P := Tryz.prog) w 84 5 (by kernel_rfl) (by kernel_rfl) b o n cap _ (by simp) (fun i hi => ?_) 9 (by kernel_rfl)
  rw [h.cell (show o + i < N by omega)]
  simp [List.getD, hi]
/-- x's digits, as a string. -/
def decText (x k : Nat) : ByteArray := strOf (fun i => decAt x (k - 1 - i)) k
def Texts (w : World) (x : Nat) (e : Ending) (w' : World) : Prop := ∃ k, e = .returned (.string (decText x k)) ∧ DecLen x k ∧ Below w.heap.size w w'
theorem bitLen_P {x n : Nat} (h : x < P n) : bitLen x ≤ 64 * n := by
  rw [P_two] at h
  rcases Nat.lt_or_ge (64 * n) (bitLen x) with hh | hh
  · have h1 := (bitLen_spec x).2 (by intro e; subst e; simp [bitLen] at hh)
    have h2 : (2 : Nat) ^ (64 * n) ≤ 2 ^ (bitLen x - 1) := Nat.pow_le_pow_right (by omega) (by omega)
    omega
  · exact hh
set_option maxHeartbeats 2000000 in
theorem text_any (v : Value) (x : Nat) (w : World) (h : IsNat w v x) (ht : Tx x) : Calls Tryz.prog 44 #[v] w (Texts w x) := by
  obtain ⟨a, m, c, rfl⟩ := h.isAgg
  have hL : bitLen x ≤ 64 * 225 := bitLen_P ht.lt
  obtain ⟨L, hLL⟩ : ∃ L, L = bitLen x := ⟨_, rfl⟩
  obtain ⟨n, hnn⟩ : ∃ n, n = L * 30103 / 100000 + 1 := ⟨_, rfl⟩
  have hxn : x < 10 ^ n := by rw [hnn, hLL]; exact lt_ten (bitLen_lt x)
  have HH : Hid (IsNat w (.agg #[.slice a m c]) x ∧ Tx x ∧ x < 10 ^ n ∧ L = bitLen x) := ⟨h, ht, hxn, hLL⟩
  rw [← hLL] at hL
  have mk := makeB_at ((L : Int) * 30103 / 100000 + 1) ((L : Int) * 30103 / 100000 + 1) n n (by rw [hnn]; omega) (by rw [hnn]; omega) (Nat.le_refl _) (by omega)
  have hn0 : 0 < n := by omega
  have hn1 : n ≤ 100000 := by omega
  clear h ht hxn hLL hnn
  go_enter Tryz.func44, Tryz.ntmps44
  go_wp2_with fail
  have ba : Below w.heap.size w (w.alloc (Obj.cells #[Value.slice a m c] 64)) := (Below.refl _ _).alloc (Nat.le_refl _) _
  refine (len_any _ x _ (HH.out.1.mono ba) HH.out.2.1.fits).mono ?_
  rintro e w1 ⟨rfl, hb1⟩
  rw [← HH.out.2.2.2]
  have B1 : Hid (Below w.heap.size w w1) := bel_go ba hb1
  have c0 : w1.cell? ⟨w.heap.size, 0, none⟩ = some (.slice a m c) := cell_later hb1 (by simp [go_sem])
  have hl0 : w.heap.size < w1.heap.size := World.block_lt_of_cell? _ _ c0
  clear hb1 ba
  go_wp2_with fail
  have bo : Below w1.heap.size w1 (w1.alloc (.cells (zeroB n) 5)) := (Below.refl _ _).alloc (Nat.le_refl _) _
  have c1 : (w1.alloc (.cells (zeroB n) 5)).cell? ⟨w.heap.size, 0, none⟩ = some (.slice a m c) := cell_later bo c0
  have I1 : Hid (BRow (w1.alloc (.cells (zeroB n) 5)) w1.heap.size n (fun _ => 0) ∧ IsNat (w1.alloc (.cells (zeroB n) 5)) (.agg #[.slice a m c]) x ∧ Below w.heap.size w (w1.alloc (.cells (zeroB n) 5))) := ⟨brow_zeros_at _ _ _ rfl, HH.out.1.mono (bel_go B1.out bo), bel_go B1.out bo⟩
  obtain ⟨w2, hw2⟩ : ∃ w2, w2 = w1.alloc (.cells (zeroB n) 5) := ⟨_, rfl⟩
  rw [← hw2] at I1 c1 ⊢
  clear hw2 bo mk
  go_region_held3 (fun w' => w'.cell? ⟨w.heap.size, 0, none⟩ = some (.slice a m c)) (first | (simp [go_sem, *]; done) | (trace_state; fail))
    (first
      | (go_at_call 66; refine Calls.mono (chunkPowers_any _ x _ ?_ HH.out.2.1) ?_; exact I1.out.2.1; rintro e w3 ⟨u3, rfl, hp3, hb3⟩; have c3 : w3.cell? ⟨w.heap.size, 0, none⟩ = some (.slice a m c) := cell_later hb3 c1; have I3 : Hid (PowsOk w3 u3 x ∧ Below w2.heap.size w2 w3) := ⟨hp3, (by first | exact hb3 | exact bel_undrew hb3)⟩; clear hp3 hb3)
      | (go_at_call 65; refine Calls.mono (fill_ok w1.heap.size n 0 n n _ _ x (fun _ => 0) _ HH.out.2.1 ?_ ?_ ?_ ?_ ?_ ?_ HH.out.2.2.1 ?_) ?_; exact I1.out.1.below I3.out.2; omega; omega; omega; omega; exact I1.out.2.1.mono I3.out.2; exact I3.out.1; rintro e w4 ⟨rfl, D4, hb4, hf4, hg4⟩; have c4 : w4.cell? ⟨w.heap.size, 0, none⟩ = some (.slice a m c) := hg4.cell c3 (fun e => by simp at e; omega); have I4 : Hid (BRow w4 w1.heap.size n D4 ∧ DecFill (fun _ => 0) D4 0 n 0 x ∧ w3.grownBy w4 (some w1.heap.size)) := ⟨hb4, hf4, (by first | exact hg4 | exact gb_undrew hg4)⟩; clear hb4 hf4 hg4))
  clear c0 c1 c3
  obtain ⟨g, hg⟩ : ∃ g, g = w1.heap.size := ⟨_, rfl⟩
  have HG : Hid (g = w1.heap.size) := hg
  rw [← hg] at I4 ⊢
  clear hg
  have I5 : Hid (BRow w4 g n D4 ∧ (∀ i, i < n → D4 i = decAt x (n - 1 - i)) ∧ Below w.heap.size w w4) := by
    refine ⟨I4.out.1, fun i hi => ?_, (bel_go I1.out.2.2 I3.out.2).grown I4.out.2.2 ?_ ?_⟩
    · have := I4.out.2.1.1 i (by omega) hi
      rw [Nat.zero_add] at this
      exact this
    · have := (bel_go I1.out.2.2 I3.out.2).size
      omega
    · intro k hk
      cases hk
      rw [HG.out]
      omega
  clear I1 I3 I4 c4 HG hl0 B1
  go_wp2_with fail
  go_loop [4] (fun t => ∃ p : Nat, p < n ∧ t = .int .i64 (p : Int) ∧ x < 10 ^ (n - p)) (fun t => n - (intOf t).toNat)
  case atStart => exact ⟨0, hn0, rfl, HH.out.2.2.1⟩
  case round =>
    obtain ⟨p, hp, rfl, hxp⟩ := hrel
    have hcp : w4.cell? ⟨g, p, none⟩ = some (.int .u8 (D4 p : Nat)) := I5.out.1.cell hp
    have HP : Hid (x < 10 ^ (n - p)) := hxp
    clear hxp
    have sl := slice_bl g 0 n n p (by omega) (by omega)
    rw [Nat.zero_add] at sl
    have cv := conv_bytes I5.out.1 p (n - p) (n - p) (by omega)
    have ce : strOf (fun i => D4 (p + i)) (n - p) = decText x (n - p) := strOf_congr fun i hi => by
      rw [I5.out.2.1 (p + i) (by omega)]
      congr 1
      omega
    rw [ce] at cv
    clear ce
    by_cases hp1 : p + 1 < n
    · by_cases hd : D4 p = 48
      · rw [hd] at hcp
        have hz : x < 10 ^ (n - (p + 1)) := by
          have h1 := I5.out.2.1 p hp
          rw [hd] at h1
          have h2 := (decAt_zero (x := x) (p := n - 1 - p) (by rw [show n - 1 - p + 1 = n - p by omega]; exact HP.out)).1 h1.symm
          rw [show n - (p + 1) = n - 1 - p by omega]
          exact h2
        have HZ : Hid _ := hz
        clear hz hd sl cv
        go_wp2_with fail
        go_round
        case rel => exact ⟨p + 1, by omega, by go_num, HZ.out⟩
        case measure => simp [intOf]; omega
      · have hdb : ((D4 p : Int) == 48) = false := by simp; omega
        have HZ : Hid (DecLen x (n - p)) := by
          refine ⟨by omega, HP.out, .inr ?_⟩
          rcases Nat.lt_or_ge x (10 ^ (n - p - 1)) with h3 | h3
          · exact absurd (by rw [I5.out.2.1 p hp]; exact (decAt_zero (p := n - 1 - p) (by rw [show n - 1 - p + 1 = n - p by omega]; exact HP.out)).2 (by rw [show n - 1 - p = n - p - 1 by omega]; exact h3)) hd
          · exact h3
        clear hd
        go_wp2_with fail
        go_ret
        exact ⟨n - p, rfl, HZ.out, I5.out.2.2⟩
    · have HZ : Hid (DecLen x (n - p)) := ⟨by omega, HP.out, .inl (by omega)⟩
      go_wp2_with fail
      go_ret
      exact ⟨n - p, rfl, HZ.out, I5.out.2.2⟩
end Go.Proofs.YtfjmnhmdipjenaaGreatDoor

namespace Go.Proofs.YtfjmnhmdipjenaaGreatDoor
open Go.RowKit
set_option maxRecDepth 100000
set_option linter.unusedVariables false
/-- The byte of a string at a place. -/
def sb (s : ByteArray) (i : Nat) : Nat := if h : i < s.size then (s[i]'h).toNat else 0
theorem sb_at {s : ByteArray} {i : Nat} (h : i < s.size) : (s[i]'h).toNat = sb s i := by simp [sb, h]
theorem sb_lt (s : ByteArray) (i : Nat) : sb s i < 256 := by
  unfold sb
  split
  · exact UInt8.toNat_lt _
  · omega
/-- The number of the first i digits. -/
def decVal (s : ByteArray) : Nat → Nat
  | 0 => 0
  | i + 1 => decVal s i * 10 + (sb s i - 48)
def Digits (s : ByteArray) (n : Nat) : Prop := ∀ i, i < n → 48 ≤ sb s i ∧ sb s i ≤ 57
theorem OR.sl {w : World} {base n : Nat} {v : Value} {F : Nat → Nat} (h : OR w 93 base v n (wd F)) (hF : Ok F n) : ∃ a cap, v = .slice a n cap ∧ Sl w a n cap F := by
  rcases h with ⟨rfl, rfl⟩ | ⟨g, cap, f, rfl, h1, h2, h3, h4, h5⟩
  · exact ⟨none, 0, rfl, Nat.le_refl _, by omega, hF, .inl rfl⟩
  · refine ⟨_, cap, rfl, h2, by simp only [maxLen] at h3; omega, hF, .inr ⟨g, 0, rfl, fun i hi => ?_⟩⟩
    rw [Nat.zero_add, h4.cell (show i < cap by omega), h5 i hi]
    rfl
theorem bel_less {B B' : Nat} {w w' : World} (h : Below B w w') (hb : B' ≤ B) : Below B' w w' := ⟨h.os, h.tape, h.output, h.size, fun i hi => h.block i (by omega)⟩
set_option maxHeartbeats 1000000 in
theorem parse_any (s : ByteArray) (w : World) (h0 : 0 < s.size) (h1 : s.size ≤ 400) :
    Calls Tryz.prog 92 #[.string s] w fun e w' => (Digits s s.size → Makes2 w (decVal s s.size) true e w') ∧ (¬ Digits s s.size → e = .returned (.tuple #[.agg #[.slice none 0 0], .bool false]) ∧ Below w.heap.size w w') := by
  have hz : ((s.size : Int) == 0) = false := beq_eq_false_iff_ne.2 (by omega)
  have hgt : decide (400 < (s.size : Int)) = false := decide_eq_false (by omega)
  go_enter Tryz.func92, Tryz.ntmps92
  go_wp2_with fail
  go_loopw [4, 17] (fun v t wr => ∃ (i n : Nat) (F : Nat → Nat), i ≤ s.size ∧ t = .int .i64 (i : Int) ∧ OR wr 93 (w.heap.size + 1) v n (wd F) ∧ Ok F n ∧ V F n = decVal s i ∧ n ≤ i ∧ Digits s i ∧ Below (w.heap.size + 1) (w.alloc (Obj.cells #[Value.slice none 0 0] 64)) wr) (fun _ t _ => s.size - (intOf t).toNat)
  case atStart => exact ⟨0, 0, fun _ => 0, by omega, rfl, OR.nil _ _ _ _, fun i hi => absurd hi (by omega), rfl, by omega, fun i hi => absurd hi (by omega), Below.refl _ _⟩
  case round =>
    obtain ⟨i, n, F, hi, rfl, hO, hF, hV, hn, hd, hb⟩ := hrel
    have HH : Hid (OR wr 93 (w.heap.size + 1) u4 n (wd F) ∧ Ok F n ∧ V F n = decVal s i ∧ Digits s i ∧ Below (w.heap.size + 1) (w.alloc (Obj.cells #[Value.slice none 0 0] 64)) wr) := ⟨hO, hF, hV, hd, hb⟩
    clear hO hF hV hd hb
    have hcb : wr.cell? ⟨w.heap.size, 0, none⟩ = some (.slice none 0 0) := (HH.out.2.2.2.2.cell (show w.heap.size < w.heap.size + 1 by omega)).trans (by simp)
    have hfb : wr.frozen? ⟨w.heap.size, 0, none⟩ = false := (HH.out.2.2.2.2.frozen (show w.heap.size < w.heap.size + 1 by omega)).trans (by simp [go_sem])
    have hsz : w.heap.size + 1 ≤ wr.heap.size := by have := HH.out.2.2.2.2.size; simpa using this
    by_cases hii : i < s.size
    · have hc := sb_at hii
      have hc2 := sb_lt s i
      by_cases hlo : sb s i < 48
      · have t1 : decide (((sb s i : Nat) : Int) < 48) = true := decide_eq_true (by omega)
        have HN : Hid (¬ Digits s s.size) := fun hh => by have := hh i hii; omega
        clear hlo
        go_wp2_with fail
        refine bodyPost_ret (v := .tuple #[.agg #[.slice none 0 0], .bool false]) (by simp [results, Tryz.results92, go_sem, hcb]) rfl ⟨fun hh => absurd hh HN.out, fun _ => ⟨rfl, ?_⟩⟩
        exact (bel_go ((Below.refl _ _).alloc (Nat.le_refl _) _) (bel_less HH.out.2.2.2.2 (by simp))).setCell (Nat.le_refl _) _
      · have t1 : decide (((sb s i : Nat) : Int) < 48) = false := decide_eq_false (by omega)
        by_cases hhi : 57 < sb s i
        · have t2 : decide (57 < ((sb s i : Nat) : Int)) = true := decide_eq_true (by omega)
          have HN : Hid (¬ Digits s s.size) := fun hh => by have := hh i hii; omega
          go_wp2_with fail
          refine bodyPost_ret (v := .tuple #[.agg #[.slice none 0 0], .bool false]) (by simp [results, Tryz.results92, go_sem, hcb]) rfl ⟨fun hh => absurd hh HN.out, fun _ => ⟨rfl, ?_⟩⟩
          exact (bel_go ((Below.refl _ _).alloc (Nat.le_refl _) _) (bel_less HH.out.2.2.2.2 (by simp))).setCell (Nat.le_refl _) _
        · have t2 : decide (57 < ((sb s i : Nat) : Int)) = false := decide_eq_false (by omega)
          obtain ⟨d, hd⟩ : ∃ d, sb s i = d + 48 := ⟨sb s i - 48, by omega⟩
          have HD : Hid _ := hd
          go_wp2_with fail
          refine (timesTen_any u4 n d F wr (w.heap.size + 1) HH.out.1 HH.out.2.1 hsz (by omega) (by omega)).mono ?_
          rintro e w3 ⟨v3, n3, F3, rfl, hO3, hF3, hV3, hn3, hb3⟩
          have I3 : Hid (OR w3 93 (w.heap.size + 1) v3 n3 (wd F3) ∧ Ok F3 n3 ∧ V F3 n3 = decVal s (i + 1) ∧ n3 ≤ i + 1 ∧ Digits s (i + 1) ∧ Below (w.heap.size + 1) (w.alloc (Obj.cells #[Value.slice none 0 0] 64)) w3) := by
            refine ⟨hO3, hF3, ?_, by omega, fun j hj => ?_, HH.out.2.2.2.2.trans hb3⟩
            · rw [hV3, HH.out.2.2.1, decVal, HD.out]
              omega
            · rcases Nat.lt_or_ge j i with hh | hh
              · exact HH.out.2.2.2.1 j hh
              · obtain rfl : j = i := by omega
                rw [HD.out]
                omega
          clear hO3 hF3 hV3 hn3 hb3 HH HD
          go_wp2_with fail
          go_roundw
          case rel => exact ⟨i + 1, n3, F3, by omega, by go_num, I3.out⟩
          case measure => simp [intOf]; omega
    · obtain rfl : i = s.size := by omega
      obtain ⟨a4, cap4, rfl, hS⟩ := HH.out.1.sl HH.out.2.1
      go_wp2_with fail
      refine (trimmed_any a4 n cap4 F wr hS (by omega)).mono ?_
      rintro e w3 ⟨v3, rfl, hv3, hb3⟩
      obtain ⟨a5, n5, c5, rfl⟩ := hv3.isAgg
      have hcb3 := cell_later hb3 hcb
      have hfb3 := (hb3.frozen (World.block_lt_of_cell? _ _ hcb)).trans hfb
      rw [HH.out.2.2.1] at hv3
      have I3 : Hid (_ ∧ _) := ⟨hv3, (bel_go ((Below.refl _ _).alloc (Nat.le_refl _) _) (bel_go (bel_less HH.out.2.2.2.2 (by simp)) hb3) : Below w.heap.size w w3)⟩
      clear hv3 hb3 hS
      go_wp2_with fail
      refine bodyPost_ret (v := .tuple #[.agg #[.slice a5 n5 c5], .bool true]) (by simp [results, Tryz.results92, go_sem, hcb3]) rfl ⟨fun _ => ⟨_, rfl, I3.out.1.setCell (no_int_slice hcb3) _, I3.out.2.setCell (Nat.le_refl _) _⟩, fun hh => absurd HH.out.2.2.2.1 hh⟩
theorem parse_digits (s : ByteArray) (x : Nat) (w : World) (h0 : 0 < s.size) (h1 : s.size ≤ 400) (hd : Digits s s.size) (hx : decVal s s.size = x) :
    Calls Tryz.prog 92 #[.string s] w (Makes2 w x true) := by
  subst hx
  exact (parse_any s w h0 h1).mono fun e w' h => h.1 hd
end Go.Proofs.YtfjmnhmdipjenaaGreatDoor

namespace Go.Proofs.YtfjmnhmdipjenaaGreatDoor
open Go.RowKit
set_option maxRecDepth 100000
set_option linter.unusedVariables false
end Go.Proofs.YtfjmnhmdipjenaaGreatDoor

namespace Go.Proofs.YtfjmnhmdipjenaaGreatDoor
open Go.RowKit
set_option maxRecDepth 100000
set_option linter.unusedVariables false
theorem tx_word {x : Nat} (h : x ≤ 18446744073709551616) : Tx x := ⟨Nat.lt_of_le_of_lt h (by decide +kernel)⟩
end Go.Proofs.YtfjmnhmdipjenaaGreatDoor

namespace Go.Proofs.YtfjmnhmdipjenaaGreatDoor
open Go.RowKit
set_option maxRecDepth 100000
set_option linter.unusedVariables false
/-- A number of at most 600 bytes. -/
structure Mid (x : Nat) : Prop where
  lt : x < P 75
theorem Mid.tx {x : Nat} (h : Mid x) : Tx x := ⟨Nat.lt_trans h.lt (P_lt (by omega))⟩
theorem Mid.fits {x : Nat} (h : Mid x) : Fits x := h.tx.fits
theorem Mid.small {x : Nat} (h : Mid x) : Small x := h.tx.small
theorem Mid.p99 {x : Nat} (h : Mid x) : x < P 99 := Nat.lt_trans h.lt (P_lt (by omega))
theorem Mid.le {x y : Nat} (h : Mid x) (hy : y ≤ x) : Mid y := ⟨Nat.lt_of_le_of_lt hy h.lt⟩
theorem Mid.add {x y : Nat} (h : Mid x) (k : Mid y) : x + y < P 76 := by
  have h1 := h.lt
  have h2 := k.lt
  rw [show 76 = 75 + 1 from rfl, P_succ]
  have := P_pos 75
  omega
theorem tx_of {x n : Nat} (h : x < P n) (hn : n ≤ 225) : Tx x := ⟨Nat.lt_of_lt_of_le h (P_le hn)⟩
/-- What is known of a world: numbers, boxes, and that what was is as it was. -/
structure St (w0 w : World) (N : List (Value × Nat)) (C : List (Nat × Value)) : Prop where
  nats : ∀ p ∈ N, IsNat w p.1 p.2
  cells : ∀ p ∈ C, w.cell? ⟨p.1, 0, none⟩ = some p.2
  bel : Below w0.heap.size w0 w
theorem St.go {w0 w w' : World} {N : List (Value × Nat)} {C : List (Nat × Value)} (h : St w0 w N C) (hb : Below w.heap.size w w') : St w0 w' N C :=
  ⟨fun p hp => (h.nats p hp).mono hb, fun p hp => cell_later hb (h.cells p hp), bel_go h.bel hb⟩
theorem St.at {w0 w : World} {N : List (Value × Nat)} {C : List (Nat × Value)} (h : St w0 w N C) (v : Value) (x : Nat) (hm : (v, x) ∈ N := by simp) : IsNat w v x := h.nats _ hm
theorem St.cell {w0 w : World} {N : List (Value × Nat)} {C : List (Nat × Value)} (h : St w0 w N C) (b : Nat) (u : Value) (hm : (b, u) ∈ C := by simp) : w.cell? ⟨b, 0, none⟩ = some u := h.cells _ hm
theorem bitLen_zero : bitLen 0 = 0 := by simp [bitLen]
theorem bitLen_pos {x : Nat} (h : 0 < x) : 0 < bitLen x := by
  rcases Nat.eq_zero_or_pos (bitLen x) with e | e
  · have := bitLen_lt x
    rw [e] at this
    omega
  · exact e
theorem St.nat {w0 w : World} {N : List (Value × Nat)} {C : List (Nat × Value)} (h : St w0 w N C) {v : Value} {x : Nat} (hp : IsNat w v x) : St w0 w ((v, x) :: N) C :=
  ⟨fun p hp' => by
    rcases List.mem_cons.1 hp' with e | e
    · subst e; exact hp
    · exact h.nats p e, h.cells, h.bel⟩
theorem St.box {w0 w : World} {N : List (Value × Nat)} {C : List (Nat × Value)} (h : St w0 w N C) (u : Value) (t : TypeId) (g : Nat) (hg : g = w.heap.size) : St w0 (w.alloc (.cells #[u] t)) N ((g, u) :: C) := by
  subst hg
  have h' := h.go (w' := w.alloc (.cells #[u] t)) (bel_al (Below.refl _ _))
  refine ⟨h'.nats, fun p hp => ?_, h'.bel⟩
  rcases List.mem_cons.1 hp with e | e
  · subst e
    simp
  · exact h'.cells p e
end Go.Proofs.YtfjmnhmdipjenaaGreatDoor

