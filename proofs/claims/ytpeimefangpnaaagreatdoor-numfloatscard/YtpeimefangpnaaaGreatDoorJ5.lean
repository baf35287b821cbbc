/- Contracts of the program's functions, part 5: own work, joined in build order. -/
import Derived.Test.YtpeimefangpnaaaGreatDoorJ4
import Derived.Laws.BytesArg
namespace Go.Proofs.YtpeimefangpnaaaGreatDoor
open Go.RowKit
set_option maxRecDepth 100000
set_option linter.unusedVariables false
/-- A slice of the call's own that holds the first powers. -/
def PowsAt (w : World) (base : Nat) (v : Value) (K : Nat) : Prop := ∃ G, OZ w base v K G ∧ ∀ i, i < K → IsNat w (.agg #[G i]) (pw i)
theorem IsNat.cellOf {w : World} {u : Value} {x : Nat} (h : IsNat w (.agg #[u]) x) : ∃ a n c, u = .slice a n c := by
  obtain ⟨a, n, c, e1⟩ := h.isAgg
  exact ⟨a, n, c, by simpa using e1⟩
theorem PowsAt.nrow {w : World} {base : Nat} {v : Value} {K : Nat} (h : PowsAt w base v K) : ∃ g cap, v = .slice (some ⟨g, 0, none⟩) K cap ∧ base ≤ g ∧ g < w.heap.size ∧ NRow w g 0 K pw := by
  obtain ⟨G, ⟨g, cap, f, rfl, k1, k2, k3, k4, k5, k6⟩, h2⟩ := h
  refine ⟨g, cap, rfl, k1, k4.lt, fun i hi => ?_⟩
  obtain ⟨a, n, c, e2⟩ := (h2 i hi).cellOf
  refine ⟨a, n, c, ?_, e2 ▸ h2 i hi⟩
  rw [Nat.zero_add, k4.cell (show i < cap by omega), k5 i hi, e2]
theorem PowsAt.below {w w' : World} {base : Nat} {v : Value} {K : Nat} (h : PowsAt w base v K) (hb : Below w.heap.size w w') : PowsAt w' base v K := by
  obtain ⟨G, ⟨g, cap, f, rfl, k1, k2, k3, k4, k5, k6⟩, h2⟩ := h
  exact ⟨G, ⟨g, cap, f, rfl, k1, k2, k3, k4.of_block (hb.block g k4.lt), k5, k6⟩, fun i hi => (h2 i hi).mono hb⟩
theorem PowsAt.lower {w : World} {base base' : Nat} {v : Value} {K : Nat} (h : PowsAt w base v K) (hb : base' ≤ base) : PowsAt w base' v K := by
  obtain ⟨G, ⟨g, cap, f, rfl, k1, k2⟩, h2⟩ := h
  exact ⟨G, ⟨g, cap, f, rfl, by omega, k2⟩, h2⟩
theorem box_noword {w : World} {b : Nat} {u : Value} {x : Nat} {y : World} (h : w.rowIs b 25 1 fun _ => u) (k : IsNat y (.agg #[u]) x) : ∀ i z, w.cell? ⟨b, i, none⟩ ≠ some (.int .u64 z) := by
  obtain ⟨a, n, c, rfl⟩ := k.cellOf
  exact rowIs_noword h fun i hi z => by simp
/-- A store into a box of a number. -/
theorem PowsAt.box {w w' : World} {base b : Nat} {v : Value} {K : Nat} (h : PowsAt w base v K) (hb : b < base) (hg : w.grownBy w' (some b)) (hw : ∀ i z, w.cell? ⟨b, i, none⟩ ≠ some (.int .u64 z)) : PowsAt w' base v K := by
  obtain ⟨G, ⟨g, cap, f, rfl, k1, k2, k3, k4, k5, k6⟩, h2⟩ := h
  exact ⟨G, ⟨g, cap, f, rfl, k1, k2, k3, k4.of_block (hg.block g k4.lt (by intro e; cases e; omega)), k5, k6⟩, fun i hi => (h2 i hi).keep hg hw⟩
theorem PowsAt.noword {w : World} {base : Nat} {v : Value} {K : Nat} (h : PowsAt w base v K) : ∃ g, v.ownBlock = some g ∧ base ≤ g ∧ ∀ i z, w.cell? ⟨g, i, none⟩ ≠ some (.int .u64 z) := by
  obtain ⟨G, ⟨g, cap, f, rfl, k1, k2, k3, k4, k5, k6⟩, h2⟩ := h
  refine ⟨g, rfl, k1, rowIs_noword k4 fun i hi z => ?_⟩
  rcases Nat.lt_or_ge i K with hh | hh
  · obtain ⟨a, n, c, e⟩ := (h2 i hh).cellOf
    rw [k5 i hh, e]
    simp
  · rw [k6 i hh hi]
    simp
theorem hold {p : Prop} (h : True → p) : p := h trivial
/-- One power more, by append. -/
theorem wpList_append_pow {w : World} {ops : Array Oper} {rest : List Oper} {o : Oper} {ac : Act} {Q : Exit → Act → World → Prop} (hgd : o.guard = none) (s x : Operand)
    (ho : o.op = .call { callee := .builtin .append, args := #[s, x], argTypes := #[142, 142] }) (base : Nat) (v : Value) (K : Nat) (hs : ac.eval s = v) (hown : PowsAt w base v K)
    (b : Nat) (c : Nat) (hx : ac.eval x = .slice (some ⟨b, 0, none⟩) 1 c) (u : Value) (hc : w.cell? ⟨b, 0, none⟩ = some u) (hu : IsNat w (.agg #[u]) (pw K)) (hn : K + 1 ≤ 1099511627776) (hbase : base ≤ w.heap.size)
    (h : ∀ v' w', PowsAt w' base v' (K + 1) → w.grownBy w' v.ownBlock → (∀ y z, IsNat w y z → IsNat w' y z) → wpList Tryz.prog ops Q rest (ac.put o.dst v') w') : wpList Tryz.prog ops Q (o :: rest) ac w := by
  obtain ⟨g, e1, e2, e3⟩ := hown.noword
  obtain ⟨G, h1, h2⟩ := hown
  have hone : u.oneCell' = true := by
    obtain ⟨a, n, c, rfl⟩ := hu.cellOf
    rfl
  obtain ⟨v', w', hr, k1, k2⟩ := append_oz w base v K G h1 o.type b c u hc hone hn hbase
  refine wpList_plain hgd fun K' hK => ?_
  unfold Oper.wp execOp
  simp only [ho, resolve, invoke, builtin, Sem.run_bind, Sem.run_pure, Result.andThen_ok, List.map_toArray, List.map_cons, List.map_nil, hs, hx, hr]
  have k3 := k2
  rw [e1] at k3
  refine hK _ _ (h v' w' ⟨_, k1, fun i hi => ?_⟩ k2 fun y z hy => hy.keep k3 e3)
  by_cases e : i = K
  · subst e
    show IsNat w' (.agg #[if i = i then u else G i]) _
    rw [if_pos rfl]
    exact hu.keep k3 e3
  · show IsNat w' (.agg #[if i = K then u else G i]) _
    rw [if_neg e]
    exact (h2 i (by omega)).keep k3 e3
set_option maxHeartbeats 1000000 in
theorem chunkPowers_short (v : Value) (x : Nat) (w : World) (h : IsNat w v x) (hx : x < P 40) :
    Calls Tryz.prog 104 #[v] w fun e w' => e = .returned (.slice none 0 0) ∧ Below w.heap.size w w' := by
  obtain ⟨a, n, c, rfl⟩ := h.isAgg
  obtain ⟨F, hs, h0, h1, hv⟩ := h.fits
  have hn : n ≤ 40 := len_le_of (hv.symm ▸ hx) h1
  clear h hx hs h0 h1 hv
  go_enter Tryz.func104, Tryz.ntmps104
  go_wp2_with fail
  go_ret
  exact ⟨rfl, (Below.refl _ _).alloc (Nat.le_refl _) _⟩
set_option maxHeartbeats 2000000 in
theorem chunkPowers_long (v : Value) (x : Nat) (w : World) (h : IsNat w v x) (hx : P 40 ≤ x) (ht : Tx x) :
    Calls Tryz.prog 104 #[v] w fun e w' => ∃ u, e = .returned u ∧ ∃ K, 0 < K ∧ K ≤ 8 ∧ PowsAt w' w.heap.size u K ∧ Below w.heap.size w w' := by
  obtain ⟨a, n, c, rfl⟩ := h.isAgg
  obtain ⟨F, hs, h0, h1, hv⟩ := h.fits
  have hn : n ≤ 225 := len_le_of (hv.symm ▸ ht.lt) h1
  have hn2 : 40 < n := by
    rcases Nat.lt_or_ge 40 n with hh | hh
    · exact hh
    · have := V_lt (hs.2.2.1)
      have := P_le hh
      omega
  clear hs h0 h1 hv hx ht h
  go_enter Tryz.func104, Tryz.ntmps104
  go_wp2_with fail
  refine (of_any 10000000000000000000 _ (by omega)).mono ?_
  rintro e w1 ⟨v1, rfl, hv1, hb1⟩
  obtain ⟨a1, n1, c1, rfl⟩ := hv1.isAgg
  have hs1 : w.heap.size < w1.heap.size := by have := hb1.size; simp at this; omega
  have hcx : w1.cell? ⟨w.heap.size, 0, none⟩ = some (.slice a n c) := by
    have := hb1.block w.heap.size (by simp)
    rw [World.cell?_of_block this]
    simp
  have B1 : Hid (Below w.heap.size w w1) := bel_trans ((Below.refl _ _).alloc (Nat.le_refl _) _) hb1
  have V1 : Hid (IsNat w1 (.agg #[.slice a1 n1 c1]) (pw 0)) := by rw [pw_zero]; exact hv1
  have X1 : Hid _ := hcx
  clear hb1 hv1 hcx
  go_wp2_with fail
  go_loopw [4] (fun pv wr => ∃ (i : Nat) (u : Value), i ≤ 7 ∧ wr.rowIs w1.heap.size 25 1 (fun _ => u) ∧ IsNat wr (.agg #[u]) (pw i) ∧ PowsAt wr (w1.heap.size + 1) pv (i + 1) ∧ wr.cell? ⟨w.heap.size, 0, none⟩ = some (.slice a n c) ∧ Below w.heap.size w wr) (fun pv _ => match pv with | .slice _ k _ => 9 - k | _ => 0)
  case atStart =>
    have hbw : Below w1.heap.size w1 ((w1.alloc (Obj.cells #[Value.slice a1 n1 c1] 25)).alloc (Obj.cells #[Value.slice a1 n1 c1] 25)) := bel_alloc2 _ _ _
    refine ⟨0, .slice a1 n1 c1, by omega, ?_, V1.out.mono hbw, ?_, cell_later hbw X1.out, bel_trans B1.out hbw⟩
    · exact (World.rowIs_alloc w1 #[Value.slice a1 n1 c1] 25 (fun _ => Value.slice a1 n1 c1) (fun i hi => by rw [show i = 0 by simpa using hi]; rfl)).alloc _
    · refine ⟨fun _ => .slice a1 n1 c1, ⟨w1.heap.size + 1, 1, fun _ => .slice a1 n1 c1, rfl, Nat.le_refl _, Nat.le_refl _, by simp only [maxLen]; omega, ?_, fun _ _ => rfl, fun i h1 h2 => by omega⟩, fun i hi => ?_⟩
      · have h := World.rowIs_alloc (w1.alloc (Obj.cells #[Value.slice a1 n1 c1] 25)) #[Value.slice a1 n1 c1] 25 (fun _ => Value.slice a1 n1 c1) (fun i hi => by rw [show i = 0 by simpa using hi]; rfl)
        simpa using h
      · rw [show i = 0 by omega]
        exact V1.out.mono hbw
  case round =>
    clear V1 X1 B1
    obtain ⟨i, u, hi, hrow, hu, hP, hcx, hb⟩ := hrel
    obtain ⟨ap, np, cp, rfl⟩ := hu.cellOf
    obtain ⟨g, gc, rfl, hg1, hg2, hg3⟩ := id hP.nrow
    have hcb : wr.cell? ⟨w1.heap.size, 0, none⟩ = some (.slice ap np cp) := hrow.cell (by omega)
    have hfb : wr.frozen? ⟨w1.heap.size, 0, none⟩ = false := hrow.frozen _
    obtain ⟨Fp, ps, p0, p1, pv⟩ := id hu.fits
    have hnp : np ≤ 127 := len_le_of (pv.symm ▸ (show pw i < P 127 from Nat.lt_of_le_of_lt (pw_le hi) (by decide +kernel))) p1
    have HH : Hid (wr.rowIs w1.heap.size 25 1 (fun _ => .slice ap np cp) ∧ IsNat wr (.agg #[.slice ap np cp]) (pw i) ∧ PowsAt wr (w1.heap.size + 1) (.slice (some ⟨g, 0, none⟩) (i + 1) gc) (i + 1) ∧ Below w.heap.size w wr) := ⟨hrow, hu, hP, hb⟩
    have H6 : Hid (np ≤ 113 → i ≤ 6) := fun hh => by
      rcases Nat.lt_or_ge i 7 with h7 | h7
      · omega
      · have e1 := V_lt ps.2.2.1
        rw [pv] at e1
        have e2 := P_le hh
        have e3 : P 113 < pw 7 := by decide +kernel
        have e4 := pw_le h7
        omega
    clear hrow hu hP hb ps p0 p1 pv hg3
    by_cases hl : 2 * np ≤ n + 1
    · have hlb : decide (2 * (np : Int) - 1 ≤ n) = true := decide_eq_true (by omega)
      have hi6 : i ≤ 6 := H6.out (by omega)
      go_wp2_with fail
      have htx : Tx (pw i) := pw_tx hi
      refine (mul_short _ _ (pw i) (pw i) wr HH.out.2.1 HH.out.2.1 htx.fits htx.fits (.inl (Nat.lt_of_le_of_lt (pw_le hi6) pw_six))).mono ?_
      rintro e w2 ⟨v2, rfl, hv2, hb2⟩
      rw [← pw_succ] at hv2
      obtain ⟨a2, n2, c2, rfl⟩ := hv2.isAgg
      have hrow2 := HH.out.1.of_block (hb2.block _ HH.out.1.lt)
      have hcb2 : w2.cell? ⟨w1.heap.size, 0, none⟩ = some (.slice ap np cp) := hrow2.cell (by omega)
      have hfb2 : w2.frozen? ⟨w1.heap.size, 0, none⟩ = false := hrow2.frozen _
      have hnw : ∀ i z, w2.cell? ⟨w1.heap.size, i, none⟩ ≠ some (.int .u64 z) := box_noword hrow2 HH.out.2.1
      have hgs : w2.grownBy (w2.setCell ⟨w1.heap.size, 0, none⟩ (.slice a2 n2 c2)) (some w1.heap.size) := grown_set w2 (World.grownBy.refl _ _) _ _
      have hrow3 := hrow2.set 0 (.slice a2 n2 c2)
      have hP3 := (HH.out.2.2.1.below hb2).box (by omega) hgs hnw
      have hv3 := hv2.keep hgs hnw
      have I3 : Hid (_ ∧ _ ∧ _) := ⟨hrow3, hP3, hv3⟩
      have hcx2 : w2.cell? ⟨w.heap.size, 0, none⟩ = some (.slice a n c) := by
        rw [World.cell?_of_block (hb2.block w.heap.size (by have := HH.out.1.lt; omega))]
        exact hcx
      have B2 : Hid (Below w.heap.size w w2) := bel_trans HH.out.2.2.2 hb2
      have hsz : w1.heap.size + 1 < w2.heap.size := Nat.lt_of_lt_of_le (by omega) hb2.size
      clear hrow2 hnw hgs hrow3 hP3 hv3 hv2 hb2 htx HH
      go_wp2_with (refine (id ?_ : wpList Tryz.prog _ _ (⟨some 27, _, _, _, _, _⟩ :: _) _ _); refine hold ?_)
      intro _
      refine wpList_append_pow rfl (.tmp 24) (.tmp 26) rfl (w1.heap.size + 1) _ (i + 1) rfl (I3.out.2.1.below ((Below.refl _ _).alloc (Nat.le_refl _) _)) w2.heap.size 1 rfl (.slice a2 n2 c2) ?_ (I3.out.2.2.mono ((Below.refl _ _).alloc (Nat.le_refl _) _)) (by omega) ?_ ?_
      · have e : (w2.setCell ⟨w1.heap.size, 0, none⟩ (Value.slice a2 n2 c2)).heap.size = w2.heap.size := by simp
        have h := (World.rowIs_alloc (w2.setCell ⟨w1.heap.size, 0, none⟩ (Value.slice a2 n2 c2)) #[Value.slice a2 n2 c2] 25 (fun _ => Value.slice a2 n2 c2) (fun i hi => by rw [show i = 0 by simpa using hi]; rfl)).cell (i := 0) (by simp)
        rw [e] at h
        exact h
      · simp
        omega
      intro v5 w5 hP5 hg5 hk5
      have hg5' : ((w2.setCell ⟨w1.heap.size, 0, none⟩ (Value.slice a2 n2 c2)).alloc (Obj.cells #[Value.slice a2 n2 c2] 25)).grownBy w5 (some g) := hg5
      have hn5 := hk5 _ _ (I3.out.2.2.mono ((Below.refl _ _).alloc (Nat.le_refl _) _))
      have hgs : w2.grownBy (w2.setCell ⟨w1.heap.size, 0, none⟩ (.slice a2 n2 c2)) (some w1.heap.size) := grown_set w2 (World.grownBy.refl _ _) _ _
      have hb3 := B2.out.grown hgs (by omega) (fun k hk => by cases hk; omega)
      have hb4 := hb3.alloc (by simp; omega) (Obj.cells #[Value.slice a2 n2 c2] 25)
      have hb5 := hb4.grown hg5' (by simp; omega) (fun k hk => by cases hk; omega)
      have hr5 := ((I3.out.1.congr (g := fun _ => Value.slice a2 n2 c2) (fun i hi => by rw [show i = 0 by omega, if_pos rfl])).alloc (Obj.cells #[Value.slice a2 n2 c2] 25)).of_block (hg5'.block w1.heap.size (by simp; omega) (by intro e; cases e; omega))
      have hx5 : w5.cell? ⟨w.heap.size, 0, none⟩ = some (.slice a n c) := by
        have n1 : some w.heap.size ≠ some g := fun e => by simp at e; omega
        have n2 : some w.heap.size ≠ some w1.heap.size := fun e => by simp at e; omega
        refine hg5'.cell ?_ n1
        rw [World.cell?_alloc_past _ _ _ (by simp; omega)]
        exact hgs.cell hcx2 n2
      obtain ⟨g5, gc5, rfl, _, _, _⟩ := id hP5.nrow
      have I5 : Hid (_ ∧ _ ∧ _ ∧ _ ∧ _) := ⟨hr5, hn5, hP5, hx5, hb5⟩
      clear hP5 hg5 hk5 hg5' hn5 hgs hb3 hb4 hb5 hr5 hx5 I3 B2
      go_wp2_with fail
      go_roundw
      case rel => exact ⟨i + 1, .slice a2 n2 c2, by omega, I5.out⟩
      case measure => simp; omega
    · have hlb : decide (2 * (np : Int) - 1 ≤ n) = false := decide_eq_false (by omega)
      go_wp2_with fail
      go_ret
      exact ⟨_, rfl, i + 1, by omega, by omega, HH.out.2.2.1.lower (by omega), HH.out.2.2.2⟩
end Go.Proofs.YtpeimefangpnaaaGreatDoor
namespace Go.Proofs.YtpeimefangpnaaaGreatDoor
open Go.RowKit
set_option maxRecDepth 100000
set_option linter.unusedVariables false
theorem cnt_full {M : Nat → Nat} {x : Nat} : ∀ {K : Nat}, (∀ i, i < K → M i ≤ x) → cnt M x K = K
  | 0, _ => rfl
  | K + 1, h => by
    unfold cnt
    rw [cnt_full fun i hi => h i (by omega), if_pos (h K (by omega))]
theorem cnt_pw {x : Nat} : ∀ {K t : Nat}, cnt pw x K = t + 1 → t < K ∧ pw t ≤ x
  | 0, t, h => by
    unfold cnt at h
    omega
  | K + 1, t, h => by
    by_cases hk : pw K ≤ x
    · rw [cnt_full fun i hi => Nat.le_trans (pw_le (show i ≤ K by omega)) hk] at h
      obtain rfl : t = K := by omega
      exact ⟨by omega, hk⟩
    · unfold cnt at h
      rw [if_neg hk, Nat.add_zero] at h
      obtain ⟨h1, h2⟩ := cnt_pw h
      exact ⟨by omega, h2⟩
theorem cnt_one {x : Nat} (h : pw 0 ≤ x) : ∀ {K : Nat}, 0 < K → 0 < cnt pw x K
  | 0, hk => absurd hk (by omega)
  | 1, _ => by
    unfold cnt cnt
    rw [if_pos h]
    omega
  | K + 2, _ => by
    have := cnt_one h (show 0 < K + 1 by omega)
    rw [cnt]
    omega
theorem BRow.noword {w : World} {b N : Nat} {D : Nat → Nat} (h : BRow w b N D) : ∀ i z, w.cell? ⟨b, i, none⟩ ≠ some (.int .u64 z) := rowIs_noword h.1 fun i hi z => by simp
theorem PowsAt.bytes {w w' : World} {base b N K : Nat} {v : Value} {D : Nat → Nat} (h : PowsAt w base v K) (hD : BRow w b N D) (hg : w.grownBy w' (some b)) : PowsAt w' base v K := by
  obtain ⟨G, ⟨g, cap, f, rfl, k1, k2, k3, k4, k5, k6⟩, h2⟩ := h
  refine ⟨G, ⟨g, cap, f, rfl, k1, k2, k3, k4.of_block (hg.block g k4.lt ?_), k5, k6⟩, fun i hi => (h2 i hi).keep hg hD.noword⟩
  intro e
  cases e
  obtain ⟨c1, e1, _⟩ := k4
  obtain ⟨c2, e2, _⟩ := hD.1
  rw [e1] at e2
  simp at e2
/-- The digits of two parts are those of the whole. -/
theorem DecFill.join {D D' D'' : Nat → Nat} {o n cut x m : Nat} (hc : n = cut + m) (h : DecFill D D' o cut 0 (x / 10 ^ m)) (k : DecFill D' D'' (o + cut) m 0 (x % 10 ^ m)) : DecFill D D'' o n 0 x := by
  subst hc
  refine ⟨fun i _ hi => ?_, fun j hj => ?_⟩
  · rcases Nat.lt_or_ge i cut with hh | hh
    · rw [k.2 _ (by omega), h.1 i (by omega) hh, decAt_div]
      congr 1
      omega
    · have := k.1 (i - cut) (by omega) (by omega)
      rw [show o + cut + (i - cut) = o + i by omega] at this
      rw [this, decAt_mod _ _ _ (by omega)]
      congr 1
      omega
  · rw [k.2 _ (by omega), h.2 _ (by omega)]
theorem slice_bh (g o len cap c : Nat) (hc : c ≤ cap) (w : World) :
    (Instr.slice 41 (.slice (some ⟨g, o, none⟩) len cap) none (some (.int .i64 (c : Int))) none).run Tryz.prog w = .ok (.slice (some ⟨g, o, none⟩) c cap) w := by
  rw [run_slice_h (P := Tryz.prog) (kh := .i64) (h := (c : Int)) (ht := by kernel_rfl) (h0 := by omega) (h2 := by omega)]
  have hz : (sizeOf (Tryz.prog.elem 41)).run Tryz.prog w = .ok 1 w := by kernel_rfl
  rw [hz]
  simp [Result.andThen, sliced]
  intro _
  simp [Addr.add]
theorem slice_bl (g o len cap c : Nat) (hc : c < cap) (hl : c ≤ len) (w : World) :
    (Instr.slice 41 (.slice (some ⟨g, o, none⟩) len cap) (some (.int .i64 (c : Int))) none none).run Tryz.prog w = .ok (.slice (some ⟨g, o + c, none⟩) (len - c) (cap - c)) w := by
  rw [run_slice_l (P := Tryz.prog) (kl := .i64) (l := (c : Int)) (ht := by kernel_rfl) (h0 := by omega) (h1 := by omega)]
  have hz : (sizeOf (Tryz.prog.elem 41)).run Tryz.prog w = .ok 1 w := by kernel_rfl
  have hne : ¬ cap = c := by omega
  rw [hz]
  simp only [Result.andThen, sliced, Int.toNat_natCast, Nat.mul_one, if_neg hne, Option.map_some]
  congr 3
  unfold Addr.add
  split <;> simp_all
theorem gb_undrew {w w' : World} {r : Option Nat} (h : w.drew.grownBy w' r) : w.grownBy w' r := ⟨h.os, h.tape, h.output, h.size, h.block⟩
/-- What fill makes. -/
def Fills (w : World) (b N o n x : Nat) (D : Nat → Nat) (e : Ending) (w' : World) : Prop := e = .returned (.tuple #[]) ∧ ∃ D', BRow w' b N D' ∧ DecFill D D' o n 0 x ∧ w.grownBy w' (some b)
set_option maxHeartbeats 1000000 in
theorem fill_short (b N o n cap : Nat) (v pv : Value) (x : Nat) (D : Nat → Nat) (w : World) (hD : BRow w b N D) (ho : o + n ≤ N) (hn : n ≤ 1099511627776) (hcap : n ≤ cap) (hcap2 : cap ≤ 1099511627776) (h : IsNat w v x) (hx : x < P 40) :
    Calls Tryz.prog 103 #[.slice (some ⟨b, o, none⟩) n cap, v, pv] w (Fills w b N o n x D) := by
  obtain ⟨a, m, c, rfl⟩ := h.isAgg
  obtain ⟨F, hs, h0, h1, hv⟩ := id h.fits
  have hm : m ≤ 40 := len_le_of (hv.symm ▸ hx) h1
  have HH : Hid (BRow w b N D ∧ IsNat w (.agg #[.slice a m c]) x) := ⟨hD, h⟩
  have HX : Hid (Fits x) := ⟨Nat.lt_trans hx (P_lt (show 40 < lim by decide))⟩
  clear hD h hs h0 h1 hv hx
  go_enter Tryz.func103, Tryz.ntmps103
  go_wp2_with fail
  have ba : Below w.heap.size w (w.alloc (Obj.cells #[Value.slice a m c] 25)) := (Below.refl _ _).alloc (Nat.le_refl _) _
  refine (fillPlain_any b N o n cap _ x D _ (HH.out.1.below ba) ho hn hcap hcap2 (HH.out.2.mono ba) HX.out).mono ?_
  rintro e w2 ⟨rfl, D', hb, hf, hg⟩
  have I2 : Hid (_ ∧ _ ∧ _) := ⟨hb, hf, gb_go (gb_of_below ba (some b)) hg (fun j hj => .inr hj)⟩
  clear hb hf hg ba
  go_wp2_with fail
  exact bodyPost_end (v := .tuple #[]) (by simp [results, Tryz.results103, go_sem]) rfl ⟨rfl, D', I2.out⟩
set_option maxHeartbeats 2000000 in
theorem fill_step (b N o n cap : Nat) (v pv : Value) (x base K : Nat) (D : Nat → Nat) (w : World) (hD : BRow w b N D) (ho : o + n ≤ N) (hn : n ≤ 1099511627776) (hcap : n ≤ cap) (hcap2 : cap ≤ 1099511627776) (h : IsNat w v x) (hx : P 40 ≤ x) (ht : Tx x) (hxn : x < 10 ^ n) (hP : PowsAt w base pv K) (hK : 0 < K) (hK2 : K ≤ 8)
    (ih : ∀ y, y < x → ∀ (o n cap : Nat) (v : Value) (D : Nat → Nat) (w : World), BRow w b N D → o + n ≤ N → n ≤ 1099511627776 → n ≤ cap → cap ≤ 1099511627776 → IsNat w v y → y < 10 ^ n → PowsAt w base pv K → Calls Tryz.prog 103 #[.slice (some ⟨b, o, none⟩) n cap, v, pv] w (Fills w b N o n y D)) :
    Calls Tryz.prog 103 #[.slice (some ⟨b, o, none⟩) n cap, v, pv] w (Fills w b N o n x D) := by
  obtain ⟨a, m, c, rfl⟩ := h.isAgg
  obtain ⟨F, hs, h0, h1, hv⟩ := id h.fits
  have hm : 40 < m := by
    rcases Nat.lt_or_ge 40 m with hh | hh
    · exact hh
    · have := V_lt (hs.2.2.1)
      have := P_le hh
      omega
  have hm2 : m ≤ 225 := len_le_of (hv.symm ▸ ht.lt) h1
  have hp0 : pw 0 ≤ x := Nat.le_trans (show pw 0 ≤ P 40 by decide +kernel) hx
  obtain ⟨t, ht1⟩ : ∃ t, cnt pw x K = t + 1 := ⟨cnt pw x K - 1, by have := cnt_one hp0 hK; omega⟩
  obtain ⟨ht2, ht3⟩ := cnt_pw ht1
  obtain ⟨g, gc, rfl, hg1, hg2, hg3⟩ := id hP.nrow
  obtain ⟨ap, np, cp, e1, e2⟩ := hg3 t ht2
  rw [Nat.zero_add] at e1
  have ba : Below w.heap.size w (w.alloc (Obj.cells #[Value.slice a m c] 25)) := (Below.refl _ _).alloc (Nat.le_refl _) _
  have HH : Hid (BRow w b N D ∧ IsNat w (.agg #[.slice a m c]) x ∧ PowsAt w base (.slice (some ⟨g, 0, none⟩) K gc) K ∧ IsNat w (.agg #[.slice ap np cp]) (pw t) ∧ w.cell? ⟨g, t, none⟩ = some (.slice ap np cp) ∧ NRow w g 0 K pw) := ⟨hD, h, hP, e2, e1, hg3⟩
  have HT : Hid (Tx x ∧ pw t ≤ x ∧ x < 10 ^ n ∧ cnt pw x K = t + 1) := ⟨ht, ht3, hxn, ht1⟩
  have IH : Hid _ := ih
  clear hD h hs h0 h1 hv hx ht hxn hP hp0 e1 e2 hg3 ih ht1 ht3 hg1
  go_enter Tryz.func103, Tryz.ntmps103
  go_wp2_with fail
  refine (reached_any _ x g 0 K gc pw _ (HH.out.2.1.mono ba) HT.out.1.fits (HH.out.2.2.2.2.2.mono ba) (fun i hi => (pw_tx (show i ≤ 7 by omega)).fits) (by omega)).mono ?_
  rintro e w2 ⟨rfl, hb2⟩
  rw [HT.out.2.2.2, show (((t + 1 : Nat) : Nat) : Int) = (t : Int) + 1 from rfl]
  have B2 : Hid (Below w.heap.size w w2) := bel_go ba hb2
  have c0 : w2.cell? ⟨w.heap.size, 0, none⟩ = some (.slice a m c) := cell_later hb2 (by simp [go_sem])
  have c1 : w2.cell? ⟨g, t, none⟩ = some (.slice ap np cp) := cell_later B2.out HH.out.2.2.2.2.1
  have hl0 : w.heap.size < w2.heap.size := World.block_lt_of_cell? _ _ c0
  have hl1 : g < w2.heap.size := World.block_lt_of_cell? _ _ c1
  have hl2 : w.heap.size < w2.heap.size + 1 := by omega
  have hl3 : g < w2.heap.size + 1 := by omega
  have hl4 : w.heap.size < w2.heap.size + 1 + 1 := by omega
  have hl5 : g < w2.heap.size + 1 + 1 := by omega
  have hwr : IntKind.i64.wrap ((t : Int) + 1 - 1) = (t : Int) := by rw [IntKind.wrap_i64]; omega
  have hwr2 : IntKind.i64.wrap (t : Int) = (t : Int) := by rw [IntKind.wrap_i64]; omega
  have hti : (0 : Int) ≤ (t : Int) := by omega
  have hti2 : (t : Int) < (K : Int) := by omega
  have I2 : Hid (IsNat w2 (.agg #[.slice a m c]) x ∧ IsNat w2 (.agg #[.slice ap np cp]) (pw t) ∧ BRow w2 b N D ∧ PowsAt w2 base (.slice (some ⟨g, 0, none⟩) K gc) K ∧ w.grownBy w2 (some b)) := ⟨HH.out.2.1.mono B2.out, HH.out.2.2.2.1.mono B2.out, HH.out.1.below B2.out, HH.out.2.2.1.below B2.out, gb_of_below B2.out _⟩
  clear hb2 ba HH hg2
  go_wp2_with fail
  go_cut [7, 8] (fun p q wx => TwoVars w2 wx (x / pw t) (x % pw t) p q)
  case first =>
    go_region_held3 (fun w' => w'.cell? ⟨w.heap.size, 0, none⟩ = some (.slice a m c) ∧ w'.cell? ⟨g, t, none⟩ = some (.slice ap np cp)) (first | (simp [go_sem, *]; done) | (trace_state; fail))
      (first
        | (go_at_call 91; refine Calls.mono (divMod_any _ _ x (pw t) _ ?_ ?_ HT.out.1.small (HT.out.1.le HT.out.2.1).small (pw_pos t) ((pw_cond HT.out.1 HT.out.2.1).imp .inl id)) ?_; (refine IsNat.mono I2.out.1 ?_; repeat (first | exact Below.refl _ _ | refine bel_al ?_ | refine bel_dr ?_)); (refine IsNat.mono I2.out.2.1 ?_; repeat (first | exact Below.refl _ _ | refine bel_al ?_ | refine bel_dr ?_)); rintro e w3 ⟨v3, u3, rfl, hv3, hu3, hb3⟩; obtain ⟨a5, n5, cap5, rfl⟩ := hv3.isAgg; obtain ⟨a6, n6, cap6, rfl⟩ := hu3.isAgg; (first | have ⟨p1, p2, p3, p4, p5, p6, p7, p8, p9⟩ := bel_rules_dr hb3 | have ⟨p1, p2, p3, p4, p5, p6, p7, p8, p9⟩ := bel_rules hb3); have X5 : Hid (IsNat w3 (.agg #[.slice a5 n5 cap5]) (x / pw t) ∧ IsNat w3 (.agg #[.slice a6 n6 cap6]) (x % pw t)) := ⟨hv3, hu3⟩; (have B3 : Hid (Below w2.heap.size w2 w3) := bel_go (by repeat (first | exact Below.refl _ _ | refine bel_al ?_ | refine bel_dr ?_)) hb3); have z3 := B3.out.size; have g0 := Nat.lt_of_lt_of_le hl0 z3; have g1 := Nat.lt_of_lt_of_le hl1 z3; (first | have e0 : w2.heap.size < w3.heap.size := lt_al p3 | (have e0 : w2.heap.size < w3.heap.size := lt_al2 p3; have e1 : w2.heap.size + 1 < w3.heap.size := lt_al3 p3) | skip); clear hv3 hu3 hb3 z3))
    all_goals (have y3 := B3.out.size)
    all_goals go_wp2_with fail
    all_goals go_meet
    all_goals go_light
    all_goals clear HT I2 IH B2 c0 c1 hwr hwr2 hti hti2 ho hn hcap hcap2 hK hK2 hm hm2 ht2
    all_goals (have BB := B3.out)
    all_goals (have X6 := X5.out.1)
    all_goals (have X7 := X5.out.2)
    all_goals clear X5 B3
    all_goals refine ⟨_, _, a5, n5, cap5, a6, n6, cap6, rfl, rfl, ?_, ?_, ?_, ?_, ?_, ?_, ?_⟩
    all_goals try (simp (config := { maxDischargeDepth := 9 }) [go_sem, *]; done)
    all_goals try (repeat (first | exact BB | refine bel_al ?_ | refine bel_st ?_ (Nat.le_trans ?_ (Nat.le_refl _))))
    all_goals try (repeat (first | exact X6 | exact X7 | refine IsNat.mono ?_ (bel_al (Below.refl _ _)) | refine IsNat.setCell ?_ (no_int_slice (a := none) (n := 0) (c := 0) ?_) _))
    all_goals try omega
    all_goals try (simp (config := { maxDischargeDepth := 9 }) [go_sem, *]; done)
    all_goals (dsimp only; omega)
  case rest =>
    obtain ⟨bp, bq, a5, n5, c5, a6, n6, c6, rfl, rfl, d0, d1, hv5, hu5, hB, lp, lq⟩ := hcut
    have I3 : Hid (IsNat wc (.agg #[.slice a5 n5 c5]) (x / pw t) ∧ IsNat wc (.agg #[.slice a6 n6 c6]) (x % pw t) ∧ BRow wc b N D ∧ PowsAt wc base (.slice (some ⟨g, 0, none⟩) K gc) K ∧ w.grownBy wc (some b)) := ⟨hv5, hu5, I2.out.2.2.1.below hB, I2.out.2.2.2.1.below hB, gb_go I2.out.2.2.2.2 (gb_of_below hB (some b)) (fun j hj => .inr hj)⟩
    have hbb : b < w2.heap.size := I2.out.2.2.1.1.lt
    have hpb : b ≠ bp := by omega
    have hqb : b ≠ bq := by omega
    clear hv5 hu5 hB I2 B2 c0 c1 hl0 hl1 hl2 hl3 hl4 hl5 lp lq hbb
    go_wp2_with fail
    obtain ⟨M, hM⟩ : ∃ M, M = 19 * 2 ^ t := ⟨_, rfl⟩
    have hpw : pw t = 10 ^ M := by rw [hM]; rfl
    have hMn : M < n := (Nat.pow_lt_pow_iff_right (show 1 < 10 by decide)).1 (hpw ▸ Nat.lt_of_le_of_lt HT.out.2.1 HT.out.2.2.1)
    have hM0 : 0 < M := by rw [hM]; exact Nat.mul_pos (by decide) (Nat.two_pow_pos t)
    have hMi : (19 : Int) * 2 ^ t = (M : Int) := by rw [hM]; simp
    rw [hMi]
    have J : Hid (pw t = 10 ^ M ∧ x / pw t < x ∧ x % pw t < x ∧ x / pw t < 10 ^ (n - M) ∧ x % pw t < 10 ^ M) := by
      have h0 := HT.out.2.1
      have h1 := pw_two t
      have h2 : 0 < x := Nat.lt_of_lt_of_le (pw_pos t) h0
      refine ⟨hpw, Nat.div_lt_self h2 h1, Nat.lt_of_lt_of_le (Nat.mod_lt _ (pw_pos t)) h0, ?_, hpw ▸ Nat.mod_lt _ (pw_pos t)⟩
      refine Nat.div_lt_of_lt_mul ?_
      rw [hpw, ← Nat.pow_add, Nat.add_sub_cancel' (Nat.le_of_lt hMn)]
      exact HT.out.2.2.1
    clear hM hpw hMi hwr hwr2 hti hti2 HT
    obtain ⟨k, rfl⟩ : ∃ k, n = k + M := ⟨n - M, by omega⟩
    rw [Nat.add_sub_cancel] at J
    have hk0 : 0 < k := by omega
    have hw1 : wrap64 (((k + M : Nat) : Int) - wrap64 (M : Int)) = (k : Int) := by
      have : wrap64 (M : Int) = (M : Int) := by simp only [wrap64]; omega
      rw [this]
      simp only [wrap64]
      omega
    rw [hw1]
    have sl1 := slice_bh b o (k + M) cap k (by omega)
    have sl2 := slice_bl b o (k + M) cap k (by omega) (by omega)
    rw [Nat.add_sub_cancel_left] at sl2
    have hbp : some bp ≠ some b := fun e => hpb (Option.some.inj e).symm
    have hbq : some bq ≠ some b := fun e => hqb (Option.some.inj e).symm
    clear hw1
    go_region_held3 (fun w' => w'.cell? ⟨bp, 0, none⟩ = some (.slice a5 n5 c5)) (first | (simp [go_sem, *]; done) | (trace_state; fail))
      (first
        | (go_at_call 103; refine Calls.mono (IH.out (x / pw t) J.out.2.1 o k cap _ D _ ?_ ?_ ?_ ?_ ?_ ?_ ?_ ?_) ?_; exact I3.out.2.2.1; omega; omega; omega; omega; exact I3.out.1; exact J.out.2.2.2.1; exact I3.out.2.2.2.1; rintro e w4 ⟨rfl, D4, hb4, hf4, hg4⟩; have d2 : w4.cell? ⟨bp, 0, none⟩ = some (.slice a5 n5 c5) := hg4.cell d0 hbp; have d3 : w4.cell? ⟨bq, 0, none⟩ = some (.slice a6 n6 c6) := hg4.cell d1 hbq; have I4 : Hid (BRow w4 b N D4 ∧ DecFill D D4 o k 0 (x / pw t) ∧ wc.grownBy w4 (some b)) := ⟨hb4, hf4, (by first | exact hg4 | exact gb_undrew hg4)⟩; clear hb4 hf4 hg4))
    have I5 : Hid (IsNat w4 (.agg #[.slice a6 n6 c6]) (x % pw t) ∧ PowsAt w4 base (.slice (some ⟨g, 0, none⟩) K gc) K ∧ w.grownBy w4 (some b)) := ⟨I3.out.2.1.keep I4.out.2.2 I3.out.2.2.1.noword, I3.out.2.2.2.1.bytes I3.out.2.2.1 I4.out.2.2, gb_go I3.out.2.2.2.2 I4.out.2.2 (fun j hj => .inr hj)⟩
    clear d0 d1 d2 I3
    go_wp2_with fail
    go_region_held3 (fun w' => w'.cell? ⟨bq, 0, none⟩ = some (.slice a6 n6 c6)) (first | (simp [go_sem, *]; done) | (trace_state; fail))
      (first
        | (go_at_call 103; refine Calls.mono (IH.out (x % pw t) J.out.2.2.1 (o + k) M (cap - k) _ D4 _ ?_ ?_ ?_ ?_ ?_ ?_ ?_ ?_) ?_; exact I4.out.1; omega; omega; omega; omega; exact I5.out.1; exact J.out.2.2.2.2; exact I5.out.2.1; rintro e w6 ⟨rfl, D6, hb6, hf6, hg6⟩; have d4 : w6.cell? ⟨bq, 0, none⟩ = some (.slice a6 n6 c6) := hg6.cell d3 hbq; have I6 : Hid (BRow w6 b N D6 ∧ DecFill D4 D6 (o + k) M 0 (x % pw t) ∧ w4.grownBy w6 (some b)) := ⟨hb6, hf6, (by first | exact hg6 | exact gb_undrew hg6)⟩; clear hb6 hf6 hg6))
    go_wp2_with fail
    refine bodyPost_end (v := .tuple #[]) (by simp [results, Tryz.results103, go_sem]) rfl ⟨rfl, D6, I6.out.1, ?_, gb_go I5.out.2.2 I6.out.2.2 (fun j hj => .inr hj)⟩
    have h1 := I4.out.2.1
    have h2 := I6.out.2.1
    rw [J.out.1] at h1 h2
    exact h1.join rfl h2
theorem fill_any (b N : Nat) (pv : Value) (base K : Nat) (hK : 0 < K) (hK2 : K ≤ 8) : ∀ (x : Nat), Tx x → ∀ (o n cap : Nat) (v : Value) (D : Nat → Nat) (w : World), BRow w b N D → o + n ≤ N → n ≤ 1099511627776 → n ≤ cap → cap ≤ 1099511627776 → IsNat w v x → x < 10 ^ n → PowsAt w base pv K → Calls Tryz.prog 103 #[.slice (some ⟨b, o, none⟩) n cap, v, pv] w (Fills w b N o n x D) := by
  intro x
  induction x using Nat.strongRecOn with
  | ind x ih =>
    intro ht o n cap v D w hD ho hn hcap hcap2 h hxn hP
    rcases Nat.lt_or_ge x (P 40) with hx | hx
    · exact fill_short b N o n cap v pv x D w hD ho hn hcap hcap2 h hx
    · exact fill_step b N o n cap v pv x base K D w hD ho hn hcap hcap2 h hx ht hxn hP hK hK2 fun y hy => ih y hy (ht.le (Nat.le_of_lt hy))
end Go.Proofs.YtpeimefangpnaaaGreatDoor
namespace Go.Proofs.YtpeimefangpnaaaGreatDoor
open Go.RowKit
set_option maxRecDepth 100000
set_option linter.unusedVariables false
/-- The powers serve for x. -/
def PowsOk (w : World) (u : Value) (x : Nat) : Prop := x < P 40 ∨ ∃ base K, 0 < K ∧ K ≤ 8 ∧ PowsAt w base u K
theorem PowsOk.below {w w' : World} {u : Value} {x : Nat} (h : PowsOk w u x) (hb : Below w.heap.size w w') : PowsOk w' u x := by
  rcases h with h | ⟨base, K, h1, h2, h3⟩
  · exact .inl h
  · exact .inr ⟨base, K, h1, h2, h3.below hb⟩
theorem chunkPowers_any (v : Value) (x : Nat) (w : World) (h : IsNat w v x) (ht : Tx x) :
    Calls Tryz.prog 104 #[v] w fun e w' => ∃ u, e = .returned u ∧ PowsOk w' u x ∧ Below w.heap.size w w' := by
  rcases Nat.lt_or_ge x (P 40) with hx | hx
  · refine (chunkPowers_short v x w h hx).mono ?_
    rintro e w' ⟨rfl, hb⟩
    exact ⟨_, rfl, .inl hx, hb⟩
  · refine (chunkPowers_long v x w h hx ht).mono ?_
    rintro e w' ⟨u, rfl, K, h1, h2, h3, hb⟩
    exact ⟨_, rfl, .inr ⟨_, K, h1, h2, h3⟩, hb⟩
theorem fill_ok (b N o n cap : Nat) (v pv : Value) (x : Nat) (D : Nat → Nat) (w : World) (ht : Tx x) (hD : BRow w b N D) (ho : o + n ≤ N) (hn : n ≤ 1099511627776) (hcap : n ≤ cap) (hcap2 : cap ≤ 1099511627776) (h : IsNat w v x) (hxn : x < 10 ^ n) (hP : PowsOk w pv x) :
    Calls Tryz.prog 103 #[.slice (some ⟨b, o, none⟩) n cap, v, pv] w (Fills w b N o n x D) := by
  rcases hP with hx | ⟨base, K, h1, h2, h3⟩
  · exact fill_short b N o n cap v pv x D w hD ho hn hcap hcap2 h hx
  · exact fill_any b N pv base K h1 h2 x ht o n cap v D w hD ho hn hcap hcap2 h hxn h3
/-- n bytes as a string. -/
def strOf (D : Nat → Nat) (n : Nat) : ByteArray := strOfNums ((List.range n).map fun i => ((D i : Nat) : Int))
theorem strOf_congr {D E : Nat → Nat} {n : Nat} (h : ∀ i, i < n → D i = E i) : strOf D n = strOf E n := by
  unfold strOf
  congr 1
  refine List.map_congr_left fun i hi => ?_
  rw [h i (by simpa using hi)]
theorem conv_bytes {w : World} {b N : Nat} {D : Nat → Nat} (h : BRow w b N D) (o n cap : Nat) (ho : o + n ≤ N) :
    (convert 41 9 (.slice (some ⟨b, o, none⟩) n cap)).run Tryz.prog w = .ok (.string (strOf (fun i => D (o + i)) n)) w := by
  refine run_convert_bytes_arg (P := Tryz.prog) w 41 5 (by kernel_rfl) (by kernel_rfl) b o n cap _ (by simp) (fun i hi => ?_) 9 (by kernel_rfl)
  rw [h.cell (show o + i < N by omega)]
  simp [List.getD, hi]
/-- x's digits, as a string. -/
def decText (x k : Nat) : ByteArray := strOf (fun i => decAt x (k - 1 - i)) k
def Texts (w : World) (x : Nat) (e : Ending) (w' : World) : Prop := ∃ k, e = .returned (.string (decText x k)) ∧ DecLen x k ∧ Below w.heap.size w w'
theorem bitLen_P {x n : Nat} (h : x < P n) : bitLen x ≤ 64 * n := by
  rw [P_two] at h
  rcases Nat.lt_or_ge (64 * n) (bitLen x) with hh | hh
  · have h1 := (bitLen_spec x).2 (by intro e; subst e; simp [bitLen] at hh)
    have h2 : (2 : Nat) ^ (64 * n) ≤ 2 ^ (bitLen x - 1) := Nat.pow_le_pow_right (by omega) (by omega)
    omega
  · exact hh
set_option maxHeartbeats 2000000 in
theorem text_any (v : Value) (x : Nat) (w : World) (h : IsNat w v x) (ht : Tx x) : Calls Tryz.prog 78 #[v] w (Texts w x) := by
  obtain ⟨a, m, c, rfl⟩ := h.isAgg
  have hL : bitLen x ≤ 64 * 225 := bitLen_P ht.lt
  obtain ⟨L, hLL⟩ : ∃ L, L = bitLen x := ⟨_, rfl⟩
  obtain ⟨n, hnn⟩ : ∃ n, n = L * 30103 / 100000 + 1 := ⟨_, rfl⟩
  have hxn : x < 10 ^ n := by rw [hnn, hLL]; exact lt_ten (bitLen_lt x)
  have HH : Hid (IsNat w (.agg #[.slice a m c]) x ∧ Tx x ∧ x < 10 ^ n ∧ L = bitLen x) := ⟨h, ht, hxn, hLL⟩
  rw [← hLL] at hL
  have mk := makeB_at ((L : Int) * 30103 / 100000 + 1) ((L : Int) * 30103 / 100000 + 1) n n (by rw [hnn]; omega) (by rw [hnn]; omega) (Nat.le_refl _) (by omega)
  have hn0 : 0 < n := by omega
  have hn1 : n ≤ 100000 := by omega
  clear h ht hxn hLL hnn
  go_enter Tryz.func78, Tryz.ntmps78
  go_wp2_with fail
  have ba : Below w.heap.size w (w.alloc (Obj.cells #[Value.slice a m c] 25)) := (Below.refl _ _).alloc (Nat.le_refl _) _
  refine (len_any _ x _ (HH.out.1.mono ba) HH.out.2.1.fits).mono ?_
  rintro e w1 ⟨rfl, hb1⟩
  rw [← HH.out.2.2.2]
  have B1 : Hid (Below w.heap.size w w1) := bel_go ba hb1
  have c0 : w1.cell? ⟨w.heap.size, 0, none⟩ = some (.slice a m c) := cell_later hb1 (by simp [go_sem])
  have hl0 : w.heap.size < w1.heap.size := World.block_lt_of_cell? _ _ c0
  clear hb1 ba
  go_wp2_with fail
  have bo : Below w1.heap.size w1 (w1.alloc (.cells (zeroB n) 5)) := (Below.refl _ _).alloc (Nat.le_refl _) _
  have c1 : (w1.alloc (.cells (zeroB n) 5)).cell? ⟨w.heap.size, 0, none⟩ = some (.slice a m c) := cell_later bo c0
  have I1 : Hid (BRow (w1.alloc (.cells (zeroB n) 5)) w1.heap.size n (fun _ => 0) ∧ IsNat (w1.alloc (.cells (zeroB n) 5)) (.agg #[.slice a m c]) x ∧ Below w.heap.size w (w1.alloc (.cells (zeroB n) 5))) := ⟨brow_zeros_at _ _ _ rfl, HH.out.1.mono (bel_go B1.out bo), bel_go B1.out bo⟩
  obtain ⟨w2, hw2⟩ : ∃ w2, w2 = w1.alloc (.cells (zeroB n) 5) := ⟨_, rfl⟩
  rw [← hw2] at I1 c1 ⊢
  clear hw2 bo mk
  go_region_held3 (fun w' => w'.cell? ⟨w.heap.size, 0, none⟩ = some (.slice a m c)) (first | (simp [go_sem, *]; done) | (trace_state; fail))
    (first
      | (go_at_call 104; refine Calls.mono (chunkPowers_any _ x _ ?_ HH.out.2.1) ?_; exact I1.out.2.1; rintro e w3 ⟨u3, rfl, hp3, hb3⟩; have c3 : w3.cell? ⟨w.heap.size, 0, none⟩ = some (.slice a m c) := cell_later hb3 c1; have I3 : Hid (PowsOk w3 u3 x ∧ Below w2.heap.size w2 w3) := ⟨hp3, (by first | exact hb3 | exact bel_undrew hb3)⟩; clear hp3 hb3)
      | (go_at_call 103; refine Calls.mono (fill_ok w1.heap.size n 0 n n _ _ x (fun _ => 0) _ HH.out.2.1 ?_ ?_ ?_ ?_ ?_ ?_ HH.out.2.2.1 ?_) ?_; exact I1.out.1.below I3.out.2; omega; omega; omega; omega; exact I1.out.2.1.mono I3.out.2; exact I3.out.1; rintro e w4 ⟨rfl, D4, hb4, hf4, hg4⟩; have c4 : w4.cell? ⟨w.heap.size, 0, none⟩ = some (.slice a m c) := hg4.cell c3 (fun e => by simp at e; omega); have I4 : Hid (BRow w4 w1.heap.size n D4 ∧ DecFill (fun _ => 0) D4 0 n 0 x ∧ w3.grownBy w4 (some w1.heap.size)) := ⟨hb4, hf4, (by first | exact hg4 | exact gb_undrew hg4)⟩; clear hb4 hf4 hg4))
  clear c0 c1 c3
  obtain ⟨g, hg⟩ : ∃ g, g = w1.heap.size := ⟨_, rfl⟩
  have HG : Hid (g = w1.heap.size) := hg
  rw [← hg] at I4 ⊢
  clear hg
  have I5 : Hid (BRow w4 g n D4 ∧ (∀ i, i < n → D4 i = decAt x (n - 1 - i)) ∧ Below w.heap.size w w4) := by
    refine ⟨I4.out.1, fun i hi => ?_, (bel_go I1.out.2.2 I3.out.2).grown I4.out.2.2 ?_ ?_⟩
    · have := I4.out.2.1.1 i (by omega) hi
      rw [Nat.zero_add] at this
      exact this
    · have := (bel_go I1.out.2.2 I3.out.2).size
      omega
    · intro k hk
      cases hk
      rw [HG.out]
      omega
  clear I1 I3 I4 c4 HG hl0 B1
  go_wp2_with fail
  go_loop [4] (fun t => ∃ p : Nat, p < n ∧ t = .int .i64 (p : Int) ∧ x < 10 ^ (n - p)) (fun t => n - (intOf t).toNat)
  case atStart => exact ⟨0, hn0, rfl, HH.out.2.2.1⟩
  case round =>
    obtain ⟨p, hp, rfl, hxp⟩ := hrel
    have hcp : w4.cell? ⟨g, p, none⟩ = some (.int .u8 (D4 p : Nat)) := I5.out.1.cell hp
    have HP : Hid (x < 10 ^ (n - p)) := hxp
    clear hxp
    have sl := slice_bl g 0 n n p (by omega) (by omega)
    rw [Nat.zero_add] at sl
    have cv := conv_bytes I5.out.1 p (n - p) (n - p) (by omega)
    have ce : strOf (fun i => D4 (p + i)) (n - p) = decText x (n - p) := strOf_congr fun i hi => by
      rw [I5.out.2.1 (p + i) (by omega)]
      congr 1
      omega
    rw [ce] at cv
    clear ce
    by_cases hp1 : p + 1 < n
    · by_cases hd : D4 p = 48
      · rw [hd] at hcp
        have hz : x < 10 ^ (n - (p + 1)) := by
          have h1 := I5.out.2.1 p hp
          rw [hd] at h1
          have h2 := (decAt_zero (x := x) (p := n - 1 - p) (by rw [show n - 1 - p + 1 = n - p by omega]; exact HP.out)).1 h1.symm
          rw [show n - (p + 1) = n - 1 - p by omega]
          exact h2
        have HZ : Hid _ := hz
        clear hz hd sl cv
        go_wp2_with fail
        go_round
        case rel => exact ⟨p + 1, by omega, by go_num, HZ.out⟩
        case measure => simp [intOf]; omega
      · have hdb : ((D4 p : Int) == 48) = false := by simp; omega
        have HZ : Hid (DecLen x (n - p)) := by
          refine ⟨by omega, HP.out, .inr ?_⟩
          rcases Nat.lt_or_ge x (10 ^ (n - p - 1)) with h3 | h3
          · exact absurd (by rw [I5.out.2.1 p hp]; exact (decAt_zero (p := n - 1 - p) (by rw [show n - 1 - p + 1 = n - p by omega]; exact HP.out)).2 (by rw [show n - 1 - p = n - p - 1 by omega]; exact h3)) hd
          · exact h3
        clear hd
        go_wp2_with fail
        go_ret
        exact ⟨n - p, rfl, HZ.out, I5.out.2.2⟩
    · have HZ : Hid (DecLen x (n - p)) := ⟨by omega, HP.out, .inl (by omega)⟩
      go_wp2_with fail
      go_ret
      exact ⟨n - p, rfl, HZ.out, I5.out.2.2⟩
end Go.Proofs.YtpeimefangpnaaaGreatDoor
namespace Go.Proofs.YtpeimefangpnaaaGreatDoor
open Go.RowKit
set_option maxRecDepth 100000
set_option linter.unusedVariables false
/-- The byte of a string at a place. -/
def sb (s : ByteArray) (i : Nat) : Nat := if h : i < s.size then (s[i]'h).toNat else 0
theorem sb_at {s : ByteArray} {i : Nat} (h : i < s.size) : (s[i]'h).toNat = sb s i := by simp [sb, h]
theorem sb_lt (s : ByteArray) (i : Nat) : sb s i < 256 := by
  unfold sb
  split
  · exact UInt8.toNat_lt _
  · omega
/-- The number of the first i digits. -/
def decVal (s : ByteArray) : Nat → Nat
  | 0 => 0
  | i + 1 => decVal s i * 10 + (sb s i - 48)
def Digits (s : ByteArray) (n : Nat) : Prop := ∀ i, i < n → 48 ≤ sb s i ∧ sb s i ≤ 57
theorem OR.sl {w : World} {base n : Nat} {v : Value} {F : Nat → Nat} (h : OR w 22 base v n (wd F)) (hF : Ok F n) : ∃ a cap, v = .slice a n cap ∧ Sl w a n cap F := by
  rcases h with ⟨rfl, rfl⟩ | ⟨g, cap, f, rfl, h1, h2, h3, h4, h5⟩
  · exact ⟨none, 0, rfl, Nat.le_refl _, by omega, hF, .inl rfl⟩
  · refine ⟨_, cap, rfl, h2, by simp only [maxLen] at h3; omega, hF, .inr ⟨g, 0, rfl, fun i hi => ?_⟩⟩
    rw [Nat.zero_add, h4.cell (show i < cap by omega), h5 i hi]
    rfl
theorem bel_less {B B' : Nat} {w w' : World} (h : Below B w w') (hb : B' ≤ B) : Below B' w w' := ⟨h.os, h.tape, h.output, h.size, fun i hi => h.block i (by omega)⟩
set_option maxHeartbeats 1000000 in
theorem parse_any (s : ByteArray) (w : World) (h0 : 0 < s.size) (h1 : s.size ≤ 400) :
    Calls Tryz.prog 101 #[.string s] w fun e w' => (Digits s s.size → Makes2 w (decVal s s.size) true e w') ∧ (¬ Digits s s.size → e = .returned (.tuple #[.agg #[.slice none 0 0], .bool false]) ∧ Below w.heap.size w w') := by
  have hz : ((s.size : Int) == 0) = false := beq_eq_false_iff_ne.2 (by omega)
  have hgt : decide (400 < (s.size : Int)) = false := decide_eq_false (by omega)
  go_enter Tryz.func101, Tryz.ntmps101
  go_wp2_with fail
  go_loopw [4, 17] (fun v t wr => ∃ (i n : Nat) (F : Nat → Nat), i ≤ s.size ∧ t = .int .i64 (i : Int) ∧ OR wr 22 (w.heap.size + 1) v n (wd F) ∧ Ok F n ∧ V F n = decVal s i ∧ n ≤ i ∧ Digits s i ∧ Below (w.heap.size + 1) (w.alloc (Obj.cells #[Value.slice none 0 0] 25)) wr) (fun _ t _ => s.size - (intOf t).toNat)
  case atStart => exact ⟨0, 0, fun _ => 0, by omega, rfl, OR.nil _ _ _ _, fun i hi => absurd hi (by omega), rfl, by omega, fun i hi => absurd hi (by omega), Below.refl _ _⟩
  case round =>
    obtain ⟨i, n, F, hi, rfl, hO, hF, hV, hn, hd, hb⟩ := hrel
    have HH : Hid (OR wr 22 (w.heap.size + 1) u4 n (wd F) ∧ Ok F n ∧ V F n = decVal s i ∧ Digits s i ∧ Below (w.heap.size + 1) (w.alloc (Obj.cells #[Value.slice none 0 0] 25)) wr) := ⟨hO, hF, hV, hd, hb⟩
    clear hO hF hV hd hb
    have hcb : wr.cell? ⟨w.heap.size, 0, none⟩ = some (.slice none 0 0) := (HH.out.2.2.2.2.cell (show w.heap.size < w.heap.size + 1 by omega)).trans (by simp)
    have hfb : wr.frozen? ⟨w.heap.size, 0, none⟩ = false := (HH.out.2.2.2.2.frozen (show w.heap.size < w.heap.size + 1 by omega)).trans (by simp [go_sem])
    have hsz : w.heap.size + 1 ≤ wr.heap.size := by have := HH.out.2.2.2.2.size; simpa using this
    by_cases hii : i < s.size
    · have hc := sb_at hii
      have hc2 := sb_lt s i
      by_cases hlo : sb s i < 48
      · have t1 : decide (((sb s i : Nat) : Int) < 48) = true := decide_eq_true (by omega)
        have HN : Hid (¬ Digits s s.size) := fun hh => by have := hh i hii; omega
        clear hlo
        go_wp2_with fail
        refine bodyPost_ret (v := .tuple #[.agg #[.slice none 0 0], .bool false]) (by simp [results, Tryz.results101, go_sem, hcb]) rfl ⟨fun hh => absurd hh HN.out, fun _ => ⟨rfl, ?_⟩⟩
        exact (bel_go ((Below.refl _ _).alloc (Nat.le_refl _) _) (bel_less HH.out.2.2.2.2 (by simp))).setCell (Nat.le_refl _) _
      · have t1 : decide (((sb s i : Nat) : Int) < 48) = false := decide_eq_false (by omega)
        by_cases hhi : 57 < sb s i
        · have t2 : decide (57 < ((sb s i : Nat) : Int)) = true := decide_eq_true (by omega)
          have HN : Hid (¬ Digits s s.size) := fun hh => by have := hh i hii; omega
          go_wp2_with fail
          refine bodyPost_ret (v := .tuple #[.agg #[.slice none 0 0], .bool false]) (by simp [results, Tryz.results101, go_sem, hcb]) rfl ⟨fun hh => absurd hh HN.out, fun _ => ⟨rfl, ?_⟩⟩
          exact (bel_go ((Below.refl _ _).alloc (Nat.le_refl _) _) (bel_less HH.out.2.2.2.2 (by simp))).setCell (Nat.le_refl _) _
        · have t2 : decide (57 < ((sb s i : Nat) : Int)) = false := decide_eq_false (by omega)
          obtain ⟨d, hd⟩ : ∃ d, sb s i = d + 48 := ⟨sb s i - 48, by omega⟩
          have HD : Hid _ := hd
          go_wp2_with fail
          refine (timesTen_any u4 n d F wr (w.heap.size + 1) HH.out.1 HH.out.2.1 hsz (by omega) (by omega)).mono ?_
          rintro e w3 ⟨v3, n3, F3, rfl, hO3, hF3, hV3, hn3, hb3⟩
          have I3 : Hid (OR w3 22 (w.heap.size + 1) v3 n3 (wd F3) ∧ Ok F3 n3 ∧ V F3 n3 = decVal s (i + 1) ∧ n3 ≤ i + 1 ∧ Digits s (i + 1) ∧ Below (w.heap.size + 1) (w.alloc (Obj.cells #[Value.slice none 0 0] 25)) w3) := by
            refine ⟨hO3, hF3, ?_, by omega, fun j hj => ?_, HH.out.2.2.2.2.trans hb3⟩
            · rw [hV3, HH.out.2.2.1, decVal, HD.out]
              omega
            · rcases Nat.lt_or_ge j i with hh | hh
              · exact HH.out.2.2.2.1 j hh
              · obtain rfl : j = i := by omega
                rw [HD.out]
                omega
          clear hO3 hF3 hV3 hn3 hb3 HH HD
          go_wp2_with fail
          go_roundw
          case rel => exact ⟨i + 1, n3, F3, by omega, by go_num, I3.out⟩
          case measure => simp [intOf]; omega
    · obtain rfl : i = s.size := by omega
      obtain ⟨a4, cap4, rfl, hS⟩ := HH.out.1.sl HH.out.2.1
      go_wp2_with fail
      refine (trimmed_any a4 n cap4 F wr hS (by omega)).mono ?_
      rintro e w3 ⟨v3, rfl, hv3, hb3⟩
      obtain ⟨a5, n5, c5, rfl⟩ := hv3.isAgg
      have hcb3 := cell_later hb3 hcb
      have hfb3 := (hb3.frozen (World.block_lt_of_cell? _ _ hcb)).trans hfb
      rw [HH.out.2.2.1] at hv3
      have I3 : Hid (_ ∧ _) := ⟨hv3, (bel_go ((Below.refl _ _).alloc (Nat.le_refl _) _) (bel_go (bel_less HH.out.2.2.2.2 (by simp)) hb3) : Below w.heap.size w w3)⟩
      clear hv3 hb3 hS
      go_wp2_with fail
      refine bodyPost_ret (v := .tuple #[.agg #[.slice a5 n5 c5], .bool true]) (by simp [results, Tryz.results101, go_sem, hcb3]) rfl ⟨fun _ => ⟨_, rfl, I3.out.1.setCell (no_int_slice hcb3) _, I3.out.2.setCell (Nat.le_refl _) _⟩, fun hh => absurd HH.out.2.2.2.1 hh⟩
set_option maxHeartbeats 1000000 in
theorem parse_long (s : ByteArray) (w : World) (h1 : 400 < s.size) (h2 : s.size ≤ 1099511627776) :
    Calls Tryz.prog 101 #[.string s] w fun e w' => e = .returned (.tuple #[.agg #[.slice none 0 0], .bool false]) ∧ Below w.heap.size w w' := by
  have hz : ((s.size : Int) == 0) = false := beq_eq_false_iff_ne.2 (by omega)
  have hgt : decide (400 < (s.size : Int)) = true := decide_eq_true (by omega)
  go_enter Tryz.func101, Tryz.ntmps101
  go_wp2_with fail
  refine bodyPost_ret (v := .tuple #[.agg #[.slice none 0 0], .bool false]) (by simp [results, Tryz.results101, go_sem]) rfl ⟨rfl, ?_⟩
  have ba : Below w.heap.size w (w.alloc (Obj.cells #[Value.slice none 0 0] 25)) := (Below.refl _ _).alloc (Nat.le_refl _) _
  exact ba
theorem parse_digits (s : ByteArray) (x : Nat) (w : World) (h0 : 0 < s.size) (h1 : s.size ≤ 400) (hd : Digits s s.size) (hx : decVal s s.size = x) :
    Calls Tryz.prog 101 #[.string s] w (Makes2 w x true) := by
  subst hx
  exact (parse_any s w h0 h1).mono fun e w' h => h.1 hd
end Go.Proofs.YtpeimefangpnaaaGreatDoor
namespace Go.Proofs.YtpeimefangpnaaaGreatDoor
open Go.RowKit
set_option maxRecDepth 100000
set_option linter.unusedVariables false
/-- x's bytes, as a string. -/
def byteText (x : Nat) : ByteArray := strOf (fun i => byteAt x (byteLen x - 1 - i)) (byteLen x)
theorem conv_b {w : World} {g x : Nat} (h : BRow w g (byteLen x) (fun i => byteAt x (byteLen x - 1 - i))) : (convert 41 9 (.slice (some ⟨g, 0, none⟩) (byteLen x) (byteLen x))).run Tryz.prog w = .ok (.string (byteText x)) w := by
  rw [conv_bytes h 0 _ _ (by omega)]
  unfold byteText
  rw [strOf_congr (D := fun i => byteAt x (byteLen x - 1 - (0 + i))) (E := fun i => byteAt x (byteLen x - 1 - i)) fun i hi => by rw [Nat.zero_add]]
end Go.Proofs.YtpeimefangpnaaaGreatDoor
namespace Go.Proofs.YtpeimefangpnaaaGreatDoor
open Go.RowKit
set_option maxRecDepth 100000
set_option linter.unusedVariables false
theorem tx_word {x : Nat} (h : x ≤ 18446744073709551616) : Tx x := ⟨Nat.lt_of_le_of_lt h (by decide +kernel)⟩
theorem decLen_big : DecLen 18446744073709551616 20 := ⟨by decide, by decide, .inr (by decide)⟩
theorem decLen_seven : DecLen 7 1 := ⟨by decide, by decide, .inl rfl⟩
theorem dec_big : decText 18446744073709551616 20 = ⟨#[49, 56, 52, 52, 54, 55, 52, 52, 48, 55, 51, 55, 48, 57, 53, 53, 49, 54, 49, 54]⟩ := by decide +kernel
theorem dec_seven : decText 7 1 = ⟨#[55]⟩ := by decide +kernel
theorem digits_007 : Digits ⟨#[48, 48, 55]⟩ 3 := by
  intro i hi
  match i, hi with
  | 0, _ => decide
  | 1, _ => decide
  | 2, _ => decide
theorem byte_256 : byteText 256 = ⟨#[1, 0]⟩ := by decide +kernel
theorem bitLen_big : bitLen 18446744073709551616 = 65 := by decide +kernel
end Go.Proofs.YtpeimefangpnaaaGreatDoor
namespace Go.Proofs.YtpeimefangpnaaaGreatDoor
open Go.RowKit
set_option maxRecDepth 100000
set_option linter.unusedVariables false
theorem BV_lt {D : Nat → Nat} : ∀ {n : Nat}, (∀ i, i < n → D i < 256) → BV D n < 256 ^ n
  | 0, _ => by simp [BV]
  | n + 1, h => by
    have h1 := BV_lt (n := n) fun i hi => h i (by omega)
    have h2 := h n (by omega)
    rw [BV, Nat.pow_succ]
    omega
theorem BV_P' {D : Nat → Nat} {n k : Nat} (hD : ∀ i, i < n → D i < 256) (hn : n ≤ 8 * k) : BV D n < P k := by
  refine Nat.lt_of_lt_of_le (BV_lt hD) ?_
  rw [P_256]
  exact Nat.pow_le_pow_right (by omega) hn
theorem BV_P {D : Nat → Nat} {n : Nat} (hD : ∀ i, i < n → D i < 256) (hn : n ≤ 600) : BV D n < P 75 := BV_P' hD (by omega)
/-- A number of at most 600 bytes. -/
structure Mid (x : Nat) : Prop where
  lt : x < P 75
theorem Mid.tx {x : Nat} (h : Mid x) : Tx x := ⟨Nat.lt_trans h.lt (P_lt (by omega))⟩
theorem Mid.fits {x : Nat} (h : Mid x) : Fits x := h.tx.fits
theorem Mid.small {x : Nat} (h : Mid x) : Small x := h.tx.small
theorem Mid.p99 {x : Nat} (h : Mid x) : x < P 99 := Nat.lt_trans h.lt (P_lt (by omega))
theorem Mid.le {x y : Nat} (h : Mid x) (hy : y ≤ x) : Mid y := ⟨Nat.lt_of_le_of_lt hy h.lt⟩
/-- A number of at most 1,200 bytes. -/
theorem Mid.mul {x y : Nat} (h : Mid x) (k : Mid y) : x * y < P 150 := by
  rw [show 150 = 75 + 75 from rfl, P_add]
  exact Nat.mul_lt_mul'' h.lt k.lt
theorem Mid.add {x y : Nat} (h : Mid x) (k : Mid y) : x + y < P 76 := by
  have h1 := h.lt
  have h2 := k.lt
  rw [show 76 = 75 + 1 from rfl, P_succ]
  have := P_pos 75
  omega
theorem tx_of {x n : Nat} (h : x < P n) (hn : n ≤ 225) : Tx x := ⟨Nat.lt_of_lt_of_le h (P_le hn)⟩
theorem ite_no {c : Prop} [Decidable c] {A B : Prop} (h : ¬ c) (hb : B) : if c then A else B := by rw [if_neg h]; exact hb
/-- A number lies in a variable of its own. -/
def OneVar (w2 wx : World) (Q : Nat) (p : Value) : Prop := ∃ (bp : Nat) (a5 : Option Addr) (n5 c5 : Nat), p = .pointer (some ⟨bp, 0, none⟩) ∧ wx.cell? ⟨bp, 0, none⟩ = some (.slice a5 n5 c5) ∧ IsNat wx (.agg #[.slice a5 n5 c5]) Q ∧ Below w2.heap.size w2 wx ∧ w2.heap.size ≤ bp
/-- What is known of a world: numbers, boxes, and that what was is as it was. -/
structure St (w0 w : World) (N : List (Value × Nat)) (C : List (Nat × Value)) : Prop where
  nats : ∀ p ∈ N, IsNat w p.1 p.2
  cells : ∀ p ∈ C, w.cell? ⟨p.1, 0, none⟩ = some p.2
  bel : Below w0.heap.size w0 w
theorem St.go {w0 w w' : World} {N : List (Value × Nat)} {C : List (Nat × Value)} (h : St w0 w N C) (hb : Below w.heap.size w w') : St w0 w' N C :=
  ⟨fun p hp => (h.nats p hp).mono hb, fun p hp => cell_later hb (h.cells p hp), bel_go h.bel hb⟩
theorem St.at {w0 w : World} {N : List (Value × Nat)} {C : List (Nat × Value)} (h : St w0 w N C) (v : Value) (x : Nat) (hm : (v, x) ∈ N := by simp) : IsNat w v x := h.nats _ hm
theorem St.cell {w0 w : World} {N : List (Value × Nat)} {C : List (Nat × Value)} (h : St w0 w N C) (b : Nat) (u : Value) (hm : (b, u) ∈ C := by simp) : w.cell? ⟨b, 0, none⟩ = some u := h.cells _ hm
theorem bitLen_zero : bitLen 0 = 0 := by simp [bitLen]
theorem bitLen_pos {x : Nat} (h : 0 < x) : 0 < bitLen x := by
  rcases Nat.eq_zero_or_pos (bitLen x) with e | e
  · have := bitLen_lt x
    rw [e] at this
    omega
  · exact e
theorem St.god {w0 w w' : World} {N : List (Value × Nat)} {C : List (Nat × Value)} (h : St w0 w N C) (hb : Below w.drew.heap.size w.drew w') : St w0 w' N C := h.go (bel_undrew hb)
theorem St.nat {w0 w : World} {N : List (Value × Nat)} {C : List (Nat × Value)} (h : St w0 w N C) {v : Value} {x : Nat} (hp : IsNat w v x) : St w0 w ((v, x) :: N) C :=
  ⟨fun p hp' => by
    rcases List.mem_cons.1 hp' with e | e
    · subst e; exact hp
    · exact h.nats p e, h.cells, h.bel⟩
theorem St.box {w0 w : World} {N : List (Value × Nat)} {C : List (Nat × Value)} (h : St w0 w N C) (u : Value) (t : TypeId) (g : Nat) (hg : g = w.heap.size) : St w0 (w.alloc (.cells #[u] t)) N ((g, u) :: C) := by
  subst hg
  have h' := h.go (w' := w.alloc (.cells #[u] t)) (bel_al (Below.refl _ _))
  refine ⟨h'.nats, fun p hp => ?_, h'.bel⟩
  rcases List.mem_cons.1 hp with e | e
  · subst e
    simp
  · exact h'.cells p e
end Go.Proofs.YtpeimefangpnaaaGreatDoor
namespace Go.Proofs.YtpeimefangpnaaaGreatDoor
open Go.RowKit
set_option maxRecDepth 100000
set_option linter.unusedVariables false
/-- The n-th power of 2^32. -/
def B (n : Nat) : Nat := 4294967296 ^ n
theorem B_zero : B 0 = 1 := rfl
theorem B_succ (n : Nat) : B (n + 1) = B n * 4294967296 := Nat.pow_succ ..
theorem B_one : B 1 = 4294967296 := by rw [B_succ, B_zero, Nat.one_mul]
theorem B_add (a b : Nat) : B (a + b) = B a * B b := Nat.pow_add ..
theorem B_pos (n : Nat) : 0 < B n := Nat.pow_pos (by decide)
theorem B_le {a b : Nat} (h : a ≤ b) : B a ≤ B b := Nat.pow_le_pow_right (by decide) h
theorem B_two (n : Nat) : B n = 2 ^ (32 * n) := by rw [B, Nat.pow_mul]
/-- The value of n digits, the lowest first. -/
def U (F : Nat → Nat) : Nat → Nat
  | 0 => 0
  | n + 1 => U F n + F n * B n
theorem U_zero (F : Nat → Nat) : U F 0 = 0 := rfl
theorem U_succ (F : Nat → Nat) (n : Nat) : U F (n + 1) = U F n + F n * B n := rfl
theorem U_congr {F G : Nat → Nat} : ∀ {n : Nat}, (∀ i, i < n → F i = G i) → U F n = U G n
  | 0, _ => rfl
  | n + 1, h => by rw [U_succ, U_succ, U_congr fun i hi => h i (by omega), h n (by omega)]
/-- All digits below n are digits. -/
def Dg (F : Nat → Nat) (n : Nat) : Prop := ∀ i, i < n → F i < 4294967296
theorem Dg.mono {F : Nat → Nat} {m n : Nat} (h : Dg F n) (hm : m ≤ n) : Dg F m := fun i hi => h i (by omega)
theorem U_lt {F : Nat → Nat} : ∀ {n : Nat}, Dg F n → U F n < B n
  | 0, _ => by rw [U_zero, B_zero]; omega
  | n + 1, h => by
    have h1 := U_lt (h.mono (Nat.le_succ n))
    have h2 := h n (by omega)
    have h3 : (F n + 1) * B n ≤ 4294967296 * B n := Nat.mul_le_mul_right _ (by omega)
    rw [U_succ, B_succ, Nat.mul_comm (B n)]
    rw [Nat.add_mul] at h3
    omega
theorem U_split (F : Nat → Nat) (m : Nat) : ∀ n, U F (m + n) = U F m + B m * U (fun i => F (m + i)) n
  | 0 => by simp [U_zero]
  | n + 1 => by
    rw [← Nat.add_assoc, U_succ, U_split F m n, U_succ, B_add, Nat.mul_add, Nat.add_assoc, Nat.mul_left_comm]
theorem U_zeros {F : Nat → Nat} {n : Nat} (h : ∀ i, i < n → F i = 0) : U F n = 0 := by
  induction n with
  | zero => rfl
  | succ n ih => rw [U_succ, ih fun i hi => h i (by omega), h n (by omega), Nat.zero_mul]
theorem U_top {F : Nat → Nat} {m n : Nat} (hm : m ≤ n) (h : ∀ i, m ≤ i → i < n → F i = 0) : U F n = U F m := by
  obtain ⟨k, rfl⟩ : ∃ k, n = m + k := ⟨n - m, by omega⟩
  rw [U_split, U_zeros fun i hi => h (m + i) (by omega) (by omega), Nat.mul_zero, Nat.add_zero]
theorem U_ge (F : Nat → Nat) (n : Nat) (h : 0 < n) : F (n - 1) * B (n - 1) ≤ U F n := by
  obtain ⟨m, rfl⟩ : ∃ m, n = m + 1 := ⟨n - 1, by omega⟩
  rw [U_succ, Nat.add_sub_cancel]
  omega
/-- v is the number x, to the base 2^32. -/
def RNat (w : World) (v : Value) (x : Nat) : Prop :=
  ∃ a n cap F, v = .agg #[.slice a n cap] ∧ Sl w a n cap F ∧ Dg F n ∧ (0 < n → F (n - 1) ≠ 0) ∧ U F n = x
theorem RNat.mono {w w' : World} {v : Value} {x : Nat} (h : RNat w v x) (hb : Below w.heap.size w w') : RNat w' v x := by
  obtain ⟨a, n, cap, F, e, hs, hd, h1, hv⟩ := h
  exact ⟨a, n, cap, F, e, hs.mono hb, hd, h1, hv⟩
theorem RNat.setCell {w : World} {v : Value} {x : Nat} (h : RNat w v x) {p : Addr} (hp : ∀ k q, w.cell? p ≠ some (.int k q)) (u : Value) : RNat (w.setCell p u) v x := by
  obtain ⟨a, n, cap, F, e, hs, hd, h1, hv⟩ := h
  exact ⟨a, n, cap, F, e, hs.setCell hp u, hd, h1, hv⟩
theorem RNat.isAgg {w : World} {v : Value} {x : Nat} (h : RNat w v x) : ∃ a n cap, v = .agg #[.slice a n cap] := by
  obtain ⟨a, n, cap, F, e, _⟩ := h
  exact ⟨a, n, cap, e⟩
theorem RNat.open {w : World} {a : Option Addr} {n cap : Nat} {x : Nat} (h : RNat w (.agg #[.slice a n cap]) x) : ∃ F, Sl w a n cap F ∧ Dg F n ∧ (0 < n → F (n - 1) ≠ 0) ∧ U F n = x := by
  obtain ⟨a', n', cap', F, e, h2⟩ := h
  cases e
  exact ⟨F, h2⟩
theorem rnat_zero (w : World) : RNat w (.agg #[.slice none 0 0]) 0 :=
  ⟨none, 0, 0, fun _ => 0, rfl, ⟨Nat.le_refl _, by omega, fun i hi => absurd hi (by omega), .inl rfl⟩, fun i hi => absurd hi (by omega), fun h => absurd h (by omega), rfl⟩
theorem U_long {F : Nat → Nat} {n m : Nat} (hm : m < n) (h1 : F (n - 1) ≠ 0) : B m ≤ U F n := by
  have h2 : B m ≤ B (n - 1) := B_le (by omega)
  have h3 := U_ge F n (by omega)
  have h4 : 1 * B (n - 1) ≤ F (n - 1) * B (n - 1) := Nat.mul_le_mul_right _ (by omega)
  omega
theorem U_len_le {F : Nat → Nat} {n m : Nat} (h : U F n < B m) (h1 : 0 < n → F (n - 1) ≠ 0) : n ≤ m := by
  rcases Nat.lt_or_ge m n with h' | h'
  · exact absurd h (Nat.not_lt.2 (U_long h' (h1 (by omega))))
  · exact h'
/-- A number of at most so many digits as any machine holds. -/
structure RFits (x : Nat) : Prop where
  lt : x < B lim
theorem rfits_len {F : Nat → Nat} {n : Nat} (h : RFits (U F n)) (h1 : 0 < n → F (n - 1) ≠ 0) : n ≤ 4294967296 := le_lim (U_len_le h.lt h1)
theorem rfits_of {x n : Nat} (h : x < B n) (hn : n ≤ 4294967296) : RFits x := ⟨Nat.lt_of_lt_of_le h (B_le (show n ≤ lim from hn))⟩
def RMakes (w : World) (x : Nat) (e : Ending) (w' : World) : Prop := ∃ v, e = .returned v ∧ RNat w' v x ∧ Below w.heap.size w w'
theorem rnat_len0 {w : World} {a : Option Addr} {n cap x : Nat} (h : RNat w (.agg #[.slice a n cap]) x) : n = 0 ↔ x = 0 := by
  obtain ⟨F, hs, hd, h1, hv⟩ := h.open
  constructor
  · intro e
    subst e
    exact hv.symm
  · intro e
    rcases Nat.eq_zero_or_pos n with h0 | h0
    · exact h0
    · have h3 := U_ge F n h0
      have h4 : 1 * B (n - 1) ≤ F (n - 1) * B (n - 1) := Nat.mul_le_mul_right _ (by have := h1 h0; omega)
      have := B_pos (n - 1)
      omega
set_option maxHeartbeats 1000000 in
theorem rtrimmed_any (a : Option Addr) (n cap : Nat) (F : Nat → Nat) (w : World) (h : Sl w a n cap F) (hd : Dg F n) (hn : n ≤ 1099511627776) (h0 : n = 0 → a = none ∧ cap = 0) :
    Calls Tryz.prog 64 #[.slice a n cap] w (RMakes w (U F n)) := by
  have HD : Hid (Dg F n ∧ (n = 0 → a = none ∧ cap = 0)) := ⟨hd, h0⟩
  clear hd h0
  go_enter Tryz.func64, Tryz.ntmps64
  go_wp2_with fail
  go_loop [3] (fun t => ∃ k : Nat, k ≤ n ∧ t = .int .i64 k ∧ Hid (∀ i, k ≤ i → i < n → F i = 0)) (fun t => (intOf t).toNat)
  case atStart => exact ⟨n, Nat.le_refl _, rfl, fun i h1 h2 => absurd h1 (by omega)⟩
  case round =>
    obtain ⟨k, hk, rfl, hz⟩ := hrel
    have HH : Hid (Sl w a n cap F) := h
    clear h
    by_cases h0 : k = 0
    · subst h0
      by_cases hn0 : n = 0
      · subst hn0
        obtain ⟨rfl, rfl⟩ := HD.out.2 rfl
        go_wp2_with fail
        refine bodyPost_ret (v := .agg #[.slice none 0 0]) (by simp [results, Tryz.results64, go_sem]) rfl ⟨_, rfl, rnat_zero _, ?_⟩
        exact (Below.refl _ _).alloc (Nat.le_refl _) _
      · obtain ⟨b, o, rfl, hw⟩ := HH.out.at 0 (by omega)
        have hcap : (0 : Int) ≤ cap := by omega
        have hcz : ¬ cap = 0 := by have := HH.out.1; omega
        clear hw
        go_wp2_with fail
        refine bodyPost_ret (v := .agg #[.slice (some ⟨b, o, none⟩) 0 cap]) (by simp [results, Tryz.results64, go_sem]) rfl ⟨_, rfl, ⟨_, 0, cap, F, rfl, ⟨Nat.zero_le _, HH.out.2.1, fun i hi => absurd hi (by omega), .inl rfl⟩, fun i hi => absurd hi (by omega), fun e => absurd e (by omega), ?_⟩, ?_⟩
        · rw [U_zero, U_zeros fun i hi => hz.out i (Nat.zero_le _) hi]
        · exact (Below.refl _ _).alloc (Nat.le_refl _) _
    · obtain ⟨b, o, rfl, hw⟩ := HH.out.at (k - 1) (by omega)
      have hc : (w.alloc (.cells #[.slice none 0 0] 33)).cell? ⟨b, o + (k - 1), none⟩ = some (.int .u64 (F (k - 1) : Nat)) := cell_later ((Below.refl _ _).alloc (Nat.le_refl _) _) (hw (k - 1) (by omega))
      have h0' : (0 : Int) < k := by omega
      clear hw
      by_cases hf : F (k - 1) = 0
      · rw [hf] at hc
        go_wp2_with fail
        go_round
        case rel =>
          refine ⟨k - 1, by omega, by go_num, fun i h1 h2 => ?_⟩
          by_cases e : i = k - 1
          · rw [e, hf]
          · exact hz.out i (by omega) h2
        case measure => simp [intOf]; omega
      · have hne : (((F (k - 1) : Nat) : Int) == 0) = false := by simp; omega
        have hk0 : ((k : Int) == 0) = false := by simp; omega
        have hcap : (k : Int) ≤ cap := by have := HH.out.1; omega
        go_wp2_with fail
        have rn : RNat w (.agg #[.slice (some ⟨b, o, none⟩) k cap]) (U F n) := by
          obtain ⟨s1, s2, s3, s4⟩ := HH.out
          obtain ⟨b2, o2, e2, hw2⟩ : ∃ b2 o2, some (⟨b, o, none⟩ : Addr) = some ⟨b2, o2, none⟩ ∧ Words w b2 o2 n F := s4.resolve_left (by omega)
          exact ⟨_, k, cap, F, rfl, ⟨by omega, s2, s3.mono hk, .inr ⟨b2, o2, e2, fun i hi => hw2 i (by omega)⟩⟩, HD.out.1.mono hk, fun _ => hf, (U_top hk hz.out).symm⟩
        refine bodyPost_ret (v := .agg #[.slice (some ⟨b, o, none⟩) k cap]) (by simp [results, Tryz.results64, go_sem]) rfl ⟨_, rfl, rn.mono ((Below.refl _ _).alloc (Nat.le_refl _) _), (Below.refl _ _).alloc (Nat.le_refl _) _⟩
set_option maxHeartbeats 1000000 in
theorem rdigit_any (a : Option Addr) (n cap : Nat) (F : Nat → Nat) (i : Nat) (w : World) (h : Sl w a n cap F) (hi : i ≤ 4611686018427387904) :
    Calls Tryz.prog 94 #[.slice a n cap, .int .i64 (i : Int)] w fun e w' => e = .returned (.int .u64 ((cutU F n 0 i : Nat) : Int)) ∧ w' = w := by
  have hc0 : (n : Int) ≤ 9223372036854775807 := by have := h.1; have := h.2.1; omega
  have hneg : decide ((i : Int) < 0) = false := decide_eq_false (by omega)
  by_cases hin : i < n
  · obtain ⟨b, o, rfl, hw⟩ := h.at i hin
    have hc := hw i hin
    have hd : decide (n ≤ i) = false := decide_eq_false (by omega)
    have HC : Hid (cutU F n 0 i = F i) := by show _ = _; rw [cutU_in (by omega), Nat.zero_add]
    clear hw h
    go_enter Tryz.func94, Tryz.ntmps94
    go_wp2_with fail
    go_ret
    exact ⟨ret_int (by rw [HC.out]), rfl⟩
  · have hd : decide (n ≤ i) = true := decide_eq_true (by omega)
    have HC : Hid (cutU F n 0 i = 0) := cutU_out (by omega)
    clear h
    go_enter Tryz.func94, Tryz.ntmps94
    go_wp2_with fail
    go_ret
    exact ⟨ret_int (by rw [HC.out]; rfl), rfl⟩
set_option maxHeartbeats 1000000 in
theorem rzero_any (v : Value) (x : Nat) (w : World) (h : RNat w v x) (hx : RFits x) :
    Calls Tryz.prog 63 #[v] w fun e w' => e = .returned (.bool (decide (x = 0))) ∧ Below w.heap.size w w' := by
  obtain ⟨a, n, cap, rfl⟩ := h.isAgg
  have hz := rnat_len0 h
  have hl : n ≤ 4294967296 := by
    obtain ⟨F, hs, hd, h1, hv⟩ := h.open
    exact rfits_len (hv.symm ▸ hx) h1
  by_cases hn : n = 0
  · have HX : Hid (decide (x = 0) = true) := decide_eq_true (hz.1 hn)
    subst hn
    clear hz h hx
    go_enter Tryz.func63, Tryz.ntmps63
    go_wp2_with fail
    go_ret
    exact ⟨by rw [HX.out]; rfl, (Below.refl _ _).alloc (Nat.le_refl _) _⟩
  · have HX : Hid (decide (x = 0) = false) := decide_eq_false fun e => hn (hz.2 e)
    have hb : ((n : Int) == 0) = false := by simp; omega
    clear hz h hx
    go_enter Tryz.func63, Tryz.ntmps63
    go_wp2_with fail
    go_ret
    exact ⟨by rw [HX.out]; rfl, (Below.refl _ _).alloc (Nat.le_refl _) _⟩
def two (x y : Nat) (i : Nat) : Nat := if i = 0 then x else y
theorem sl_two (w : World) (x y g : Nat) (zx zy : Int) (ex : zx = (x : Int)) (ey : zy = (y : Int)) (hx : x < 18446744073709551616) (hy : y < 18446744073709551616) (hg : g = w.heap.size) (t : TypeId) : Sl (w.alloc (.cells #[.int .u64 zx, .int .u64 zy] t)) (some ⟨g, 0, none⟩) 2 2 (two x y) := by
  subst ex ey hg
  refine ⟨Nat.le_refl _, by omega, fun i hi => by unfold two; split <;> assumption, .inr ⟨_, 0, rfl, fun i hi => ?_⟩⟩
  rcases i with _ | _ | i
  · simp [two]
  · simp [two]
  · omega
set_option maxHeartbeats 1000000 in
theorem rof_any (n : Nat) (w : World) (hn : n < 18446744073709551616) : Calls Tryz.prog 21 #[.int .u64 (n : Int)] w (RMakes w n) := by
  have hz : ((4294967296 : Int) == 0) = false := by decide
  go_enter Tryz.func21, Tryz.ntmps21
  go_wp2_with fail
  refine (rtrimmed_any _ 2 2 (two (n % 4294967296) (n / 4294967296)) _ (sl_two _ _ _ _ _ _ (by simp) (by simp) (by omega) (by omega) (by simp) _) (fun i hi => by unfold two; split <;> omega) (by omega) (fun e => by omega)).mono ?_
  rintro e w1 ⟨v, rfl, hv, hb⟩
  have hc : w1.cell? ⟨w.heap.size, 0, none⟩ = some (.slice none 0 0) := cell_later hb (by simp [go_sem])
  have hf : w1.frozen? ⟨w.heap.size, 0, none⟩ = false := (hb.frozen (by simp; omega)).trans (by simp [go_sem])
  have HBB : Hid (Below w.heap.size w w1) := (bel_alloc2 _ _ _).trans (hb.mono (by simp; omega))
  obtain ⟨a', n', cap', rfl⟩ := hv.isAgg
  have e2 : U (two (n % 4294967296) (n / 4294967296)) 2 = n := by
    rw [U_succ, U_succ, U_zero, B_zero, B_one]
    show 0 + n % 4294967296 * 1 + n / 4294967296 * 4294967296 = n
    omega
  rw [e2] at hv
  have HV : Hid _ := hv
  clear hb hv e2 hz
  go_wp2_with fail
  refine bodyPost_ret (v := .agg #[.slice a' n' cap']) (by simp [results, Tryz.results21, go_sem, hc]) rfl ⟨_, rfl, ?_, HBB.out.setCell (Nat.le_refl _) _⟩
  have hx : RNat w1 (.agg #[.slice a' n' cap']) n := HV.out
  exact hx.setCell (no_int_slice hc) _
end Go.Proofs.YtpeimefangpnaaaGreatDoor
namespace Go.Proofs.YtpeimefangpnaaaGreatDoor
open Go.RowKit
set_option maxRecDepth 100000
set_option linter.unusedVariables false
theorem U_div {F : Nat → Nat} {n : Nat} (h : Dg F n) : U F (n + 1) / B n = F n := by
  rw [U_succ, Nat.add_mul_div_right _ _ (B_pos n), Nat.div_eq_of_lt (U_lt h), Nat.zero_add]
theorem bitLen_U {F : Nat → Nat} {n : Nat} (h : Dg F (n + 1)) (h0 : F n ≠ 0) : bitLen (U F (n + 1)) = 32 * n + bitLen (F n) := by
  have h1 := U_div (h.mono (Nat.le_succ n))
  rw [B_two] at h1
  rw [bitLen_shift _ (32 * n) (by rw [h1]; exact h0), h1]
theorem bitLen_half {q : Nat} (h : q ≠ 0) : bitLen q = bitLen (q / 2) + 1 := by
  rcases Nat.lt_or_ge q 2 with h2 | h2
  · obtain rfl : q = 1 := by omega
    rfl
  · have := bitLen_shift q 1 (by rw [Nat.pow_one]; omega)
    rw [Nat.pow_one] at this
    omega
set_option maxHeartbeats 1000000 in
theorem rlen_any (v : Value) (x : Nat) (w : World) (h : RNat w v x) (hx : RFits x) :
    Calls Tryz.prog 54 #[v] w fun e w' => e = .returned (.int .i64 ((bitLen x : Nat) : Int)) ∧ Below w.heap.size w w' := by
  obtain ⟨a, n, cap, rfl⟩ := h.isAgg
  obtain ⟨F, hs, hd, h1, hv⟩ := h.open
  have hl : n ≤ 4294967296 := rfits_len (hv.symm ▸ hx) h1
  by_cases hn : n = 0
  · have HX : Hid (bitLen x = 0) := by
      show _ = _
      rw [(rnat_len0 h).1 hn, bitLen_zero]
    subst hn
    clear hs hd h1 hv h hx
    go_enter Tryz.func54, Tryz.ntmps54
    go_wp2_with fail
    go_ret
    exact ⟨ret_int (by rw [HX.out]; rfl), (Below.refl _ _).alloc (Nat.le_refl _) _⟩
  · obtain ⟨m, rfl⟩ : ∃ m, n = m + 1 := ⟨n - 1, by omega⟩
    have hF : F m ≠ 0 := by have := h1 (by omega); simpa using this
    have HX : Hid (bitLen x = 32 * m + bitLen (F m)) := by
      show _ = _
      rw [← hv, bitLen_U hd hF]
    obtain ⟨b, o, rfl, hw⟩ := hs.at m (by omega)
    have hc := hw m (by omega)
    have hlt : b < w.heap.size := World.block_lt_of_cell? _ _ hc
    have hFm : F m < 4294967296 := hd m (by omega)
    have hb64 := bitLen_le64 (F m) (by omega)
    have hm0 : (((m + 1 : Nat) : Int) == 0) = false := by simp; omega
    have hm1 : ((m : Int) + 1 == 0) = false := by simp; omega
    clear hs hd h1 hv h hx hw hn
    go_enter Tryz.func54, Tryz.ntmps54
    go_wp2_with fail
    go_loop [3, 4] (fun t q => ∃ (k z : Nat), t = .int .i64 ((32 * m + k : Nat) : Int) ∧ q = .int .u64 (z : Int) ∧ Hid (bitLen (F m) = k + bitLen z) ∧ k ≤ 64 ∧ z < 4294967296) (fun _ q => (intOf q).toNat)
    case atStart => exact ⟨0, F m, by go_num, rfl, (Nat.zero_add _).symm, by omega, hFm⟩
    case round =>
      obtain ⟨k, z, rfl, rfl, hk, hk64, hz⟩ := hrel
      by_cases h0 : z = 0
      · subst h0
        have HK : Hid (bitLen x = 32 * m + k) := by
          show _ = _
          rw [HX.out, hk.out, bitLen_zero, Nat.add_zero]
        go_wp2_with fail
        go_ret
        exact ⟨ret_int (by rw [HK.out]; omega), (Below.refl _ _).alloc (Nat.le_refl _) _⟩
      · have hz0 : (0 : Int) < (z : Int) := by omega
        have hh := bitLen_half h0
        have hkb := hk.out
        have hk2 : k + 1 ≤ 64 := by omega
        have HK : Hid (bitLen (F m) = k + 1 + bitLen (z / 2)) := by
          show _ = _
          omega
        clear hh hkb
        go_wp2_with fail
        go_round
        case rel => exact ⟨k + 1, z / 2, by go_num, by go_num, HK.out, hk2, by omega⟩
        case measure => simp [intOf]; omega
theorem rdigit_z (a : Option Addr) (n cap : Nat) (F : Nat → Nat) (z : Int) (w : World) (h : Sl w a n cap F) (h0 : 0 ≤ z) (hi : z ≤ 4611686018427387904) :
    Calls Tryz.prog 94 #[.slice a n cap, .int .i64 z] w fun e w' => e = .returned (.int .u64 ((cutU F n 0 z.toNat : Nat) : Int)) ∧ w' = w := by
  obtain ⟨i, rfl⟩ := Int.eq_ofNat_of_zero_le h0
  rw [Int.toNat_natCast]
  exact rdigit_any a n cap F i w h (by omega)
set_option maxHeartbeats 1000000 in
theorem ruint_yes (v : Value) (x : Nat) (w : World) (h : RNat w v x) (hx : x < 18446744073709551616) :
    Calls Tryz.prog 56 #[v] w fun e w' => e = .returned (.tuple #[.int .u64 (x : Int), .bool true]) ∧ Below w.heap.size w w' := by
  obtain ⟨a, n, cap, rfl⟩ := h.isAgg
  obtain ⟨F, hs, hd, h1, hv⟩ := h.open
  have hl : n ≤ 2 := U_len_le (m := 2) (by rw [hv]; exact hx) h1
  have hn2 : decide (2 < (n : Int)) = false := decide_eq_false (by omega)
  have hn3 : decide (2 < n) = false := decide_eq_false (by omega)
  have HX : Hid (cutU F n 0 0 + cutU F n 0 1 * 4294967296 = x) := by
    show _ = _
    rw [← hv]
    rcases n with _ | _ | _ | n
    · simp [cutU, U]
    · simp [cutU, U, B]
    · simp [cutU, U, B]
    · omega
  have HS : Hid (Sl w a n cap F) := hs
  have HB : Hid (Below w.heap.size w (w.alloc (.cells #[.slice a n cap] 33))) := (Below.refl _ _).alloc (Nat.le_refl _) _
  have HXX : Hid (x < 18446744073709551616) := hx
  clear hs hd h1 hv h hx
  go_enter Tryz.func56, Tryz.ntmps56
  go_wp2_with fail
  go_quiet ((go_at_call 94; exact Calls.quiet_of_same (rdigit_z _ _ _ F _ _ (HS.out.mono (bel_drewN HB.out _)) (by omega) (by omega))))
  go_wp2_with fail
  have HW : IntKind.u64.wrap (((cutU F n 0 0 : Nat) : Int) + IntKind.u64.wrap (((cutU F n 0 1 : Nat) : Int) * 4294967296)) = (x : Int) := by
    have h1 := HX.out
    have h2 := HXX.out
    rw [IntKind.wrap_u64, IntKind.wrap_u64]
    omega
  rw [HW]
  go_ret2
  exact ⟨rfl, bel_drewN HB.out _⟩
set_option maxHeartbeats 1000000 in
theorem ruint_no (v : Value) (x : Nat) (w : World) (h : RNat w v x) (hf : RFits x) (hx : ¬ x < 18446744073709551616) :
    Calls Tryz.prog 56 #[v] w fun e w' => e = .returned (.tuple #[.int .u64 0, .bool false]) ∧ Below w.heap.size w w' := by
  obtain ⟨a, n, cap, rfl⟩ := h.isAgg
  obtain ⟨F, hs, hd, h1, hv⟩ := h.open
  have hl : n ≤ 4294967296 := rfits_len (hv.symm ▸ hf) h1
  have hn : 2 < n := by
    rcases Nat.lt_or_ge 2 n with hh | hh
    · exact hh
    · exfalso
      have := Nat.lt_of_lt_of_le (U_lt hd) (B_le hh)
      rw [hv, show B 2 = 18446744073709551616 from rfl] at this
      exact hx this
  have hn2 : decide (2 < n) = true := decide_eq_true hn
  clear hs hd h1 hv h hx hf
  go_enter Tryz.func56, Tryz.ntmps56
  go_wp2_with fail
  go_ret2
  exact ⟨rfl, (Below.refl _ _).alloc (Nat.le_refl _) _⟩
theorem rbit_of {F : Nat → Nat} {n i : Nat} (h : Dg F n) : (cutU F n 0 (i / 32) / 2 ^ (i % 32) % 2 == 1) = bitOf (U F n) i := by
  unfold bitOf
  congr 1
  have e : 2 ^ i = B (i / 32) * 2 ^ (i % 32) := by rw [B_two, ← Nat.pow_add, show 32 * (i / 32) + i % 32 = i by omega]
  rw [e, ← Nat.div_div_eq_div_mul]
  generalize i / 32 = q
  have hr : i % 32 < 32 := by omega
  generalize i % 32 = r at hr
  rcases Nat.lt_or_ge q n with hq | hq
  · rw [cutU_in (by omega), Nat.zero_add]
    obtain ⟨t, rfl⟩ : ∃ t, n = q + (t + 1) := ⟨n - q - 1, by omega⟩
    rw [U_split, Nat.add_mul_div_left _ _ (B_pos q), Nat.div_eq_of_lt (U_lt (h.mono (by omega))), Nat.zero_add]
    have hc : U (fun i => F (q + i)) (t + 1) = F q + 4294967296 * U (fun i => F (q + (1 + i))) t := by
      rw [Nat.add_comm t 1, U_split, U_succ, U_zero, B_zero, B_one]
      simp
    rw [hc, show (4294967296 : Nat) = 2 ^ r * (2 * 2 ^ (31 - r)) by rw [← Nat.pow_succ', ← Nat.pow_add, show r + (31 - r).succ = 32 by omega], Nat.mul_assoc, Nat.add_mul_div_left _ _ (Nat.two_pow_pos r), Nat.mul_assoc]
    omega
  · rw [cutU_out (by omega), Nat.div_eq_of_lt (Nat.lt_of_lt_of_le (U_lt h) (B_le hq))]
set_option maxHeartbeats 1000000 in
theorem rbit_any (v : Value) (x : Nat) (s : Int) (w : World) (h : RNat w v x) (hs0 : -9223372036854775808 ≤ s) (hs1 : s ≤ 9223372036854775807) :
    Calls Tryz.prog 84 #[v, .int .i64 s] w fun e w' => e = .returned (.bool (decide (0 ≤ s) && bitOf x s.toNat)) ∧ Below w.heap.size w w' := by
  obtain ⟨a, n, cap, rfl⟩ := h.isAgg
  obtain ⟨F, hs, hd, h1, hv⟩ := h.open
  have HB : Hid (Below w.heap.size w (w.alloc (.cells #[.slice a n cap] 33))) := (Below.refl _ _).alloc (Nat.le_refl _) _
  by_cases hneg : s < 0
  · have HX : Hid ((decide (0 ≤ s) && bitOf x s.toNat) = false) := by
      show _ = _
      rw [decide_eq_false (by omega), Bool.false_and]
    have hd0 : decide (0 ≤ s) = false := decide_eq_false (by omega)
    clear hs hd h1 hv h
    go_enter Tryz.func84, Tryz.ntmps84
    go_wp2_with fail
    go_ret
    exact ⟨by rw [HX.out]; rfl, HB.out⟩
  · obtain ⟨i, rfl⟩ := Int.eq_ofNat_of_zero_le (show 0 ≤ s by omega)
    have HX : Hid ((decide (0 ≤ (i : Int)) && bitOf x (i : Int).toNat) = (cutU F n 0 (i / 32) / 2 ^ (i % 32) % 2 == 1)) := by
      show _ = _
      rw [decide_eq_true (by omega), Bool.true_and, Int.toNat_natCast, rbit_of hd, hv]
    have hi0 : (0 : Int) ≤ (i : Int) := by omega
    have HS : Hid (Sl w a n cap F) := hs
    clear hs hd h1 hv h
    go_enter Tryz.func84, Tryz.ntmps84
    go_wp2_with fail
    refine (rdigit_z _ _ _ F _ _ (HS.out.mono HB.out) (by omega) (by omega)).mono ?_
    rintro e w1 ⟨rfl, hw1⟩
    rw [hw1]
    clear hw1 w1
    go_wp2_with fail
    have HT : ((((cutU F n 0 (i / 32) : Nat) : Int) / 2 ^ (i % 32)).tmod 2 == 1) = (cutU F n 0 (i / 32) / 2 ^ (i % 32) % 2 == 1) := by
      rw [div_int, show ((cutU F n 0 (i / 32) / 2 ^ (i % 32) : Nat) : Int).tmod 2 = ((cutU F n 0 (i / 32) / 2 ^ (i % 32) % 2 : Nat) : Int) from rfl]
      rcases Nat.mod_two_eq_zero_or_one (cutU F n 0 (i / 32) / 2 ^ (i % 32)) with z | z <;> rw [z] <;> rfl
    rw [HT]
    go_ret
    exact ⟨by rw [HX.out]; rfl, HB.out⟩
end Go.Proofs.YtpeimefangpnaaaGreatDoor
namespace Go.Proofs.YtpeimefangpnaaaGreatDoor
open Go.RowKit
set_option maxRecDepth 100000
set_option linter.unusedVariables false
theorem U_cut {G : Nat → Nat} {m n : Nat} (h : m ≤ n) : U (cutU G m 0) n = U G m := by
  rw [U_top h fun i h1 h2 => cutU_out (by omega)]
  exact U_congr fun i hi => by rw [cutU_in (by omega), Nat.zero_add]
theorem dg_cut {G : Nat → Nat} {m : Nat} (hG : Dg G m) (i : Nat) : cutU G m 0 i < 4294967296 := by
  by_cases h : 0 + i < m
  · rw [cutU_in h]; exact hG _ h
  · rw [cutU_out h]; omega
/-- i digits of a sum are made, c is carried. -/
structure Pl (w0 wr : World) (v : Value) (F : Nat → Nat) (n : Nat) (G : Nat → Nat) (m i c : Nat) (H : Nat → Nat) : Prop where
  own : OR wr 22 w0.heap.size v i (wd H)
  dg : Dg H i
  sum : U H i + c * B i = U (cutU F n 0) i + U (cutU G m 0) i
  car : c ≤ 1
  bel : Below w0.heap.size w0 wr
theorem cell_new (w : World) (u : Value) (t : TypeId) : (w.alloc (.cells #[u] t)).cell? ⟨w.heap.size, 0, none⟩ = some u := by simp [go_sem]
/-- A call is asked of one of two. -/
def TwoD (a : Value) (f : Nat) (b : Value) (g : Nat) (s : Value) (z : Nat) : Prop := (s = a ∧ z = f) ∨ (s = b ∧ z = g)
theorem pl_sum {H : Nat → Nat} {F G i c s f g b : Nat} (hs : s = f + g + c) (h : H i = s % 4294967296) (e : F + c * b = G) : F + s % 4294967296 * b + s / 4294967296 * (b * 4294967296) = G + f * b + g * b := by
  have h1 := Nat.div_add_mod s 4294967296
  have h2 : s * b = (4294967296 * (s / 4294967296) + s % 4294967296) * b := by rw [h1]
  rw [hs] at h2 ⊢
  grind
theorem OR.blk {w : World} {e : TypeId} {base n : Nat} {v : Value} {G : Nat → Value} (h : OR w e base v n G) : ∀ j, v.ownBlock = some j → base ≤ j := by
  intro j hj
  rcases h with ⟨rfl, rfl⟩ | ⟨g, cap, f, rfl, h1, _⟩
  · simp [Value.ownBlock] at hj
  · simp only [Value.ownBlock, Option.some.injEq] at hj
    omega
theorem Pl.step {w0 wr w2 : World} {v v2 : Value} {F G H : Nat → Nat} {n m i c f g : Nat} (h : Pl w0 wr v F n G m i c H) (hf : f = cutU F n 0 i ∧ g = cutU G m 0 i) (lf : f < 4294967296) (lg : g < 4294967296)
    (ho : OR w2 22 w0.heap.size v2 (i + 1) (fun j => if j = i then .int .u64 (((f : Int) + g + c) % 4294967296) else wd H j)) (hb : Below w0.heap.size w0 w2) :
    Pl w0 w2 v2 F n G m (i + 1) ((f + g + c) / 4294967296) (put H i ((f + g + c) % 4294967296)) := by
  refine ⟨OR.congr ho fun j hj => ?_, fun j hj => ?_, ?_, ?_, hb⟩
  · unfold wd put
    split
    · congr 1
    · rfl
  · unfold put
    split
    · exact Nat.mod_lt _ (by decide)
    · exact h.dg j (by omega)
  · rw [U_succ, U_succ, U_succ, put_same, U_congr (F := put H i _) (G := H) fun j hj => put_other _ _ (by omega), ← hf.1, ← hf.2, B_succ]
    have := pl_sum (H := fun _ => (f + g + c) % 4294967296) (i := 0) (s := f + g + c) (f := f) (g := g) rfl rfl h.sum
    omega
  · have := h.car
    omega
theorem Pl.done {w0 wr : World} {v : Value} {F G H : Nat → Nat} {n m mx c : Nat} (h : Pl w0 wr v F n G m (mx + 1) c H) (hn : n ≤ mx) (hm : m ≤ mx) (dF : Dg F n) (dG : Dg G m) : U H (mx + 1) = U F n + U G m := by
  have h1 := h.sum
  rw [U_cut (by omega), U_cut (by omega)] at h1
  have h2 := Nat.lt_of_lt_of_le (U_lt dF) (B_le hn)
  have h3 := Nat.lt_of_lt_of_le (U_lt dG) (B_le hm)
  have h4 := B_succ mx
  have h5 : c = 0 ∨ c = 1 := by have := h.car; omega
  rcases h5 with rfl | rfl <;> omega
set_option maxHeartbeats 2000000 in
theorem rplus_any (v u : Value) (x y : Nat) (w : World) (h : RNat w v x) (k : RNat w u y) (hx : RFits x) (hy : RFits y) :
    Calls Tryz.prog 61 #[v, u] w (RMakes w (x + y)) := by
  obtain ⟨ax, n, cap, rfl⟩ := h.isAgg
  obtain ⟨ay, m, cap', rfl⟩ := k.isAgg
  obtain ⟨F, hs, hd, h1, hv⟩ := h.open
  obtain ⟨G, ks, kd, k1, kv⟩ := k.open
  have hn : n ≤ 4294967296 := rfits_len (hv.symm ▸ hx) h1
  have hm : m ≤ 4294967296 := rfits_len (kv.symm ▸ hy) k1
  have HH : Hid (Sl w ax n cap F ∧ Dg F n ∧ U F n = x ∧ Sl w ay m cap' G ∧ Dg G m ∧ U G m = y) := ⟨hs, hd, hv, ks, kd, kv⟩
  clear hs hd h1 hv ks kd k1 kv h k hx hy
  obtain ⟨mx, hmx⟩ : ∃ mx : Nat, mx = max n m := ⟨_, rfl⟩
  have hm1 : n ≤ mx := by omega
  have hm2 : m ≤ mx := by omega
  have hm3 : mx ≤ 4294967296 := by omega
  have e1 : (if n < m then (m : Int) else (n : Int)) = (mx : Int) := by split <;> omega
  clear hmx
  have HB : Hid (Below w.heap.size w (((w.alloc (.cells #[.slice ax n cap] 33)).alloc (.cells #[.slice ay m cap'] 33)).alloc (.cells #[.slice none 0 0] 33))) := (bel_alloc2 _ _ _).alloc (by simp <;> omega) _
  go_enter Tryz.func61, Tryz.ntmps61
  go_wp2_with fail
  obtain ⟨w0, hw0⟩ : ∃ w0, w0 = ((w.alloc (.cells #[.slice ax n cap] 33)).alloc (.cells #[.slice ay m cap'] 33)).alloc (.cells #[.slice none 0 0] 33) := ⟨_, rfl⟩
  have c1 : w0.cell? ⟨w.heap.size, 0, none⟩ = some (.slice ax n cap) := by rw [hw0]; simp [go_sem]
  have c2 : w0.cell? ⟨w.heap.size + 1, 0, none⟩ = some (.slice ay m cap') := by rw [hw0]; simp [go_sem]
  have c3 : w0.cell? ⟨w.heap.size + 1 + 1, 0, none⟩ = some (.slice none 0 0) := by rw [hw0]; simp [go_sem]
  have f3 : w0.frozen? ⟨w.heap.size + 1 + 1, 0, none⟩ = false := by rw [hw0]; simp [go_sem]
  rw [← hw0] at HB ⊢
  clear hw0
  have CC : Hid _ := And.intro c1 (And.intro c2 (And.intro c3 f3))
  clear c1 c2 c3 f3
  go_loopw [5, 6, 7] (fun l q t wr => ∃ (i c : Nat) (H : Nat → Nat), i ≤ mx + 1 ∧ t = .int .i64 (i : Int) ∧ q = .int .u64 (c : Int) ∧ Hid (Pl w0 wr l F n G m i c H)) (fun _ _ t _ => mx + 1 - (intOf t).toNat)
  case atStart => exact ⟨0, 0, fun _ => 0, by omega, rfl, rfl, ⟨OR.nil _ _ _ _, fun i hi => absurd hi (by omega), by simp [U_zero], by omega, Below.refl _ _⟩⟩
  case round =>
    obtain ⟨i, c, H, hi, rfl, rfl, hP⟩ := hrel
    have d1 := cell_later hP.out.bel CC.out.1
    have d2 := cell_later hP.out.bel CC.out.2.1
    by_cases him : i ≤ mx
    · have ht : decide (i ≤ mx) = true := decide_eq_true him
      have hc1 := hP.out.car
      have hf := dg_cut HH.out.2.1 i
      have hg := dg_cut HH.out.2.2.2.2.1 i
      obtain ⟨f, ef⟩ : ∃ f, f = cutU F n 0 i := ⟨_, rfl⟩
      obtain ⟨g, eg⟩ : ∃ g, g = cutU G m 0 i := ⟨_, rfl⟩
      have EF : Hid (f = cutU F n 0 i ∧ g = cutU G m 0 i) := ⟨ef, eg⟩
      rw [← ef] at hf
      rw [← eg] at hg
      clear ef eg
      have r1 : IntKind.u64.wrap ((f : Int) + (g : Int)) = ((f + g : Nat) : Int) := by rw [IntKind.wrap_u64]; omega
      have r2 : IntKind.u64.wrap (((f + g : Nat) : Int) + (c : Int)) = ((f + g + c : Nat) : Int) := by rw [IntKind.wrap_u64]; omega
      have DD : Hid (∀ (k : Nat) (s : Value) (z : Nat), TwoD (.slice ax n cap) f (.slice ay m cap') g s z → Calls Tryz.prog 94 #[s, .int .i64 (i : Int)] (wr.drewN k) fun e w' => e = .returned (.int .u64 (z : Int)) ∧ w' = wr.drewN k) := fun k s z hz => by
        rcases hz with ⟨rfl, rfl⟩ | ⟨rfl, rfl⟩
        · rw [EF.out.1]
          exact rdigit_any _ _ _ F i _ (HH.out.1.mono (bel_drewN (bel_go HB.out hP.out.bel) k)) (by omega)
        · rw [EF.out.2]
          exact rdigit_any _ _ _ G i _ (HH.out.2.2.2.1.mono (bel_drewN (bel_go HB.out hP.out.bel) k)) (by omega)
      go_wp2_with fail
      go_quiet ((go_at_call 94; exact Calls.quiet_of_same (DD.out _ _ _ (by first | exact .inl ⟨rfl, rfl⟩ | exact .inr ⟨rfl, rfl⟩))))
      have hs6 := HB.out.size
      have OW : Hid _ := hP.out.own.below (bel_al (bel_drewN (bel_refl wr) nq) (o := .cells #[.int .u64 (((f : Int) + (g : Int) + (c : Int)) % 4294967296)] 22))
      have CE : Hid (((wr.drewN nq).alloc (.cells #[.int .u64 (((f : Int) + (g : Int) + (c : Int)) % 4294967296)] 22)).cell? ⟨wr.heap.size, 0, none⟩ = some (.int .u64 (((f : Int) + (g : Int) + (c : Int)) % 4294967296))) := cell_new (wr.drewN nq) _ _
      have SZ : Hid (w0.heap.size ≤ ((wr.drewN nq).alloc (.cells #[.int .u64 (((f : Int) + (g : Int) + (c : Int)) % 4294967296)] 22)).heap.size) := Nat.le_trans hP.out.bel.size (bel_al (bel_drewN (bel_refl wr) nq)).size
      have hs7 : w0.heap.size ≤ wr.heap.size := hP.out.bel.size
      go_wp2_with (refine (id ?_ : wpList Tryz.prog _ _ (⟨some 35, _, _, _, _, _⟩ :: _) _ _); refine hold ?_)
      intro _
      refine wpList_append_one rfl (.tmp 31) (.tmp 34) 23 rfl 22 (.int .u64 0) 8 Tryz.underlying23 Tryz.info22b rfl (by omega) w0.heap.size _ i (wd H) rfl OW.out _ _ rfl _ CE.out rfl (by omega) SZ.out ?_
      intro g2 cap2 w2 ho hg2 _ _
      have S : Hid _ := hP.out.step EF.out hf hg ho (((bel_drewN hP.out.bel nq).alloc hs7 _).grown hg2 SZ.out hP.out.own.blk)
      clear ho hg2 OW
      go_wp2_with fail
      go_roundw
      case rel => exact ⟨i + 1, _, _, by omega, by go_num, by go_num, S.out⟩
      case measure => simp [intOf]; omega
    · obtain rfl : i = mx + 1 := by omega
      have B0 : Hid (Below w.heap.size w wr) := bel_go HB.out hP.out.bel
      have ht : decide (mx + 1 ≤ mx) = false := decide_eq_false him
      obtain ⟨a, cap1, rfl, hsl⟩ := hP.out.own.sl (fun j hj => by have := hP.out.dg j hj; omega)
      have hcr : wr.cell? ⟨w.heap.size + 1 + 1, 0, none⟩ = some (.slice none 0 0) := cell_later hP.out.bel CC.out.2.2.1
      have hfr : wr.frozen? ⟨w.heap.size + 1 + 1, 0, none⟩ = false := (hP.out.bel.frozen (World.block_lt_of_cell? _ _ CC.out.2.2.1)).trans CC.out.2.2.2
      have HS : Hid (Sl wr a (mx + 1) cap1 H) := hsl
      clear hsl
      go_wp2_with fail
      refine (rtrimmed_any _ (mx + 1) _ H wr HS.out hP.out.dg (by omega) (fun e => absurd e (by omega))).mono ?_
      rintro e w3 ⟨v3, rfl, hv3, hb3⟩
      rw [hP.out.done hm1 hm2 HH.out.2.1 HH.out.2.2.2.2.1, HH.out.2.2.1, HH.out.2.2.2.2.2] at hv3
      have hcr3 : w3.cell? ⟨w.heap.size + 1 + 1, 0, none⟩ = some (.slice none 0 0) := cell_later hb3 hcr
      have hfr3 : w3.frozen? ⟨w.heap.size + 1 + 1, 0, none⟩ = false := (hb3.frozen (World.block_lt_of_cell? _ _ hcr)).trans hfr
      obtain ⟨a3, n3, cap3, rfl⟩ := hv3.isAgg
      have HV3 : Hid (RNat w3 (.agg #[.slice a3 n3 cap3]) (x + y)) := hv3
      have B3 : Hid (Below w.heap.size w w3) := bel_go B0.out hb3
      clear hv3 hb3 hcr hfr
      go_wp2_with fail
      refine bodyPost_ret (v := .agg #[.slice a3 n3 cap3]) (by simp [results, Tryz.results61, go_sem, hcr3]) rfl ⟨_, rfl, ?_, B3.out.setCell (by show _ ≤ _ + 1 + 1; omega) _⟩
      exact HV3.out.setCell (no_int_slice hcr3) _
end Go.Proofs.YtpeimefangpnaaaGreatDoor
