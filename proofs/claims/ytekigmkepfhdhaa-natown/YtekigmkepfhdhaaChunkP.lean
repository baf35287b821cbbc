/- chunkPowers: 10^19, its square, and so on. -/
import Derived.Test.YtekigmkepfhdhaaPowZ
import Derived.Test.YtekigmkepfhdhaaMul
namespace Go.Proofs.Ytekigmkepfhdhaa
open Go.RowKit
set_option maxRecDepth 100000
set_option linter.unusedVariables false
/-- A slice of the call's own that holds the first powers. -/
def PowsAt (w : World) (base : Nat) (v : Value) (K : Nat) : Prop := ∃ G, OZ w base v K G ∧ ∀ i, i < K → IsNat w (.agg #[G i]) (pw i)
theorem IsNat.cellOf {w : World} {u : Value} {x : Nat} (h : IsNat w (.agg #[u]) x) : ∃ a n c, u = .slice a n c := by
  obtain ⟨a, n, c, e1⟩ := h.isAgg
  exact ⟨a, n, c, by simpa using e1⟩
theorem PowsAt.nrow {w : World} {base : Nat} {v : Value} {K : Nat} (h : PowsAt w base v K) : ∃ g cap, v = .slice (some ⟨g, 0, none⟩) K cap ∧ base ≤ g ∧ g < w.heap.size ∧ NRow w g 0 K pw := by
  obtain ⟨G, ⟨g, cap, f, rfl, k1, k2, k3, k4, k5, k6⟩, h2⟩ := h
  refine ⟨g, cap, rfl, k1, k4.lt, fun i hi => ?_⟩
  obtain ⟨a, n, c, e2⟩ := (h2 i hi).cellOf
  refine ⟨a, n, c, ?_, e2 ▸ h2 i hi⟩
  rw [Nat.zero_add, k4.cell (show i < cap by omega), k5 i hi, e2]
theorem PowsAt.below {w w' : World} {base : Nat} {v : Value} {K : Nat} (h : PowsAt w base v K) (hb : Below w.heap.size w w') : PowsAt w' base v K := by
  obtain ⟨G, ⟨g, cap, f, rfl, k1, k2, k3, k4, k5, k6⟩, h2⟩ := h
  exact ⟨G, ⟨g, cap, f, rfl, k1, k2, k3, k4.of_block (hb.block g k4.lt), k5, k6⟩, fun i hi => (h2 i hi).mono hb⟩
theorem PowsAt.lower {w : World} {base base' : Nat} {v : Value} {K : Nat} (h : PowsAt w base v K) (hb : base' ≤ base) : PowsAt w base' v K := by
  obtain ⟨G, ⟨g, cap, f, rfl, k1, k2⟩, h2⟩ := h
  exact ⟨G, ⟨g, cap, f, rfl, by omega, k2⟩, h2⟩
theorem box_noword {w : World} {b : Nat} {u : Value} {x : Nat} {y : World} (h : w.rowIs b 27 1 fun _ => u) (k : IsNat y (.agg #[u]) x) : ∀ i z, w.cell? ⟨b, i, none⟩ ≠ some (.int .u64 z) := by
  obtain ⟨a, n, c, rfl⟩ := k.cellOf
  exact rowIs_noword h fun i hi z => by simp
/-- A store into a box of a number. -/
theorem PowsAt.box {w w' : World} {base b : Nat} {v : Value} {K : Nat} (h : PowsAt w base v K) (hb : b < base) (hg : w.grownBy w' (some b)) (hw : ∀ i z, w.cell? ⟨b, i, none⟩ ≠ some (.int .u64 z)) : PowsAt w' base v K := by
  obtain ⟨G, ⟨g, cap, f, rfl, k1, k2, k3, k4, k5, k6⟩, h2⟩ := h
  exact ⟨G, ⟨g, cap, f, rfl, k1, k2, k3, k4.of_block (hg.block g k4.lt (by intro e; cases e; omega)), k5, k6⟩, fun i hi => (h2 i hi).keep hg hw⟩
theorem PowsAt.noword {w : World} {base : Nat} {v : Value} {K : Nat} (h : PowsAt w base v K) : ∃ g, v.ownBlock = some g ∧ base ≤ g ∧ ∀ i z, w.cell? ⟨g, i, none⟩ ≠ some (.int .u64 z) := by
  obtain ⟨G, ⟨g, cap, f, rfl, k1, k2, k3, k4, k5, k6⟩, h2⟩ := h
  refine ⟨g, rfl, k1, rowIs_noword k4 fun i hi z => ?_⟩
  rcases Nat.lt_or_ge i K with hh | hh
  · obtain ⟨a, n, c, e⟩ := (h2 i hh).cellOf
    rw [k5 i hh, e]
    simp
  · rw [k6 i hh hi]
    simp
theorem hold {p : Prop} (h : True → p) : p := h trivial
/-- One power more, by append. -/
theorem wpList_append_pow {w : World} {ops : Array Oper} {rest : List Oper} {o : Oper} {ac : Act} {Q : Exit → Act → World → Prop} (hgd : o.guard = none) (s x : Operand)
    (ho : o.op = .call { callee := .builtin .append, args := #[s, x], argTypes := #[77, 77] }) (base : Nat) (v : Value) (K : Nat) (hs : ac.eval s = v) (hown : PowsAt w base v K)
    (b : Nat) (c : Nat) (hx : ac.eval x = .slice (some ⟨b, 0, none⟩) 1 c) (u : Value) (hc : w.cell? ⟨b, 0, none⟩ = some u) (hu : IsNat w (.agg #[u]) (pw K)) (hn : K + 1 ≤ 1099511627776) (hbase : base ≤ w.heap.size)
    (h : ∀ v' w', PowsAt w' base v' (K + 1) → w.grownBy w' v.ownBlock → (∀ y z, IsNat w y z → IsNat w' y z) → wpList Try.prog ops Q rest (ac.put o.dst v') w') : wpList Try.prog ops Q (o :: rest) ac w := by
  obtain ⟨g, e1, e2, e3⟩ := hown.noword
  obtain ⟨G, h1, h2⟩ := hown
  have hone : u.oneCell' = true := by
    obtain ⟨a, n, c, rfl⟩ := hu.cellOf
    rfl
  obtain ⟨v', w', hr, k1, k2⟩ := append_oz w base v K G h1 o.type b c u hc hone hn hbase
  refine wpList_plain hgd fun K' hK => ?_
  unfold Oper.wp execOp
  simp only [ho, resolve, invoke, builtin, Sem.run_bind, Sem.run_pure, Result.andThen_ok, List.map_toArray, List.map_cons, List.map_nil, hs, hx, hr]
  have k3 := k2
  rw [e1] at k3
  refine hK _ _ (h v' w' ⟨_, k1, fun i hi => ?_⟩ k2 fun y z hy => hy.keep k3 e3)
  by_cases e : i = K
  · subst e
    show IsNat w' (.agg #[if i = i then u else G i]) _
    rw [if_pos rfl]
    exact hu.keep k3 e3
  · show IsNat w' (.agg #[if i = K then u else G i]) _
    rw [if_neg e]
    exact (h2 i (by omega)).keep k3 e3
set_option maxHeartbeats 1000000 in
theorem chunkPowers_short (v : Value) (x : Nat) (w : World) (h : IsNat w v x) (hx : x < P 40) :
    Calls Try.prog 56 #[v] w fun e w' => e = .returned (.slice none 0 0) ∧ Below w.heap.size w w' := by
  obtain ⟨a, n, c, rfl⟩ := h.isAgg
  obtain ⟨F, hs, h0, h1, hv⟩ := h.fits
  have hn : n ≤ 40 := len_le_of (hv.symm ▸ hx) h1
  clear h hx hs h0 h1 hv
  go_enter Try.func56, Try.ntmps56
  go_wp2_with fail
  go_ret
  exact ⟨rfl, (Below.refl _ _).alloc (Nat.le_refl _) _⟩
set_option maxHeartbeats 2000000 in
theorem chunkPowers_long (v : Value) (x : Nat) (w : World) (h : IsNat w v x) (hx : P 40 ≤ x) (ht : Tx x) :
    Calls Try.prog 56 #[v] w fun e w' => ∃ u, e = .returned u ∧ ∃ K, 0 < K ∧ K ≤ 8 ∧ PowsAt w' w.heap.size u K ∧ Below w.heap.size w w' := by
  obtain ⟨a, n, c, rfl⟩ := h.isAgg
  obtain ⟨F, hs, h0, h1, hv⟩ := h.fits
  have hn : n ≤ 225 := len_le_of (hv.symm ▸ ht.lt) h1
  have hn2 : 40 < n := by
    rcases Nat.lt_or_ge 40 n with hh | hh
    · exact hh
    · have := V_lt (hs.2.2.1)
      have := P_le hh
      omega
  clear hs h0 h1 hv hx ht h
  go_enter Try.func56, Try.ntmps56
  go_wp2_with fail
  refine (of_any 10000000000000000000 _ (by omega)).mono ?_
  rintro e w1 ⟨v1, rfl, hv1, hb1⟩
  obtain ⟨a1, n1, c1, rfl⟩ := hv1.isAgg
  have hs1 : w.heap.size < w1.heap.size := by have := hb1.size; simp at this; omega
  have hcx : w1.cell? ⟨w.heap.size, 0, none⟩ = some (.slice a n c) := by
    have := hb1.block w.heap.size (by simp)
    rw [World.cell?_of_block this]
    simp
  have B1 : Hid (Below w.heap.size w w1) := bel_trans ((Below.refl _ _).alloc (Nat.le_refl _) _) hb1
  have V1 : Hid (IsNat w1 (.agg #[.slice a1 n1 c1]) (pw 0)) := by rw [pw_zero]; exact hv1
  have X1 : Hid _ := hcx
  clear hb1 hv1 hcx
  go_wp2_with fail
  go_loopw [4] (fun pv wr => ∃ (i : Nat) (u : Value), i ≤ 7 ∧ wr.rowIs w1.heap.size 27 1 (fun _ => u) ∧ IsNat wr (.agg #[u]) (pw i) ∧ PowsAt wr (w1.heap.size + 1) pv (i + 1) ∧ wr.cell? ⟨w.heap.size, 0, none⟩ = some (.slice a n c) ∧ Below w.heap.size w wr) (fun pv _ => match pv with | .slice _ k _ => 9 - k | _ => 0)
  case atStart =>
    have hbw : Below w1.heap.size w1 ((w1.alloc (Obj.cells #[Value.slice a1 n1 c1] 27)).alloc (Obj.cells #[Value.slice a1 n1 c1] 27)) := bel_alloc2 _ _ _
    refine ⟨0, .slice a1 n1 c1, by omega, ?_, V1.out.mono hbw, ?_, cell_later hbw X1.out, bel_trans B1.out hbw⟩
    · exact (World.rowIs_alloc w1 #[Value.slice a1 n1 c1] 27 (fun _ => Value.slice a1 n1 c1) (fun i hi => by rw [show i = 0 by simpa using hi]; rfl)).alloc _
    · refine ⟨fun _ => .slice a1 n1 c1, ⟨w1.heap.size + 1, 1, fun _ => .slice a1 n1 c1, rfl, Nat.le_refl _, Nat.le_refl _, by simp only [maxLen]; omega, ?_, fun _ _ => rfl, fun i h1 h2 => by omega⟩, fun i hi => ?_⟩
      · have h := World.rowIs_alloc (w1.alloc (Obj.cells #[Value.slice a1 n1 c1] 27)) #[Value.slice a1 n1 c1] 27 (fun _ => Value.slice a1 n1 c1) (fun i hi => by rw [show i = 0 by simpa using hi]; rfl)
        simpa using h
      · rw [show i = 0 by omega]
        exact V1.out.mono hbw
  case round =>
    clear V1 X1 B1
    obtain ⟨i, u, hi, hrow, hu, hP, hcx, hb⟩ := hrel
    obtain ⟨ap, np, cp, rfl⟩ := hu.cellOf
    obtain ⟨g, gc, rfl, hg1, hg2, hg3⟩ := id hP.nrow
    have hcb : wr.cell? ⟨w1.heap.size, 0, none⟩ = some (.slice ap np cp) := hrow.cell (by omega)
    have hfb : wr.frozen? ⟨w1.heap.size, 0, none⟩ = false := hrow.frozen _
    obtain ⟨Fp, ps, p0, p1, pv⟩ := id hu.fits
    have hnp : np ≤ 127 := len_le_of (pv.symm ▸ (show pw i < P 127 from Nat.lt_of_le_of_lt (pw_le hi) (by decide +kernel))) p1
    have HH : Hid (wr.rowIs w1.heap.size 27 1 (fun _ => .slice ap np cp) ∧ IsNat wr (.agg #[.slice ap np cp]) (pw i) ∧ PowsAt wr (w1.heap.size + 1) (.slice (some ⟨g, 0, none⟩) (i + 1) gc) (i + 1) ∧ Below w.heap.size w wr) := ⟨hrow, hu, hP, hb⟩
    have H6 : Hid (np ≤ 113 → i ≤ 6) := fun hh => by
      rcases Nat.lt_or_ge i 7 with h7 | h7
      · omega
      · have e1 := V_lt ps.2.2.1
        rw [pv] at e1
        have e2 := P_le hh
        have e3 : P 113 < pw 7 := by decide +kernel
        have e4 := pw_le h7
        omega
    clear hrow hu hP hb ps p0 p1 pv hg3
    by_cases hl : 2 * np ≤ n + 1
    · have hlb : decide (2 * (np : Int) - 1 ≤ n) = true := decide_eq_true (by omega)
      have hi6 : i ≤ 6 := H6.out (by omega)
      go_wp2_with fail
      have htx : Tx (pw i) := pw_tx hi
      refine (mul_short _ _ (pw i) (pw i) wr HH.out.2.1 HH.out.2.1 htx.fits htx.fits (.inl (Nat.lt_of_le_of_lt (pw_le hi6) pw_six))).mono ?_
      rintro e w2 ⟨v2, rfl, hv2, hb2⟩
      rw [← pw_succ] at hv2
      obtain ⟨a2, n2, c2, rfl⟩ := hv2.isAgg
      have hrow2 := HH.out.1.of_block (hb2.block _ HH.out.1.lt)
      have hcb2 : w2.cell? ⟨w1.heap.size, 0, none⟩ = some (.slice ap np cp) := hrow2.cell (by omega)
      have hfb2 : w2.frozen? ⟨w1.heap.size, 0, none⟩ = false := hrow2.frozen _
      have hnw : ∀ i z, w2.cell? ⟨w1.heap.size, i, none⟩ ≠ some (.int .u64 z) := box_noword hrow2 HH.out.2.1
      have hgs : w2.grownBy (w2.setCell ⟨w1.heap.size, 0, none⟩ (.slice a2 n2 c2)) (some w1.heap.size) := grown_set w2 (World.grownBy.refl _ _) _ _
      have hrow3 := hrow2.set 0 (.slice a2 n2 c2)
      have hP3 := (HH.out.2.2.1.below hb2).box (by omega) hgs hnw
      have hv3 := hv2.keep hgs hnw
      have I3 : Hid (_ ∧ _ ∧ _) := ⟨hrow3, hP3, hv3⟩
      have hcx2 : w2.cell? ⟨w.heap.size, 0, none⟩ = some (.slice a n c) := by
        rw [World.cell?_of_block (hb2.block w.heap.size (by have := HH.out.1.lt; omega))]
        exact hcx
      have B2 : Hid (Below w.heap.size w w2) := bel_trans HH.out.2.2.2 hb2
      have hsz : w1.heap.size + 1 < w2.heap.size := Nat.lt_of_lt_of_le (by omega) hb2.size
      clear hrow2 hnw hgs hrow3 hP3 hv3 hv2 hb2 htx HH
      go_wp2_with (refine (id ?_ : wpList Try.prog _ _ (⟨some 27, _, _, _, _, _⟩ :: _) _ _); refine hold ?_)
      intro _
      refine wpList_append_pow rfl (.tmp 24) (.tmp 26) rfl (w1.heap.size + 1) _ (i + 1) rfl (I3.out.2.1.below ((Below.refl _ _).alloc (Nat.le_refl _) _)) w2.heap.size 1 rfl (.slice a2 n2 c2) ?_ (I3.out.2.2.mono ((Below.refl _ _).alloc (Nat.le_refl _) _)) (by omega) ?_ ?_
      · have e : (w2.setCell ⟨w1.heap.size, 0, none⟩ (Value.slice a2 n2 c2)).heap.size = w2.heap.size := by simp
        have h := (World.rowIs_alloc (w2.setCell ⟨w1.heap.size, 0, none⟩ (Value.slice a2 n2 c2)) #[Value.slice a2 n2 c2] 27 (fun _ => Value.slice a2 n2 c2) (fun i hi => by rw [show i = 0 by simpa using hi]; rfl)).cell (i := 0) (by simp)
        rw [e] at h
        exact h
      · simp
        omega
      intro v5 w5 hP5 hg5 hk5
      have hg5' : ((w2.setCell ⟨w1.heap.size, 0, none⟩ (Value.slice a2 n2 c2)).alloc (Obj.cells #[Value.slice a2 n2 c2] 27)).grownBy w5 (some g) := hg5
      have hn5 := hk5 _ _ (I3.out.2.2.mono ((Below.refl _ _).alloc (Nat.le_refl _) _))
      have hgs : w2.grownBy (w2.setCell ⟨w1.heap.size, 0, none⟩ (.slice a2 n2 c2)) (some w1.heap.size) := grown_set w2 (World.grownBy.refl _ _) _ _
      have hb3 := B2.out.grown hgs (by omega) (fun k hk => by cases hk; omega)
      have hb4 := hb3.alloc (by simp; omega) (Obj.cells #[Value.slice a2 n2 c2] 27)
      have hb5 := hb4.grown hg5' (by simp; omega) (fun k hk => by cases hk; omega)
      have hr5 := ((I3.out.1.congr (g := fun _ => Value.slice a2 n2 c2) (fun i hi => by rw [show i = 0 by omega, if_pos rfl])).alloc (Obj.cells #[Value.slice a2 n2 c2] 27)).of_block (hg5'.block w1.heap.size (by simp; omega) (by intro e; cases e; omega))
      have hx5 : w5.cell? ⟨w.heap.size, 0, none⟩ = some (.slice a n c) := by
        have n1 : some w.heap.size ≠ some g := fun e => by simp at e; omega
        have n2 : some w.heap.size ≠ some w1.heap.size := fun e => by simp at e; omega
        refine hg5'.cell ?_ n1
        rw [World.cell?_alloc_past _ _ _ (by simp; omega)]
        exact hgs.cell hcx2 n2
      obtain ⟨g5, gc5, rfl, _, _, _⟩ := id hP5.nrow
      have I5 : Hid (_ ∧ _ ∧ _ ∧ _ ∧ _) := ⟨hr5, hn5, hP5, hx5, hb5⟩
      clear hP5 hg5 hk5 hg5' hn5 hgs hb3 hb4 hb5 hr5 hx5 I3 B2
      go_wp2_with fail
      go_roundw
      case rel => exact ⟨i + 1, .slice a2 n2 c2, by omega, I5.out⟩
      case measure => simp; omega
    · have hlb : decide (2 * (np : Int) - 1 ≤ n) = false := decide_eq_false (by omega)
      go_wp2_with fail
      go_ret
      exact ⟨_, rfl, i + 1, by omega, by omega, HH.out.2.2.1.lower (by omega), HH.out.2.2.2⟩
end Go.Proofs.Ytekigmkepfhdhaa
