/- Contracts of the program's functions, part 3: own work, joined in build order. -/
import Derived.Test.YtdobjanhmllloaaDoorJ2
import Derived.Maps.AppendAt
import Derived.Laws.AppendOwnNone
import Derived.Deep.CutRange
namespace Go.Proofs.YtdobjanhmllloaaDoor
open Go.RowKit
set_option maxRecDepth 100000
set_option linter.unusedVariables false
theorem Lv.full (n q y : Nat) : Lv (fun x => x < n) q y ↔ y < cl n q := by
  constructor
  · rintro ⟨x, h1, rfl⟩
    exact cl_lt h1 q
  intro h
  induction q generalizing y with
  | zero => exact ⟨y, h, by simp⟩
  | succ q ih =>
    have h1 : 64 * y < cl n q := by unfold cl at h; omega
    obtain ⟨x, h2, h3⟩ := ih (64 * y) h1
    exact ⟨x, h2, by rw [div_succ]; omega⟩
theorem cl_3 {n : Nat} (h : n ≤ 65536) (k : Nat) (hk : 3 ≤ k) : cl n k ≤ 1 := by
  obtain ⟨d, rfl⟩ : ∃ d, k = 3 + d := ⟨k - 3, by omega⟩
  induction d with
  | zero =>
    show ((((n + 63) / 64) + 63) / 64 + 63) / 64 ≤ 1
    omega
  | succ d ih =>
    have := ih (by omega)
    show (cl n (3 + d) + 63) / 64 ≤ 1
    omega
theorem Tryd.infoR : (Tryd.prog.info? 113).map (fun i => (i.zero, i.size, i.bytes)) = some (some (.slice none 0 0), 1, 24) := by kernel_rfl
theorem Tryd.infoU : (Tryd.prog.info? 114).map (fun i => (i.zero, i.size, i.bytes)) = some (some (.int .u64 0), 1, 8) := by kernel_rfl
theorem makeU_at (n : Nat) (hm : n ≤ 65536) (w : World) :
    (Instr.makeSlice 113 (.int .i64 (n : Int)) (.int .i64 (n : Int))).run Tryd.prog w = .ok (.slice (some ⟨w.heap.size, 0, none⟩) n n) (w.alloc (.cells (madeCells #[.int .u64 0] n) 114)) := by
  obtain ⟨i, hi, hz, hs, hb⟩ := info_parts Tryd.infoU
  rw [run_make w 113 114 i (.int .u64 0) Tryd.underlying113 hi hz .i64 .i64 n n (by omega) (by omega) (by rw [hb]; omega) (by omega), hs]
  simp [Value.cells]
theorem wp_appR {w : World} {ops : Array Oper} {rest : List Oper} {o : Oper} {a : Act} {Q : Exit → Act → World → Prop} (hgd : o.guard = none) (s x : Operand)
    (ho : o.op = .call { callee := .builtin .append, args := #[s, x], argTypes := #[75, 75] }) (base : Nat) (v : Value) (k : Nat) (xs : List Value) (hs : a.eval s = v) (hown : w.ownsRow base 113 1 v k xs)
    (b : Nat) (u : Value) (hu : u.oneCell' = true) (hx : a.eval x = .slice (some ⟨b, 0, none⟩) 1 1) (hc : w.cell? ⟨b, 0, none⟩ = some u) (hlim : k ≤ 1000) (hb : base ≤ w.heap.size)
    (h : ∀ v' w', Hid (w'.ownsRow base 113 1 v' (k + 1) (xs ++ [u]) ∧ w.grownBy w' v.ownBlock ∧ (v'.ownBlock = v.ownBlock ∨ v'.ownBlock = some w.heap.size)) → wpList Tryd.prog ops Q rest (a.put o.dst v') w') : wpList Tryd.prog ops Q (o :: rest) a w := by
  obtain ⟨i, hi, hz, hsz, hby⟩ := info_parts Tryd.infoR
  refine wpList_append_own_at w hgd s x 75 ho base 113 i _ 1 24 Tryd.underlying75 hi hz hsz hby rfl (by omega) v _ _ hs hown ⟨b, 0, none⟩ 1 1 [u] hx rfl (fun j u' hj => ?_) (fun u' hu' => ?_) (by simp only [maxLen]; omega) (by omega) hb ?_
  · rcases j with _ | j
    · simp at hj
      subst hj
      rw [addr_add]
      exact hc
    simp at hj
  · simp at hu'
    subst hu'
    exact hu
  intro v' w' h1 h2 _ h4
  exact h v' w' ⟨h1, h2, h4⟩
structure Bw (W0 W : World) (v : Value) (k : Nat) (G : Nat → Nat) (n : Nat) : Prop where
  own : W.ownsRow W0.heap.size 113 1 v k ((List.range k).map (rowV G n))
  row : ∀ q, q < k → W0.heap.size ≤ G q ∧ ∃ cs : Array Value, W.heap[G q]? = some (.cells cs 114) ∧ ∀ j, j < cl n (q + 1) → ∃ x : Nat, cs[j]? = some (.int .u64 (x : Int)) ∧ Wd (fun y => y < cl n q) j x
  inj : ∀ q q', q < k → q' < k → q ≠ q' → G q ≠ G q'
  bel : Below W0.heap.size W0 W
def Fu (W : World) (g ln i : Nat) : Prop := ∃ cs : Array Value, W.heap[g]? = some (.cells cs 114) ∧ cs.size = ln ∧ ∀ j, j < ln → ∃ x : Nat, cs[j]? = some (.int .u64 (x : Int)) ∧ Wd (fun y => y < i) j x
theorem fu_new (w : World) (ln : Nat) : Fu (w.alloc (.cells (madeCells #[.int .u64 0] ln) 114)) w.heap.size ln 0 :=
  ⟨_, (MapKept.heap_alloc _ _).1, size_madeCells _ _, fun j hj => ⟨0, by simp [madeCells, hj, Nat.mod_one], wd_empty fun b _ => by omega⟩⟩
theorem Fu.set {W : World} {g ln i x : Nat} (h : Fu W g ln i) (hj : i / 64 < ln) (hx : Wd (fun y => y < i) (i / 64) x) : Fu (W.setCell ⟨g, i / 64, none⟩ (.int .u64 ((x ||| 2 ^ (i % 64) : Nat) : Int))) g ln (i + 1) := by
  obtain ⟨cs, e, hs, h1⟩ := h
  refine ⟨_, heap_setCell_same W g (i / 64) _ _ _ e, by simpa using hs, fun j hj' => ?_⟩
  by_cases ej : j = i / 64
  · subst ej
    refine ⟨x ||| 2 ^ (i % 64), by simp [hs, hj'], hx.or (t := i % 64) (by omega) fun b hb => ?_⟩
    omega
  obtain ⟨x', h2, h3⟩ := h1 j hj'
  refine ⟨x', ?_, h3.congr fun b hb => ?_⟩
  · rw [Array.getElem?_setIfInBounds_ne (Ne.symm ej)]
    exact h2
  show _ < i ↔ _ < i + 1
  omega
theorem own_kept {W W' : World} {b : Nat} {t : TypeId} {s n : Nat} {v : Value} {xs : List Value} (h : W.ownsRow b t s v n xs) (hk : ∀ k, v.ownBlock = some k → W'.heap[k]? = W.heap[k]?) : W'.ownsRow b t s v n xs := by
  refine ⟨h.1, ?_⟩
  rcases h.2 with ⟨e, e0⟩ | ⟨g, cap, cur, e, h1, h2, h3⟩
  · exact .inl ⟨e, e0⟩
  refine .inr ⟨g, cap, cur, e, h1, (hk g (by rw [e]; rfl)).trans h2, h3⟩
theorem own_blk {W : World} {b : Nat} {t : TypeId} {s n : Nat} {v : Value} {xs : List Value} (h : W.ownsRow b t s v n xs) {k : Nat} (hk : v.ownBlock = some k) : b ≤ k ∧ ∃ cs, W.heap[k]? = some (.cells cs t) := by
  rcases h.2 with ⟨e, _⟩ | ⟨g, cap', cur, e, hb', hg, _⟩
  · rw [e] at hk
    cases hk
  rw [e] at hk
  cases hk
  exact ⟨hb', cur, hg⟩
theorem Bw.mono {W0 W W' : World} {v : Value} {k : Nat} {G : Nat → Nat} {n : Nat} (h : Bw W0 W v k G n) (hB : Below W.heap.size W W') : Bw W0 W' v k G n := by
  refine ⟨own_kept h.own fun q hq => ?_, fun q hq => ?_, h.inj, h.bel.trans (hB.mono h.bel.size)⟩
  · obtain ⟨_, cs, e⟩ := own_blk h.own hq
    exact hB.block _ (Array.getElem?_eq_some_iff.1 e).1
  obtain ⟨h0, cs, e, h1⟩ := h.row q hq
  exact ⟨h0, cs, (hB.block _ (Array.getElem?_eq_some_iff.1 e).1).trans e, h1⟩
theorem Bw.set {W0 W : World} {v : Value} {k : Nat} {G : Nat → Nat} {n g : Nat} (h : Bw W0 W v k G n) {cs : Array Value} (hg : W.heap[g]? = some (.cells cs 114)) (hn : ∀ q, q < k → G q ≠ g) (hl : W0.heap.size ≤ g) (i : Nat) (u : Value) : Bw W0 (W.setCell ⟨g, i, none⟩ u) v k G n := by
  refine ⟨own_kept h.own fun q hq => Below.heap_setCell _ _ _ _ (show q ≠ g from fun e => ?_), fun q hq => ?_, h.inj, h.bel.setCell (p := ⟨g, i, none⟩) hl _⟩
  · obtain ⟨_, cs', e'⟩ := own_blk h.own hq
    rw [e, hg] at e'
    injection e' with e'
    injection e' with _ e2
    exact absurd e2 (by decide)
  obtain ⟨h0, cs, e, h1⟩ := h.row q hq
  exact ⟨h0, cs, (Below.heap_setCell _ _ _ _ (hn q hq)).trans e, h1⟩
theorem rowV_append (G : Nat → Nat) (n k g : Nat) : (List.range k).map (rowV G n) ++ [Value.slice (some ⟨g, 0, none⟩) (cl n (k + 1)) (cl n (k + 1))] = (List.range (k + 1)).map (rowV (fun q => if q = k then g else G q) n) := by
  rw [List.range_succ, List.map_append]
  congr 1
  · refine List.map_congr_left fun q hq => ?_
    have : q < k := by simpa using hq
    unfold rowV
    simp only []
    rw [if_neg (by omega)]
  simp [rowV]
theorem Bw.grown {W0 W W' : World} {v v' : Value} {k : Nat} {G : Nat → Nat} {n g ln : Nat} (h : Bw W0 W v k G n) (hF : Fu W g ln (cl n k)) (hln : ln = cl n (k + 1)) (hn : ∀ q, q < k → G q ≠ g) (hl : W0.heap.size ≤ g)
    (ho : W'.ownsRow W0.heap.size 113 1 v' (k + 1) ((List.range k).map (rowV G n) ++ [Value.slice (some ⟨g, 0, none⟩) ln ln])) (hg : W.grownBy W' v.ownBlock) : Bw W0 W' v' (k + 1) (fun q => if q = k then g else G q) n := by
  subst hln
  have kept : ∀ (q : Nat) (cs : Array Value), W.heap[q]? = some (.cells cs 114) → W'.heap[q]? = some (.cells cs 114) := fun q cs e => by
    refine (hg.block q (Array.getElem?_eq_some_iff.1 e).1 fun e2 => ?_).trans e
    obtain ⟨_, cs', e3⟩ := own_blk h.own e2.symm
    rw [e] at e3
    injection e3 with e3
    injection e3 with _ e4
    exact absurd e4 (by decide)
  refine ⟨by rw [← rowV_append]; exact ho, fun q hq => ?_, fun q q' hq hq' hne => ?_, ⟨hg.os.trans h.bel.os, hg.tape.trans h.bel.tape, hg.output.trans h.bel.output, Nat.le_trans h.bel.size hg.size, fun x hx => (hg.block x (by have := h.bel.size; omega) fun e => ?_).trans (h.bel.block x hx)⟩⟩
  · by_cases e : q = k
    · subst e
      simp only [if_true]
      obtain ⟨cs, e1, _, e2⟩ := hF
      exact ⟨hl, cs, kept _ _ e1, e2⟩
    rw [if_neg e]
    obtain ⟨h0, cs, e1, e2⟩ := h.row q (by omega)
    exact ⟨h0, cs, kept _ _ e1, e2⟩
  · by_cases e : q = k
    · subst e
      rw [if_pos rfl, if_neg (by omega)]
      exact Ne.symm (hn q' (by omega))
    rw [if_neg e]
    by_cases e' : q' = k
    · subst e'
      rw [if_pos rfl]
      exact hn q (by omega)
    rw [if_neg e']
    exact h.inj q q' (by omega) (by omega) hne
  have := (own_blk h.own e.symm).1
  omega
theorem Bw.done {W0 W : World} {v : Value} {k : Nat} {G : Nat → Nat} {n : Nat} (h : Bw W0 W v k G n) (hk : 1 ≤ k) (hl : cl n k = 1) (h1 : 1 ≤ n) (h2 : n ≤ 65536) : ∃ b cap, v = .slice (some ⟨b, 0, none⟩) k cap ∧ NmX W b k cap G n (Lv fun x => x < n) W0.heap.size := by
  rcases h.own.2 with ⟨e, e0⟩ | ⟨b, cap, cur, e, hb, hg, g3, g4, g5, g6⟩
  · omega
  refine ⟨b, cap, e, g3, by simpa [maxLen] using g4, hk, hl, ⟨h1, h2⟩, hb, ⟨cur, hg, fun q hq => ?_⟩, fun q hq => ?_, h.inj⟩
  · have q4 := congrArg (fun l => l[q]?) g6
    simp only [Nat.mul_one] at q4
    rw [List.getElem?_take_of_lt hq, Array.getElem?_toList] at q4
    rw [q4]
    simp [hq, rowV]
  obtain ⟨h0, cs, e1, e2⟩ := h.row q hq
  refine ⟨h0, cs, e1, fun j hj => ?_⟩
  obtain ⟨x, e3, e4⟩ := e2 j hj
  exact ⟨x, e3, e4.congr fun b _ => (Lv.full n q _).symm⟩
theorem cl_less {n k : Nat} (h : 2 ≤ cl n k) : cl n (k + 1) < cl n k := by
  show (cl n k + 63) / 64 < cl n k
  omega
set_option maxHeartbeats 2000000 in
theorem below_any (n : Nat) (w : World) (h1 : 1 ≤ n) (h2 : n ≤ 65536) :
    Calls Tryd.prog 27 #[.int .i64 (n : Int)] w fun e w' => ∃ b L cap G, e = .returned (.slice (some ⟨b, 0, none⟩) L cap) ∧ NmX w' b L cap G n (Lv fun x => x < n) w.heap.size ∧ Below w.heap.size w w' := by
  go_enter Tryd.func27, Tryd.ntmps27
  go_wp2_with fail
  go_loopw [0, 3] (fun p v wr => ∃ (k c : Nat) (G : Nat → Nat), p = .int .i64 (c : Int) ∧ c = cl n k ∧ (k = 0 ∨ 2 ≤ c) ∧ (∃ va vc, v = .slice va k vc) ∧ Hid (Bw w wr v k G n)) (fun p _ _ => (intOf p).toNat)
  case atStart => exact ⟨0, n, fun _ => 0, rfl, rfl, .inl rfl, ⟨none, 0, rfl⟩, ⟨World.ownsRow_nil w _ _ _, fun q hq => by omega, fun q q' hq => by omega, Below.refl _ _⟩⟩
  case round =>
    obtain ⟨k, c, G, rfl, ec, hc, ⟨va, vc, rfl⟩, hI⟩ := hrel
    have hk2 : k ≤ 2 := by
      rcases hc with e | e
      · omega
      rcases Nat.lt_or_ge k 3 with h3 | h3
      · omega
      have := cl_3 h2 k h3
      omega
    have hc1 : 1 ≤ c := by rw [ec]; exact cl_pos h1 k
    have hc2 : c ≤ 65536 := by rw [ec]; exact cl_le h2 k
    obtain ⟨ln, eln⟩ : ∃ ln, ln = (c + 63) / 64 := ⟨_, rfl⟩
    have HLN : Hid (ln = cl n (k + 1) ∧ c = cl n k) := ⟨by rw [eln, ec]; rfl, ec⟩
    have hln1 : 1 ≤ ln := by omega
    have hln2 : ln ≤ 65536 := by omega
    have wq : IntKind.i64.wrap ((c : Int) + 64) = (c : Int) + 64 := by rw [IntKind.wrap_i64]; omega
    have wq1 : IntKind.i64.wrap ((c : Int) + 64 - 1) = (c : Int) + 64 - 1 := by rw [IntKind.wrap_i64]; omega
    have wq2 : ((c : Int) + 64 - 1) / 64 = (ln : Int) := by omega
    have wq4 : ((c : Int) + 63) / 64 = (ln : Int) := by omega
    have mk : (Instr.makeSlice 113 (.int .i64 (((c : Int) + 64 - 1) / 64)) (.int .i64 (((c : Int) + 64 - 1) / 64))).run Tryd.prog wr = .ok (.slice (some ⟨wr.heap.size, 0, none⟩) ln ln) (wr.alloc (.cells (madeCells #[.int .u64 0] ln) 114)) := by rw [wq2]; exact makeU_at ln hln2 wr
    have mk2 : (Instr.makeSlice 113 (.int .i64 (((c : Int) + 63) / 64)) (.int .i64 (((c : Int) + 63) / 64))).run Tryd.prog wr = .ok (.slice (some ⟨wr.heap.size, 0, none⟩) ln ln) (wr.alloc (.cells (madeCells #[.int .u64 0] ln) 114)) := by rw [wq4]; exact makeU_at ln hln2 wr
    have wq5 : IntKind.i64.wrap (((c : Int) + 64 - 1) / 64) = ((c : Int) + 64 - 1) / 64 := by rw [IntKind.wrap_i64]; omega
    obtain ⟨g, eg⟩ : ∃ g, g = wr.heap.size := ⟨_, rfl⟩
    have H1 : Hid (Bw w (wr.alloc (.cells (madeCells #[.int .u64 0] ln) 114)) (.slice va k vc) k G n ∧ Fu (wr.alloc (.cells (madeCells #[.int .u64 0] ln) 114)) g ln 0 ∧ (∀ q, q < k → G q ≠ g) ∧ w.heap.size ≤ g) := by
      refine ⟨hI.out.mono ((Below.refl _ _).alloc (Nat.le_refl _) _), by rw [eg]; exact fu_new wr ln, fun q hq => ?_, by rw [eg]; exact hI.out.bel.size⟩
      obtain ⟨_, cs, e, _⟩ := hI.out.row q hq
      have := (Array.getElem?_eq_some_iff.1 e).1
      omega
    have HEL : Hid (ln = (c + 63) / 64) := eln
    clear hI ec wq2 wq4 eln
    go_wp2_with fail
    rw [← eg]
    clear mk mk2 eg
    go_loopw [12] (fun t wq => ∃ i : Nat, i ≤ c ∧ t = .int .i64 (i : Int) ∧ Hid (Bw w wq (.slice va k vc) k G n ∧ Fu wq g ln i ∧ (∀ q, q < k → G q ≠ g) ∧ w.heap.size ≤ g)) (fun t _ => c - (intOf t).toNat)
    case atStart => exact ⟨0, by omega, rfl, H1⟩
    case round =>
      clear H1
      obtain ⟨i, hi, rfl, hJ⟩ := hrel
      by_cases hic : i < c
      · obtain ⟨j, ej⟩ : ∃ j, j = i / 64 := ⟨_, rfl⟩
        obtain ⟨t, et⟩ : ∃ t, t = i % 64 := ⟨_, rfl⟩
        have hj : j < ln := by have := HEL.out; omega
        obtain ⟨cs, ecs, hsz, hcs⟩ := hJ.out.2.1
        obtain ⟨x, hx1, hx2⟩ := hcs j hj
        have cw : wr.cell? ⟨g, j, none⟩ = some (.int .u64 (x : Int)) := by simp [World.cell?, ecs, hx1]
        have fw : wr.frozen? ⟨g, j, none⟩ = false := by simp [World.frozen?, ecs]
        have ht : t < 64 := by omega
        have q1 : (i : Int) / 64 = (j : Int) := by omega
        have q3 : (i : Int).tmod 64 = (t : Int) := by rw [Int.tmod_eq_emod_of_nonneg (by omega)]; omega
        have hjw : IntKind.i64.wrap (j : Int) = (j : Int) := by rw [IntKind.wrap_i64]; omega
        obtain ⟨M, eM⟩ : ∃ M : Int, M = ((2 ^ t : Nat) : Int) := ⟨_, rfl⟩
        have hP : IntKind.u64.wrap (2 ^ t) = M := by rw [eM]; exact wrap_pow ht
        obtain ⟨y, ey⟩ : ∃ y : Int, y = ((x ||| 2 ^ t : Nat) : Int) := ⟨_, rfl⟩
        have hy : bits .or .u64 (x : Int) M = y := by rw [eM, ey]; exact bits_or_u64_nat x (2 ^ t) hx2.1 (pow_lt64 ht)
        have H5 : Hid (Bw w (wr.drew.setCell ⟨g, j, none⟩ (.int .u64 y)) (.slice va k vc) k G n ∧ Fu (wr.drew.setCell ⟨g, j, none⟩ (.int .u64 y)) g ln (i + 1) ∧ (∀ q, q < k → G q ≠ g) ∧ w.heap.size ≤ g) := by
          have hD : Bw w wr.drew (.slice va k vc) k G n := hJ.out.1.mono ⟨rfl, rfl, rfl, Nat.le_refl _, fun _ _ => rfl⟩
          have hF : Fu wr.drew g ln i := ⟨cs, ecs, hsz, hcs⟩
          refine ⟨hD.set ecs hJ.out.2.2.1 hJ.out.2.2.2 _ _, ?_, hJ.out.2.2⟩
          have := hF.set (by rw [← ej]; exact hj) (x := x) (by rw [← ej]; exact hx2)
          rw [← ej, ← et, ← ey] at this
          exact this
        clear ej et eM ey hJ hx1 hx2 hcs ecs hsz
        go_wp2_with fail
        refine wp_region_held_drew (S := fun _ => True) (by kernel_rfl) trivial (fun hHeld => ?_)
        refine wpAnyH_take (i := 0) (v := .slice (some ⟨g, 0, none⟩) ln ln) rfl (by kernel_rfl) (by kernel_rfl) (by kernel_rfl) (fun _ _ _ h => h) (Or.inl ⟨by rfl, fun w hSw => by go_simp⟩) (by assumption) ?_
        refine wpAnyH_take (i := 1) (v := .int .i64 (i : Int)) rfl (by kernel_rfl) (by kernel_rfl) (by kernel_rfl) (fun _ _ _ h => h) (Or.inl ⟨by rfl, fun w hSw => by go_simp⟩) (by assumption) ?_
        refine wpAnyH_take (i := 2) (v := .int .i64 (j : Int)) rfl (by kernel_rfl) (by kernel_rfl) (by kernel_rfl) (fun _ _ _ h => h) (Or.inl ⟨by rfl, fun w hSw => by go_simp⟩) (by assumption) ?_
        refine wpAnyH_take (i := 3) (v := .pointer (some ⟨g, j, none⟩)) rfl (by kernel_rfl) (by kernel_rfl) (by kernel_rfl) (fun _ _ _ h => h) (Or.inl ⟨by rfl, fun w hSw => by go_simp⟩) (by assumption) ?_
        refine wpAnyH_take (i := 5) (v := .int .i64 (i : Int)) rfl (by kernel_rfl) (by kernel_rfl) (by kernel_rfl) (fun _ _ _ h => h) (Or.inl ⟨by rfl, fun w hSw => by go_simp⟩) (by assumption) ?_
        refine wpAnyH_take (i := 6) (v := .int .i64 (t : Int)) rfl (by kernel_rfl) (by kernel_rfl) (by kernel_rfl) (fun _ _ _ h => h) (Or.inl ⟨by rfl, fun w hSw => by go_simp⟩) (by assumption) ?_
        refine wpAnyH_take (i := 7) (v := .int .u64 M) rfl (by kernel_rfl) (by kernel_rfl) (by kernel_rfl) (fun _ _ _ h => h) (Or.inl ⟨by rfl, fun w hSw => by go_simp⟩) (by assumption) ?_
        refine wpAnyH_ready (rs := [4]) (by kernel_rfl) (by simp) ?_
        refine AllReadyH.cons rfl (fun K9 hK9 => ?_) AllReadyH.nil
        go_simp
        refine hK9.out _ _ trivial (fun _ => ?_)
        clear hK9 K9
        refine wpAnyH_take (i := 8) (v := .int .u64 y) rfl (by kernel_rfl) (by kernel_rfl) (by kernel_rfl) (fun _ _ _ h => h) (Or.inl ⟨by rfl, fun w hSw => by go_simp⟩) (by assumption) ?_
        refine wpAnyH_take (i := 9) (v := .pointer (some ⟨g, j, none⟩)) rfl (by kernel_rfl) (by kernel_rfl) (by kernel_rfl) (fun _ _ _ h => h) (Or.inl ⟨by rfl, fun w hSw => by go_simp⟩) (by assumption) ?_
        refine wpAnyH_ready (rs := [10]) (by kernel_rfl) (by simp) ?_
        refine AllReadyH.cons rfl (fun K9 hK9 => ?_) AllReadyH.nil
        go_simp
        refine hK9.out _ _ trivial (fun _ => ?_)
        clear hK9 K9
        refine wpAnyH_done (by kernel_rfl) ?_ _
        go_wp2_with fail
        go_roundw
        case rel => exact ⟨i + 1, by omega, by go_num, H5⟩
        case measure => simp [intOf]; omega
      obtain rfl : i = c := by omega
      obtain ⟨W2, hW2⟩ : ∃ W2, W2 = wr.alloc (.cells #[.slice (some ⟨g, 0, none⟩) ln ln] 113) := ⟨_, rfl⟩
      have B2 : Below wr.heap.size wr W2 := by rw [hW2]; exact (Below.refl _ _).alloc (Nat.le_refl _) _
      have H2 : Hid (Bw w W2 (.slice va k vc) k G n ∧ Fu W2 g ln i ∧ (∀ q, q < k → G q ≠ g) ∧ w.heap.size ≤ g) := by
        obtain ⟨a1, ⟨cs, a2, a3, a4⟩, a5⟩ := hJ.out
        exact ⟨a1.mono B2, ⟨cs, (B2.block _ (Array.getElem?_eq_some_iff.1 a2).1).trans a2, a3, a4⟩, a5⟩
      have cb : W2.cell? ⟨wr.heap.size, 0, none⟩ = some (.slice (some ⟨g, 0, none⟩) ln ln) := by rw [hW2]; simp [go_sem]
      have HW2 : Hid (wr.alloc (.cells #[.slice (some ⟨g, 0, none⟩) ln ln] 113) = W2) := hW2.symm
      have sz : Hid (w.heap.size ≤ W2.heap.size) := H2.out.1.bel.size
      clear hJ hW2 B2
      go_upto_region 9 with (rw [HW2.out]; refine (id ?_ : wpList Tryd.prog _ _ (⟨some 29, _, _, _, _, _⟩ :: _) _ _); refine wp_appR rfl _ _ rfl w.heap.size _ _ _ rfl H2.out.1.own wr.heap.size (.slice (some ⟨g, 0, none⟩) ln ln) rfl rfl cb (by omega) sz.out ?_; intro v3 w3 h3)
      obtain ⟨va3, vc3, ev3⟩ : ∃ va3 vc3, v3 = .slice va3 (k + 1) vc3 := by
        rcases h3.out.1.2 with ⟨e, e0⟩ | ⟨g', cap', cur, e, _⟩
        · omega
        exact ⟨_, _, e⟩
      subst ev3
      have H3 : Hid (Bw w w3 (.slice va3 (k + 1) vc3) (k + 1) (fun q => if q = k then g else G q) n) := by
        have hln := HLN.out
        exact H2.out.1.grown (by rw [← hln.2]; exact H2.out.2.1) hln.1 H2.out.2.2.1 H2.out.2.2.2 h3.out.1 h3.out.2.1
      clear h3 H2 cb HW2 sz
      by_cases hl1 : ln = 1
      · obtain ⟨b', cap', ev, hN⟩ := H3.out.done (by omega) (by rw [← HLN.out.1]; exact hl1) h1 h2
        have HF : Hid (Bw w w3 (.slice va3 (k + 1) vc3) (k + 1) (fun q => if q = k then g else G q) n ∧ Value.slice va3 (k + 1) vc3 = .slice (some ⟨b', 0, none⟩) (k + 1) cap' ∧ NmX w3 b' (k + 1) cap' (fun q => if q = k then g else G q) n (Lv fun x => x < n) w.heap.size) := ⟨H3.out, ev, hN⟩
        have hd : ((ln : Int) == 1) = true := by simp [hl1]
        have HL1 : Hid (ln = 1) := hl1
        clear ev hN H3 hl1
        go_wp2_with fail
        all_goals first
          | (exfalso; have := HL1.out; omega)
          | (go_ret
             exact ⟨b', k + 1, cap', _, by rw [← HF.out.2.1]; rfl, HF.out.2.2, HF.out.1.bel⟩)
      have hd : ((ln : Int) == 1) = false := by simp; omega
      have hlt : ln < i := by
        have hc : 2 ≤ i := by
          have := HEL.out
          omega
        have := cl_less (n := n) (k := k) (by rw [← HLN.out.2]; exact hc)
        rw [← HLN.out.1, ← HLN.out.2] at this
        exact this
      go_wp2_with fail
      all_goals first
        | (exfalso; omega)
        | (go_roundw
           case rel => exact ⟨k + 1, ln, _, rfl, HLN.out.1, .inr (by omega), ⟨va3, vc3, rfl⟩, H3⟩
           case measure => first | (simp [intOf]; omega) | (simp [intOf]; done))
def pP (o : Option Nat) : Value := .pointer (o.map fun b => ⟨b, 0, none⟩)
def encP (x : Option Nat × Int) : Nat → Value
  | 0 => pP x.1
  | _ => .int .i64 x.2
theorem encP_one (x : Option Nat × Int) (j : Nat) : (encP x j).oneCell' = true := by
  cases j
  · rfl
  rfl
theorem encP_zero (j : Nat) (h : j < 2) : (#[Value.pointer none, Value.int .i64 0] : Array Value)[j]! = encP (none, 0) j := by
  match j, h with
  | 0, _ => rfl
  | 1, _ => rfl
def atP (ys : List (Option Nat × Int)) (i : Int) : Option Nat × Int := if 0 ≤ i ∧ i < (ys.length : Int) then ys.getD i.toNat (none, 0) else (none, 0)
def hasP (ys : List (Option Nat × Int)) (i gen : Int) : Bool := (atP ys i).1.isSome && decide ((atP ys i).2 = gen)
abbrev RV (w : World) (r g N f c : Nat) (xs : List (Option Nat × Int)) : Prop := RwK 2 encP ((none, 0) : Option Nat × Int) 112 73 w r g N f c xs
set_option maxHeartbeats 1000000 in
theorem indexV_any (r g N f c : Nat) (xs : List (Option Nat × Int)) (i : Int) (k : Nat) (w : World) (h : RV w r g N f c xs) (hN : 0 < N) (hi : -1 ≤ i) (hi2 : i ≤ N) (hk : k < N) (e : ((k : Nat) : Int) = ((f : Int) + i) % (N : Int)) :
    Calls Tryd.prog 46 #[.pointer (some ⟨r, 0, none⟩), .int .i64 i] w fun e w' => e = .returned (.int .i64 (k : Int)) ∧ ∃ n, w' = w.drewN n := by
  have c0 := h.c0 hN
  have c1 := h.c1
  have hf := h.fl hN
  have hl := h.lim
  obtain ⟨p, hp⟩ := h.pow hN
  have hp40 : p + 2 ≤ 40 := by
    rcases Nat.lt_or_ge 40 (p + 2) with h' | h'
    · have : 2 ^ 41 ≤ 2 ^ (p + 2) := Nat.pow_le_pow_right (by decide) h'
      omega
    exact h'
  have hm := i64_mask ((f : Int) + i) (p + 2) hp40 ((N : Int) - 1) (by rw [hp])
  rw [← hp, ← e] at hm
  have HH : Hid (RV w r g N f c xs) := h
  clear h hp hp40 e
  go_enter Tryd.func46, Tryd.ntmps46
  go_wp2_with fail
  go_quiet (fail)
  go_wp2_with fail
  go_ret
  exact ⟨rfl, nq, rfl⟩
theorem Tryd.infoV : (Tryd.prog.info? 73).map (fun i => (i.zero, i.size, i.bytes)) = some (some (.agg #[.pointer none, .int .i64 0]), 2, 16) := by kernel_rfl
theorem makeV_at (L C : Int) (n m : Nat) (hL : L = n) (hC : C = m) (hnm : n ≤ m) (hm : m ≤ 1099511627776) (w : World) :
    (Instr.makeSlice 110 (.int .i64 L) (.int .i64 C)).run Tryd.prog w = .ok (.slice (some ⟨w.heap.size, 0, none⟩) n m) (w.alloc (.cells (madeCells #[.pointer none, .int .i64 0] (m * 2)) 73)) := by
  obtain ⟨i, hi, hz, hs, hb⟩ := info_parts Tryd.infoV
  subst hL hC
  rw [run_make w 110 73 i (.agg #[.pointer none, .int .i64 0]) Tryd.underlying110 hi hz .i64 .i64 n m (by omega) (by omega) (by rw [hb]; omega) (by omega), hs]
  simp [Value.cells]
theorem cutV (p : Option Addr) (len cap l n : Nat) (h2 : l + n ≤ cap) : ∃ q : Option Addr, (∀ b, p = some ⟨b, 0, none⟩ → l < cap → q = some ⟨b, l * 2, none⟩) ∧
    ∀ (L H : Int) (w : World), L = l → H = (l : Int) + n → (Instr.slice 110 (.slice p len cap) (some (.int .i64 L)) (some (.int .i64 H)) none).run Tryd.prog w = .ok (.slice q n (cap - l)) w := by
  refine ⟨if cap = l then p else p.map (·.add (l * 2)), fun b e h3 => ?_, fun L H w eL eH => ?_⟩
  · subst e
    rw [if_neg (by omega)]
    simp only [Option.map_some, Option.some.injEq]
    unfold Addr.add
    split <;> simp_all
  subst eL eH
  rw [run_slice_lh (P := Tryd.prog) (kl := .i64) (kh := .i64) (l := (l : Int)) (h := (l : Int) + n) (ht := by kernel_rfl) (h0 := by omega) (h1 := by omega) (h2 := by omega)]
  have hz : (sizeOf (Tryd.prog.elem 110)).run Tryd.prog w = .ok 2 w := by kernel_rfl
  rw [hz]
  rw [show ((l : Int) + (n : Int)).toNat = l + n by omega]
  simp only [Result.andThen, sliced, Int.toNat_natCast, Nat.add_sub_cancel_left]
theorem fromV (p : Option Addr) (len cap l : Nat) (h1 : l ≤ len) : ∃ q : Option Addr, (∀ b, p = some ⟨b, 0, none⟩ → l < cap → q = some ⟨b, l * 2, none⟩) ∧
    ∀ (L : Int) (w : World), L = l → (Instr.slice 110 (.slice p len cap) (some (.int .i64 L)) none none).run Tryd.prog w = .ok (.slice q (len - l) (cap - l)) w := by
  refine ⟨if cap = l then p else p.map (·.add (l * 2)), fun b e h3 => ?_, fun L w eL => ?_⟩
  · subst e
    rw [if_neg (by omega)]
    simp only [Option.map_some, Option.some.injEq]
    unfold Addr.add
    split <;> simp_all
  subst eL
  rw [run_slice_l (P := Tryd.prog) (kl := .i64) (l := (l : Int)) (ht := by kernel_rfl) (h0 := by omega) (h1 := by omega)]
  have hz : (sizeOf (Tryd.prog.elem 110)).run Tryd.prog w = .ok 2 w := by kernel_rfl
  rw [hz]
  simp only [Result.andThen, sliced, Int.toNat_natCast]
theorem uptoV (p : Option Addr) (len cap h : Nat) (h2 : h ≤ cap) : ∃ q : Option Addr, (∀ b, p = some ⟨b, 0, none⟩ → 0 < cap → q = some ⟨b, 0, none⟩) ∧
    ∀ (H : Int) (w : World), H = h → (Instr.slice 110 (.slice p len cap) none (some (.int .i64 H)) none).run Tryd.prog w = .ok (.slice q h cap) w := by
  refine ⟨if cap = 0 then p else p.map (·.add 0), fun b e h3 => ?_, fun H w eH => ?_⟩
  · subst e
    rw [if_neg (by omega)]
    simp only [Option.map_some, Option.some.injEq]
    unfold Addr.add
    split <;> simp_all
  subst eH
  rw [run_slice_h (P := Tryd.prog) (kh := .i64) (h := (h : Int)) (ht := by kernel_rfl) (h0 := by omega) (h2 := by omega)]
  have hz : (sizeOf (Tryd.prog.elem 110)).run Tryd.prog w = .ok 2 w := by kernel_rfl
  rw [hz]
  simp only [Result.andThen, sliced, Int.toNat_natCast, Nat.zero_mul, Nat.sub_zero]
theorem sizeV : (Tryd.prog.info? 73).map (·.size) = some 2 := by kernel_rfl
set_option maxHeartbeats 2000000 in
theorem rowV_any (r g N f c m : Nat) (xs : List (Option Nat × Int)) (w : World) (h : RV w r g N f c xs) (hc : xs.length = c) (hm : c ≤ m) (hm2 : m ≤ 1099511627776) :
    Calls Tryd.prog 42 #[.pointer (some ⟨r, 0, none⟩), .int .i64 (m : Int)] w fun e w' => e = .returned (.slice (some ⟨w.heap.size, 0, none⟩) m m) ∧ w'.rowIs w.heap.size 73 (m * 2) (fun q => encP (xs.getD (q / 2) ((none, 0) : Option Nat × Int)) (q % 2)) ∧ Below w.heap.size w w' := by
  obtain ⟨p, ep⟩ : ∃ p, p = pt g N := ⟨_, rfl⟩
  have c0 : w.cell? ⟨r, 0, none⟩ = some (.slice p N N) := by rw [ep]; exact h.hd.cell (i := 0) (by omega)
  have c1 := h.c1
  have c2 := h.c2
  have hf := h.fl'
  have hl := h.lim
  have hcN := h.cl
  obtain ⟨fr, hfr⟩ : ∃ fr, fr = min c (N - f) := ⟨_, rfl⟩
  have hfr1 : fr ≤ c := by omega
  have hfr2 : f + fr ≤ N := by omega
  have hfr3 : fr < c → N = f + fr := by omega
  have mn : (if (N : Int) - (f : Int) < (c : Int) then (N : Int) - (f : Int) else (c : Int)) = (fr : Int) := by split <;> omega
  have wr1 : IntKind.i64.wrap ((f : Int) + (fr : Int)) = (f : Int) + (fr : Int) := by rw [IntKind.wrap_i64]; omega
  have wr2 : IntKind.i64.wrap ((c : Int) - (fr : Int)) = (c : Int) - (fr : Int) := by rw [IntKind.wrap_i64]; omega
  obtain ⟨q1, hq1, s1⟩ := cutV p N N f fr hfr2
  obtain ⟨q2, hq2, s2⟩ := fromV (some ⟨w.heap.size, 0, none⟩) m m fr (by omega)
  obtain ⟨q3, hq3, s3⟩ := uptoV p N N (c - fr) (by omega)
  have S1 := fun w' => s1 (f : Int) ((f : Int) + (fr : Int)) w' rfl rfl
  have S2 := fun w' => s2 (fr : Int) w' rfl
  have S3 := fun w' => s3 ((c : Int) - (fr : Int)) w' (by omega)
  have mk := makeV_at (m : Int) (m : Int) m m rfl rfl (Nat.le_refl _) hm2
  have C1 : 0 < fr → q1 = some ⟨g, f * 2, none⟩ ∧ ∀ j, j < fr * 2 → w.cell? ((⟨g, f * 2, none⟩ : Addr).add j) = some (encP (xs.getD (j / 2) ((none, 0) : Option Nat × Int)) (j % 2)) := fun h0 => by
    have hN : 0 < N := by omega
    refine ⟨hq1 g (by rw [ep, pt_pos hN]) (by omega), fun j hj => ?_⟩
    have := h.at (by omega) (i := j / 2) (by omega) (j := j % 2) (by omega)
    rw [Nat.mod_eq_of_lt (by omega), show (f + j / 2) * 2 + j % 2 = f * 2 + j by omega] at this
    rw [addr_add]
    exact this
  have C2 : 0 < c - fr → q3 = some ⟨g, 0, none⟩ ∧ ∀ j, j < (c - fr) * 2 → w.cell? ((⟨g, 0, none⟩ : Addr).add j) = some (encP (xs.getD (fr + j / 2) ((none, 0) : Option Nat × Int)) (j % 2)) := fun h0 => by
    have hN : 0 < N := by omega
    have hf := h.fl hN
    have hN2 : N = f + fr := hfr3 (by omega)
    refine ⟨hq3 g (by rw [ep, pt_pos hN]) hN, fun j hj => ?_⟩
    have := h.at (by omega) (i := fr + j / 2) (by omega) (j := j % 2) (by omega)
    rw [show f + (fr + j / 2) = j / 2 + N by omega, Nat.add_mod_right, Nat.mod_eq_of_lt (show j / 2 < N by omega), show j / 2 * 2 + j % 2 = j by omega] at this
    rw [addr_add, Nat.zero_add]
    exact this
  have D2 : 0 < c - fr → q2 = some ⟨w.heap.size, fr * 2, none⟩ := fun h0 => hq2 _ rfl (by omega)
  have B0 : Below w.heap.size w (w.alloc (.cells (madeCells #[.pointer none, .int .i64 0] (m * 2)) 73)) := (Below.refl _ _).alloc (Nat.le_refl _) _
  have R0 := rowIs_madeK w #[.pointer none, .int .i64 0] (m * 2) 73
  have e0 : (w.alloc (.cells (madeCells #[.pointer none, .int .i64 0] (m * 2)) 73)).cell? ⟨r, 0, none⟩ = some (.slice p N N) := cell_later B0 c0
  have e1 := cell_later B0 c1
  have e2 := cell_later B0 c2
  have hrl := h.rlt
  have HH : Hid (RV w r g N f c xs ∧ xs.length = c) := ⟨h, hc⟩
  have K1 : Hid _ := C1
  have K2 : Hid _ := C2
  have K3 : Hid _ := D2
  have K4 : Hid (Below w.heap.size w (w.alloc (.cells (madeCells #[.pointer none, .int .i64 0] (m * 2)) 73))) := B0
  have K5 : Hid ((w.alloc (.cells (madeCells #[.pointer none, .int .i64 0] (m * 2)) 73)).rowIs w.heap.size 73 (m * 2) (fun i => #[.pointer none, .int .i64 0][i % 2]!)) := R0
  clear h hc ep hfr hfr3 hq1 hq2 hq3 s1 s2 s3 C1 C2 D2 B0 R0
  go_enter Tryd.func42, Tryd.ntmps42
  go_wp2_with fail
  go_quiet (fail)
  go_wp2_with fail
  go_region_held3 (fun w' => w'.cell? ⟨r, 0, none⟩ = some (.slice p N N) ∧ w'.cell? ⟨r, 1, none⟩ = some (.int .i64 (f : Int)) ∧ w'.cell? ⟨r, 2, none⟩ = some (.int .i64 (c : Int))) (first | (simp [go_sem, *]; done) | (trace_state; fail))
    (first
      | (refine step_copyK 2 rfl (.tmp 24) (.tmp 39) 110 110 rfl 73 Tryd.underlying110 sizeV _ _ _ _ _ _ rfl rfl w.heap.size 0 (m * 2) (fun i => #[.pointer none, .int .i64 0][i % 2]!) (fun j => encP (xs.getD (j / 2) ((none, 0) : Option Nat × Int)) (j % 2)) 73 K5.out (by omega) (fun h0 => ⟨rfl, _, (K1.out h0).1, fun j hj => cell_later (bel_drew (bel_drewN K4.out _)) ((K1.out h0).2 j hj)⟩) (by omega) (fun j => encP_one _ _) w.heap.size w (bel_drew (bel_drewN K4.out _)) (Nat.le_refl _) ?_; intro w4 H4; have x0 := cell_later H4.out.2 c0; have x1 := cell_later H4.out.2 c1; have x2 := cell_later H4.out.2 c2))
  clear e0 e1 e2 S1
  go_wp2_with fail
  go_region_held3 (fun w' => w'.cell? ⟨r, 0, none⟩ = some (.slice p N N) ∧ w'.cell? ⟨r, 1, none⟩ = some (.int .i64 (f : Int)) ∧ w'.cell? ⟨r, 2, none⟩ = some (.int .i64 (c : Int))) (first | (simp [go_sem, *]; done) | (trace_state; fail))
    (first
      | (refine step_copyK 2 rfl (.tmp 43) (.tmp 54) 110 110 rfl 73 Tryd.underlying110 sizeV _ _ _ _ _ _ rfl rfl w.heap.size (fr * 2) (m * 2) (laid (fun i => #[.pointer none, .int .i64 0][i % 2]!) 0 (fun j => encP (xs.getD (j / 2) ((none, 0) : Option Nat × Int)) (j % 2)) (fr * 2)) (fun j => encP (xs.getD (fr + j / 2) ((none, 0) : Option Nat × Int)) (j % 2)) 73 H4.out.1 (by omega) (fun h0 => ⟨K3.out h0, _, (K2.out h0).1, fun j hj => cell_later (bel_drew H4.out.2) ((K2.out h0).2 j hj)⟩) (by omega) (fun j => encP_one _ _) w.heap.size w (bel_drew H4.out.2) (Nat.le_refl _) ?_; intro w5 H5; have y0 := cell_later H5.out.2 c0; have y1 := cell_later H5.out.2 c1; have y2 := cell_later H5.out.2 c2))
  go_wp2_with fail
  go_ret
  refine ⟨rfl, H5.out.1.congr fun j hj => ?_, H5.out.2⟩
  have hlen := HH.out.2
  unfold laid
  by_cases h1 : j < fr * 2
  · rw [if_neg (by omega), if_pos (by omega), Nat.sub_zero]
  by_cases h2 : j < c * 2
  · rw [if_pos (by omega)]
    show encP (xs.getD (fr + (j - fr * 2) / 2) ((none, 0) : Option Nat × Int)) ((j - fr * 2) % 2) = _
    rw [show fr + (j - fr * 2) / 2 = j / 2 by omega, show (j - fr * 2) % 2 = j % 2 by omega]
  rw [if_neg (by omega), if_neg (by omega)]
  have e1 : xs.getD (j / 2) ((none, 0) : Option Nat × Int) = ((none, 0) : Option Nat × Int) := by simp [show xs.length ≤ j / 2 by omega]
  rw [e1]
  exact encP_zero _ (by omega)
set_option maxHeartbeats 1000000 in
theorem moveV_any (r g N f c m : Nat) (xs : List (Option Nat × Int)) (w : World) (h : RV w r g N f c xs) (hc : xs.length = c) (hm : c ≤ m) (hp : ∃ k, m = 2 ^ (k + 2)) (hm2 : m ≤ 1099511627776) :
    Calls Tryd.prog 56 #[.pointer (some ⟨r, 0, none⟩), .int .i64 (m : Int)] w fun e w' => e = .returned (.tuple #[]) ∧ RV w' r w.heap.size m 0 c xs ∧ Chg w w' r r := by
  have HH : Hid (RV w r g N f c xs ∧ xs.length = c ∧ c ≤ m ∧ (∃ k, m = 2 ^ (k + 2)) ∧ m ≤ 1099511627776) := ⟨h, hc, hm, hp, hm2⟩
  clear h hc hm hp hm2
  go_enter Tryd.func56, Tryd.ntmps56
  go_wp2_with fail
  refine (rowV_any r g N f c m xs _ HH.out.1 HH.out.2.1 HH.out.2.2.1 HH.out.2.2.2.2).mono ?_
  rintro e w1 ⟨rfl, h1, h2⟩
  obtain ⟨h, hc, hm, hp, hm2⟩ := HH.out
  have x := h.mono h2
  have c0 := x.hd.cell (i := 0) (by omega)
  have c1 := x.c1
  have f0 := x.fz 0
  have f1 := x.fz 1
  have FF : Hid _ := h.moved h2 (Nat.le_refl _) h1 (by omega) (by omega) hp hm2
  clear h1 h2 x h hc hm hp hm2
  go_wp2_with fail
  exact bodyPost_end (v := .tuple #[]) (by simp [results, Tryd.results56, go_sem]) rfl ⟨rfl, FF.out⟩
def RingsV (w : World) (r g : Nat) (xs : List (Option Nat × Int)) (w' : World) : Prop := ∃ g' N' f', RV w' r g' N' f' xs.length xs ∧ Chg w w' r g ∧ (g' = g ∨ g' = r ∨ w.heap.size ≤ g')
theorem RingsV.intro {w w' : World} {r g : Nat} {xs : List (Option Nat × Int)} {g' N' f' : Nat} (h : RV w' r g' N' f' xs.length xs) (k : Chg w w' r g) (e : g' = g ∨ g' = r ∨ w.heap.size ≤ g') : RingsV w r g xs w' := ⟨g', N', f', h, k, e⟩
set_option maxHeartbeats 1000000 in
theorem widenV_any (r g N f : Nat) (xs : List (Option Nat × Int)) (w : World) (h : RV w r g N f xs.length xs) (hx : xs.length ≤ 4294967296) :
    Calls Tryd.prog 54 #[.pointer (some ⟨r, 0, none⟩)] w fun e w' => e = .returned (.tuple #[]) ∧ ∃ g' N' f', RV w' r g' N' f' xs.length xs ∧ Chg w w' r g ∧ (g' = g ∨ g' = r ∨ w.heap.size ≤ g') ∧ xs.length < N' := by
  obtain ⟨p, ep⟩ : ∃ p, p = pt g N := ⟨_, rfl⟩
  have c0 : w.cell? ⟨r, 0, none⟩ = some (.slice p N N) := by rw [ep]; exact h.hd.cell (i := 0) (by omega)
  have c2 := h.c2
  have hl := h.lim
  have hcN := h.cl
  obtain ⟨n, en⟩ : ∃ n, n = xs.length := ⟨_, rfl⟩
  rw [← en] at c2 hcN hx
  have HH : Hid (RV w r g N f xs.length xs ∧ n = xs.length) := ⟨h, en⟩
  by_cases e : n = N
  · have hd : ((n : Int) == (N : Int)) = true := by simp <;> omega
    obtain ⟨m, em⟩ : ∃ m, m = max 4 (2 * n) := ⟨_, rfl⟩
    have mx : (if (4 : Int) < 2 * (n : Int) then 2 * (n : Int) else 4) = (m : Int) := by split <;> omega
    have HM : Hid ((∃ k, m = 2 ^ (k + 2)) ∧ n ≤ m ∧ n < m ∧ m ≤ 1099511627776) := by
      refine ⟨?_, by omega, by omega, by omega⟩
      rcases Nat.eq_zero_or_pos N with e0 | e0
      · exact ⟨0, by omega⟩
      obtain ⟨k, hk⟩ := h.pow e0
      have := h.four e0
      have hk2 : 2 ^ (k + 1 + 2) = 2 ^ (k + 2) * 2 := Nat.pow_succ ..
      exact ⟨k + 1, by rw [hk2, ← hk]; omega⟩
    subst e
    clear h ep em en
    go_enter Tryd.func54, Tryd.ntmps54
    go_wp2_with fail
    go_quiet (fail)
    go_wp2_with fail
    refine (moveV_any r g _ f _ m xs (w.drewN nq) (HH.out.1.of_blocks rfl rfl) rfl (by have := HH.out.2; have := HM.out.2.1; omega) HM.out.1 HM.out.2.2.2).mono ?_
    rintro e w1 ⟨rfl, h1, h2⟩
    go_wp2_with fail
    refine bodyPost_end (v := .tuple #[]) (by simp [results, Tryd.results54, go_sem]) rfl ⟨rfl, _, _, _, h1, ?_, .inr (.inr (Nat.le_refl _)), by have := HH.out.2; have := HM.out.2.2.1; omega⟩
    exact ((Chg.refl w r g).drewN nq).trans h2 (.inr (.inl rfl))
  have hd : ((n : Int) == (N : Int)) = false := by simp <;> omega
  have HL : Hid (n < N) := by show n < N; omega
  clear h ep en e
  go_enter Tryd.func54, Tryd.ntmps54
  go_wp2_with fail
  go_quiet (fail)
  go_wp2_with fail
  exact bodyPost_end (v := .tuple #[]) (by simp [results, Tryd.results54, go_sem]) rfl ⟨rfl, _, _, _, HH.out.1.of_blocks rfl rfl, (Chg.refl w r g).drewN nq, .inl rfl, by have := HH.out.2; have := HL.out; omega⟩
theorem newV_any (w : World) : Calls Tryd.prog 26 #[] w fun e w' => e = .returned (.pointer (some ⟨w.heap.size, 0, none⟩)) ∧ RV w' w.heap.size w.heap.size 0 0 0 [] ∧ Below w.heap.size w w' := by
  have F : Hid (RV (w.alloc (.cells #[.slice none 0 0, .int .i64 0, .int .i64 0] 112)) w.heap.size w.heap.size 0 0 0 [] ∧ Below w.heap.size w (w.alloc (.cells #[.slice none 0 0, .int .i64 0, .int .i64 0] 112))) := by
    refine ⟨⟨?_, fun h => by omega, fun h => by omega, fun _ => ⟨rfl, rfl⟩, fun h => by omega, Nat.le_refl _, Nat.le_refl _, fun h => by omega, by omega⟩, (Below.refl _ _).alloc (Nat.le_refl _) _⟩
    refine World.rowIs_alloc w #[.slice none 0 0, .int .i64 0, .int .i64 0] 112 _ fun i hi => ?_
    rcases i with _ | _ | _ | i
    · rfl
    · rfl
    · rfl
    simp at hi
    omega
  go_enter Tryd.func26, Tryd.ntmps26
  go_wp2_with fail
  go_ret
  exact ⟨rfl, F.out⟩
theorem hasV_yes (r g N f c : Nat) (xs : List (Option Nat × Int)) (i : Int) (w : World) (h : RV w r g N f c xs) (h0 : 0 ≤ i) (h1 : i < c) : Calls Tryd.prog 45 #[.pointer (some ⟨r, 0, none⟩), .int .i64 i] w fun e w' => e = .returned (.bool true) ∧ w' = w := by
  have c2 := h.c2
  have d0 : decide (0 ≤ i) = true := decide_eq_true h0
  have d1 : decide (i < (c : Int)) = true := decide_eq_true h1
  clear h h0 h1
  go_enter Tryd.func45, Tryd.ntmps45
  go_wp2_with fail
  go_ret
  exact ⟨rfl, rfl⟩
theorem hasV_no (r g N f c : Nat) (xs : List (Option Nat × Int)) (i : Int) (w : World) (h : RV w r g N f c xs) (h0 : i < 0 ∨ (c : Int) ≤ i) : Calls Tryd.prog 45 #[.pointer (some ⟨r, 0, none⟩), .int .i64 i] w fun e w' => e = .returned (.bool false) ∧ w' = w := by
  have c2 := h.c2
  by_cases e : 0 ≤ i
  · have d0 : decide (0 ≤ i) = true := decide_eq_true e
    have d1 : decide (i < (c : Int)) = false := decide_eq_false (by omega)
    clear h h0 e
    go_enter Tryd.func45, Tryd.ntmps45
    go_wp2_with fail
    go_ret
    exact ⟨rfl, rfl⟩
  have d0 : decide (0 ≤ i) = false := decide_eq_false e
  clear h h0 e
  go_enter Tryd.func45, Tryd.ntmps45
  go_wp2_with fail
  go_ret
  exact ⟨rfl, rfl⟩
set_option maxHeartbeats 1000000 in
theorem atV_no (r g N f c : Nat) (xs : List (Option Nat × Int)) (i : Int) (w : World) (h : RV w r g N f c xs) (h0 : i < 0 ∨ (c : Int) ≤ i) : Calls Tryd.prog 31 #[.pointer (some ⟨r, 0, none⟩), .int .i64 i] w fun e w' => e = .returned (.tuple #[(.agg #[.pointer none, .int .i64 0]), .bool false]) ∧ Below w.heap.size w w' := by
  have B0 : Below w.heap.size w (w.alloc (.cells #[.pointer none, .int .i64 0] 73)) := (Below.refl _ _).alloc (Nat.le_refl _) _
  have HH : Hid (RV (w.alloc (.cells #[.pointer none, .int .i64 0] 73)) r g N f c xs ∧ (i < 0 ∨ (c : Int) ≤ i) ∧ Below w.heap.size w (w.alloc (.cells #[.pointer none, .int .i64 0] 73))) := ⟨h.mono B0, h0, B0⟩
  clear h h0 B0
  go_enter Tryd.func31, Tryd.ntmps31
  go_wp2_with fail
  refine (hasV_no r g N f c xs i _ HH.out.1 HH.out.2.1).mono ?_
  rintro e w1 ⟨rfl, e1⟩
  rw [e1]
  go_wp2_with fail
  refine bodyPost_ret (v := .tuple #[(.agg #[.pointer none, .int .i64 0]), .bool false]) (by simp [results, Tryd.results31, go_sem]) rfl ⟨rfl, HH.out.2.2⟩
set_option maxHeartbeats 1000000 in
theorem atV_yes (r g N f c : Nat) (xs : List (Option Nat × Int)) (j : Nat) (i : Int) (w : World) (h : RV w r g N f c xs) (hi : i = j) (h1 : j < c) : Calls Tryd.prog 31 #[.pointer (some ⟨r, 0, none⟩), .int .i64 i] w fun e w' => e = .returned (.tuple #[.agg #[pP (xs.getD j ((none, 0) : Option Nat × Int)).1, .int .i64 (xs.getD j ((none, 0) : Option Nat × Int)).2], .bool true]) ∧ Below w.heap.size w w' := by
  subst hi
  have hcN := h.cl
  have hN : 0 < N := by omega
  have hl := h.lim
  have B0 : Below w.heap.size w (w.alloc (.cells #[.pointer none, .int .i64 0] 73)) := (Below.refl _ _).alloc (Nat.le_refl _) _
  obtain ⟨W, hW⟩ : ∃ W, W = w.alloc (.cells #[.pointer none, .int .i64 0] 73) := ⟨_, rfl⟩
  obtain ⟨v, ev⟩ : ∃ v, v = w.heap.size := ⟨_, rfl⟩
  have hB : W.heap[v]? = some (.cells #[.pointer none, .int .i64 0] 73) := by rw [hW, ev]; exact (MapKept.heap_alloc _ _).1
  rw [← hW] at B0
  have h' := h.mono B0
  have hvr : r < v := by rw [ev]; exact h.rlt
  have hvg : g < v := by rw [ev]; exact h.glt
  have HH : Hid (RV W r g N f c xs ∧ Below w.heap.size w W ∧ v = w.heap.size) := ⟨h', B0, ev⟩
  obtain ⟨k, ek⟩ : ∃ k, k = (f + j) % N := ⟨_, rfl⟩
  have hk : k < N := by rw [ek]; exact Nat.mod_lt _ hN
  obtain ⟨x, ex⟩ : ∃ x, x = xs.getD j ((none, 0) : Option Nat × Int) := ⟨_, rfl⟩
  have ck0 := h'.at (by omega) (i := j) (by omega) (j := 0) (by omega)
  have ck1 := h'.at (by omega) (i := j) (by omega) (j := 1) (by omega)
  rw [← ek, ← ex] at ck0 ck1
  simp only [Nat.add_zero, encP] at ck0 ck1
  have c0 := h'.c0 hN
  have v0 : W.cell? ⟨v, 0, none⟩ = some (.pointer none) := by simp [World.cell?, hB]
  have v1 : W.cell? ⟨v, 1, none⟩ = some (.int .i64 0) := by simp [World.cell?, hB]
  have z0 : W.frozen? ⟨v, 0, none⟩ = false := by simp [World.frozen?, hB]
  have z1 : W.frozen? ⟨v, 1, none⟩ = false := by simp [World.frozen?, hB]
  have IX : Hid (∀ nd, Calls Tryd.prog 46 #[.pointer (some ⟨r, 0, none⟩), .int .i64 (j : Int)] (W.drewN nd) fun e w' => e = .returned (.int .i64 (k : Int)) ∧ ∃ n, w' = (W.drewN nd).drewN n) := fun nd => indexV_any r g N f c xs (j : Int) k (W.drewN nd) (h'.of_blocks rfl rfl) hN (by omega) (by omega) hk (by rw [ek]; simp)
  have HW : Hid (w.alloc (.cells #[.pointer none, .int .i64 0] 73) = W ∧ w.heap.size = v) := ⟨hW.symm, ev.symm⟩
  obtain ⟨x1, x2⟩ := x
  rw [← ex]
  have n1 : ¬ v = r := by omega
  have n2 : ¬ v = g := by omega
  have n3 : ¬ r = v := by omega
  have n4 : ¬ g = v := by omega
  clear h h' ek hB B0 ex ev hW hvr hvg
  go_enter Tryd.func31, Tryd.ntmps31
  go_wp2_with fail
  rw [HW.out.1, HW.out.2]
  refine (hasV_yes r g N f c xs (j : Int) _ HH.out.1 (by omega) (by omega)).mono ?_
  rintro e w1 ⟨rfl, e1⟩
  rw [e1]
  clear e1
  go_wp2_with fail
  obtain ⟨pp, epp⟩ : ∃ pp : Option Addr, pp = x1.map fun b => ⟨b, 0, none⟩ := ⟨_, rfl⟩
  have ck0' : W.cell? ⟨g, k * 2, none⟩ = some (.pointer pp) := by rw [epp]; exact ck0
  have HP : Hid (pP x1 = .pointer pp) := by rw [epp]; rfl
  clear ck0 epp
  go_region_held3 (fun w' => w'.cell? ⟨r, 0, none⟩ = some (.slice (some ⟨g, 0, none⟩) N N) ∧ w'.cell? ⟨g, k * 2, none⟩ = some (.pointer pp) ∧ w'.cell? ⟨g, k * 2 + 1, none⟩ = some (.int .i64 x2)) (first | (simp [go_sem, *]; done) | (trace_state; fail))
    (first
      | (go_at_call 46; refine Calls.mono (IX.out 1) ?_; rintro e w1 ⟨rfl, n, rfl⟩))
  go_wp2_with fail
  refine bodyPost_ret (v := .tuple #[.agg #[pP x1, .int .i64 x2], .bool true]) (by rw [HP.out]; simp [results, Tryd.results31, go_sem, *]) rfl ⟨rfl, ?_⟩
  repeat' first
    | exact HH.out.2.1
    | refine bel_drewN ?_ _
    | refine bel_drew ?_
    | refine Below.setCell ?_ (by show _ ≤ v; have := HH.out.2.2; omega) _
theorem setV_no (r g N f c : Nat) (xs : List (Option Nat × Int)) (i : Int) (x1 : Option Nat) (x2 : Int) (w : World) (h : RV w r g N f c xs) (h0 : i < 0 ∨ (c : Int) ≤ i) : Calls Tryd.prog 47 #[.pointer (some ⟨r, 0, none⟩), .int .i64 i, .agg #[pP x1, .int .i64 x2]] w fun e w' => e = .returned (.bool false) ∧ Below w.heap.size w w' := by
  obtain ⟨pp, epp⟩ : ∃ pp : Option Addr, pp = x1.map fun b => ⟨b, 0, none⟩ := ⟨_, rfl⟩
  rw [show pP x1 = .pointer pp by rw [epp]; rfl]
  have B0 : Below w.heap.size w (w.alloc (.cells #[.pointer pp, .int .i64 x2] 73)) := (Below.refl _ _).alloc (Nat.le_refl _) _
  have HH : Hid (RV (w.alloc (.cells #[.pointer pp, .int .i64 x2] 73)) r g N f c xs ∧ (i < 0 ∨ (c : Int) ≤ i)) := ⟨h.mono B0, h0⟩
  clear h h0 epp B0
  go_enter Tryd.func47, Tryd.ntmps47
  go_wp2_with fail
  refine (hasV_no r g N f c xs i _ HH.out.1 HH.out.2).mono ?_
  rintro e w1 ⟨rfl, e1⟩
  rw [e1]
  go_wp2_with fail
  go_ret
  exact ⟨rfl, (Below.refl _ _).alloc (Nat.le_refl _) _⟩
set_option maxHeartbeats 1000000 in
theorem setV_yes (r g N f c : Nat) (xs : List (Option Nat × Int)) (j : Nat) (i : Int) (x1 : Option Nat) (x2 : Int) (w : World) (h : RV w r g N f c xs) (hx : xs.length = c) (hi : i = j) (h1 : j < c) : Calls Tryd.prog 47 #[.pointer (some ⟨r, 0, none⟩), .int .i64 i, .agg #[pP x1, .int .i64 x2]] w fun e w' => e = .returned (.bool true) ∧ RV w' r g N f c (xs.set j (x1, x2)) ∧ Chg w w' r g := by
  subst hi
  obtain ⟨pp, epp⟩ : ∃ pp : Option Addr, pp = x1.map fun b => ⟨b, 0, none⟩ := ⟨_, rfl⟩
  have ep : pP x1 = .pointer pp := by rw [epp]; rfl
  have hcN := h.cl
  have hN : 0 < N := by omega
  have hl := h.lim
  have hne := h.ne hN
  obtain ⟨W, hW⟩ : ∃ W, W = w.alloc (.cells #[.pointer pp, .int .i64 x2] 73) := ⟨_, rfl⟩
  obtain ⟨v, ev⟩ : ∃ v, v = w.heap.size := ⟨_, rfl⟩
  have B0 : Below w.heap.size w W := by rw [hW]; exact (Below.refl _ _).alloc (Nat.le_refl _) _
  have hB : W.heap[v]? = some (.cells #[.pointer pp, .int .i64 x2] 73) := by rw [hW, ev]; exact (MapKept.heap_alloc _ _).1
  have h' := h.mono B0
  have HH : Hid (RV W r g N f c xs) := h'
  obtain ⟨k, ek⟩ : ∃ k, k = (f + j) % N := ⟨_, rfl⟩
  have hk : k < N := by rw [ek]; exact Nat.mod_lt _ hN
  have ck0 := h'.at (by omega) (i := j) (by omega) (j := 0) (by omega)
  have ck1 := h'.at (by omega) (i := j) (by omega) (j := 1) (by omega)
  have fk0 := h'.fg hN (k * 2)
  have fk1 := h'.fg hN (k * 2 + 1)
  rw [← ek] at ck0 ck1
  simp only [Nat.add_zero] at ck0
  have c0 := h'.c0 hN
  have v0 : W.cell? ⟨v, 0, none⟩ = some (.pointer pp) := by simp [World.cell?, hB]
  have v1 : W.cell? ⟨v, 1, none⟩ = some (.int .i64 x2) := by simp [World.cell?, hB]
  have IX : Hid (∀ nd, Calls Tryd.prog 46 #[.pointer (some ⟨r, 0, none⟩), .int .i64 (j : Int)] (W.drewN nd) fun e w' => e = .returned (.int .i64 (k : Int)) ∧ ∃ n, w' = (W.drewN nd).drewN n) := fun nd => indexV_any r g N f c xs (j : Int) k (W.drewN nd) (h'.of_blocks rfl rfl) hN (by omega) (by omega) hk (by rw [ek]; simp)
  have FH : Hid (∀ nd, RV (((W.drewN nd).setCell ⟨g, k * 2, none⟩ (.pointer pp)).setCell ⟨g, k * 2 + 1, none⟩ (.int .i64 x2)) r g N f c (xs.set j (x1, x2)) ∧ Chg w (((W.drewN nd).setCell ⟨g, k * 2, none⟩ (.pointer pp)).setCell ⟨g, k * 2 + 1, none⟩ (.int .i64 x2)) r g) := fun nd => by
    refine ⟨?_, ((((Chg.of_below B0 r g).drewN nd).setG _ _).setG _ _)⟩
    have := (show RV (W.drewN nd) r g N f c xs from h'.of_blocks rfl rfl).set (by omega) (i := j) (by omega) (x1, x2) (ys := xs.set j (x1, x2)) (by simpa using h.len) (fun i hi => getD_set _ _ _ _ (by omega) i)
    rw [← ek] at this
    have e2 : (List.range 2).map (encP (x1, x2)) = [.pointer pp, .int .i64 x2] := by rw [← ep]; rfl
    rw [e2] at this
    exact this
  have HW : Hid (w.alloc (.cells #[.pointer pp, .int .i64 x2] 73) = W ∧ w.heap.size = v) := ⟨hW.symm, ev.symm⟩
  obtain ⟨y0, ck0⟩ : ∃ y, W.cell? ⟨g, k * 2, none⟩ = some y := ⟨_, ck0⟩
  obtain ⟨y1, ck1⟩ : ∃ y, W.cell? ⟨g, k * 2 + 1, none⟩ = some y := ⟨_, ck1⟩
  have n1 : ¬ v = g := by have := h.glt; omega
  have n2 : ¬ g = v := by have := h.glt; omega
  rw [ep]
  clear h h' ek hx epp ep B0 hB hW ev
  go_enter Tryd.func47, Tryd.ntmps47
  go_wp2_with fail
  rw [HW.out.1, HW.out.2]
  refine (hasV_yes r g N f c xs (j : Int) _ HH.out (by omega) (by omega)).mono ?_
  rintro e w1 ⟨rfl, e1⟩
  rw [e1]
  clear e1
  go_wp2_with fail
  go_region_held3 (fun w' => w'.cell? ⟨r, 0, none⟩ = some (.slice (some ⟨g, 0, none⟩) N N) ∧ w'.cell? ⟨v, 0, none⟩ = some (.pointer pp) ∧ w'.cell? ⟨v, 1, none⟩ = some (.int .i64 x2)) (first | (simp [go_sem, *]; done) | (trace_state; fail))
    (first
      | (go_at_call 46; refine Calls.mono (IX.out 1) ?_; rintro e w1 ⟨rfl, n, rfl⟩))
  go_wp2_with fail
  go_ret
  exact ⟨rfl, FH.out _⟩
set_option maxHeartbeats 1000000 in
theorem pushBackV_any (r g N f : Nat) (xs : List (Option Nat × Int)) (x1 : Option Nat) (x2 : Int) (w : World) (h : RV w r g N f xs.length xs) (hx : xs.length ≤ 4294967296) :
    Calls Tryd.prog 48 #[.pointer (some ⟨r, 0, none⟩), .agg #[pP x1, .int .i64 x2]] w fun e w' => e = .returned (.tuple #[]) ∧ RingsV w r g (xs ++ [(x1, x2)]) w' := by
  obtain ⟨pp, epp⟩ : ∃ pp : Option Addr, pp = x1.map fun b => ⟨b, 0, none⟩ := ⟨_, rfl⟩
  have ep : pP x1 = .pointer pp := by rw [epp]; rfl
  obtain ⟨W, hW⟩ : ∃ W, W = w.alloc (.cells #[.pointer pp, .int .i64 x2] 73) := ⟨_, rfl⟩
  obtain ⟨v, ev⟩ : ∃ v, v = w.heap.size := ⟨_, rfl⟩
  have B0 : Below w.heap.size w W := by rw [hW]; exact (Below.refl _ _).alloc (Nat.le_refl _) _
  have hB : W.heap[v]? = some (.cells #[.pointer pp, .int .i64 x2] 73) := by rw [hW, ev]; exact (MapKept.heap_alloc _ _).1
  have HW : Hid (RV W r g N f xs.length xs ∧ W.heap[v]? = some (.cells #[.pointer pp, .int .i64 x2] 73) ∧ v = w.heap.size ∧ r < v ∧ g < v ∧ Below w.heap.size w W ∧ pP x1 = .pointer pp) := ⟨h.mono B0, hB, ev, by rw [ev]; exact h.rlt, by rw [ev]; exact h.glt, B0, ep⟩
  have HE : Hid (w.alloc (.cells #[.pointer pp, .int .i64 x2] 73) = W ∧ w.heap.size = v) := ⟨hW.symm, ev.symm⟩
  rw [ep]
  clear h epp ep B0 hB hW ev
  go_enter Tryd.func48, Tryd.ntmps48
  go_wp2_with fail
  rw [HE.out.1, HE.out.2]
  refine (widenV_any r g N f xs W HW.out.1 hx).mono ?_
  rintro e w1 ⟨rfl, g1, N1, f1, h1, hg1, hg2, hlt⟩
  have hN : 0 < N1 := by omega
  have hl := h1.lim
  have hne := h1.ne hN
  have c0 := h1.c0 hN
  have c2 := h1.c2
  have f2 := h1.fz 2
  have hv : w1.heap[v]? = some (.cells #[.pointer pp, .int .i64 x2] 73) := (hg1.block v (Array.getElem?_eq_some_iff.1 HW.out.2.1).1 (by have := HW.out.2.2.2.1; omega) (by have := HW.out.2.2.2.2.1; omega)).trans HW.out.2.1
  have hvlt : v < W.heap.size := (Array.getElem?_eq_some_iff.1 HW.out.2.1).1
  have v0 : w1.cell? ⟨v, 0, none⟩ = some (.pointer pp) := by simp [World.cell?, hv]
  have v1 : w1.cell? ⟨v, 1, none⟩ = some (.int .i64 x2) := by simp [World.cell?, hv]
  obtain ⟨k, ek⟩ : ∃ k, k = (f1 + xs.length) % N1 := ⟨_, rfl⟩
  have hk : k < N1 := by rw [ek]; exact Nat.mod_lt _ hN
  have ck0 := h1.at (by omega) (i := xs.length) hlt (j := 0) (by omega)
  have ck1 := h1.at (by omega) (i := xs.length) hlt (j := 1) (by omega)
  have fk0 := h1.fg hN (k * 2)
  have fk1 := h1.fg hN (k * 2 + 1)
  rw [← ek] at ck0 ck1
  simp only [Nat.add_zero] at ck0
  obtain ⟨y0, ck0⟩ : ∃ y, w1.cell? ⟨g1, k * 2, none⟩ = some y := ⟨_, ck0⟩
  obtain ⟨y1, ck1⟩ : ∃ y, w1.cell? ⟨g1, k * 2 + 1, none⟩ = some y := ⟨_, ck1⟩
  obtain ⟨n, en⟩ : ∃ n, n = xs.length := ⟨_, rfl⟩
  have IX : Hid (∀ nd, Calls Tryd.prog 46 #[.pointer (some ⟨r, 0, none⟩), .int .i64 (n : Int)] (w1.drewN nd) fun e w' => e = .returned (.int .i64 (k : Int)) ∧ ∃ n, w' = (w1.drewN nd).drewN n) := fun nd => indexV_any r g1 N1 f1 _ xs (n : Int) k (w1.drewN nd) (h1.of_blocks rfl rfl) hN (by omega) (by omega) hk (by rw [ek, en]; simp)
  have hgw : g1 = g ∨ g1 = r ∨ w.heap.size ≤ g1 := by
    have := HW.out.2.2.1
    rcases hg2 with e | e | e
    · exact .inl e
    · exact .inr (.inl e)
    exact .inr (.inr (by omega))
  have FH : Hid (∀ nd, RingsV w r g (xs ++ [(x1, x2)]) ((((w1.drewN nd).setCell ⟨g1, k * 2, none⟩ (.pointer pp)).setCell ⟨g1, k * 2 + 1, none⟩ (.int .i64 x2)).setCell ⟨r, 2, none⟩ (.int .i64 ((n : Int) + 1)))) := fun nd => by
    have h2 := (show RV (w1.drewN nd) r g1 N1 f1 xs.length xs from h1.of_blocks rfl rfl).snoc (by omega) hlt (x1, x2)
    have e2 : (List.range 2).map (encP (x1, x2)) = [.pointer pp, .int .i64 x2] := by rw [← HW.out.2.2.2.2.2.2]; rfl
    rw [← ek, ← en, e2] at h2
    exact RingsV.intro h2 ((Chg.of_below HW.out.2.2.2.2.2.1 r g).trans (hg1.trans (((((Chg.refl w1 r g1).drewN nd).setG _ _).setG _ _).setR 2 _) hg2) (.inl rfl)) hgw
  have n1 : ¬ v = g1 := by
    have := HW.out.2.2.2
    rcases hg2 with e | e | e <;> omega
  have n2 : ¬ g1 = v := fun e => n1 e.symm
  rw [← en] at c2 hx
  clear h1 hg1 hg2 ek hlt en hv hgw
  go_wp2_with fail
  go_region_held3 (fun w' => w'.cell? ⟨r, 0, none⟩ = some (.slice (some ⟨g1, 0, none⟩) N1 N1) ∧ w'.cell? ⟨r, 2, none⟩ = some (.int .i64 (n : Int)) ∧ w'.cell? ⟨v, 0, none⟩ = some (.pointer pp) ∧ w'.cell? ⟨v, 1, none⟩ = some (.int .i64 x2)) (first | (simp [go_sem, *]; done) | (trace_state; fail))
    (first
      | (go_at_call 46; refine Calls.mono (IX.out 1) ?_; rintro e w1 ⟨rfl, n, rfl⟩))
  go_wp2_with fail
  exact bodyPost_end (v := .tuple #[]) (by simp [results, Tryd.results48, go_sem]) rfl ⟨rfl, FH.out _⟩
end Go.Proofs.YtdobjanhmllloaaDoor
