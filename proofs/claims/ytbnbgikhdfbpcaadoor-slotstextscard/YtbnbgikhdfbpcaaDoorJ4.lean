/- Contracts of the program's functions, part 4: own work, joined in build order. -/
import Derived.Test.YtbnbgikhdfbpcaaDoorJ3
import Derived.SliceStrings
import Derived.Deep.Slices
import Derived.ChangeSlices
import Derived.ProofKit
import Derived.LaidMore
import Derived.Lib.LaidTab
import Derived.WalkKit
import Derived.OpenShut
import Derived.ShutString
import Derived.ChangeOld
import Derived.Below
namespace Go.Proofs.YtbnbgikhdfbpcaaDoor
open Go.RowKit
set_option maxRecDepth 100000
set_option linter.unusedVariables false
/-- A slice of texts that came in. -/
structure TSl (w : World) (a : Option Addr) (n cap : Nat) (xs : Nat → ByteArray) : Prop where
  le : n ≤ cap
  lim : cap ≤ 9223372036854775807
  at' : n = 0 ∨ ∃ b o, a = some ⟨b, o, none⟩ ∧ ∀ i, i < n → w.cell? ⟨b, o + i, none⟩ = some (.string (xs i))
theorem TSl.at {w W : World} {a : Option Addr} {n cap : Nat} {xs : Nat → ByteArray} (h : TSl w a n cap xs) (hB : Below w.heap.size w W) (hn : 0 < n) : ∃ b o, a = some ⟨b, o, none⟩ ∧ ∀ i, i < n → W.cell? ⟨b, o + i, none⟩ = some (.string (xs i)) := by
  rcases h.at' with e | ⟨b, o, e, hc⟩
  · omega
  · exact ⟨b, o, e, fun i hi => cell_later hB (hc i hi)⟩
/-- N slots of which the first k hold their texts. -/
def tx (S : Nat → ByteArray) (N k : Nat) : List (Option ByteArray × Int) := (List.range N).map fun j => if j < k then (some (S j), 1) else (none, 1)
theorem tx_len (S : Nat → ByteArray) (N k : Nat) : (tx S N k).length = N := by simp [tx]
theorem tx_at (S : Nat → ByteArray) (N k j : Nat) (h : j < N) : (tx S N k).getD j (none, 0) = if j < k then (some (S j), 1) else (none, 1) := by simp [tx, h]
theorem tx_put (S : Nat → ByteArray) (i : Nat) : putXW (tx S i i) i (S i) = tx S (i + 1) (i + 1) := by
  unfold putXW
  rw [if_neg (by rw [tx_len]; omega)]
  have e : ((tx S i i).getD i (none, 0)) = (none, 0) := by simp [tx]
  rw [e]
  unfold tx
  rw [List.range_succ, List.map_append]
  congr 1
  · refine List.map_congr_left fun j hj => ?_
    have : j < i := by simpa using hj
    rw [if_pos this, if_pos (by omega)]
  · simp
theorem tx_drop (S : Nat → ByteArray) (N k : Nat) (h : k < N) : (tx S N (k + 1)).set k (none, 1) = tx S N k := by
  refine List.ext_getElem (by simp [tx]) fun j h1 h2 => ?_
  rw [List.getElem_set]
  simp only [tx, List.getElem_map, List.getElem_range]
  by_cases e : k = j
  · subst e
    rw [if_pos rfl, if_neg (by omega)]
  · rw [if_neg e]
    by_cases e2 : j < k
    · rw [if_pos (by omega), if_pos e2]
    · rw [if_neg (by omega), if_neg e2]
theorem tx_least (S : Nat → ByteArray) (i : Nat) (h : i < 300) : Least (VacW 300 1 (tx S i i)) i := by
  refine ⟨⟨h, .inl (by rw [tx_len]; omega)⟩, fun j hj => ?_⟩
  rcases Nat.lt_or_ge j i with e | e
  · obtain ⟨_, h1 | h1⟩ := hj
    · rw [tx_len] at h1
      exact h1
    · rw [tx_at _ _ _ _ e, if_pos e] at h1
      simp at h1
  · exact e
theorem tx_fnd (S : Nat → ByteArray) (N k : Nat) (h : k < N) : fndW (tx S N (k + 1)) (k : Int) 1 = some (S k) := by
  unfold fndW
  have e := tx_at S N (k + 1) k h
  rw [if_pos (by omega)] at e
  rw [Int.toNat_natCast, e, tx_len, if_pos ⟨by omega, by omega, rfl⟩]
theorem tx_gone (S : Nat → ByteArray) (N k : Nat) (h : k < N) : fndW (tx S N k) (k : Int) 1 = none := by
  unfold fndW
  have e := tx_at S N k k h
  rw [if_neg (by omega)] at e
  rw [Int.toNat_natCast, e]
  split <;> rfl
theorem tx_count (S : Nat → ByteArray) (N k : Nat) (h : k ≤ N) : (tx S N k).countP (fun x => x.1.isSome) = k := by
  unfold tx
  rw [List.countP_map]
  have e : ∀ N, k ≤ N → (List.range N).countP ((fun x : Option ByteArray × Int => x.1.isSome) ∘ fun j => if j < k then (some (S j), 1) else (none, 1)) = k := by
    intro N
    induction N with
    | zero => intro h; have : k = 0 := by omega
              subst this; rfl
    | succ N ih =>
      intro h
      rw [List.range_succ, List.countP_append]
      rcases Nat.lt_or_ge N k with h1 | h1
      · have e1 : k = N + 1 := by omega
        subst e1
        have e2 : (List.range N).countP ((fun x : Option ByteArray × Int => x.1.isSome) ∘ fun j => if j < N + 1 then (some (S j), 1) else (none, 1)) = (List.range N).length := by
          refine List.countP_eq_length.2 fun j hj => ?_
          have : j < N := by simpa using hj
          simp [show j < N + 1 by omega]
        rw [e2]
        simp
      · rw [ih h1]
        simp [show ¬ N < k by omega]
  exact e N h
/-- The cells of N handles of first generations. -/
def hcs (N : Nat) : List Value := (List.range N).flatMap fun (j : Nat) => [.int .i64 (j : Int), .int .i64 1]
theorem hcs_succ (N : Nat) : hcs (N + 1) = hcs N ++ [.int .i64 (N : Int), .int .i64 1] := by simp [hcs, List.range_succ]
theorem hcs_len (N : Nat) : (hcs N).length = N * 2 := by
  induction N with
  | zero => rfl
  | succ N ih => rw [hcs_succ, List.length_append, ih]; simp; omega
theorem hcs_at (N : Nat) : ∀ j, j < N → (hcs N)[j * 2]? = some (.int .i64 (j : Int)) ∧ (hcs N)[j * 2 + 1]? = some (.int .i64 1) := by
  induction N with
  | zero => intro j h; omega
  | succ N ih =>
    intro j h
    rw [hcs_succ]
    rcases Nat.lt_or_ge j N with h1 | h1
    · rw [List.getElem?_append_left (by rw [hcs_len]; omega), List.getElem?_append_left (by rw [hcs_len]; omega)]
      exact ih j h1
    · obtain rfl : j = N := by omega
      rw [List.getElem?_append_right (by rw [hcs_len]; omega), List.getElem?_append_right (by rw [hcs_len]; omega), hcs_len]
      simp
theorem Tryd.infoH : (Tryd.prog.info? 38).map (fun i => (i.zero, i.size, i.bytes)) = some (some (.agg #[.int .i64 0, .int .i64 0]), 2, 16) := by kernel_rfl
/-- append of one handle. -/
theorem wp_appH {w : World} {ops : Array Oper} {rest : List Oper} {o : Oper} {a : Act} {Q : Exit → Act → World → Prop} (hgd : o.guard = none) (s x : Operand)
    (ho : o.op = .call { callee := .builtin .append, args := #[s, x], argTypes := #[33, 33] }) (base : Nat) (v : Value) (k : Nat) (xs : List Value) (hs : a.eval s = v) (hown : w.ownsRow base 38 2 v k xs)
    (b : Nat) (i gen : Int) (hx : a.eval x = .slice (some ⟨b, 0, none⟩) 1 1) (hc : Hb w b i gen) (hlim : k ≤ 1000) (hb : base ≤ w.heap.size)
    (h : ∀ v' w', Hid (w'.ownsRow base 38 2 v' (k + 1) (xs ++ [.int .i64 i, .int .i64 gen]) ∧ w.grownBy w' v.ownBlock ∧ (v'.ownBlock = v.ownBlock ∨ v'.ownBlock = some w.heap.size)) → wpList Tryd.prog ops Q rest (a.put o.dst v') w') : wpList Tryd.prog ops Q (o :: rest) a w := by
  obtain ⟨i', hi, hz, hsz, hby⟩ := info_parts Tryd.infoH
  obtain ⟨c0, c1, _⟩ := hc.cells
  refine wpList_append_own_at w hgd s x 33 ho base 38 i' _ 2 16 Tryd.underlying33 hi hz hsz hby rfl (by omega) v _ _ hs hown ⟨b, 0, none⟩ 1 1 [.int .i64 i, .int .i64 gen] hx rfl (fun j u' hj => ?_) (fun u' hu' => ?_) (by simp only [maxLen]; omega) (by omega) hb ?_
  · rcases j with _ | _ | j
    · simp at hj
      subst hj
      rw [addr_add]
      exact c0
    · simp at hj
      subst hj
      rw [addr_add]
      exact c1
    · simp at hj
  · simp at hu'
    rcases hu' with rfl | rfl <;> rfl
  · intro v' w' h1 h2 _ h4
    exact h v' w' ⟨h1, h2, h4⟩
/-- Slots of texts, and the handles in a row. -/
structure Tx (w W : World) (sb : Nat) (S : Nat → ByteArray) (N k : Nat) (v : Value) : Prop where
  tw : Tw w W sb 300 1 (tx S N k)
  row : W.ownsRow w.heap.size 38 2 v N (hcs N)
theorem Tx.step {w W W' : World} {sb : Nat} {S : Nat → ByteArray} {N k k' : Nat} {v : Value} (h : Tx w W sb S N k v) (ht : Tw w W' sb 300 1 (tx S N k')) (hF : Ft isSW w.heap.size W W') : Tx w W' sb S N k' v := by
  refine ⟨ht, own_kept h.row fun q hq => ?_⟩
  obtain ⟨_, cs, e⟩ := own_blk h.row hq
  exact hF.blk e (by unfold isSW; decide)
theorem Tx.cells {w W : World} {sb : Nat} {S : Nat → ByteArray} {N k : Nat} {v : Value} (h : Tx w W sb S N k v) {j : Nat} (hj : j < N) : ∃ g cap, v = .slice (some ⟨g, 0, none⟩) N cap ∧ N ≤ cap ∧ cap ≤ 9223372036854775807 ∧ W.cell? ⟨g, j * 2, none⟩ = some (.int .i64 (j : Int)) ∧ W.cell? ⟨g, j * 2 + 1, none⟩ = some (.int .i64 1) := by
  rcases h.row.2 with ⟨e, e0⟩ | ⟨g, cap, cur, e, g1, g2, g3, g4, g5, g6⟩
  · omega
  · have at' : ∀ q, q < N * 2 → cur[q]? = (hcs N)[q]? := fun q hq => by
      have q4 := congrArg (fun l => l[q]?) g6
      rw [List.getElem?_take_of_lt hq, Array.getElem?_toList] at q4
      exact q4
    obtain ⟨a0, a1⟩ := hcs_at N j hj
    refine ⟨g, cap, e, g3, by simpa [maxLen] using g4, ?_, ?_⟩
    · simp [World.cell?, g2, at' (j * 2) (by omega), a0]
    · simp [World.cell?, g2, at' (j * 2 + 1) (by omega), a1]
theorem Tw.grown {w W W' : World} {sb n : Nat} {last : Int} {xs : List (Option ByteArray × Int)} {row : Option Nat} (h : Tw w W sb n last xs) (hg : W.grownBy W' row) (hr : ∀ k, row = some k → w.heap.size ≤ k ∧ ∃ cs, W.heap[k]? = some (.cells cs 38)) : Tw w W' sb n last xs := by
  obtain ⟨cnt, h1⟩ := h.sl
  refine ⟨⟨cnt, h1.kept fun k cs t e ht => (hg.block k (Array.getElem?_eq_some_iff.1 e).1 fun e2 => ?_).trans e⟩, ⟨hg.os.trans h.bel.os, hg.tape.trans h.bel.tape, hg.output.trans h.bel.output, Nat.le_trans h.bel.size hg.size, fun x hx => (hg.block x (by have := h.bel.size; omega) fun e => ?_).trans (h.bel.block x hx)⟩⟩
  · obtain ⟨_, cs', e3⟩ := hr k e2.symm
    rw [e] at e3
    cases e3
    rcases ht with ht | ht | ht | ht | ht | ht <;> exact absurd ht (by decide)
  · have := (hr x e.symm).1
    omega
theorem Tx.len {w W : World} {sb : Nat} {S : Nat → ByteArray} {N k : Nat} {v : Value} (h : Tx w W sb S N k v) (hk : k ≤ N) : Calls Tryd.prog 28 #[.pointer (some ⟨sb, 0, none⟩)] W fun e w' => e = .returned (.int .i64 (k : Int)) ∧ W = w' := by
  obtain ⟨cnt, h1⟩ := h.tw.sl
  refine (lenW_any h1).mono ?_
  rintro e w' ⟨rfl, h2⟩
  obtain ⟨r, g, N', f, b, L, cap, G, ys, h3⟩ := h1
  have h4 := h3.cn
  rw [tx_count S N k hk] at h4
  exact ⟨by rw [h4], h2.symm⟩
set_option maxHeartbeats 8000000 in
theorem texts_any (w : World) (a : Option Addr) (L0 cap0 : Nat) (S : Nat → ByteArray) (hs : TSl w a L0 cap0 S) (hT : Tab w) :
    Calls Tryd.prog 5 #[.slice a L0 cap0] w fun e w' => e = .returned (.bool true) ∧ Below w.heap.size w w' := by
  have HS : Hid (TSl w a L0 cap0 S) := hs
  have hle := hs.le
  have hlim := hs.lim
  have HT : Hid (Tab w) := hT
  have NW : Hid _ := newW_yes 300 1 w (by omega) (by omega) (by omega) (by omega)
  clear hs hT
  go_enter Tryd.func5, Tryd.ntmps5
  go_wp2_with fail
  refine Calls.mono NW.out ?_
  rintro e w1 ⟨sb, rfl, q1, q2⟩
  have H1 : Hid (Tw w w1 sb 300 1 (tx S 0 0)) := ⟨⟨_, q1⟩, q2⟩
  have TD : Hid (Calls Tryd.prog 6 #[] w1 fun e w' => e = .returned (.bool true) ∧ Hid (Tw w w' sb 300 1 (tx S 0 0))) := (told_any w1 (HT.out.go q2)).mono fun e w' ⟨h1, h2⟩ => ⟨h1, H1.out.mono h2⟩
  clear q1 q2 NW
  go_wp2_with fail
  refine Calls.mono TD.out ?_
  rintro e w2 ⟨rfl, H2⟩
  clear TD H1
  go_upto_region 6 with fail
  obtain ⟨v0, ev0⟩ : ∃ v0, v0 = Value.slice none 0 0 := ⟨_, rfl⟩
  rw [← ev0]
  have H3 : Hid (Tx w w2 sb S 0 0 v0 ∧ ∃ va vc, v0 = .slice va 0 vc) := ⟨⟨H2.out, by rw [ev0]; exact World.ownsRow_nil _ _ _ _⟩, _, _, ev0⟩
  clear ev0 H2
  go_loopw [5, 6] (fun p q wr => ∃ (i : Nat) (va : Option Addr) (vc : Nat), i ≤ L0 ∧ i ≤ 300 ∧ q = .int .i64 (i : Int) ∧ p = .slice va i vc ∧ Hid (Tx w wr sb S i i (.slice va i vc))) (fun _ q _ => L0 - (intOf q).toNat)
  case atStart =>
    obtain ⟨h1, va, vc, e⟩ := H3.out
    subst e
    exact ⟨0, va, vc, by omega, by omega, rfl, rfl, h1⟩
  case round =>
    clear H3
    obtain ⟨i, va, vc, hi1, hi2, rfl, rfl, hI⟩ := hrel
    by_cases hin : i < L0 ∧ i < 300
    · obtain ⟨hin, hi300⟩ := hin
      have d1 : decide ((i : Int) < (L0 : Int)) = true := decide_eq_true (by omega)
      have d2 : decide ((i : Int) < 300) = true := decide_eq_true (by omega)
      obtain ⟨b, o, ea, hc⟩ := HS.out.at hI.out.tw.bel (by omega)
      have c0 := hc i hin
      subst ea
      have PU : Hid (Calls Tryd.prog 25 #[.pointer (some ⟨sb, 0, none⟩), .string (S i)] wr fun e w' => e = .returned (.tuple #[.agg #[.int .i64 (i : Int), .int .i64 1], .int .i64 0]) ∧ Hid (Tw w w' sb 300 1 (tx S (i + 1) (i + 1)) ∧ Ft isSW w.heap.size wr w')) := by
        refine (hI.out.tw.put HT.out (S i) i (tx_least S i hi300)).mono ?_
        rintro e w' ⟨rfl, h2, h3⟩
        rw [tx_put] at h2
        have e0 : ((tx S i i).getD i (none, 0)).2 + 1 = 1 := by simp [tx]
        rw [e0]
        exact ⟨rfl, h2, h3⟩
      clear hc
      go_wp2_with fail
      refine Calls.mono PU.out ?_
      rintro e w4 ⟨rfl, q1⟩
      obtain ⟨W5, hW5⟩ : ∃ W5, W5 = (w4.alloc (.cells #[.int .i64 (i : Int), .int .i64 1] 38)).alloc (.cells #[.int .i64 (i : Int), .int .i64 1] 38) := ⟨_, rfl⟩
      have B5 : Below w4.heap.size w4 W5 := by rw [hW5]; exact ((Below.refl _ _).alloc (Nat.le_refl _) _).alloc (by simp) _
      obtain ⟨hb, ehb⟩ : ∃ hb, hb = w4.heap.size + 1 := ⟨_, rfl⟩
      have hHb : Hb W5 hb (i : Int) 1 := by
        rw [hW5, ehb]
        have := Hb.alloc (w4.alloc (.cells #[.int .i64 (i : Int), .int .i64 1] 38)) (i : Int) 1
        simpa using this
      have H5 : Hid (Tw w W5 sb 300 1 (tx S (i + 1) (i + 1)) ∧ W5.ownsRow w.heap.size 38 2 (.slice va i vc) i (hcs i) ∧ Hb W5 hb (i : Int) 1 ∧ w.heap.size ≤ W5.heap.size) := by
        refine ⟨q1.out.1.mono B5, own_kept hI.out.row fun q hq => ?_, hHb, Nat.le_trans q1.out.1.bel.size B5.size⟩
        obtain ⟨_, cs, e⟩ := own_blk hI.out.row hq
        have e1 := hq
        have e2 := q1.out.2.blk e (by unfold isSW; decide)
        exact (B5.block _ (by have := e2.trans e; exact (Array.getElem?_eq_some_iff.1 this).1)).trans e2
      have HW5 : Hid ((w4.alloc (.cells #[.int .i64 (i : Int), .int .i64 1] 38)).alloc (.cells #[.int .i64 (i : Int), .int .i64 1] 38) = W5 ∧ w4.heap.size + 1 = hb) := ⟨hW5.symm, ehb.symm⟩
      clear hI q1 hHb B5 hW5 ehb PU
      go_upto_region 7 with (rw [HW5.out.1]; refine (id ?_ : wpList Tryd.prog _ _ (⟨some 54, _, _, _, _, _⟩ :: _) _ _); refine wp_appH rfl _ _ rfl w.heap.size _ _ _ rfl H5.out.2.1 hb (i : Int) 1 (by rw [← HW5.out.2]; simp [Act.eval]) H5.out.2.2.1 (by omega) H5.out.2.2.2 ?_; intro v6 w6 h6)
      obtain ⟨va6, vc6, ev6⟩ : ∃ va6 vc6, v6 = .slice va6 (i + 1) vc6 := by
        rcases h6.out.1.2 with ⟨e, e0⟩ | ⟨g', cap', cur, e, _⟩
        · omega
        · exact ⟨_, _, e⟩
      subst ev6
      have H6 : Hid (Tx w w6 sb S (i + 1) (i + 1) (.slice va6 (i + 1) vc6)) := by
        refine ⟨H5.out.1.grown h6.out.2.1 fun k hk => own_blk H5.out.2.1 hk, ?_⟩
        rw [hcs_succ]
        exact h6.out.1
      clear h6 H5
      go_wp2_with fail
      go_roundw
      case rel => exact ⟨i + 1, va6, vc6, by omega, by omega, by go_num, rfl, H6⟩
      case measure => simp [intOf]; omega
    · by_cases hin2 : i < L0
      · have d1 : decide ((i : Int) < (L0 : Int)) = true := decide_eq_true (by omega)
        have d2 : decide ((i : Int) < 300) = false := decide_eq_false (by omega)
        have p2 : ¬ i < 300 := by omega
        clear hin
        go_wp2_with fail
        obtain ⟨N, hN1, hN2⟩ : ∃ N, N = i ∧ N ≤ 300 := ⟨i, rfl, hi2⟩
        have HNL : Hid (N ≤ L0) := by show N ≤ L0; omega
        have HI : Hid (Tx w wr sb S N N (.slice va N vc)) := by rw [hN1]; exact hI
        rw [← hN1]
        clear hI hN1 hi1 hi2 hin2
        go_loopw [9] (fun q wr => ∃ (j : Nat), j ≤ N ∧ q = .int .i64 ((j : Int) - 1) ∧ Hid (Tx w wr sb S N j (.slice va N vc))) (fun q _ => (intOf q + 1).toNat)
        case atStart => exact ⟨N, Nat.le_refl _, rfl, HI⟩
        case round =>
          clear HI
          obtain ⟨j, hj, rfl, hJ⟩ := hrel
          by_cases hj0 : 0 < j
          · obtain ⟨k, ek⟩ : ∃ k, j = k + 1 := ⟨j - 1, by omega⟩
            subst ek
            have ekk : (((k + 1 : Nat) : Int) - 1) = (k : Int) := by omega
            rw [ekk]
            clear ekk
            obtain ⟨g, cap, ev, hc1, hc2, c0, c1⟩ := hJ.out.cells (j := k) (by omega)
            injection ev with ev1 _ ev2
            subst ev1
            subst ev2
            obtain ⟨b, o, ea, hc⟩ := HS.out.at hJ.out.tw.bel (by have := HNL.out; omega)
            subst ea
            have P1 : Hid (Calls Tryd.prog 26 #[.pointer (some ⟨sb, 0, none⟩), .agg #[.int .i64 (k : Int), .int .i64 1]] wr fun e w' => e = .returned (.tuple #[.string (S k), .int .i64 0]) ∧ Hid (Tx w w' sb S N (k + 1) (.slice (some ⟨g, 0, none⟩) N vc))) := by
              have h1 := hJ.out.tw.get (k : Int) 1
              rw [tx_fnd S N k (by omega)] at h1
              exact h1.mono fun e w' ⟨h1, h2, h3⟩ => ⟨h1, hJ.out.step h2 h3⟩
            have P2 : Hid (∀ w5, Tx w w5 sb S N (k + 1) (.slice (some ⟨g, 0, none⟩) N vc) → Calls Tryd.prog 27 #[.pointer (some ⟨sb, 0, none⟩), .agg #[.int .i64 (k : Int), .int .i64 1]] w5 fun e w' => e = .returned (.tuple #[.string (S k), .int .i64 0]) ∧ Hid (Tx w w' sb S N k (.slice (some ⟨g, 0, none⟩) N vc))) := fun w5 h5 => by
              refine (h5.tw.drop (k : Int) 1 (S k) (tx_fnd S N k (by omega))).mono ?_
              rintro e w' ⟨rfl, h2, h3⟩
              rw [Int.toNat_natCast, tx_drop S N k (by omega)] at h2
              exact ⟨rfl, h5.step h2 h3⟩
            have P3 : Hid (∀ w5, Tx w w5 sb S N k (.slice (some ⟨g, 0, none⟩) N vc) → Calls Tryd.prog 26 #[.pointer (some ⟨sb, 0, none⟩), .agg #[.int .i64 (k : Int), .int .i64 1]] w5 fun e w' => e = .returned (.tuple #[.string ⟨#[]⟩, .int .i64 60]) ∧ Hid (Tx w w' sb S N k (.slice (some ⟨g, 0, none⟩) N vc))) := fun w5 h5 => by
              have h1 := h5.tw.get (k : Int) 1
              rw [tx_gone S N k (by omega)] at h1
              exact h1.mono fun e w' ⟨h1, h2, h3⟩ => ⟨h1, h5.step h2 h3⟩
            have hkN : k < N := by omega
            have hkL : k < L0 := by have := HNL.out; omega
            clear hJ hc
            go_wp2_with fail
            refine Calls.mono P1.out ?_
            rintro e w5 ⟨rfl, H5⟩
            obtain ⟨g', cap', ev, _, _, c0, c1⟩ := H5.out.cells (j := k) hkN
            injection ev with ev1 _ ev2
            injection ev1 with ev1
            injection ev1 with ev1
            subst ev1
            clear ev2 P1
            go_wp2_with fail
            refine Calls.mono (P2.out _ H5.out) ?_
            rintro e w6 ⟨rfl, H6⟩
            obtain ⟨g', cap', ev, _, _, c0, c1⟩ := H6.out.cells (j := k) hkN
            injection ev with ev1 _ ev2
            injection ev1 with ev1
            injection ev1 with ev1
            subst ev1
            clear ev2 P2 H5
            go_wp2_with fail
            refine Calls.mono (P3.out _ H6.out) ?_
            rintro e w7 ⟨rfl, H7⟩
            obtain ⟨b', o', ea, hc⟩ := HS.out.at H7.out.tw.bel (by have := HNL.out; omega)
            have c9 := hc k hkL
            injection ea with ea
            injection ea with ea1 ea2
            subst ea1
            subst ea2
            have P4 : Hid _ := H7.out.len (by omega)
            clear P3 H6 hc
            go_wp2_with (first | (go_at_call 28; refine Calls.mono P4.out ?_; rintro e w8 ⟨rfl, rfl⟩))
            go_roundw
            case rel => exact ⟨k, by omega, by go_num, H7⟩
            case measure => simp [intOf]
          · obtain rfl : j = 0 := by omega
            go_wp2_with fail
            go_ret
            exact ⟨rfl, hJ.out.tw.bel⟩
      · have d1 : decide ((i : Int) < (L0 : Int)) = false := decide_eq_false (by omega)
        clear hin
        go_wp2_with fail
        obtain ⟨N, hN1, hN2⟩ : ∃ N, N = i ∧ N ≤ 300 := ⟨i, rfl, hi2⟩
        have HNL : Hid (N ≤ L0) := by show N ≤ L0; omega
        have HI : Hid (Tx w wr sb S N N (.slice va N vc)) := by rw [hN1]; exact hI
        rw [← hN1]
        clear hI hN1 hi1 hi2 hin2
        go_loopw [9] (fun q wr => ∃ (j : Nat), j ≤ N ∧ q = .int .i64 ((j : Int) - 1) ∧ Hid (Tx w wr sb S N j (.slice va N vc))) (fun q _ => (intOf q + 1).toNat)
        case atStart => exact ⟨N, Nat.le_refl _, rfl, HI⟩
        case round =>
          clear HI
          obtain ⟨j, hj, rfl, hJ⟩ := hrel
          by_cases hj0 : 0 < j
          · obtain ⟨k, ek⟩ : ∃ k, j = k + 1 := ⟨j - 1, by omega⟩
            subst ek
            have ekk : (((k + 1 : Nat) : Int) - 1) = (k : Int) := by omega
            rw [ekk]
            clear ekk
            obtain ⟨g, cap, ev, hc1, hc2, c0, c1⟩ := hJ.out.cells (j := k) (by omega)
            injection ev with ev1 _ ev2
            subst ev1
            subst ev2
            obtain ⟨b, o, ea, hc⟩ := HS.out.at hJ.out.tw.bel (by have := HNL.out; omega)
            subst ea
            have P1 : Hid (Calls Tryd.prog 26 #[.pointer (some ⟨sb, 0, none⟩), .agg #[.int .i64 (k : Int), .int .i64 1]] wr fun e w' => e = .returned (.tuple #[.string (S k), .int .i64 0]) ∧ Hid (Tx w w' sb S N (k + 1) (.slice (some ⟨g, 0, none⟩) N vc))) := by
              have h1 := hJ.out.tw.get (k : Int) 1
              rw [tx_fnd S N k (by omega)] at h1
              exact h1.mono fun e w' ⟨h1, h2, h3⟩ => ⟨h1, hJ.out.step h2 h3⟩
            have P2 : Hid (∀ w5, Tx w w5 sb S N (k + 1) (.slice (some ⟨g, 0, none⟩) N vc) → Calls Tryd.prog 27 #[.pointer (some ⟨sb, 0, none⟩), .agg #[.int .i64 (k : Int), .int .i64 1]] w5 fun e w' => e = .returned (.tuple #[.string (S k), .int .i64 0]) ∧ Hid (Tx w w' sb S N k (.slice (some ⟨g, 0, none⟩) N vc))) := fun w5 h5 => by
              refine (h5.tw.drop (k : Int) 1 (S k) (tx_fnd S N k (by omega))).mono ?_
              rintro e w' ⟨rfl, h2, h3⟩
              rw [Int.toNat_natCast, tx_drop S N k (by omega)] at h2
              exact ⟨rfl, h5.step h2 h3⟩
            have P3 : Hid (∀ w5, Tx w w5 sb S N k (.slice (some ⟨g, 0, none⟩) N vc) → Calls Tryd.prog 26 #[.pointer (some ⟨sb, 0, none⟩), .agg #[.int .i64 (k : Int), .int .i64 1]] w5 fun e w' => e = .returned (.tuple #[.string ⟨#[]⟩, .int .i64 60]) ∧ Hid (Tx w w' sb S N k (.slice (some ⟨g, 0, none⟩) N vc))) := fun w5 h5 => by
              have h1 := h5.tw.get (k : Int) 1
              rw [tx_gone S N k (by omega)] at h1
              exact h1.mono fun e w' ⟨h1, h2, h3⟩ => ⟨h1, h5.step h2 h3⟩
            have hkN : k < N := by omega
            have hkL : k < L0 := by have := HNL.out; omega
            clear hJ hc
            go_wp2_with fail
            refine Calls.mono P1.out ?_
            rintro e w5 ⟨rfl, H5⟩
            obtain ⟨g', cap', ev, _, _, c0, c1⟩ := H5.out.cells (j := k) hkN
            injection ev with ev1 _ ev2
            injection ev1 with ev1
            injection ev1 with ev1
            subst ev1
            clear ev2 P1
            go_wp2_with fail
            refine Calls.mono (P2.out _ H5.out) ?_
            rintro e w6 ⟨rfl, H6⟩
            obtain ⟨g', cap', ev, _, _, c0, c1⟩ := H6.out.cells (j := k) hkN
            injection ev with ev1 _ ev2
            injection ev1 with ev1
            injection ev1 with ev1
            subst ev1
            clear ev2 P2 H5
            go_wp2_with fail
            refine Calls.mono (P3.out _ H6.out) ?_
            rintro e w7 ⟨rfl, H7⟩
            obtain ⟨b', o', ea, hc⟩ := HS.out.at H7.out.tw.bel (by have := HNL.out; omega)
            have c9 := hc k hkL
            injection ea with ea
            injection ea with ea1 ea2
            subst ea1
            subst ea2
            have P4 : Hid _ := H7.out.len (by omega)
            clear P3 H6 hc
            go_wp2_with (first | (go_at_call 28; refine Calls.mono P4.out ?_; rintro e w8 ⟨rfl, rfl⟩))
            go_roundw
            case rel => exact ⟨k, by omega, by go_num, H7⟩
            case measure => simp [intOf]
          · obtain rfl : j = 0 := by omega
            go_wp2_with fail
            go_ret
            exact ⟨rfl, hJ.out.tw.bel⟩
end Go.Proofs.YtbnbgikhdfbpcaaDoor
namespace Go.Proofs.YtbnbgikhdfbpcaaDoor
open Go.RowKit Go.ChangeShapes Go.WideShapes Go.ChangeAt
set_option linter.unusedVariables false
theorem wf_i64 {n : Int} (h : (Lit.int .i64 n).wf = true) : -9223372036854775808 ≤ n ∧ n ≤ 9223372036854775807 := by
  have hmin : IntKind.i64.min = -9223372036854775808 := rfl
  have hmax : IntKind.i64.max = 9223372036854775807 := rfl
  have h2 : IntKind.i64.min ≤ n ∧ n ≤ IntKind.i64.max := by simpa [Lit.wf] using h
  rw [hmin, hmax] at h2
  exact h2
theorem tsl_none (w : World) : TSl w none 0 0 (fun _ => ByteArray.empty) := ⟨Nat.le_refl _, by omega, .inl rfl⟩
theorem tsl_of {w : World} {a : Addr} {len cap : Nat} {ss : List ByteArray} (hl : len ≤ cap) (hm : cap ≤ maxLen) (hs : len ≤ ss.length) (h : ∀ i, i < ss.length → w.cell? (a.add i) = some (.string (ss.getD i ByteArray.empty))) : TSl w (some a) len cap (fun i => ss.getD i ByteArray.empty) := by
  refine ⟨hl, by simp only [maxLen] at hm; omega, ?_⟩
  rcases Nat.eq_zero_or_pos len with e | e
  · exact .inl e
  · obtain ⟨b, off, spot⟩ := a
    have hc := h 0 (by omega)
    have hspot : spot = none := by simpa [Addr.add] using World.cell?_spot hc
    subst hspot
    refine .inr ⟨b, off, rfl, fun i hi => ?_⟩
    have h1 := h i (by omega)
    rw [addr_add] at h1
    exact h1
theorem texts_of {H : Type} {enc : TypeId × Value → H} {w : World} {base : Nat} {held : Bool} {fuel : Nat} {a : Option Addr} {len cap : Nat} {x : DataW H × List MemPlace} (h : DataW.trod enc Tryd.prog w base (fun _ => true) held fuel 67 (Value.slice a len cap).cells.toList = some x) : ∃ F, TSl w a len cap F := by
  rcases open_strings Tryd.underlying67 Tryd.underlying9 (by kernel_rfl) h with ⟨hcs, _⟩ | ⟨x, l, c, ss, hcs, _, hl, hm, hz, _, hcell, _⟩
  · simp [Value.cells] at hcs
    obtain ⟨rfl, rfl, rfl⟩ := hcs
    exact ⟨_, tsl_none w⟩
  · simp [Value.cells] at hcs
    obtain ⟨rfl, rfl, rfl⟩ := hcs
    exact ⟨_, tsl_of hl hm (by simp at hz; omega) hcell⟩
theorem ownD : ownKnob Tryd.prog.godebug = none := by kernel_rfl
theorem laidOutD : laidOutB Tryd.prog = true := by kernel_rfl
end Go.Proofs.YtbnbgikhdfbpcaaDoor
