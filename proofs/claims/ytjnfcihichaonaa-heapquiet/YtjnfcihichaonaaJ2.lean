/- Contracts of the program's functions, part 2: own work, joined in build order. -/
import Derived.Test.YtjnfcihichaonaaJ1
import Derived.Test.YtjnfcihichaonaaRows
import Derived.WalkKit
import Derived.WalkSpells
import Derived.WalkLawsBesides
import Derived.Deep.OwnRows
import Derived.Deep.QuietTactic
import Derived.BigQuiet
import Derived.Deep.RegionHeld3
namespace Go.Proofs.Ytjnfcihichaonaa
open Go.RowKit
set_option maxRecDepth 100000
set_option linter.unusedVariables false
/-- All but the blocks of S is as it was. -/
structure Tn (S : Nat → Prop) (w w' : World) : Prop where
  os : w'.os = w.os
  tape : w'.tape = w.tape
  output : w'.output = w.output
  size : w.heap.size ≤ w'.heap.size
  block : ∀ k, k < w.heap.size → ¬ S k → w'.heap[k]? = w.heap[k]?
/-- .. and what is new of it. -/
structure TnN (S : Nat → Prop) (w w' : World) (P : Prop) : Prop extends Tn S w w' where
  new : P
/-- Of a heap's blocks none is new but those that were not there. -/
def NewB (w : World) (hb : Nat) (v' : Value) (mb' : Nat) : Prop := (∀ k, v'.ownBlock = some k → w.heap.size ≤ k ∨ ∃ v0, w.cell? ⟨hb, 1, none⟩ = some v0 ∧ v0.ownBlock = some k) ∧ (w.heap.size ≤ mb' ∨ w.cell? ⟨hb, 2, none⟩ = some (.map (some mb')))
theorem Tn.refl (S : Nat → Prop) (w : World) : Tn S w w := ⟨rfl, rfl, rfl, Nat.le_refl _, fun _ _ _ => rfl⟩
theorem Tn.trans {S S' : Nat → Prop} {a b c : World} (h : Tn S a b) (k : Tn S' b c) (hs : ∀ x, x < a.heap.size → S' x → S x) : Tn S a c :=
  ⟨k.os.trans h.os, k.tape.trans h.tape, k.output.trans h.output, Nat.le_trans h.size k.size, fun x hx hn => (k.block x (Nat.lt_of_lt_of_le hx h.size) (fun e => hn (hs x hx e))).trans (h.block x hx hn)⟩
theorem Tn.mono {S S' : Nat → Prop} {a b : World} (h : Tn S a b) (hs : ∀ x, x < a.heap.size → S x → S' x) : Tn S' a b := ⟨h.os, h.tape, h.output, h.size, fun x hx hn => h.block x hx (fun e => hn (hs x hx e))⟩
theorem Tn.of_below {S : Nat → Prop} {a b : World} (h : Below a.heap.size a b) : Tn S a b := ⟨h.os, h.tape, h.output, h.size, fun x hx _ => h.block x hx⟩
theorem Tn.drew {S : Nat → Prop} {a b : World} (h : Tn S a b) : Tn S a b.drew := ⟨h.os, h.tape, h.output, h.size, h.block⟩
theorem Tn.drewN {S : Nat → Prop} {a b : World} (h : Tn S a b) (n : Nat) : Tn S a (b.drewN n) := ⟨h.os, h.tape, h.output, h.size, h.block⟩
theorem Tn.set {S : Nat → Prop} {a b : World} (h : Tn S a b) {x : Nat} (hx : x < a.heap.size → S x) (i : Nat) (v : Value) : Tn S a (b.setCell ⟨x, i, none⟩ v) :=
  ⟨h.os, h.tape, h.output, by simpa using h.size, fun k hk hn => (Below.heap_setCell _ _ _ k (by rintro rfl; exact hn (hx hk))).trans (h.block k hk hn)⟩
theorem Tn.alloc {S : Nat → Prop} {a b : World} (h : Tn S a b) (o : Obj) : Tn S a (b.alloc o) :=
  ⟨h.os, h.tape, h.output, by simpa using Nat.le_trans h.size (Nat.le_succ _), fun k hk hn => (Below.heap_alloc _ _ k (Nat.lt_of_lt_of_le hk h.size)).trans (h.block k hk hn)⟩
theorem bel_drewN {B : Nat} {a w : World} (h : Below B a w) (n : Nat) : Below B a (w.drewN n) := ⟨h.os, h.tape, h.output, h.size, h.block⟩
theorem bel_drew {B : Nat} {a w : World} (h : Below B a w) : Below B a w.drew := ⟨h.os, h.tape, h.output, h.size, h.block⟩
theorem addr_add (b o j : Nat) : (⟨b, o, none⟩ : Addr).add j = ⟨b, o + j, none⟩ := by unfold Addr.add; split <;> simp_all
theorem hold {p : Prop} (h : True → p) : p := h trivial
/-- A key's place in the order. -/
def rank (mod k : Int) : Int := if 0 < mod then k % mod else k
/-- .. the other way round, where it is turned. -/
def rk (mod : Int) (tur : Bool) (k : Int) : Int := if tur then - rank mod k else rank mod k
theorem rank_any (lv : Value) (hl : ∃ a n c, lv = .slice a n c) (nx mod : Int) (tur : Bool) (k : Int) (w : World) (h0 : 0 ≤ mod) (h1 : mod ≤ 12) (hk : -9223372036854775808 ≤ k) (hk2 : k ≤ 9223372036854775807) :
    Calls Try.prog 44 #[.agg #[lv, .int .i64 nx, .int .i64 mod, .bool tur], .int .i64 k] w fun e w' => e = .returned (.int .i64 (rank mod k)) ∧ Below w.heap.size w w' := by
  obtain ⟨la, ln, lc, rfl⟩ := hl
  go_enter Try.func44, Try.ntmps44
  by_cases c : 0 < mod
  · have e1 : IntKind.i64.wrap (k.tmod mod) = k.tmod mod := by
      have h2 := Int.tmod_lt_of_pos k c
      have h3 := Int.lt_tmod_of_pos k c
      rw [IntKind.wrap_i64]
      omega
    have e2 : IntKind.i64.wrap (k.tmod mod + mod) = k.tmod mod + mod := by
      have h2 := Int.tmod_lt_of_pos k c
      have h3 := Int.lt_tmod_of_pos k c
      rw [IntKind.wrap_i64]
      omega
    have hne : mod ≠ 0 := by omega
    have hkm : k % mod = if k.tmod mod < 0 then k.tmod mod + mod else k.tmod mod := by
      have h4 := Int.emod_nonneg k hne
      have h5 := Int.emod_lt_of_pos k c
      have h6 := Int.tmod_lt_of_pos k c
      have h7 := Int.lt_tmod_of_pos k c
      have h8 := Int.mul_tdiv_add_tmod k mod
      have h9 := Int.mul_ediv_add_emod k mod
      have h10 : mod * (k.tdiv mod - k / mod) = k % mod - k.tmod mod := by rw [Int.mul_sub]; omega
      generalize k.tdiv mod - k / mod = d at h10
      split
      · have : d = 1 := by
          rcases Int.lt_trichotomy d 1 with h | h | h
          · have : mod * d ≤ mod * 0 := Int.mul_le_mul_of_nonneg_left (by omega) h0
            omega
          · exact h
          · have : mod * 2 ≤ mod * d := Int.mul_le_mul_of_nonneg_left (by omega) h0
            omega
        subst this
        omega
      · have : d = 0 := by
          rcases Int.lt_trichotomy d 0 with h | h | h
          · have : mod * d ≤ mod * (-1) := Int.mul_le_mul_of_nonneg_left (by omega) h0
            omega
          · exact h
          · have : mod * 1 ≤ mod * d := Int.mul_le_mul_of_nonneg_left (by omega) h0
            omega
        subst this
        omega
    by_cases c2 : k.tmod mod < 0
    · go_wp2_with fail
      go_ret
      refine ⟨?_, (Below.refl _ _).alloc (Nat.le_refl _) _⟩
      simp [rank, c, hkm, c2]
    · go_wp2_with fail
      go_ret
      refine ⟨?_, (Below.refl _ _).alloc (Nat.le_refl _) _⟩
      rw [rank, if_pos c, hkm, if_neg (by omega)]
      rfl
  · go_wp2_with fail
    go_ret
    refine ⟨?_, (Below.refl _ _).alloc (Nat.le_refl _) _⟩
    rw [rank, if_neg (by omega)]
    rfl
theorem ahead_ref (lv : Value) (hl : ∃ a n c, lv = .slice a n c) (nx mod : Int) (tur : Bool) (a b : Int) (w : World) (h0 : 0 ≤ mod) (h1 : mod ≤ 12) (ha : -9223372036854775808 ≤ a) (ha2 : a ≤ 9223372036854775807) (hb : -9223372036854775808 ≤ b) (hb2 : b ≤ 9223372036854775807) :
    Calls Try.prog 20 #[.agg #[lv, .int .i64 nx, .int .i64 mod, .bool tur], .int .i64 a, .int .i64 b] w fun e w' => e = .returned (.bool (decide (rk mod tur a < rk mod tur b))) ∧ Below w.heap.size w w' := by
  have R : Hid (∀ k w, -9223372036854775808 ≤ k → k ≤ 9223372036854775807 → Calls Try.prog 44 #[.agg #[lv, .int .i64 nx, .int .i64 mod, .bool tur], .int .i64 k] w fun e w' => e = .returned (.int .i64 (rank mod k)) ∧ Below w.heap.size w w') := fun k w g1 g2 => rank_any lv hl nx mod tur k w h0 h1 g1 g2
  have HB : Hid (Below w.heap.size w (w.alloc (.cells #[lv, .int .i64 nx, .int .i64 mod, .bool tur] 55))) := (Below.refl _ _).alloc (Nat.le_refl _) _
  obtain ⟨la, ln, lc, rfl⟩ := hl
  have hc0 : (w.alloc (.cells #[.slice la ln lc, .int .i64 nx, .int .i64 mod, .bool tur] 55)).cell? ⟨w.heap.size, 0, none⟩ = some (.slice la ln lc) := by simp [go_sem]
  have hc1 : (w.alloc (.cells #[.slice la ln lc, .int .i64 nx, .int .i64 mod, .bool tur] 55)).cell? ⟨w.heap.size, 1, none⟩ = some (.int .i64 nx) := by simp [go_sem]
  have hc2 : (w.alloc (.cells #[.slice la ln lc, .int .i64 nx, .int .i64 mod, .bool tur] 55)).cell? ⟨w.heap.size, 2, none⟩ = some (.int .i64 mod) := by simp [go_sem]
  have hc3 : (w.alloc (.cells #[.slice la ln lc, .int .i64 nx, .int .i64 mod, .bool tur] 55)).cell? ⟨w.heap.size, 3, none⟩ = some (.bool tur) := by simp [go_sem]
  clear HB
  obtain ⟨s, hs⟩ : ∃ s, s = w.heap.size := ⟨_, rfl⟩
  obtain ⟨W, hW⟩ : ∃ W, W = w.alloc (.cells #[.slice la ln lc, .int .i64 nx, .int .i64 mod, .bool tur] 55) := ⟨_, rfl⟩
  have HB : Hid (Below w.heap.size w W) := by rw [hW]; exact (Below.refl _ _).alloc (Nat.le_refl _) _
  have HW : Hid (w.alloc (.cells #[.slice la ln lc, .int .i64 nx, .int .i64 mod, .bool tur] 55) = W ∧ w.heap.size = s) := ⟨hW.symm, hs.symm⟩
  rw [← hW, ← hs] at hc0 hc1 hc2 hc3
  clear hW hs
  go_enter Try.func20, Try.ntmps20
  cases tur
  · go_wp2_with fail
    rename_i hz
    rw [HW.out.1, HW.out.2]
    go_region_held3 (fun w9 => w9.cell? ⟨s, 0, none⟩ = some (.slice la ln lc) ∧ w9.cell? ⟨s, 1, none⟩ = some (.int .i64 nx) ∧ w9.cell? ⟨s, 2, none⟩ = some (.int .i64 mod) ∧ w9.cell? ⟨s, 3, none⟩ = some (.bool false)) (first | (simp [go_sem, *]; done) | (trace_state; fail))
      (first
        | (go_at_call_of 44 (a); refine Calls.mono (R.out a W.drew ha ha2) ?_; rintro e w5 ⟨rfl, hB⟩; have H5 : Hid (Below W.heap.size W w5) := (bel_drew (Below.refl _ _)).trans hB; have m0 := cell_later H5.out hc0; have m1 := cell_later H5.out hc1; have m2 := cell_later H5.out hc2; have m3 := cell_later H5.out hc3; clear hB)
        | (go_at_call_of 44 (b); refine Calls.mono (R.out b w5 hb hb2) ?_; rintro e w6 ⟨rfl, hB⟩; have H6 : Hid (Below w5.heap.size w5 w6) := hB; have p0 := cell_later hB m0; have p1 := cell_later hB m1; have p2 := cell_later hB m2; have p3 := cell_later hB m3; clear hB))
    refine hz _ _ ?_
    go_wp2_with fail
    go_ret
    refine ⟨?_, ?_⟩
    · simp [rk]
    · exact HB.out.trans (((H5.out).trans (H6.out.mono H5.out.size)).mono HB.out.size)
  · go_wp2_with fail
    rename_i hz
    rw [HW.out.1, HW.out.2]
    go_region_held3 (fun w9 => w9.cell? ⟨s, 0, none⟩ = some (.slice la ln lc) ∧ w9.cell? ⟨s, 1, none⟩ = some (.int .i64 nx) ∧ w9.cell? ⟨s, 2, none⟩ = some (.int .i64 mod) ∧ w9.cell? ⟨s, 3, none⟩ = some (.bool true)) (first | (simp [go_sem, *]; done) | (trace_state; fail))
      (first
        | (go_at_call_of 44 (b); refine Calls.mono (R.out b W.drew hb hb2) ?_; rintro e w5 ⟨rfl, hB⟩; have H5 : Hid (Below W.heap.size W w5) := (bel_drew (Below.refl _ _)).trans hB; have m0 := cell_later H5.out hc0; have m1 := cell_later H5.out hc1; have m2 := cell_later H5.out hc2; have m3 := cell_later H5.out hc3; clear hB)
        | (go_at_call_of 44 (a); refine Calls.mono (R.out a w5 ha ha2) ?_; rintro e w6 ⟨rfl, hB⟩; have H6 : Hid (Below w5.heap.size w5 w6) := hB; have p0 := cell_later hB m0; have p1 := cell_later hB m1; have p2 := cell_later hB m2; have p3 := cell_later hB m3; clear hB))
    refine hz _ _ ?_
    go_wp2_with fail
    go_ret
    refine ⟨?_, ?_⟩
    · simp [rk]
    · exact HB.out.trans (((H5.out).trans (H6.out.mono H5.out.size)).mono HB.out.size)
/-- An order of the statements' own, at the block ob. -/
structure Ordr (W : World) (ob : Nat) (lv : Value) (nx mod : Int) (tur : Bool) (lies : Int) (N : Nat) : Prop where
  at' : W.heap[ob]? = some (.cells #[lv, .int .i64 nx, .int .i64 mod, .bool tur, .int .i64 lies, .int .i64 (N : Int)] 57)
  shape : ∃ a n c, lv = .slice a n c
  mod0 : 0 ≤ mod
  mod1 : mod ≤ 12
  lies0 : 0 ≤ lies
  lies1 : lies ≤ 100
theorem Ordr.lt {W : World} {ob : Nat} {lv : Value} {nx mod : Int} {tur : Bool} {lies : Int} {N : Nat} (h : Ordr W ob lv nx mod tur lies N) : ob < W.heap.size := (Array.getElem?_eq_some_iff.1 h.at').1
theorem Ordr.kept {W W' : World} {ob : Nat} {lv : Value} {nx mod : Int} {tur : Bool} {lies : Int} {N : Nat} (h : Ordr W ob lv nx mod tur lies N) (hk : W'.heap[ob]? = W.heap[ob]?) : Ordr W' ob lv nx mod tur lies N := { h with at' := hk.trans h.at' }
theorem Ordr.cells {W : World} {ob : Nat} {lv : Value} {nx mod : Int} {tur : Bool} {lies : Int} {N : Nat} (h : Ordr W ob lv nx mod tur lies N) : W.cell? ⟨ob, 0, none⟩ = some lv ∧ W.cell? ⟨ob, 1, none⟩ = some (.int .i64 nx) ∧ W.cell? ⟨ob, 2, none⟩ = some (.int .i64 mod) ∧ W.cell? ⟨ob, 3, none⟩ = some (.bool tur) ∧ W.cell? ⟨ob, 4, none⟩ = some (.int .i64 lies) ∧ W.cell? ⟨ob, 5, none⟩ = some (.int .i64 (N : Int)) := by
  simp [World.cell?, h.at']
theorem Ordr.ask {W : World} {ob : Nat} {lv : Value} {nx mod : Int} {tur : Bool} {lies : Int} {N : Nat} (h : Ordr W ob lv nx mod tur lies N) (M : Nat) : Ordr (W.setCell ⟨ob, 5, none⟩ (.int .i64 (M : Int))) ob lv nx mod tur lies M :=
  { h with at' := heap_setCell_same W ob 5 _ _ _ h.at' }
/-- Before: one question more. -/
def Asks (W : World) (ob : Nat) (lv : Value) (nx mod : Int) (tur : Bool) (lies : Int) (N : Nat) (P : Bool → Prop) (e : Ending) (W' : World) : Prop :=
  ∃ t, e = .returned (.bool t) ∧ (lies = 0 → P t) ∧ Ordr W' ob lv nx mod tur lies (N + 1) ∧ Tn (fun k => k = ob) W W'
set_option maxHeartbeats 1000000 in
theorem before_any (ob : Nat) (lv : Value) (nx mod : Int) (tur : Bool) (lies : Int) (N : Nat) (a b : Int) (w : World) (h : Ordr w ob lv nx mod tur lies N) (hN : N < 1000000000000) (ha : -9223372036854775808 ≤ a) (ha2 : a ≤ 9223372036854775807) (hb : -9223372036854775808 ≤ b) (hb2 : b ≤ 9223372036854775807) :
    Calls Try.prog 28 #[.pointer (some ⟨ob, 0, none⟩), .int .i64 a, .int .i64 b] w (Asks w ob lv nx mod tur lies N (fun t => t = decide (rk mod tur a < rk mod tur b))) := by
  obtain ⟨c0, c1, c2, c3, c4, c5⟩ := h.cells
  have hf : w.frozen? ⟨ob, 5, none⟩ = false := by simp [World.frozen?, h.at']
  have l0 := h.lies0
  have l1 := h.lies1
  have hw : IntKind.i64.wrap ((N : Int) + 1) = ((N + 1 : Nat) : Int) := by rw [IntKind.wrap_i64]; omega
  have HO := h.ask (N + 1)
  obtain ⟨d0, d1, d2, d3, d4, d5⟩ := HO.cells
  have HT : Hid (Ordr (w.setCell ⟨ob, 5, none⟩ (.int .i64 ((N + 1 : Nat) : Int))) ob lv nx mod tur lies (N + 1) ∧ Tn (fun k => k = ob) w (w.setCell ⟨ob, 5, none⟩ (.int .i64 ((N + 1 : Nat) : Int)))) := ⟨HO, (Tn.refl (fun k => k = ob) w).set (fun _ => rfl) _ _⟩
  have HA : Hid (∀ w, Calls Try.prog 20 #[.agg #[lv, .int .i64 nx, .int .i64 mod, .bool tur], .int .i64 a, .int .i64 b] w fun e w' => e = .returned (.bool (decide (rk mod tur a < rk mod tur b))) ∧ Below w.heap.size w w') := fun w => ahead_ref lv h.shape nx mod tur a b w h.mod0 h.mod1 ha ha2 hb hb2
  obtain ⟨la, ln, lc, rfl⟩ := h.shape
  obtain ⟨W, hW⟩ : ∃ W, W = w.setCell ⟨ob, 5, none⟩ (.int .i64 ((N + 1 : Nat) : Int)) := ⟨_, rfl⟩
  rw [← hW] at d0 d1 d2 d3 d4 d5 HT
  have HW : Hid (w.setCell ⟨ob, 5, none⟩ (.int .i64 ((N : Int) + 1)) = W) := by rw [show (N : Int) + 1 = ((N + 1 : Nat) : Int) by omega]; exact hW.symm
  clear hW HO h
  go_enter Try.func28, Try.ntmps28
  by_cases c : 0 < lies
  · have e1 : IntKind.i64.wrap (lies + 1) = lies + 1 := by rw [IntKind.wrap_i64]; omega
    have e2 : ¬ lies + 1 = 0 := by omega
    clear d0 d1 d2 d3
    go_wp2_with fail
    rw [HW.out]
    go_quiet (fail)
    go_wp2_with fail
    go_ret
    refine ⟨_, rfl, fun e => by omega, HT.out.1.kept rfl, HT.out.2.drewN _⟩
  · obtain rfl : lies = 0 := by omega
    clear d0 d1 d2 d3 d4 d5
    go_wp2_with fail
    rw [HW.out]
    refine Calls.mono (HA.out _) ?_
    rintro e w5 ⟨rfl, hB⟩
    have H5 : Hid (Below W.heap.size W w5) := hB
    clear hB
    go_wp2_with fail
    go_ret
    refine ⟨_, rfl, fun _ => rfl, HT.out.1.kept (H5.out.block _ HT.out.1.lt), HT.out.2.trans (S' := fun k => k = ob) (Tn.of_below H5.out) (fun _ _ e => e)⟩
theorem keep_ask {W W' : World} {ob : Nat} {lv : Value} {nx mod : Int} {tur : Bool} {lies : Int} {N : Nat} (h : Ordr W ob lv nx mod tur lies N) (hT : Tn (fun k => k = ob) W W') : ∀ (k : Nat) (cs : Array Value) (t : TypeId), W.heap[k]? = some (.cells cs t) → t ≠ 57 → W'.heap[k]? = W.heap[k]? := by
  intro k cs t hk ht
  refine hT.block k (Array.getElem?_eq_some_iff.1 hk).1 fun e => ?_
  subst e
  rw [h.at'] at hk
  injection hk with hk
  injection hk with _ e2
  exact ht e2.symm
theorem Ordr.held {W W' : World} {ob : Nat} {lv : Value} {nx mod : Int} {tur : Bool} {lies : Int} {N : Nat} (h : Ordr W ob lv nx mod tur lies N) (hT : Tn (fun k => k = ob) W W') {b i : Nat} {cs : Array Value} {t : TypeId} (hb : W.heap[b]? = some (.cells cs t)) (ht : t ≠ 57) : W'.cell? ⟨b, i, none⟩ = W.cell? ⟨b, i, none⟩ :=
  World.cell?_of_block (keep_ask h hT b cs t hb ht)
/-- The order of the things. -/
def leB (mod : Int) (tur : Bool) (it ke : Nat → Int) (x y : Nat) : Prop := rk mod tur (ke x) < rk mod tur (ke y) ∨ (rk mod tur (ke x) = rk mod tur (ke y) ∧ it x ≤ it y)
theorem leB_total (mod : Int) (tur : Bool) (it ke : Nat → Int) : Total (leB mod tur it ke) :=
  ⟨fun a => .inr ⟨rfl, Int.le_refl _⟩, fun a b c h k => by unfold leB at *; omega, fun a b => by unfold leB; omega⟩
end Go.Proofs.Ytjnfcihichaonaa
