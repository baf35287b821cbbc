/- Contracts of the program's functions, part 1: own work, joined in build order. -/
import Derived.Test.YtbhpapcfknjakaaRows
import Derived.WalkKit
import Derived.WalkSpells
import Derived.WalkLawsBesides
import Derived.Deep.OwnRows
import Derived.Deep.QuietTactic
import Derived.BigQuiet
import Derived.Deep.RegionHeld3
import Derived.Handy
import Derived.Maps.AppendAt
import Derived.Laws.AppendOwnNone
import Derived.Deep.Cut
import Derived.Deep.CutRange
import Derived.Deep.Slices
import Derived.Deep.Grids
import Derived.ChangeSlices
import Derived.ProofKit
import Derived.SizedLaws
namespace Go.Proofs.Ytbhpapcfknjakaa
open Go.RowKit
set_option maxRecDepth 100000
set_option linter.unusedVariables false
/-- All but the blocks of S is as it was. -/
structure Tn (S : Nat → Prop) (w w' : World) : Prop where
  os : w'.os = w.os
  tape : w'.tape = w.tape
  output : w'.output = w.output
  size : w.heap.size ≤ w'.heap.size
  block : ∀ k, k < w.heap.size → ¬ S k → w'.heap[k]? = w.heap[k]?
theorem Tn.refl (S : Nat → Prop) (w : World) : Tn S w w := ⟨rfl, rfl, rfl, Nat.le_refl _, fun _ _ _ => rfl⟩
theorem Tn.trans {S S' : Nat → Prop} {a b c : World} (h : Tn S a b) (k : Tn S' b c) (hs : ∀ x, x < a.heap.size → S' x → S x) : Tn S a c :=
  ⟨k.os.trans h.os, k.tape.trans h.tape, k.output.trans h.output, Nat.le_trans h.size k.size, fun x hx hn => (k.block x (Nat.lt_of_lt_of_le hx h.size) (fun e => hn (hs x hx e))).trans (h.block x hx hn)⟩
theorem Tn.mono {S S' : Nat → Prop} {a b : World} (h : Tn S a b) (hs : ∀ x, x < a.heap.size → S x → S' x) : Tn S' a b := ⟨h.os, h.tape, h.output, h.size, fun x hx hn => h.block x hx (fun e => hn (hs x hx e))⟩
theorem Tn.of_below {S : Nat → Prop} {a b : World} (h : Below a.heap.size a b) : Tn S a b := ⟨h.os, h.tape, h.output, h.size, fun x hx _ => h.block x hx⟩
theorem Tn.below {S : Nat → Prop} {B : Nat} {a b : World} (h : Tn S a b) (hB : B ≤ a.heap.size) (hs : ∀ x, S x → B ≤ x) : Below B a b := ⟨h.os, h.tape, h.output, h.size, fun x hx => h.block x (by omega) (fun e => by have := hs x e; omega)⟩
theorem Tn.drewN {S : Nat → Prop} {a b : World} (h : Tn S a b) (n : Nat) : Tn S a (b.drewN n) := ⟨h.os, h.tape, h.output, h.size, h.block⟩
theorem Tn.set {S : Nat → Prop} {a b : World} (h : Tn S a b) {x : Nat} (hx : x < a.heap.size → S x) (i : Nat) (v : Value) : Tn S a (b.setCell ⟨x, i, none⟩ v) :=
  ⟨h.os, h.tape, h.output, by simpa using h.size, fun k hk hn => (Below.heap_setCell _ _ _ k (by rintro rfl; exact hn (hx hk))).trans (h.block k hk hn)⟩
theorem Tn.alloc {S : Nat → Prop} {a b : World} (h : Tn S a b) (o : Obj) : Tn S a (b.alloc o) :=
  ⟨h.os, h.tape, h.output, by simpa using Nat.le_trans h.size (Nat.le_succ _), fun k hk hn => (Below.heap_alloc _ _ k (Nat.lt_of_lt_of_le hk h.size)).trans (h.block k hk hn)⟩
theorem bel_drewN {B : Nat} {a w : World} (h : Below B a w) (n : Nat) : Below B a (w.drewN n) := ⟨h.os, h.tape, h.output, h.size, h.block⟩
theorem addr_add (b o j : Nat) : (⟨b, o, none⟩ : Addr).add j = ⟨b, o + j, none⟩ := by unfold Addr.add; split <;> simp_all
theorem lt_of_at {W : World} {k : Nat} {o : Obj} (h : W.heap[k]? = some o) : k < W.heap.size := (Array.getElem?_eq_some_iff.1 h).1
theorem ne_of_type {W : World} {a b : Nat} {cs cs' : Array Value} {t t' : TypeId} (h : W.heap[a]? = some (.cells cs t)) (k : W.heap[b]? = some (.cells cs' t')) (hn : t ≠ t') : a ≠ b := by
  rintro rfl
  rw [h] at k
  injection k with k
  injection k with _ e
  exact hn e
/-- A fake clock. -/
def Fk (W : World) (fb : Nat) (x : Int) : Prop := W.heap[fb]? = some (.cells #[.int .i64 x] 61)
theorem Fk.cells {W : World} {fb : Nat} {x : Int} (h : Fk W fb x) : W.cell? ⟨fb, 0, none⟩ = some (.int .i64 x) ∧ W.frozen? ⟨fb, 0, none⟩ = false := by
  unfold Fk at h
  simp [World.cell?, World.frozen?, h]
theorem Fk.set {W : World} {fb : Nat} {x : Int} (h : Fk W fb x) (y : Int) : Fk (W.setCell ⟨fb, 0, none⟩ (.int .i64 y)) fb y := heap_setCell_same W fb 0 _ _ _ h
theorem Fk.kept {W W' : World} {fb : Nat} {x : Int} (h : Fk W fb x) (hk : W'.heap[fb]? = W.heap[fb]?) : Fk W' fb x := hk.trans h
theorem newFake_any (t : Int) (w : World) : Calls Try.prog 7 #[.int .i64 t] w fun e w' => e = .returned (.pointer (some ⟨w.heap.size, 0, none⟩)) ∧ Fk w' w.heap.size t ∧ Below w.heap.size w w' := by
  go_enter Try.func7, Try.ntmps7
  go_wp2_with fail
  go_ret
  exact ⟨rfl, (MapKept.heap_alloc _ _).1, (Below.refl _ _).alloc (Nat.le_refl _) _⟩
theorem fakeNow_any (fb : Nat) (x : Int) (w : World) (h : Fk w fb x) : Calls Try.prog 11 #[.pointer (some ⟨fb, 0, none⟩)] w fun e w' => e = .returned (.int .i64 x) ∧ w' = w := by
  obtain ⟨c0, _⟩ := h.cells
  clear h
  go_enter Try.func11, Try.ntmps11
  go_wp2_with fail
  go_ret
  exact ⟨rfl, rfl⟩
theorem fakeSet_any (fb : Nat) (x y : Int) (w : World) (h : Fk w fb x) : Calls Try.prog 8 #[.pointer (some ⟨fb, 0, none⟩), .int .i64 y] w fun e w' => e = .returned (.tuple #[]) ∧ Fk w' fb y ∧ Tn (fun k => k = fb) w w' := by
  obtain ⟨c0, f0⟩ := h.cells
  have HS : Hid (Fk (w.setCell ⟨fb, 0, none⟩ (.int .i64 y)) fb y ∧ Tn (fun k => k = fb) w (w.setCell ⟨fb, 0, none⟩ (.int .i64 y))) := ⟨h.set y, (Tn.refl (fun k => k = fb) w).set (fun _ => rfl) _ _⟩
  clear h
  go_enter Try.func8, Try.ntmps8
  go_wp2_with fail
  exact bodyPost_end (v := .tuple #[]) (by simp [results, Try.results8, go_sem]) rfl ⟨rfl, HS.out⟩
/-- A time moved, held within the ints. -/
def stp (x d : Int) : Int := if 9223372036854775807 < x + d then 9223372036854775807 else if x + d < -9223372036854775808 then -9223372036854775808 else x + d
theorem stp_in (x d : Int) : -9223372036854775808 ≤ stp x d ∧ stp x d ≤ 9223372036854775807 := by unfold stp; split <;> (try split) <;> omega
theorem refStep_any (x d : Int) (w : World) (h1 : -9223372036854775808 ≤ x) (h2 : x ≤ 9223372036854775807) (h3 : -9223372036854775808 ≤ d) (h4 : d ≤ 9223372036854775807) : Calls Try.prog 10 #[.int .i64 x, .int .i64 d] w fun e w' => e = .returned (.int .i64 (stp x d)) ∧ w' = w := by
  rcases Int.lt_trichotomy d 0 with c | c | c
  · have hw : IntKind.i64.wrap (-9223372036854775808 - d) = -9223372036854775808 - d := by rw [IntKind.wrap_i64]; omega
    have hd : ¬ 0 < d := by omega
    by_cases c2 : x < -9223372036854775808 - d
    · have e : Hid (stp x d = -9223372036854775808) := by show stp x d = _; unfold stp; rw [if_neg (by omega), if_pos (by omega)]
      go_enter Try.func10, Try.ntmps10
      go_wp2_with fail
      go_ret
      exact ⟨by rw [e.out]; rfl, rfl⟩
    · have e : Hid (stp x d = x + d) := by show stp x d = _; unfold stp; rw [if_neg (by omega), if_neg (by omega)]
      have hw2 : IntKind.i64.wrap (x + d) = x + d := by rw [IntKind.wrap_i64]; omega
      go_enter Try.func10, Try.ntmps10
      go_wp2_with fail
      go_ret
      exact ⟨by rw [e.out]; rfl, rfl⟩
  · subst c
    have e : Hid (stp x 0 = x) := by show stp x 0 = _; unfold stp; rw [if_neg (by omega), if_neg (by omega)]; omega
    go_enter Try.func10, Try.ntmps10
    go_wp2_with fail
    go_ret
    exact ⟨by rw [e.out]; simp, rfl⟩
  · have hw : IntKind.i64.wrap (9223372036854775807 - d) = 9223372036854775807 - d := by rw [IntKind.wrap_i64]; omega
    have hd : ¬ d < 0 := by omega
    by_cases c2 : 9223372036854775807 - d < x
    · have e : Hid (stp x d = 9223372036854775807) := by show stp x d = _; unfold stp; rw [if_pos (by omega)]
      go_enter Try.func10, Try.ntmps10
      go_wp2_with fail
      go_ret
      exact ⟨by rw [e.out]; rfl, rfl⟩
    · have e : Hid (stp x d = x + d) := by show stp x d = _; unfold stp; rw [if_neg (by omega), if_neg (by omega)]
      have hw2 : IntKind.i64.wrap (x + d) = x + d := by rw [IntKind.wrap_i64]; omega
      go_enter Try.func10, Try.ntmps10
      go_wp2_with fail
      go_ret
      exact ⟨by rw [e.out]; rfl, rfl⟩
theorem num_any (n : Int) (w : World) : Calls Try.prog 19 #[.int .i64 n] w fun e w' => e = .returned (.int .i64 n) ∧ w' = w := by
  go_enter Try.func19, Try.ntmps19
  go_wp2_with fail
  go_ret
  exact ⟨rfl, rfl⟩
end Go.Proofs.Ytbhpapcfknjakaa
namespace Go.Proofs.Ytbhpapcfknjakaa
open Go.RowKit
set_option maxRecDepth 100000
set_option linter.unusedVariables false
theorem fakeStep_any (fb : Nat) (x d : Int) (w : World) (h : Fk w fb x) (h1 : -9223372036854775808 ≤ x) (h2 : x ≤ 9223372036854775807) (h3 : -9223372036854775808 ≤ d) (h4 : d ≤ 9223372036854775807) : Calls Try.prog 9 #[.pointer (some ⟨fb, 0, none⟩), .int .i64 d] w fun e w' => e = .returned (.tuple #[]) ∧ Fk w' fb (stp x d) ∧ Tn (fun k => k = fb) w w' := by
  obtain ⟨c0, f0⟩ := h.cells
  obtain ⟨m, em⟩ : ∃ m, m = IntKind.i64.wrap (x + d) := ⟨_, rfl⟩
  have em2 := em
  rw [IntKind.wrap_i64] at em2
  have hw : IntKind.i64.wrap (x + d) = m := em.symm
  clear em
  have HS : Hid (∀ y, y = stp x d → Fk (w.setCell ⟨fb, 0, none⟩ (.int .i64 y)) fb (stp x d) ∧ Tn (fun k => k = fb) w (w.setCell ⟨fb, 0, none⟩ (.int .i64 y))) := fun y e => by subst e; exact ⟨h.set _, (Tn.refl (fun k => k = fb) w).set (fun _ => rfl) _ _⟩
  clear h
  rcases Int.lt_trichotomy d 0 with c | c | c
  · have hd : ¬ 0 < d := by omega
    by_cases c2 : x < m
    · have e : Hid (-9223372036854775808 = stp x d) := by show _ = stp x d; unfold stp; rw [if_neg (by omega), if_pos (by omega)]
      clear em2
      go_enter Try.func9, Try.ntmps9
      go_wp2_with fail
      exact bodyPost_end (v := .tuple #[]) (by simp [results, Try.results9, go_sem]) rfl ⟨rfl, HS.out _ e.out⟩
    · have e : Hid (m = stp x d) := by show _ = stp x d; unfold stp; rw [if_neg (by omega), if_neg (by omega)]; omega
      clear em2
      go_enter Try.func9, Try.ntmps9
      go_wp2_with fail
      exact bodyPost_end (v := .tuple #[]) (by simp [results, Try.results9, go_sem]) rfl ⟨rfl, HS.out _ e.out⟩
  · subst c
    have e : Hid (x = stp x 0) := by show _ = stp x 0; unfold stp; rw [if_neg (by omega), if_neg (by omega)]; omega
    clear em2
    go_enter Try.func9, Try.ntmps9
    go_wp2_with fail
    exact bodyPost_end (v := .tuple #[]) (by simp [results, Try.results9, go_sem]) rfl ⟨rfl, HS.out _ e.out⟩
  · have hd : ¬ d < 0 := by omega
    by_cases c2 : m < x
    · have e : Hid (9223372036854775807 = stp x d) := by show _ = stp x d; unfold stp; rw [if_pos (by omega)]
      clear em2
      go_enter Try.func9, Try.ntmps9
      go_wp2_with fail
      exact bodyPost_end (v := .tuple #[]) (by simp [results, Try.results9, go_sem]) rfl ⟨rfl, HS.out _ e.out⟩
    · have e : Hid (m = stp x d) := by show _ = stp x d; unfold stp; rw [if_neg (by omega), if_neg (by omega)]; omega
      clear em2
      go_enter Try.func9, Try.ntmps9
      go_wp2_with fail
      exact bodyPost_end (v := .tuple #[]) (by simp [results, Try.results9, go_sem]) rfl ⟨rfl, HS.out _ e.out⟩
/-- A clamp's time: none where it is expired. -/
def cT (m : Option Int) : Int := m.getD 0
def cE (m : Option Int) : Int := if m.isSome then 0 else 70
theorem cE_some (l : Int) : cE (some l) = 0 := rfl
theorem cE_none : cE none = 70 := rfl
/-- .. behind a reading. -/
def cAt (m : Option Int) (t : Int) : Option Int := match m with
  | none => none
  | some l => if 4611686018427387904 < t then none else some (max l t)
/-- A clamp over a clock. -/
structure Cl (W : World) (cb : Nat) (v : Value) (m : Option Int) : Prop where
  at' : W.heap[cb]? = some (.cells #[v, .int .i64 (cT m), .int .i64 (cE m)] 68)
theorem Cl.cells {W : World} {cb : Nat} {v : Value} {m : Option Int} (h : Cl W cb v m) : W.cell? ⟨cb, 0, none⟩ = some v ∧ W.cell? ⟨cb, 1, none⟩ = some (.int .i64 (cT m)) ∧ W.cell? ⟨cb, 2, none⟩ = some (.int .i64 (cE m)) ∧ W.frozen? ⟨cb, 1, none⟩ = false ∧ W.frozen? ⟨cb, 2, none⟩ = false := by
  simp [World.cell?, World.frozen?, h.at']
theorem Cl.kept {W W' : World} {cb : Nat} {v : Value} {m : Option Int} (h : Cl W cb v m) (hk : W'.heap[cb]? = W.heap[cb]?) : Cl W' cb v m := ⟨hk.trans h.at'⟩
def tel (m : Option Int) : Value := .tuple #[.int .i64 (cT m), .int .i64 (cE m)]
theorem last_any (cb : Nat) (v : Value) (m : Option Int) (w : World) (h : Cl w cb v m) : Calls Try.prog 23 #[.pointer (some ⟨cb, 0, none⟩)] w fun e w' => e = .returned (tel m) ∧ ∃ n, w' = w.drewN n := by
  obtain ⟨c0, c1, c2, _, _⟩ := h.cells
  clear h
  obtain ⟨t, et⟩ : ∃ t, t = cT m := ⟨_, rfl⟩
  obtain ⟨g, eg⟩ : ∃ g, g = cE m := ⟨_, rfl⟩
  rw [← et] at c1
  rw [← eg] at c2
  have HE : Hid (t = cT m ∧ g = cE m) := ⟨et, eg⟩
  clear et eg
  go_enter Try.func23, Try.ntmps23
  go_wp2_with fail
  go_quiet (fail)
  go_wp2_with fail
  go_ret2
  refine ⟨?_, _, rfl⟩
  unfold tel
  rw [← HE.out.1, ← HE.out.2]
  rfl
set_option maxHeartbeats 400000 in
theorem at_any (cb : Nat) (v : Value) (m : Option Int) (t : Int) (w : World) (h : Cl w cb v m) (h1 : -9223372036854775808 ≤ t) (h2 : t ≤ 9223372036854775807) : Calls Try.prog 22 #[.pointer (some ⟨cb, 0, none⟩), .int .i64 t] w fun e w' => e = .returned (tel (cAt m t)) ∧ Cl w' cb v (cAt m t) ∧ Tn (fun k => k = cb) w w' := by
  obtain ⟨c0, c1, c2, f1, f2⟩ := h.cells
  have hlt := lt_of_at h.at'
  by_cases c : 4611686018427387904 < t
  · have ec : cAt m t = none := by cases m; rfl; simp [cAt, c]
    rw [ec]
    have HC : Hid (Cl ((w.setCell ⟨cb, 1, none⟩ (.int .i64 0)).setCell ⟨cb, 2, none⟩ (.int .i64 70)) cb v none ∧ Tn (fun k => k = cb) w ((w.setCell ⟨cb, 1, none⟩ (.int .i64 0)).setCell ⟨cb, 2, none⟩ (.int .i64 70))) := by
      refine ⟨⟨?_⟩, ((Tn.refl (fun k => k = cb) w).set (fun _ => rfl) _ _).set (fun _ => rfl) _ _⟩
      exact heap_setCell_same _ cb 2 _ _ _ (heap_setCell_same w cb 1 _ _ _ h.at')
    obtain ⟨t', et⟩ : ∃ t, t = cT m := ⟨_, rfl⟩
    obtain ⟨g, eg⟩ : ∃ g, g = cE m := ⟨_, rfl⟩
    rw [← et] at c1
    rw [← eg] at c2
    clear h ec et eg
    have cd : decide (4611686018427387904 < t) = true := by simp [c]
    go_enter Try.func22, Try.ntmps22
    go_wp2_with fail
    refine Calls.mono (last_any _ _ _ _ HC.out.1) ?_
    rintro e w' ⟨rfl, n, rfl⟩
    unfold tel
    go_wp2_with fail
    go_ret2
    exact ⟨rfl, HC.out.1.kept rfl, HC.out.2.drewN _⟩
  · cases m with
    | none =>
      have ec : cAt none t = none := rfl
      rw [ec]
      have HC : Hid (Cl w cb v none) := h
      rw [cE_none] at c2
      clear h c1 ec
      go_enter Try.func22, Try.ntmps22
      go_wp2_with fail
      refine Calls.mono (last_any _ _ _ _ HC.out) ?_
      rintro e w' ⟨rfl, n, rfl⟩
      unfold tel
      go_wp2_with fail
      go_ret2
      exact ⟨rfl, HC.out.kept rfl, (Tn.refl _ _).drewN _⟩
    | some l =>
      obtain ⟨M, eM⟩ : ∃ M, M = max l t := ⟨_, rfl⟩
      have ec : cAt (some l) t = some M := by simp [cAt, c, eM]
      have hM : (if l < t then t else l) = M := by rw [eM]; split <;> omega
      rw [ec]
      have HC : Hid (Cl (w.setCell ⟨cb, 1, none⟩ (.int .i64 M)) cb v (some M) ∧ Tn (fun k => k = cb) w (w.setCell ⟨cb, 1, none⟩ (.int .i64 M))) := by
        refine ⟨⟨?_⟩, (Tn.refl (fun k => k = cb) w).set (fun _ => rfl) _ _⟩
        exact heap_setCell_same w cb 1 _ _ _ h.at'
      rw [cE_some] at c2
      have c1' : w.cell? ⟨cb, 1, none⟩ = some (.int .i64 l) := c1
      clear h ec eM c1
      go_enter Try.func22, Try.ntmps22
      go_wp2_with fail
      refine Calls.mono (last_any _ _ _ _ HC.out.1) ?_
      rintro e w' ⟨rfl, n, rfl⟩
      unfold tel
      go_wp2_with fail
      go_ret2
      exact ⟨rfl, HC.out.1.kept rfl, HC.out.2.drewN _⟩
end Go.Proofs.Ytbhpapcfknjakaa
namespace Go.Proofs.Ytbhpapcfknjakaa
open Go.RowKit
set_option maxRecDepth 100000
set_option linter.unusedVariables false
theorem newClamp_any (T : TypeId) (x : Value) (w : World) : Calls Try.prog 18 #[.iface T x] w fun e w' => e = .returned (.tuple #[.pointer (some ⟨w.heap.size, 0, none⟩), .int .i64 0]) ∧ Cl w' w.heap.size (.iface T x) (some 0) ∧ Below w.heap.size w w' := by
  go_enter Try.func18, Try.ntmps18
  go_wp2_with fail
  go_ret2
  exact ⟨rfl, ⟨(MapKept.heap_alloc _ _).1⟩, (Below.refl _ _).alloc (Nat.le_refl _) _⟩
theorem newClamp_none (w : World) : Calls Try.prog 18 #[.nilIface] w fun e w' => e = .returned (.tuple #[.pointer none, .int .i64 190]) ∧ w' = w := by
  go_enter Try.func18, Try.ntmps18
  go_wp2_with fail
  go_ret2
  exact ⟨rfl, rfl⟩
theorem refLast_any (m : Option Int) (T : Int) (hT : ∀ l, m = some l → T = l) (w : World) : Calls Try.prog 24 #[.agg #[.int .i64 T, .bool m.isNone]] w fun e w' => e = .returned (tel m) ∧ Below w.heap.size w w' := by
  cases m with
  | none =>
    simp only [Option.isNone]
    go_enter Try.func24, Try.ntmps24
    go_wp2_with fail
    go_ret2
    exact ⟨rfl, (Below.refl _ _).alloc (Nat.le_refl _) _⟩
  | some l =>
    obtain rfl := hT l rfl
    simp only [Option.isNone]
    go_enter Try.func24, Try.ntmps24
    go_wp2_with fail
    go_ret2
    exact ⟨rfl, (Below.refl _ _).alloc (Nat.le_refl _) _⟩
set_option maxHeartbeats 1000000 in
theorem refAt_any (m : Option Int) (T : Int) (hT : ∀ l, m = some l → T = l) (t : Int) (w : World) (h1 : -9223372036854775808 ≤ t) (h2 : t ≤ 9223372036854775807) : Calls Try.prog 21 #[.agg #[.int .i64 T, .bool m.isNone], .int .i64 t] w fun e w' => ∃ T', e = .returned (.tuple #[.agg #[.int .i64 T', .bool (cAt m t).isNone], .int .i64 (cT (cAt m t)), .int .i64 (cE (cAt m t))]) ∧ (∀ l, cAt m t = some l → T' = l) ∧ Below w.heap.size w w' := by
  cases m with
  | none =>
    have ec : cAt none t = none := rfl
    rw [ec]
    simp only [Option.isNone, cE_none, cT, Option.getD]
    go_enter Try.func21, Try.ntmps21
    go_wp2_with fail
    refine bodyPost_ret (v := .tuple #[.agg #[.int .i64 T, .bool true], .int .i64 0, .int .i64 70]) (by simp [results, Try.results21, go_sem]) rfl ⟨T, rfl, (fun l e => by cases e), ?_⟩
    go_grown
  | some l =>
    obtain rfl := hT l rfl
    by_cases c : 4611686018427387904 < t
    · have ec : cAt (some T) t = none := by simp [cAt, c]
      rw [ec]
      simp only [Option.isNone, cE_none, cT, Option.getD]
      clear ec hT
      go_enter Try.func21, Try.ntmps21
      go_wp2_with fail
      refine bodyPost_ret (v := .tuple #[.agg #[.int .i64 T, .bool true], .int .i64 0, .int .i64 70]) (by simp [results, Try.results21, go_sem]) rfl ⟨T, rfl, (fun l e => by cases e), ?_⟩
      go_grown
    · obtain ⟨M, eM⟩ : ∃ M, M = max T t := ⟨_, rfl⟩
      have ec : cAt (some T) t = some M := by simp [cAt, c, eM]
      have hM : (if T < t then t else T) = M := by rw [eM]; split <;> omega
      rw [ec]
      simp only [Option.isNone, cE_some, cT, Option.getD]
      clear ec hT eM
      go_enter Try.func21, Try.ntmps21
      go_wp2_with fail
      go_region
      all_goals
        go_wp2_with fail
        refine bodyPost_ret (v := .tuple #[.agg #[.int .i64 M, .bool false], .int .i64 M, .int .i64 0]) (by simp [results, Try.results21, go_sem]) rfl ⟨M, rfl, (fun l e => by cases e; rfl), ?_⟩
        go_grown
/-- A ticker. -/
def Tk (W : World) (kb : Nat) (t : Int) (n : Nat) : Prop := W.heap[kb]? = some (.cells #[.int .i64 t, .int .i64 (n : Int)] 38)
theorem Tk.cells {W : World} {kb : Nat} {t : Int} {n : Nat} (h : Tk W kb t n) : W.cell? ⟨kb, 0, none⟩ = some (.int .i64 t) ∧ W.cell? ⟨kb, 1, none⟩ = some (.int .i64 (n : Int)) ∧ W.frozen? ⟨kb, 0, none⟩ = false ∧ W.frozen? ⟨kb, 1, none⟩ = false := by
  unfold Tk at h
  simp [World.cell?, World.frozen?, h]
theorem Tk.kept {W W' : World} {kb : Nat} {t : Int} {n : Nat} (h : Tk W kb t n) (hk : W'.heap[kb]? = W.heap[kb]?) : Tk W' kb t n := hk.trans h
theorem tickNow_any (kb : Nat) (t : Int) (n : Nat) (w : World) (h : Tk w kb t n) (hn : n < 1000000) : Calls Try.prog 16 #[.pointer (some ⟨kb, 0, none⟩)] w fun e w' => e = .returned (.int .i64 t) ∧ Tk w' kb t (n + 1) ∧ Tn (fun k => k = kb) w w' := by
  obtain ⟨c0, c1, f0, f1⟩ := h.cells
  have HS : Hid (Tk (w.setCell ⟨kb, 1, none⟩ (.int .i64 ((n : Int) + 1))) kb t (n + 1) ∧ Tn (fun k => k = kb) w (w.setCell ⟨kb, 1, none⟩ (.int .i64 ((n : Int) + 1)))) := ⟨heap_setCell_same w kb 1 _ _ _ h, (Tn.refl (fun k => k = kb) w).set (fun _ => rfl) _ _⟩
  have hw : IntKind.i64.wrap ((n : Int) + 1) = (n : Int) + 1 := by rw [IntKind.wrap_i64]; omega
  clear h
  go_enter Try.func16, Try.ntmps16
  go_wp2_with fail
  go_ret
  exact ⟨rfl, HS.out⟩
theorem readTick_any (cb kb : Nat) (m : Option Int) (t : Int) (n : Nat) (w : World) (h : Cl w cb (.iface 36 (.pointer (some ⟨kb, 0, none⟩))) m) (hk : Tk w kb t n) (hn : n < 1000000) (h1 : -9223372036854775808 ≤ t) (h2 : t ≤ 9223372036854775807) :
    Calls Try.prog 20 #[.pointer (some ⟨cb, 0, none⟩)] w fun e w' => e = .returned (tel (cAt m t)) ∧ Cl w' cb (.iface 36 (.pointer (some ⟨kb, 0, none⟩))) (cAt m t) ∧ Tk w' kb t (n + 1) ∧ Tn (fun k => k = cb ∨ k = kb) w w' := by
  obtain ⟨c0, c1, c2, f1, f2⟩ := h.cells
  have hne : cb ≠ kb := ne_of_type h.at' hk (by decide)
  have H : Hid (Cl w cb (.iface 36 (.pointer (some ⟨kb, 0, none⟩))) m ∧ Tk w kb t n ∧ cb ≠ kb) := ⟨h, hk, hne⟩
  clear h hk hne c1 c2
  go_enter Try.func20, Try.ntmps20
  go_wp2_with fail
  refine Calls.mono (tickNow_any kb t n _ H.out.2.1 hn) ?_
  rintro e w1 ⟨rfl, hT, hF⟩
  have H1 : Hid (Cl w1 cb (.iface 36 (.pointer (some ⟨kb, 0, none⟩))) m ∧ Tk w1 kb t (n + 1) ∧ Tn (fun k => k = kb) w w1) := ⟨H.out.1.kept (hF.block _ (lt_of_at H.out.1.at') H.out.2.2), hT, hF⟩
  clear hT hF
  go_wp2_with fail
  refine Calls.mono (at_any cb _ m t _ H1.out.1 h1 h2) ?_
  rintro e w2 ⟨rfl, hC, hF⟩
  have H2 : Hid (Cl w2 cb (.iface 36 (.pointer (some ⟨kb, 0, none⟩))) (cAt m t) ∧ Tk w2 kb t (n + 1) ∧ Tn (fun k => k = cb ∨ k = kb) w w2) := ⟨hC, H1.out.2.1.kept (hF.block _ (lt_of_at H1.out.2.1) (Ne.symm H.out.2.2)), (H1.out.2.2.mono (fun _ _ e => .inr e)).trans hF (fun _ _ e => .inl e)⟩
  clear hC hF
  unfold tel
  go_wp2_with fail
  go_ret2
  exact ⟨rfl, H2.out⟩
end Go.Proofs.Ytbhpapcfknjakaa
namespace Go.Proofs.Ytbhpapcfknjakaa
open Go.RowKit
set_option maxRecDepth 100000
set_option linter.unusedVariables false
/-- A slice of numbers that came in. -/
structure ISl (w : World) (a : Option Addr) (n cap : Nat) (xs : Nat → Int) : Prop where
  le : n ≤ cap
  lim : cap ≤ 9223372036854775807
  nil : a = none → n = 0 ∧ cap = 0
  wf : ∀ i, i < n → -9223372036854775808 ≤ xs i ∧ xs i ≤ 9223372036854775807
  at' : n = 0 ∨ ∃ b o, a = some ⟨b, o, none⟩ ∧ ∀ i, i < n → w.cell? ⟨b, o + i, none⟩ = some (.int .i64 (xs i))
theorem ISl.at {w W : World} {a : Option Addr} {n cap : Nat} {xs : Nat → Int} (h : ISl w a n cap xs) (hB : Below w.heap.size w W) (hn : 0 < n) : ∃ b o, a = some ⟨b, o, none⟩ ∧ ∀ i, i < n → W.cell? ⟨b, o + i, none⟩ = some (.int .i64 (xs i)) := by
  rcases h.at' with e | ⟨b, o, e, hc⟩
  · omega
  · exact ⟨b, o, e, fun i hi => cell_later hB (hc i hi)⟩
theorem ISl.mono {w W : World} {a : Option Addr} {n cap : Nat} {xs : Nat → Int} (h : ISl w a n cap xs) (hB : Below w.heap.size w W) : ISl W a n cap xs :=
  ⟨h.le, h.lim, h.nil, h.wf, h.at'.imp id fun ⟨b, o, e, hc⟩ => ⟨b, o, e, fun i hi => cell_later hB (hc i hi)⟩⟩
theorem ISl.take {w : World} {a : Option Addr} {n cap m : Nat} {xs : Nat → Int} (h : ISl w a n cap xs) (hm : m ≤ n) : ISl w a m cap xs :=
  ⟨Nat.le_trans hm h.le, h.lim, fun e => ⟨by have := h.nil e; omega, (h.nil e).2⟩, fun i hi => h.wf i (by omega), h.at'.elim (fun e => .inl (by omega)) fun ⟨b, o, e, hc⟩ => .inr ⟨b, o, e, fun i hi => hc i (by omega)⟩⟩
def ints (n : Nat) (z : Nat → Int) : List Value := (List.range n).map fun i => .int .i64 (z i)
theorem ints_len (n : Nat) (z : Nat → Int) : (ints n z).length = n := by simp [ints]
theorem ints_at (n : Nat) (z : Nat → Int) (i : Nat) (h : i < n) : (ints n z)[i]? = some (.int .i64 (z i)) := by simp [ints, h]
theorem Try.infoI : (Try.prog.info? 3).map (fun i => (i.zero, i.size, i.bytes)) = some (some (.int .i64 0), 1, 8) := by kernel_rfl
/-- append of a row that came in to an empty one. -/
theorem wp_appRow {w : World} {ops : Array Oper} {rest : List Oper} {o : Oper} {a : Act} {Q : Exit → Act → World → Prop} (hgd : o.guard = none) (s x : Operand)
    (ho : o.op = .call { callee := .builtin .append, args := #[s, x], argTypes := #[32, 32] }) (base : Nat) (v : Value) (n : Nat) (xs : List Value) (hs : a.eval s = v) (hown : w.ownsRow base 3 1 v n xs)
    (ax : Option Addr) (m cap : Nat) (z : Nat → Int) (hx : a.eval x = .slice ax m cap) (hz : ISl w ax m cap z) (hlim : (n + m) * 8 ≤ 140737488355328) (hb : base ≤ w.heap.size)
    (h : ∀ v' w', Hid (w'.ownsRow base 3 1 v' (n + m) (xs ++ ints m z) ∧ w.grownBy w' v.ownBlock ∧ (v'.ownBlock = v.ownBlock ∨ v'.ownBlock = some w.heap.size)) → wpList Try.prog ops Q rest (a.put o.dst v') w') : wpList Try.prog ops Q (o :: rest) a w := by
  obtain ⟨i, hi, hz', hsz, hby⟩ := info_parts Try.infoI
  cases ax with
  | none =>
    obtain ⟨rfl, rfl⟩ := hz.nil rfl
    refine wpList_append_own_none hgd s x 32 ho base 3 i 1 Try.underlying32 hi v _ _ hs hown hx ?_
    exact h v w ⟨by simpa [ints] using hown, ⟨rfl, rfl, rfl, Nat.le_refl _, fun _ _ _ => rfl⟩, .inl rfl⟩
  | some ad =>
    refine wpList_append_own_at w hgd s x 32 ho base 3 i _ 1 8 Try.underlying32 hi hz' hsz hby rfl (by omega) v _ _ hs hown ad m cap (ints m z) hx (by rw [ints_len]; omega) (fun j u' hj => ?_) (fun u' hu' => ?_) (by simp only [maxLen]; omega) (by omega) hb ?_
    · have hjm : j < m := by have := (List.getElem?_eq_some_iff.1 hj).1; rw [ints_len] at this; exact this
      rw [ints_at m z j hjm] at hj
      cases hj
      rcases hz.at' with e | ⟨b, o', e, hc⟩
      · omega
      · cases e
        rw [addr_add]
        exact hc j hjm
    · simp only [ints, List.mem_map] at hu'
      obtain ⟨q, _, rfl⟩ := hu'
      rfl
    · intro v' w' h1 h2 _ h4
      exact h v' w' ⟨h1, h2, h4⟩
theorem sl_nil (n cap : Nat) (w : World) : (binOp .eql 32 (.slice none n cap) (.slice none 0 0)).run Try.prog w = .ok (.bool true) w := by kernel_rfl
theorem sl_some (ad : Addr) (n cap : Nat) (w : World) : (binOp .eql 32 (.slice (some ad) n cap) (.slice none 0 0)).run Try.prog w = .ok (.bool false) w := by kernel_rfl
theorem bel_grownBy {base : Nat} {w w1 w2 : World} {v : Option Nat} (h : Below base w w1) (k : w1.grownBy w2 v) (hb : base ≤ w1.heap.size) (hv : ∀ g, v = some g → base ≤ g) : Below base w w2 :=
  ⟨k.os.trans h.os, k.tape.trans h.tape, k.output.trans h.output, Nat.le_trans h.size k.size, fun x hx => (k.block x (by omega) (fun e => by have := hv x e.symm; omega)).trans (h.block x hx)⟩
theorem clone_any (a : Option Addr) (n cap : Nat) (z : Nat → Int) (w : World) (h : ISl w a n cap z) (hlim : n * 8 ≤ 140737488355328) :
    Calls Try.prog 25 #[.slice a n cap] w fun e w' => ∃ v, e = .returned v ∧ w'.ownsRow w.heap.size 3 1 v n (ints n z) ∧ Below w.heap.size w w' := by
  cases a with
  | none =>
    obtain ⟨rfl, rfl⟩ := h.nil rfl
    clear h
    have en := sl_nil 0 0 w
    go_enter Try.func25, Try.ntmps25
    go_wp2_with fail
    go_ret
    exact ⟨_, rfl, World.ownsRow_nil w _ _ _, Below.refl _ _⟩
  | some ad =>
    have H : Hid (ISl (w.alloc (.cells #[] 3)) (some ad) n cap z ∧ (w.alloc (.cells #[] 3)).ownsRow w.heap.size 3 1 (.slice (some ⟨w.heap.size, 0, none⟩) 0 0) 0 []) := by
      refine ⟨h.mono ((Below.refl _ _).alloc (Nat.le_refl _) _), rfl, .inr ⟨w.heap.size, 0, #[], rfl, Nat.le_refl _, (MapKept.heap_alloc _ _).1, Nat.le_refl _, by decide, rfl, rfl⟩⟩
    clear h
    have en := sl_some ad n cap w
    go_enter Try.func25, Try.ntmps25
    go_wp2_with (refine (id ?_ : wpList Try.prog _ _ (⟨some 7, _, _, _, _, _⟩ :: _) _ _); refine wp_appRow rfl _ _ rfl w.heap.size _ _ _ rfl H.out.2 (some ad) n cap z rfl H.out.1 (by omega) (by simp) ?_; intro v' w1 h1)
    go_ret
    obtain ⟨q1, q2, q3⟩ := h1.out
    refine ⟨v', rfl, by simpa using q1, ?_⟩
    exact bel_grownBy ((Below.refl _ _).alloc (Nat.le_refl _) _) q2 (by simp) (fun g e => by cases e; exact Nat.le_refl _)
/-- A clock with a list of readings, i of them told. -/
structure Sp (W : World) (sb n : Nat) (z : Nat → Int) (i : Nat) (lb : Nat := 0) : Prop where
  ex : ∃ a cap, W.heap[sb]? = some (.cells #[.slice a (n - min i (n - 1)) cap] 64) ∧ n - min i (n - 1) ≤ cap ∧ cap ≤ 9223372036854775807 ∧ (0 < n → ∃ g cs, lb ≤ g ∧ a = some ⟨g, min i (n - 1), none⟩ ∧ W.heap[g]? = some (.cells cs 3) ∧ ∀ q, q < n → cs[q]? = some (.int .i64 (z q)))
theorem Sp.lt {W : World} {sb n : Nat} {z : Nat → Int} {i lb : Nat} (h : Sp W sb n z i lb) : sb < W.heap.size := by
  obtain ⟨a, cap, e, _⟩ := h.ex
  exact lt_of_at e
/-- It stays while no clock of its kind and no row of numbers is written. -/
theorem Sp.keptL {W W' : World} {sb n : Nat} {z : Nat → Int} {i lb : Nat} (h : Sp W sb n z i lb) (hs : ∀ cs : Array Value, W.heap[sb]? = some (.cells cs 64) → W'.heap[sb]? = W.heap[sb]?) (hk : ∀ (g : Nat) (cs : Array Value), lb ≤ g → W.heap[g]? = some (.cells cs 3) → W'.heap[g]? = W.heap[g]?) : Sp W' sb n z i lb := by
  obtain ⟨a, cap, e1, e2, e3, e4⟩ := h.ex
  refine ⟨a, cap, (hs _ e1).trans e1, e2, e3, fun hn => ?_⟩
  obtain ⟨g, cs, q0, q1, q2, q3⟩ := e4 hn
  exact ⟨g, cs, q0, q1, (hk _ _ q0 q2).trans q2, q3⟩
theorem Sp.kept {W W' : World} {sb n : Nat} {z : Nat → Int} {i lb : Nat} (h : Sp W sb n z i lb) (hs : ∀ cs : Array Value, W.heap[sb]? = some (.cells cs 64) → W'.heap[sb]? = W.heap[sb]?) (hk : ∀ (g : Nat) (cs : Array Value), W.heap[g]? = some (.cells cs 3) → W'.heap[g]? = W.heap[g]?) : Sp W' sb n z i lb := h.keptL hs fun g cs _ e => hk g cs e
theorem Sp.weak {W : World} {sb n : Nat} {z : Nat → Int} {i lb : Nat} (h : Sp W sb n z i lb) : Sp W sb n z i := by
  obtain ⟨a, cap, e1, e2, e3, e4⟩ := h.ex
  refine ⟨a, cap, e1, e2, e3, fun hn => ?_⟩
  obtain ⟨g, cs, q0, q1⟩ := e4 hn
  exact ⟨g, cs, Nat.zero_le _, q1⟩
def told (z : Nat → Int) (n i : Nat) : Int := if n = 0 then 0 else z (min i (n - 1))
theorem newSteps_lb (a : Option Addr) (n cap : Nat) (z : Nat → Int) (w : World) (h : ISl w a n cap z) (hlim : n * 8 ≤ 140737488355328) :
    Calls Try.prog 13 #[.slice a n cap] w fun e w' => ∃ sb, e = .returned (.pointer (some ⟨sb, 0, none⟩)) ∧ w.heap.size ≤ sb ∧ Sp w' sb n z 0 w.heap.size ∧ Below w.heap.size w w' := by
  have H : Hid (ISl w a n cap z) := h
  clear h
  go_enter Try.func13, Try.ntmps13
  go_wp2_with fail
  refine Calls.mono (clone_any a n cap z w H.out hlim) ?_
  rintro e w1 ⟨v, rfl, h1, h2⟩
  have H1 : Hid (w1.ownsRow w.heap.size 3 1 v n (ints n z) ∧ Below w.heap.size w w1) := ⟨h1, h2⟩
  obtain ⟨va, vc, rfl⟩ : ∃ va vc, v = .slice va n vc := by
    rcases h1.2 with ⟨e, e0⟩ | ⟨g, cap', cur, e, _⟩
    · exact ⟨none, 0, by rw [e, e0]⟩
    · exact ⟨_, _, e⟩
  clear h1 h2
  go_wp2_with fail
  go_ret
  obtain ⟨h1, h2⟩ := H1.out
  refine ⟨w1.heap.size, rfl, h2.size, ⟨va, vc, ?_, ?_⟩, h2.alloc h2.size _⟩
  · rw [Nat.zero_min, Nat.sub_zero]
    exact (MapKept.heap_alloc _ _).1
  · rw [Nat.zero_min, Nat.sub_zero]
    rcases h1.2 with ⟨e, e0⟩ | ⟨g, cap', cur, e, g1, g2, g3, g4, g5, g6⟩
    · cases e
      exact ⟨Nat.le_refl _, by omega, fun e => absurd e (by omega)⟩
    · cases e
      refine ⟨g3, by simpa [maxLen] using g4, fun hn => ⟨g, cur, g1, rfl, (Below.heap_alloc _ _ _ (lt_of_at g2)).trans g2, fun q hq => ?_⟩⟩
      have q4 := congrArg (fun l => l[q]?) g6
      simp only [Nat.mul_one] at q4
      rw [List.getElem?_take_of_lt hq, Array.getElem?_toList, ints_at n z q hq] at q4
      exact q4
theorem newSteps_any (a : Option Addr) (n cap : Nat) (z : Nat → Int) (w : World) (h : ISl w a n cap z) (hlim : n * 8 ≤ 140737488355328) :
    Calls Try.prog 13 #[.slice a n cap] w fun e w' => ∃ sb, e = .returned (.pointer (some ⟨sb, 0, none⟩)) ∧ w.heap.size ≤ sb ∧ Sp w' sb n z 0 ∧ Below w.heap.size w w' ∧ True :=
  (newSteps_lb a n cap z w h hlim).mono fun e w' ⟨sb, h1, h2, h3, h4⟩ => ⟨sb, h1, h2, h3.weak, h4, trivial⟩
set_option maxHeartbeats 400000 in
theorem stepsNow_lb (sb n : Nat) (z : Nat → Int) (i lb : Nat) (w : World) (h : Sp w sb n z i lb) : Calls Try.prog 14 #[.pointer (some ⟨sb, 0, none⟩)] w fun e w' => e = .returned (.int .i64 (told z n i)) ∧ Sp w' sb n z (i + 1) lb ∧ Tn (fun k => k = sb) w w' := by
  obtain ⟨a, cap, e1, e2, e3, e4⟩ := h.ex
  obtain ⟨j, ej⟩ : ∃ j, j = min i (n - 1) := ⟨_, rfl⟩
  rw [← ej] at e1 e2 e4
  have c0 : w.cell? ⟨sb, 0, none⟩ = some (.slice a (n - j) cap) := by simp [World.cell?, e1]
  have f0 : w.frozen? ⟨sb, 0, none⟩ = false := by simp [World.frozen?, e1]
  by_cases hn : n = 0
  · subst hn
    have HS : Hid (Sp w sb 0 z i lb) := h
    obtain rfl : j = 0 := by omega
    simp only [Nat.sub_zero] at c0
    clear h e1 e4 ej e2 e3
    go_enter Try.func14, Try.ntmps14
    go_wp2_with fail
    go_ret
    refine ⟨rfl, ⟨?_⟩, Tn.refl _ _⟩
    obtain ⟨a, cap, q1, q2, q3, q4⟩ := HS.out.ex
    exact ⟨a, cap, by simpa using q1, by simp, q3, fun e => by omega⟩
  · obtain ⟨g, cs, g0, rfl, g2, g3⟩ := e4 (by omega)
    clear e4
    have hjn : j < n := by omega
    have cz : w.cell? ⟨g, j, none⟩ = some (.int .i64 (z j)) := by simp [World.cell?, g2, g3 j hjn]
    have et : told z n i = z j := by unfold told; rw [if_neg hn, ej]
    rw [et]
    have hgs : g ≠ sb := fun e => ne_of_type g2 e1 (by decide) e
    by_cases hl : n - j = 1
    · have HS : Hid (Sp w sb n z (i + 1) lb) := by
        refine ⟨some ⟨g, j, none⟩, cap, ?_⟩
        have ej2 : min (i + 1) (n - 1) = j := by omega
        rw [ej2]
        exact ⟨e1, e2, e3, fun _ => ⟨g, cs, g0, rfl, g2, g3⟩⟩
      rw [hl] at c0
      clear h e1 ej et g2 g3 hl e2
      go_enter Try.func14, Try.ntmps14
      go_wp2_with fail
      go_ret
      exact ⟨rfl, HS.out, Tn.refl _ _⟩
    · obtain ⟨L, eL⟩ : ∃ L, n - j = L + 2 := ⟨n - j - 2, by omega⟩
      rw [eL] at c0 e1 e2
      have HS : Hid (Sp (w.setCell ⟨sb, 0, none⟩ (.slice (some ⟨g, j + 1, none⟩) (L + 1) (cap - 1))) sb n z (i + 1) lb ∧ Tn (fun k => k = sb) w (w.setCell ⟨sb, 0, none⟩ (.slice (some ⟨g, j + 1, none⟩) (L + 1) (cap - 1)))) := by
        refine ⟨⟨some ⟨g, j + 1, none⟩, cap - 1, ?_⟩, (Tn.refl (fun k => k = sb) w).set (fun _ => rfl) _ _⟩
        have ej2 : min (i + 1) (n - 1) = j + 1 := by omega
        rw [ej2, show n - (j + 1) = L + 1 by omega]
        refine ⟨heap_setCell_same w sb 0 _ _ _ e1, by omega, by omega, fun _ => ⟨g, cs, g0, rfl, ?_, g3⟩⟩
        exact (Below.heap_setCell _ _ _ g hgs).trans g2
      have sl : (Instr.slice 32 (.slice (some ⟨g, j, none⟩) (L + 2) cap) (some (.int .i64 1)) none none).run Try.prog w = .ok (.slice (some ⟨g, j + 1, none⟩) (L + 1) (cap - 1)) w := by
        rw [run_slice_l (P := Try.prog) (kl := .i64) (l := 1) (ht := by kernel_rfl) (h0 := by omega) (h1 := by omega)]
        have hz : (sizeOf (Try.prog.elem 32)).run Try.prog w = .ok 1 w := by kernel_rfl
        rw [hz]
        simp [Result.andThen, sliced, Addr.add]
        omega
      have hL : L + 2 ≤ 9223372036854775807 := by omega
      clear h e1 ej et g2 g3 hl eL
      go_enter Try.func14, Try.ntmps14
      go_wp2_with fail
      go_ret
      exact ⟨rfl, HS.out⟩
theorem stepsNow_any (sb n : Nat) (z : Nat → Int) (i : Nat) (w : World) (h : Sp w sb n z i) : Calls Try.prog 14 #[.pointer (some ⟨sb, 0, none⟩)] w fun e w' => e = .returned (.int .i64 (told z n i)) ∧ Sp w' sb n z (i + 1) ∧ Tn (fun k => k = sb) w w' := stepsNow_lb sb n z i 0 w h
theorem refTold_any (a : Option Addr) (n cap : Nat) (z : Nat → Int) (i : Nat) (w : World) (h : ISl w a n cap z) (hi : i < 9223372036854775807) :
    Calls Try.prog 15 #[.slice a n cap, .int .i64 (i : Int)] w fun e w' => e = .returned (.int .i64 (told z n i)) ∧ w' = w := by
  have h1 := h.le
  have h2 := h.lim
  by_cases hn : n = 0
  · subst hn
    clear h
    go_enter Try.func15, Try.ntmps15
    go_wp2_with fail
    go_ret
    exact ⟨rfl, rfl⟩
  · obtain ⟨j, ej⟩ : ∃ j, j = min i (n - 1) := ⟨_, rfl⟩
    obtain ⟨b, o, rfl, hc⟩ := h.at (Below.refl _ _) (by omega)
    have c0 := hc j (by omega)
    have et : told z n i = z j := by unfold told; rw [if_neg hn, ej]
    rw [et]
    have hjn : j < n := by omega
    have hm : (if (n : Int) - 1 < (i : Int) then (n : Int) - 1 else (i : Int)) = (j : Int) := by split <;> omega
    have hw : IntKind.i64.wrap ((n : Int) - 1) = (n : Int) - 1 := by rw [IntKind.wrap_i64]; omega
    have hn0 : 0 < n := by omega
    clear h hc et ej
    go_enter Try.func15, Try.ntmps15
    go_wp2_with fail
    go_ret
    exact ⟨rfl, rfl⟩
end Go.Proofs.Ytbhpapcfknjakaa
namespace Go.Proofs.Ytbhpapcfknjakaa
open Go.RowKit
set_option maxRecDepth 100000
set_option linter.unusedVariables false
theorem told_in (z : Nat → Int) (n i : Nat) (h : ∀ q, q < n → -9223372036854775808 ≤ z q ∧ z q ≤ 9223372036854775807) : -9223372036854775808 ≤ told z n i ∧ told z n i ≤ 9223372036854775807 := by
  unfold told
  split
  · omega
  · exact h _ (by omega)
theorem Sp.clamp {W W' : World} {sb n : Nat} {z : Nat → Int} {i cb : Nat} {v : Value} {m : Option Int} (h : Sp W sb n z i) (hc : Cl W cb v m) (hF : Tn (fun k => k = cb) W W') : Sp W' sb n z i :=
  h.kept (fun cs e => hF.block _ (lt_of_at e) (ne_of_type e hc.at' (by decide))) (fun g cs e => hF.block _ (lt_of_at e) (ne_of_type e hc.at' (by decide)))
theorem readSteps_any (cb sb : Nat) (m : Option Int) (n : Nat) (z : Nat → Int) (i : Nat) (w : World) (h : Cl w cb (.iface 33 (.pointer (some ⟨sb, 0, none⟩))) m) (hs : Sp w sb n z i) (hz : ∀ q, q < n → -9223372036854775808 ≤ z q ∧ z q ≤ 9223372036854775807) :
    Calls Try.prog 20 #[.pointer (some ⟨cb, 0, none⟩)] w fun e w' => e = .returned (tel (cAt m (told z n i))) ∧ Cl w' cb (.iface 33 (.pointer (some ⟨sb, 0, none⟩))) (cAt m (told z n i)) ∧ Sp w' sb n z (i + 1) ∧ Tn (fun k => k = cb ∨ k = sb) w w' := by
  obtain ⟨c0, c1, c2, f1, f2⟩ := h.cells
  obtain ⟨h1, h2⟩ := told_in z n i hz
  have hne : cb ≠ sb := by
    obtain ⟨a, cap, e1, _⟩ := hs.ex
    exact ne_of_type h.at' e1 (by decide)
  have H : Hid (Cl w cb (.iface 33 (.pointer (some ⟨sb, 0, none⟩))) m ∧ Sp w sb n z i ∧ cb ≠ sb) := ⟨h, hs, hne⟩
  obtain ⟨t, et⟩ : ∃ t, t = told z n i := ⟨_, rfl⟩
  have SN : Hid (Calls Try.prog 14 #[.pointer (some ⟨sb, 0, none⟩)] w fun e w' => e = .returned (.int .i64 t) ∧ Sp w' sb n z (i + 1) ∧ Tn (fun k => k = sb) w w') := by rw [et]; exact stepsNow_any sb n z i _ hs
  rw [← et] at h1 h2 ⊢
  clear h hs hne c1 c2 hz et
  go_enter Try.func20, Try.ntmps20
  go_wp2_with fail
  refine Calls.mono SN.out ?_
  rintro e w1 ⟨rfl, hT, hF⟩
  have H1 : Hid (Cl w1 cb (.iface 33 (.pointer (some ⟨sb, 0, none⟩))) m ∧ Sp w1 sb n z (i + 1) ∧ Tn (fun k => k = sb) w w1) := ⟨H.out.1.kept (hF.block _ (lt_of_at H.out.1.at') H.out.2.2), hT, hF⟩
  clear hT hF
  go_wp2_with fail
  refine Calls.mono (at_any cb _ m t _ H1.out.1 h1 h2) ?_
  rintro e w2 ⟨rfl, hC, hF⟩
  have H2 : Hid (Cl w2 cb (.iface 33 (.pointer (some ⟨sb, 0, none⟩))) (cAt m t) ∧ Sp w2 sb n z (i + 1) ∧ Tn (fun k => k = cb ∨ k = sb) w w2) := ⟨hC, H1.out.2.1.clamp H1.out.1 hF, (H1.out.2.2.mono (fun _ _ e => .inr e)).trans hF (fun _ _ e => .inl e)⟩
  clear hC hF
  unfold tel
  go_wp2_with fail
  go_ret2
  exact ⟨rfl, H2.out⟩
theorem fn_some (kb : Nat) (w : World) : (binOp .eql 39 (.func (.func 16) #[.pointer (some ⟨kb, 0, none⟩)] #[]) .nilFunc).run Try.prog w = .ok (.bool false) w := by kernel_rfl
theorem fn_none (w : World) : (binOp .eql 39 .nilFunc .nilFunc).run Try.prog w = .ok (.bool true) w := by kernel_rfl
theorem funcNow_any (kb : Nat) (t : Int) (n : Nat) (w : World) (h : Tk w kb t n) (hn : n < 1000000) : Calls Try.prog 17 #[.func (.func 16) #[.pointer (some ⟨kb, 0, none⟩)] #[]] w fun e w' => e = .returned (.int .i64 t) ∧ Tk w' kb t (n + 1) ∧ Tn (fun k => k = kb) w w' := by
  have hnf := fn_some kb w
  have H : Hid (Tk w kb t n) := h
  clear h
  go_enter Try.func17, Try.ntmps17
  go_wp2_with fail
  refine Calls.mono (tickNow_any kb t n _ H.out hn) ?_
  rintro e w1 ⟨rfl, hT, hF⟩
  have H1 : Hid (Tk w1 kb t (n + 1) ∧ Tn (fun k => k = kb) w w1) := ⟨hT, hF⟩
  clear hT hF
  go_wp2_with fail
  go_ret
  exact ⟨rfl, H1.out⟩
theorem funcNow_none (w : World) : Calls Try.prog 17 #[.nilFunc] w fun e w' => e = .returned (.int .i64 0) ∧ w' = w := by
  have hnf := fn_none w
  go_enter Try.func17, Try.ntmps17
  go_wp2_with fail
  go_ret
  exact ⟨rfl, rfl⟩
def z0 (i : Nat) : Int := [-4, 5, 3, 4611686018427387904].getD i 0
def m0 (i : Nat) : Int := [0, 0, 5, 5, 4611686018427387904].getD i 0
theorem m0_at (k : Nat) (h : k < 4) : cAt (some (m0 k)) (told z0 4 k) = some (m0 (k + 1)) := by
  match k, h with
  | 0, _ => decide
  | 1, _ => decide
  | 2, _ => decide
  | 3, _ => decide
theorem z0_in (q : Nat) (h : q < 4) : -9223372036854775808 ≤ z0 q ∧ z0 q ≤ 9223372036854775807 := by
  match q, h with
  | 0, _ => decide
  | 1, _ => decide
  | 2, _ => decide
  | 3, _ => decide
theorem ISl.of4 (w : World) : ISl (w.alloc (.cells #[.int .i64 (-4), .int .i64 5, .int .i64 3, .int .i64 4611686018427387904] 3)) (some ⟨w.heap.size, 0, none⟩) 4 4 z0 := by
  refine ⟨Nat.le_refl _, by omega, (fun e => by cases e), z0_in, .inr ⟨_, _, rfl, fun i hi => ?_⟩⟩
  match i, hi with
  | 0, _ => simp [go_sem, z0]
  | 1, _ => simp [go_sem, z0]
  | 2, _ => simp [go_sem, z0]
  | 3, _ => simp [go_sem, z0]
set_option maxHeartbeats 1000000 in
theorem started_any (w : World) : Calls Try.prog 12 #[] w fun e w' => e = .returned (.bool true) ∧ Below w.heap.size w w' := by
  go_enter Try.func12, Try.ntmps12
  go_wp2_with fail
  refine Calls.mono (newSteps_any (some ⟨w.heap.size, 0, none⟩) 4 4 z0 _ (ISl.of4 w) (by omega)) ?_
  rintro e w1 ⟨sb, rfl, hs1, hs2, hs3, _⟩
  have H1 : Hid (w.heap.size ≤ sb ∧ Sp w1 sb 4 z0 0 ∧ Below w.heap.size w w1) := ⟨by simp at hs1; omega, hs2, ((Below.refl _ _).alloc (Nat.le_refl _) _).trans (hs3.mono (by simp))⟩
  clear hs1 hs2 hs3
  go_wp2_with fail
  refine Calls.mono (newClamp_any _ _ _) ?_
  rintro e w2 ⟨rfl, hc, hB⟩
  obtain ⟨cb, ecb⟩ : ∃ cb, cb = w1.heap.size := ⟨_, rfl⟩
  have H2 : Hid (w.heap.size ≤ sb ∧ w.heap.size ≤ cb ∧ Sp w2 sb 4 z0 0 ∧ Cl w2 cb (.iface 33 (.pointer (some ⟨sb, 0, none⟩))) (some (m0 0)) ∧ Below w.heap.size w w2) := by
    obtain ⟨q1, q2, q3⟩ := H1.out
    refine ⟨q1, by rw [ecb]; exact q3.size, q2.kept (fun cs e => hB.block _ (lt_of_at e)) (fun g cs e => hB.block _ (lt_of_at e)), by rw [ecb]; exact hc, q3.trans (hB.mono q3.size)⟩
  rw [← ecb]
  clear hc hB H1 ecb
  have NM : Hid (∀ n w, Calls Try.prog 19 #[.int .i64 n] w fun e w' => e = .returned (.int .i64 n) ∧ w = w') := fun n w => (num_any n w).mono fun e w' h => ⟨h.1, h.2.symm⟩
  go_wp2_with (first | (go_at_call 19; refine Calls.mono (NM.out _ _) ?_; rintro e w' ⟨rfl, rfl⟩))
  obtain ⟨wb, ewb⟩ : ∃ wb, wb = w2.heap.size := ⟨_, rfl⟩
  have H3 : Hid (w.heap.size ≤ sb ∧ w.heap.size ≤ cb ∧ Sp (w2.alloc (.cells #[.int .i64 0, .int .i64 5, .int .i64 5, .int .i64 4611686018427387904] 3)) sb 4 z0 0 ∧ Cl (w2.alloc (.cells #[.int .i64 0, .int .i64 5, .int .i64 5, .int .i64 4611686018427387904] 3)) cb (.iface 33 (.pointer (some ⟨sb, 0, none⟩))) (some (m0 0)) ∧ Below w.heap.size w (w2.alloc (.cells #[.int .i64 0, .int .i64 5, .int .i64 5, .int .i64 4611686018427387904] 3)) ∧ (w2.alloc (.cells #[.int .i64 0, .int .i64 5, .int .i64 5, .int .i64 4611686018427387904] 3)).heap[wb]? = some (.cells #[.int .i64 0, .int .i64 5, .int .i64 5, .int .i64 4611686018427387904] 3)) := by
    obtain ⟨q1, q2, q3, q4, q5⟩ := H2.out
    refine ⟨q1, q2, q3.kept (fun cs e => Below.heap_alloc _ _ _ (lt_of_at e)) (fun g cs e => Below.heap_alloc _ _ _ (lt_of_at e)), q4.kept (Below.heap_alloc _ _ _ (lt_of_at q4.at')), q5.alloc q5.size _, by rw [ewb]; exact (MapKept.heap_alloc _ _).1⟩
  rw [← ewb]
  clear H2 ewb
  go_loopw [4] (fun t wr => ∃ k : Nat, k ≤ 4 ∧ t = .int .i64 (k : Int) ∧ Hid (w.heap.size ≤ sb ∧ w.heap.size ≤ cb ∧ Sp wr sb 4 z0 k ∧ Cl wr cb (.iface 33 (.pointer (some ⟨sb, 0, none⟩))) (some (m0 k)) ∧ Below w.heap.size w wr ∧ wr.heap[wb]? = some (.cells #[.int .i64 0, .int .i64 5, .int .i64 5, .int .i64 4611686018427387904] 3))) (fun t _ => 4 - (intOf t).toNat)
  case atStart => exact ⟨0, by omega, rfl, H3⟩
  case round =>
    clear H3
    obtain ⟨k, hk, rfl, hI⟩ := hrel
    by_cases hk4 : k < 4
    · go_wp2_with fail
      obtain ⟨q1, q2, q3, q4, q5, q6⟩ := hI.out
      refine Calls.mono (readSteps_any cb sb _ 4 z0 k _ q4 q3 z0_in) ?_
      rintro e w3 ⟨rfl, g1, g2, g3⟩
      rw [m0_at k hk4] at g1 ⊢
      have q7 : w3.heap[wb]? = some (.cells #[.int .i64 0, .int .i64 5, .int .i64 5, .int .i64 4611686018427387904] 3) := by
        refine (g3.block _ (lt_of_at q6) ?_).trans q6
        rintro (e | e)
        · exact ne_of_type q6 q4.at' (by decide) e
        · obtain ⟨a, cap, e1, _⟩ := q3.ex
          exact ne_of_type q6 e1 (by decide) e
      have cw : w3.cell? ⟨wb, k, none⟩ = some (.int .i64 (m0 (k + 1))) := by
        match k, hk4 with
        | 0, _ => simp [World.cell?, q7, m0]
        | 1, _ => simp [World.cell?, q7, m0]
        | 2, _ => simp [World.cell?, q7, m0]
        | 3, _ => simp [World.cell?, q7, m0]
      have H4 : Hid (w.heap.size ≤ sb ∧ w.heap.size ≤ cb ∧ Sp w3 sb 4 z0 (k + 1) ∧ Cl w3 cb (.iface 33 (.pointer (some ⟨sb, 0, none⟩))) (some (m0 (k + 1))) ∧ Below w.heap.size w w3 ∧ w3.heap[wb]? = some (.cells #[.int .i64 0, .int .i64 5, .int .i64 5, .int .i64 4611686018427387904] 3)) := ⟨q1, q2, g2, g1, q5.trans (g3.below q5.size (fun x hx => by rcases hx with rfl | rfl <;> assumption)), q7⟩
      clear q1 q2 q3 q4 q5 q6 q7 g1 g2 g3 hI
      unfold tel
      simp only [cT, Option.getD, cE_some]
      generalize m0 (k + 1) = M at cw ⊢
      go_wp2_with (first | (go_at_call 19; refine Calls.mono (NM.out _ _) ?_; rintro e w' ⟨rfl, rfl⟩))
      go_roundw
      case rel => exact ⟨k + 1, by omega, by go_num, H4⟩
      case measure => simp [intOf]; omega
    · obtain rfl : k = 4 := by omega
      go_wp2_with fail
      refine Calls.mono (at_any cb _ _ 4611686018427387905 _ hI.out.2.2.2.1 (by omega) (by omega)) ?_
      rintro e w3 ⟨rfl, g1, g2⟩
      have ec : cAt (some (m0 4)) 4611686018427387905 = none := by decide
      rw [ec] at g1 ⊢
      have H4 : Hid (w.heap.size ≤ cb ∧ Cl w3 cb (.iface 33 (.pointer (some ⟨sb, 0, none⟩))) none ∧ Below w.heap.size w w3) := ⟨hI.out.2.1, g1, hI.out.2.2.2.2.1.trans (g2.below hI.out.2.2.2.2.1.size (fun x hx => by subst hx; exact hI.out.2.1))⟩
      clear g1 g2 ec hI
      unfold tel
      go_wp2_with fail
      refine Calls.mono (at_any cb _ _ 3 _ H4.out.2.1 (by omega) (by omega)) ?_
      rintro e w4 ⟨rfl, g1, g2⟩
      have ec : cAt none 3 = none := rfl
      rw [ec] at g1 ⊢
      have H5 : Hid (Cl w4 cb (.iface 33 (.pointer (some ⟨sb, 0, none⟩))) none ∧ Below w.heap.size w w4) := ⟨g1, H4.out.2.2.trans (g2.below H4.out.2.2.size (fun x hx => by subst hx; exact H4.out.1))⟩
      clear g1 g2 ec H4
      unfold tel
      go_wp2_with fail
      refine Calls.mono (last_any cb _ _ _ H5.out.1) ?_
      rintro e w5 ⟨rfl, n5, rfl⟩
      unfold tel
      simp only [cE_none]
      go_wp2_with (first | (go_at_call 19; refine Calls.mono (NM.out _ _) ?_; rintro e w' ⟨rfl, rfl⟩))
      go_ret
      exact ⟨rfl, bel_drewN H5.out.2 _⟩
end Go.Proofs.Ytbhpapcfknjakaa
namespace Go.Proofs.Ytbhpapcfknjakaa
open Go.RowKit
set_option maxRecDepth 100000
set_option linter.unusedVariables false
/-- A slice of pairs of numbers that came in. -/
structure PSl (w : World) (a : Option Addr) (n cap : Nat) (F : Nat → Nat → Int) : Prop where
  le : n ≤ cap
  lim : cap ≤ 9223372036854775807
  wf : ∀ i j, i < n → j < 2 → -9223372036854775808 ≤ F i j ∧ F i j ≤ 9223372036854775807
  at' : n = 0 ∨ ∃ b o, a = some ⟨b, o, none⟩ ∧ ∀ i j, i < n → j < 2 → w.cell? ⟨b, o + i * 2 + j, none⟩ = some (.int .i64 (F i j))
theorem PSl.at {w W : World} {a : Option Addr} {n cap : Nat} {F : Nat → Nat → Int} (h : PSl w a n cap F) (hB : Below w.heap.size w W) {i : Nat} (hi : i < n) : ∃ b o, a = some ⟨b, o, none⟩ ∧ W.cell? ⟨b, o + i * 2, none⟩ = some (.int .i64 (F i 0)) ∧ W.cell? ⟨b, o + i * 2 + 1, none⟩ = some (.int .i64 (F i 1)) := by
  rcases h.at' with e | ⟨b, o, e, hc⟩
  · omega
  · exact ⟨b, o, e, cell_later hB (hc i 0 hi (by omega)), cell_later hB (hc i 1 hi (by omega))⟩
theorem i64_mask (n : Int) (k : Nat) (hk : k ≤ 40) (m : Int) (hm : m = ((2 ^ k : Nat) : Int) - 1) : bits .and .i64 n m = n % ((2 ^ k : Nat) : Int) := by
  subst hm
  have hp : 2 ^ k ≤ 2 ^ 40 := Nat.pow_le_pow_right (by decide) hk
  have hp0 : 0 < 2 ^ k := Nat.pow_pos (by decide)
  have h127 : (BitVec.ofInt 64 (((2 ^ k : Nat) : Int) - 1)).toNat = 2 ^ k - 1 := by
    rw [BitVec.toNat_ofInt]
    omega
  have key : (BitVec.ofInt 64 n &&& BitVec.ofInt 64 (((2 ^ k : Nat) : Int) - 1)).toNat = (n % ((2 ^ 64 : Nat) : Int)).toNat % 2 ^ k := by
    rw [BitVec.toNat_and, BitVec.toNat_ofInt, h127, Nat.and_two_pow_sub_one_eq_mod]
  show IntKind.i64.wrap ((BitVec.ofInt 64 n &&& BitVec.ofInt 64 (((2 ^ k : Nat) : Int) - 1)).toNat : Nat) = n % ((2 ^ k : Nat) : Int)
  have hd : (2 ^ k : Nat) ∣ 2 ^ 64 := Nat.pow_dvd_pow 2 (by omega)
  have e1 : (((n % ((2 ^ 64 : Nat) : Int)).toNat % 2 ^ k : Nat) : Int) = n % ((2 ^ k : Nat) : Int) := by
    rw [Int.natCast_emod, Int.toNat_of_nonneg (Int.emod_nonneg _ (by decide))]
    exact Int.emod_emod_of_dvd _ (by exact_mod_cast hd)
  rw [key, e1, IntKind.wrap_i64]
  have h1 := Int.emod_nonneg n (show ((2 ^ k : Nat) : Int) ≠ 0 by omega)
  have h2 := Int.emod_lt_of_pos n (show (0 : Int) < ((2 ^ k : Nat) : Int) by omega)
  omega
theorem mask3 (x : Int) : ∃ q : Nat, bits .and .i64 x 3 = (q : Int) ∧ q < 4 := by
  have h := i64_mask x 2 (by omega) 3 (by rfl)
  have e : ((2 ^ 2 : Nat) : Int) = 4 := rfl
  rw [e] at h
  exact ⟨(x % 4).toNat, by rw [h]; omega, by omega⟩
theorem mask7 (x : Int) : ∃ q : Nat, bits .and .i64 x 7 = (q : Int) ∧ q < 8 := by
  have h := i64_mask x 3 (by omega) 7 (by rfl)
  have e : ((2 ^ 3 : Nat) : Int) = 8 := rfl
  rw [e] at h
  exact ⟨(x % 8).toNat, by rw [h]; omega, by omega⟩
/-- Two fake clocks beside one another. -/
structure Two (W0 W : World) (fb gb : Nat) (x y : Int) : Prop where
  f : Fk W fb x
  g : Fk W gb y
  ne : fb ≠ gb
  lo : W0.heap.size ≤ fb ∧ W0.heap.size ≤ gb
  bel : Below W0.heap.size W0 W
theorem Two.step {W0 W W' : World} {fb gb : Nat} {x x' y : Int} (h : Two W0 W fb gb x y) (hf : Fk W' fb x') (hF : Tn (fun k => k = fb) W W') : Two W0 W' fb gb x' y :=
  ⟨hf, h.g.kept (hF.block _ (lt_of_at h.g) (Ne.symm h.ne)), h.ne, h.lo, h.bel.trans (hF.below h.bel.size (fun k hk => by subst hk; exact h.lo.1))⟩
set_option maxHeartbeats 2000000 in
theorem fakes_any (W0 : World) (t other : Int) (a : Option Addr) (n cap : Nat) (F : Nat → Nat → Int) (hs : PSl W0 a n cap F) (h1 : -9223372036854775808 ≤ t) (h2 : t ≤ 9223372036854775807) :
    Calls Try.prog 3 #[.int .i64 t, .int .i64 other, .slice a n cap] W0 fun e w' => e = .returned (.bool true) ∧ Below W0.heap.size W0 w' := by
  have HS : Hid (PSl W0 a n cap F) := hs
  have hle := hs.le
  have hlim := hs.lim
  clear hs
  go_enter Try.func3, Try.ntmps3
  go_wp2_with fail
  refine Calls.mono (newFake_any t W0) ?_
  rintro e w1 ⟨rfl, f1, b1⟩
  have H1 : Hid (Fk w1 W0.heap.size t ∧ Below W0.heap.size W0 w1) := ⟨f1, b1⟩
  clear f1 b1
  go_wp2_with fail
  refine Calls.mono (newFake_any other w1) ?_
  rintro e w2 ⟨rfl, f2, b2⟩
  obtain ⟨fb, efb⟩ : ∃ fb, fb = W0.heap.size := ⟨_, rfl⟩
  obtain ⟨gb, egb⟩ : ∃ gb, gb = w1.heap.size := ⟨_, rfl⟩
  have H2 : Hid (Two W0 w2 fb gb t other) := by
    obtain ⟨f1, b1⟩ := H1.out
    have hl := lt_of_at f1
    refine ⟨?_, by rw [egb]; exact f2, by omega, by have := b1.size; omega, b1.trans (b2.mono b1.size)⟩
    rw [efb]
    exact f1.kept (b2.block _ hl)
  rw [← egb, ← efb]
  clear H1 f2 b2 egb efb
  go_wp2_with fail
  go_loopw [9, 10] (fun x i wr => ∃ (k : Nat) (now : Int), k ≤ n ∧ k ≤ 200 ∧ i = .int .i64 (k : Int) ∧ x = .int .i64 now ∧ -9223372036854775808 ≤ now ∧ now ≤ 9223372036854775807 ∧ Hid (Two W0 wr fb gb now other)) (fun _ i _ => n - (intOf i).toNat)
  case atStart => exact ⟨0, t, by omega, by omega, rfl, rfl, h1, h2, H2⟩
  case round =>
    clear H2
    obtain ⟨k, now, hk, hk2, rfl, rfl, hn1, hn2, hI⟩ := hrel
    by_cases hkn : k < n ∧ k < 200
    · obtain ⟨hkn, hk200⟩ := hkn
      have d1 : decide ((k : Int) < (n : Int)) = true := decide_eq_true (by omega)
      have d2 : decide ((k : Int) < 200) = true := decide_eq_true (by omega)
      obtain ⟨b, o, rfl, c0, c1⟩ := HS.out.at hI.out.bel hkn
      obtain ⟨hd1, hd2⟩ := HS.out.wf k 1 hkn (by omega)
      obtain ⟨q, eq, hq⟩ := mask3 (F k 0)
      obtain ⟨d, ed⟩ : ∃ d, d = F k 1 := ⟨_, rfl⟩
      obtain ⟨kd, ekd⟩ : ∃ kd, kd = F k 0 := ⟨_, rfl⟩
      have HE : Hid (∀ W, Below W0.heap.size W0 W → W.cell? ⟨b, o + k * 2 + 1, none⟩ = some (.int .i64 d)) := fun W hB => by
        obtain ⟨b', o', e, _, c1'⟩ := HS.out.at hB hkn
        cases e
        rw [ed]
        exact c1'
      rw [← ed] at c1 hd1 hd2
      rw [← ekd] at c0 eq
      clear ed ekd
      have hcase : q = 0 ∨ q = 1 ∨ q = 2 ∨ q = 3 := by omega
      have REST : Hid (∀ (w5 : World) (x : Int), Two W0 w5 fb gb x other → (Calls Try.prog 11 #[.pointer (some ⟨fb, 0, none⟩)] w5 fun e w' => e = .returned (.int .i64 x) ∧ w5 = w') ∧ (Calls Try.prog 11 #[.pointer (some ⟨gb, 0, none⟩)] w5 fun e w' => e = .returned (.int .i64 other) ∧ w5 = w')) := fun w5 x h => ⟨(fakeNow_any fb x w5 h.f).mono fun e w' h => ⟨h.1, h.2.symm⟩, (fakeNow_any gb other w5 h.g).mono fun e w' h => ⟨h.1, h.2.symm⟩⟩
      rcases hcase with rfl | rfl | rfl | rfl
      · have eq' : bits .and .i64 kd 3 = 0 := eq
        clear eq hq
        go_wp2_with (first | (go_at_call 11; first | (refine Calls.mono (REST.out _ _ hI.out).1 ?_; rintro e w' ⟨rfl, rfl⟩) | (refine Calls.mono (REST.out _ _ hI.out).2 ?_; rintro e w' ⟨rfl, rfl⟩)))
        go_roundw
        case rel => exact ⟨k + 1, now, by omega, by omega, by go_num, rfl, hn1, hn2, hI⟩
        case measure => simp [intOf]; omega
      · have eq' : bits .and .i64 kd 3 = 1 := eq
        clear eq hq
        go_wp2_with fail
        refine Calls.mono (fakeSet_any fb now d _ hI.out.f) ?_
        rintro e w5 ⟨rfl, f5, t5⟩
        have H5 : Hid (Two W0 w5 fb gb d other) := hI.out.step f5 t5
        have c1' := HE.out w5 H5.out.bel
        clear f5 t5 c0 c1
        go_wp2_with (first | (go_at_call 11; first | (refine Calls.mono (REST.out _ _ H5.out).1 ?_; rintro e w' ⟨rfl, rfl⟩) | (refine Calls.mono (REST.out _ _ H5.out).2 ?_; rintro e w' ⟨rfl, rfl⟩)))
        go_roundw
        case rel => exact ⟨k + 1, d, by omega, by omega, by go_num, rfl, hd1, hd2, H5⟩
        case measure => simp [intOf]; omega
      · have eq' : bits .and .i64 kd 3 = 2 := eq
        clear eq hq
        go_wp2_with fail
        refine Calls.mono (fakeStep_any fb now d _ hI.out.f hn1 hn2 hd1 hd2) ?_
        rintro e w5 ⟨rfl, f5, t5⟩
        have H5 : Hid (Two W0 w5 fb gb (stp now d) other) := hI.out.step f5 t5
        have c1' := HE.out w5 H5.out.bel
        have hst := stp_in now d
        clear f5 t5 c0 c1
        go_wp2_with fail
        refine Calls.mono (refStep_any now d _ hn1 hn2 hd1 hd2) ?_
        rintro e w' ⟨rfl, h9⟩
        obtain rfl : w5 = w' := h9.symm
        clear h9
        generalize stp now d = x at hst H5 ⊢
        go_wp2_with (first | (go_at_call 11; first | (refine Calls.mono (REST.out _ _ H5.out).1 ?_; rintro e w' ⟨rfl, rfl⟩) | (refine Calls.mono (REST.out _ _ H5.out).2 ?_; rintro e w' ⟨rfl, rfl⟩)))
        go_roundw
        case rel => exact ⟨k + 1, x, by omega, by omega, by go_num, rfl, hst.1, hst.2, H5⟩
        case measure => simp [intOf]; omega
      · have eq' : bits .and .i64 kd 3 = 3 := eq
        clear eq hq
        go_wp2_with (first | (go_at_call 11; first | (refine Calls.mono (REST.out _ _ hI.out).1 ?_; rintro e w' ⟨rfl, rfl⟩) | (refine Calls.mono (REST.out _ _ hI.out).2 ?_; rintro e w' ⟨rfl, rfl⟩)))
        go_roundw
        case rel => exact ⟨k + 1, now, by omega, by omega, by go_num, rfl, hn1, hn2, hI⟩
        case measure => simp [intOf]; omega
    · by_cases hkn2 : k < n
      · have d1 : decide ((k : Int) < (n : Int)) = true := decide_eq_true (by omega)
        have d2 : decide ((k : Int) < 200) = false := decide_eq_false (by omega)
        go_wp2_with fail
        refine Calls.mono (fakeNow_any fb now _ hI.out.f) ?_
        rintro e w' ⟨rfl, h9⟩
        obtain rfl : wr = w' := h9.symm
        clear h9
        go_wp2_with fail
        refine Calls.mono (started_any _) ?_
        rintro e w6 ⟨rfl, b6⟩
        have H6 : Hid (Below W0.heap.size W0 w6) := hI.out.bel.trans (b6.mono hI.out.bel.size)
        clear b6
        go_wp2_with fail
        go_ret
        exact ⟨rfl, H6.out⟩
      · have d1 : decide ((k : Int) < (n : Int)) = false := decide_eq_false (by omega)
        go_wp2_with fail
        refine Calls.mono (fakeNow_any fb now _ hI.out.f) ?_
        rintro e w' ⟨rfl, h9⟩
        obtain rfl : wr = w' := h9.symm
        clear h9
        go_wp2_with fail
        refine Calls.mono (started_any _) ?_
        rintro e w6 ⟨rfl, b6⟩
        have H6 : Hid (Below W0.heap.size W0 w6) := hI.out.bel.trans (b6.mono hI.out.bel.size)
        clear b6
        go_wp2_with fail
        go_ret
        exact ⟨rfl, H6.out⟩
end Go.Proofs.Ytbhpapcfknjakaa
namespace Go.Proofs.Ytbhpapcfknjakaa
open Go.RowKit
set_option maxRecDepth 100000
set_option linter.unusedVariables false
theorem cut_h (g len cap h : Nat) (h2 : h ≤ cap) (h0 : 0 < cap) (o : Nat) (w : World) : (Instr.slice 32 (.slice (some ⟨g, o, none⟩) len cap) none (some (.int .i64 (h : Int))) none).run Try.prog w = .ok (.slice (some ⟨g, o, none⟩) h cap) w := by
  rw [run_slice_h (P := Try.prog) (kh := .i64) (h := (h : Int)) (ht := by kernel_rfl) (h0 := by omega) (h2 := by omega)]
  have hz : (sizeOf (Try.prog.elem 32)).run Try.prog w = .ok 1 w := by kernel_rfl
  rw [hz]
  have hne : ¬ cap = 0 := by omega
  simp [Result.andThen, sliced, Addr.add, hne]
theorem cut_some (ad : Addr) (len cap h : Nat) (h2 : h ≤ cap) (h0 : 0 < cap) (w : World) : (Instr.slice 32 (.slice (some ad) len cap) none (some (.int .i64 (h : Int))) none).run Try.prog w = .ok (.slice (some ad) h cap) w := by
  rw [run_slice_h (P := Try.prog) (kh := .i64) (h := (h : Int)) (ht := by kernel_rfl) (h0 := by omega) (h2 := by omega)]
  have hz : (sizeOf (Try.prog.elem 32)).run Try.prog w = .ok 1 w := by kernel_rfl
  rw [hz]
  have hne : ¬ cap = 0 := by omega
  simp [Result.andThen, sliced, Addr.add, hne]
def z7 (i : Nat) : Int := if i = 0 then -77 else -78
theorem isl_2 (w : World) : ISl (w.alloc (.cells #[.int .i64 (-77), .int .i64 (-78)] 3)) (some ⟨w.heap.size, 0, none⟩) 2 2 z7 := by
  refine ⟨Nat.le_refl _, by omega, (fun e => by cases e), fun i hi => by unfold z7; split <;> omega, .inr ⟨_, _, rfl, fun i hi => ?_⟩⟩
  match i, hi with
  | 0, _ => simp [go_sem, z7]
  | 1, _ => simp [go_sem, z7]
/-- A row of which the last two cells are what they were. -/
def Rowz (W : World) (g m : Nat) : Prop := ∃ cur : Array Value, W.heap[g]? = some (.cells cur 3) ∧ m + 2 ≤ cur.size ∧ cur[m]? = some (.int .i64 (-77)) ∧ cur[m + 1]? = some (.int .i64 (-78))
theorem Rowz.cells {W : World} {g m : Nat} (h : Rowz W g m) : W.cell? ⟨g, m, none⟩ = some (.int .i64 (-77)) ∧ W.cell? ⟨g, m + 1, none⟩ = some (.int .i64 (-78)) := by
  obtain ⟨cur, e, _, h1, h2⟩ := h
  simp [World.cell?, e, h1, h2]
theorem Rowz.cell {W : World} {g m j : Nat} (h : Rowz W g m) (hj : j < m) : (∃ v, W.cell? ⟨g, j, none⟩ = some v) ∧ W.frozen? ⟨g, j, none⟩ = false := by
  obtain ⟨cur, e, hs, h1, h2⟩ := h
  refine ⟨⟨cur[j]'(by omega), ?_⟩, by simp [World.frozen?, e]⟩
  simp [World.cell?, e]
theorem Rowz.set {W : World} {g m j : Nat} (h : Rowz W g m) (hj : j < m) (v : Value) : Rowz (W.setCell ⟨g, j, none⟩ v) g m := by
  obtain ⟨cur, e, hs, h1, h2⟩ := h
  have := heap_setCell_same W g j _ _ v e
  refine ⟨_, this, by simpa using hs, ?_, ?_⟩
  · simp only [Array.setIfInBounds]
    split
    · rw [Array.getElem?_set_ne]
      · exact h1
      · omega
    · exact h1
  · simp only [Array.setIfInBounds]
    split
    · rw [Array.getElem?_set_ne]
      · exact h2
      · omega
    · exact h2
theorem Rowz.kept {W W' : World} {g m : Nat} (h : Rowz W g m) (hk : ∀ cs : Array Value, W.heap[g]? = some (.cells cs 3) → W'.heap[g]? = W.heap[g]?) : Rowz W' g m := by
  obtain ⟨cur, e, h2⟩ := h
  exact ⟨cur, (hk _ e).trans e, h2⟩
theorem Rowz.lt {W : World} {g m : Nat} (h : Rowz W g m) : g < W.heap.size := by
  obtain ⟨cur, e, h2⟩ := h
  exact lt_of_at e
theorem rowz_of {W : World} {base m : Nat} {v : Value} {z : Nat → Int} (h : W.ownsRow base 3 1 v (m + 2) (ints m z ++ ints 2 z7)) : ∃ g cap, v = .slice (some ⟨g, 0, none⟩) (m + 2) cap ∧ m + 2 ≤ cap ∧ cap ≤ 9223372036854775807 ∧ base ≤ g ∧ Rowz W g m ∧ ∀ i, i < m → W.cell? ⟨g, i, none⟩ = some (.int .i64 (z i)) := by
  rcases h.2 with ⟨e, e0⟩ | ⟨g, cap, cur, e, h1, h2, h3, h4, h5, h6⟩
  · omega
  · have at' : ∀ i, i < m + 2 → cur[i]? = (ints m z ++ ints 2 z7)[i]? := fun i hi => by
      have q4 := congrArg (fun l => l[i]?) h6
      simp only [Nat.mul_one] at q4
      rw [List.getElem?_take_of_lt hi, Array.getElem?_toList] at q4
      exact q4
    refine ⟨g, cap, e, h3, by simpa [maxLen] using h4, h1, ⟨cur, h2, by omega, ?_, ?_⟩, fun i hi => ?_⟩
    · rw [at' m (by omega), List.getElem?_append_right (by rw [ints_len]; omega), ints_len, Nat.sub_self]
      rfl
    · rw [at' (m + 1) (by omega), List.getElem?_append_right (by rw [ints_len]; omega), ints_len, show m + 1 - m = 1 by omega]
      rfl
    · have := at' i (by omega)
      rw [List.getElem?_append_left (by rw [ints_len]; omega), ints_at m z i hi] at this
      simp [World.cell?, h2, this]
/-- What the law holds: the row, the clock. -/
structure Ss (W0 W : World) (g sb m : Nat) (z : Nat → Int) (i lb : Nat) : Prop where
  row : Rowz W g m
  sp : Sp W sb m z i lb
  lo : W0.heap.size ≤ g ∧ W0.heap.size ≤ sb ∧ g < lb
  bel : Below W0.heap.size W0 W
theorem Ss.set {W0 W : World} {g sb m : Nat} {z : Nat → Int} {i lb : Nat} (h : Ss W0 W g sb m z i lb) {j : Nat} (hj : j < m) (v : Value) : Ss W0 (W.setCell ⟨g, j, none⟩ v) g sb m z i lb := by
  obtain ⟨cur, e, _⟩ := h.row
  refine ⟨h.row.set hj v, h.sp.keptL (fun cs e2 => Below.heap_setCell _ _ _ _ (show sb ≠ g from ne_of_type e2 e (by decide))) (fun k cs hk e2 => Below.heap_setCell _ _ _ _ (show k ≠ g by have := h.lo; omega)), h.lo, h.bel.setCell h.lo.1 _⟩
theorem Ss.below {W0 W W' : World} {g sb m : Nat} {z : Nat → Int} {i lb : Nat} (h : Ss W0 W g sb m z i lb) (hB : Below W.heap.size W W') : Ss W0 W' g sb m z i lb :=
  ⟨h.row.kept (fun cs e => hB.block _ (lt_of_at e)), h.sp.kept (fun cs e => hB.block _ (lt_of_at e)) (fun g cs e => hB.block _ (lt_of_at e)), h.lo, h.bel.trans (hB.mono h.bel.size)⟩
theorem Ss.now {W0 W W' : World} {g sb m : Nat} {z : Nat → Int} {i i' lb : Nat} (h : Ss W0 W g sb m z i lb) (h1 : Sp W' sb m z i' lb) (hF : Tn (fun k => k = sb) W W') : Ss W0 W' g sb m z i' lb := by
  obtain ⟨a, cap, e1, _⟩ := h.sp.ex
  exact ⟨h.row.kept (fun cs e => hF.block _ (lt_of_at e) (show g ≠ sb from ne_of_type e e1 (by decide))), h1, h.lo, h.bel.trans (hF.below h.bel.size (fun k hk => by subst hk; exact h.lo.2.1))⟩
theorem Ss.tick {W0 W W' : World} {g sb m kb : Nat} {t : Int} {n : Nat} {z : Nat → Int} {i lb : Nat} (h : Ss W0 W g sb m z i lb) (hk : Tk W kb t n) (hF : Tn (fun k => k = kb) W W') (hl : W0.heap.size ≤ kb) : Ss W0 W' g sb m z i lb :=
  ⟨h.row.kept (fun cs e => hF.block _ (lt_of_at e) (show g ≠ kb from ne_of_type e hk (by decide))), h.sp.kept (fun cs e => hF.block _ (lt_of_at e) (show sb ≠ kb from ne_of_type e hk (by decide))) (fun g cs e => hF.block _ (lt_of_at e) (show g ≠ kb from ne_of_type e hk (by decide))), h.lo, h.bel.trans (hF.below h.bel.size (fun k hk => by subst hk; exact hl))⟩
/-- From the first append on: the slice's length is m. -/
def StepsGo : Prop := True
set_option maxHeartbeats 4000000 in
theorem steps_any (W0 : World) (a : Option Addr) (n cap : Nat) (z : Nat → Int) (more : Int) (hs : ISl W0 a n cap z) (hm1 : -9223372036854775808 ≤ more) (hm2 : more ≤ 9223372036854775807) :
    Calls Try.prog 4 #[.slice a n cap, .int .i64 more] W0 fun e w' => e = .returned (.bool true) ∧ Below W0.heap.size W0 w' := by
  have hle := hs.le
  have hlim := hs.lim
  have both : ∃ (m : Nat), m ≤ 300 ∧ ((m = n ∧ decide (300 < n) = false) ∨ (m = 300 ∧ decide (300 < n) = true)) := by
    rcases Nat.lt_or_ge 300 n with e | e
    · exact ⟨300, Nat.le_refl _, .inr ⟨rfl, decide_eq_true e⟩⟩
    · exact ⟨n, e, .inl ⟨rfl, decide_eq_false (by omega)⟩⟩
  obtain ⟨m, hm, hmn⟩ := both
  have hmle : m ≤ n := by
    rcases hmn with ⟨e, _⟩ | ⟨e, d⟩
    · omega
    · have := of_decide_eq_true d; omega
  have HS : Hid (ISl W0 a m cap z) := hs.take hmle
  have sl : m = 300 → (Instr.slice 32 (.slice a n cap) none (some (.int .i64 300)) none).run Try.prog W0 = .ok (.slice a m cap) W0 := fun e => by
    cases a with
    | none => have := hs.nil rfl; omega
    | some ad => rw [show (300 : Int) = ((m : Nat) : Int) by omega]; exact cut_some ad n cap m (by omega) (by omega) W0
  obtain ⟨q, eq, hq⟩ := mask7 more
  have hmc := HS.out.le
  clear hs
  -- WALK
  rcases hmn with ⟨hmn, hd⟩ | ⟨hmn, hd⟩
  · subst hmn
    have hd2 : ¬ 300 < m := by omega
    clear sl hd hle hmle
    go_enter Try.func4, Try.ntmps4
    go_upto_region 4 with fail
    obtain ⟨v0, ev0⟩ : ∃ v0, v0 = Value.slice none 0 0 := ⟨_, rfl⟩
    rw [← ev0]
    have HN : Hid (W0.ownsRow W0.heap.size 3 1 v0 0 [] ∧ v0.ownBlock = none) := by rw [ev0]; exact ⟨World.ownsRow_nil W0 _ _ _, rfl⟩
    clear ev0
    go_upto_region 5 with (refine (id ?_ : wpList Try.prog _ _ (⟨some 18, _, _, _, _, _⟩ :: _) _ _); refine wp_appRow rfl _ _ rfl W0.heap.size _ _ _ rfl HN.out.1 a m cap z rfl HS.out (by omega) (Nat.le_refl _) ?_; intro v1 w1 h1)
    have H1 : Hid (w1.ownsRow W0.heap.size 3 1 v1 m (ints m z) ∧ Below W0.heap.size W0 w1) := by
      obtain ⟨q1, q2, _⟩ := h1.out
      exact ⟨by simpa using q1, bel_grownBy (Below.refl _ _) q2 (Nat.le_refl _) (fun g e => by have e2 : v0.ownBlock = some g := e; rw [HN.out.2] at e2; cases e2)⟩
    clear h1 HN
    obtain ⟨va, vc, ev⟩ : ∃ va vc, v1 = .slice va m vc := by
      rcases H1.out.1.2 with ⟨e, e0⟩ | ⟨g, cap', cur, e, _⟩
      · exact ⟨none, 0, by rw [e, e0]⟩
      · exact ⟨_, _, e⟩
    subst ev
    have H2 : Hid ((w1.alloc (.cells #[.int .i64 (-77), .int .i64 (-78)] 3)).ownsRow W0.heap.size 3 1 (.slice va m vc) m (ints m z)) := H1.out.1.alloc _
    go_upto_region 6 with (refine (id ?_ : wpList Try.prog _ _ (⟨some 21, _, _, _, _, _⟩ :: _) _ _); refine wp_appRow rfl _ _ rfl W0.heap.size _ _ _ rfl H2.out (some ⟨w1.heap.size, 0, none⟩) 2 2 z7 rfl (isl_2 w1) (by omega) (by have := H1.out.2.size; simp; omega) ?_; intro v2 w2 h2)
    obtain ⟨g, cap2, ev, hc1, hc2, hbg, hrow, hcells⟩ := rowz_of h2.out.1
    subst ev
    have B2 : Below W0.heap.size W0 w2 := by
      obtain ⟨q1, q2, _⟩ := h2.out
      refine bel_grownBy (H1.out.2.alloc H1.out.2.size _) q2 (by have := H1.out.2.size; simp; omega) (fun k e => ?_)
      rcases H1.out.1.2 with ⟨e', _⟩ | ⟨g', _, _, e', hb', _⟩
      · have e2 : (Value.slice va m vc).ownBlock = some k := e
        rw [e'] at e2
        cases e2
      · have e2 : (Value.slice va m vc).ownBlock = some k := e
        rw [e'] at e2
        cases e2
        exact hb'
    have H3 : Hid (Rowz w2 g m ∧ Below W0.heap.size W0 w2 ∧ ISl w2 (some ⟨g, 0, none⟩) m cap2 z ∧ W0.heap.size ≤ g ∧ g < w2.heap.size) := ⟨hrow, B2, ⟨by omega, hc2, (fun e => by cases e), HS.out.wf, .inr ⟨g, 0, rfl, fun i hi => by rw [Nat.zero_add]; exact hcells i hi⟩⟩, hbg, hrow.lt⟩
    clear h2 H1 H2 hrow hcells B2 hbg
    have cut := cut_h g (m + 2) cap2 m (by omega) (by omega) 0 w2
    go_wp2_with fail
    refine Calls.mono (newSteps_lb (some ⟨g, 0, none⟩) m cap2 z _ H3.out.2.2.1 (by omega)) ?_
    rintro e w3 ⟨sb, rfl, g1, g2, g3⟩
    obtain ⟨lb, elb⟩ : ∃ lb, lb = w2.heap.size := ⟨_, rfl⟩
    have H4 : Hid (Ss W0 w3 g sb m z 0 lb) := by
      obtain ⟨q1, q2, q3, q4, q5⟩ := H3.out
      refine ⟨q1.kept (fun cs e => g3.block _ (lt_of_at e)), by rw [elb]; exact g2, ⟨q4, by have := q2.size; omega, by omega⟩, q2.trans (g3.mono q2.size)⟩
    clear g1 g2 g3 elb H3 cut
    go_wp2_with fail
    go_loopw [7] (fun t wr => ∃ (j : Nat), j ≤ m ∧ t = .int .i64 (j : Int) ∧ Hid (Ss W0 wr g sb m z 0 lb)) (fun t _ => m - (intOf t).toNat)
    case atStart => exact ⟨0, by omega, rfl, H4⟩
    case round =>
      clear H4
      obtain ⟨j, hj, rfl, hI⟩ := hrel
      by_cases hjm : j < m
      · obtain ⟨⟨v, cv⟩, fv⟩ := hI.out.row.cell hjm
        have H5 : Hid (Ss W0 (wr.setCell ⟨g, j, none⟩ (.int .i64 123456)) g sb m z 0 lb) := hI.out.set hjm _
        have hjm2 : j < m + 2 := by omega
        go_wp2_with fail
        go_roundw
        case rel => exact ⟨j + 1, by omega, by go_num, H5⟩
        case measure => simp [intOf]; omega
      · go_wp2_with fail
        go_loopw [8] (fun t wr => ∃ (i : Nat), i ≤ m + q ∧ t = .int .i64 (i : Int) ∧ Hid (Ss W0 wr g sb m z i lb)) (fun t _ => m + q - (intOf t).toNat)
        case atStart => exact ⟨0, by omega, rfl, hI⟩
        case round =>
          clear hI
          obtain ⟨i, hi, rfl, hI⟩ := hrel
          by_cases him : i < m + q
          · have himi : (i : Int) < (m : Int) + (q : Int) := by omega
            obtain ⟨tv, etv⟩ : ∃ tv, tv = told z m i := ⟨_, rfl⟩
            have SN : Hid (Calls Try.prog 14 #[.pointer (some ⟨sb, 0, none⟩)] wr fun e w' => e = .returned (.int .i64 tv) ∧ Ss W0 w' g sb m z (i + 1) lb) := by
              rw [etv]
              exact (stepsNow_lb sb m z i lb _ hI.out.sp).mono fun e w' ⟨h1, h2, h3⟩ => ⟨h1, hI.out.now h2 h3⟩
            have RT : Hid (∀ w', Below W0.heap.size W0 w' → Calls Try.prog 15 #[.slice a m cap, .int .i64 (i : Int)] w' fun e w2 => e = .returned (.int .i64 tv) ∧ w' = w2) := fun w' hB => by
              rw [etv]
              exact (refTold_any a m cap z i w' (HS.out.mono hB) (by omega)).mono fun e w2 h => ⟨h.1, h.2.symm⟩
            clear etv
            go_wp2_with fail
            refine Calls.mono SN.out ?_
            rintro e w5 ⟨rfl, g1⟩
            have H5 : Hid (Ss W0 w5 g sb m z (i + 1) lb) := g1
            clear g1 hI
            go_wp2_with fail
            refine Calls.mono (RT.out _ H5.out.bel) ?_
            rintro e w6 ⟨rfl, rfl⟩
            go_wp2_with fail
            go_roundw
            case rel => exact ⟨i + 1, by omega, by go_num, H5⟩
            case measure => simp [intOf]; omega
          · have himi : ¬ (i : Int) < (m : Int) + (q : Int) := by omega
            obtain ⟨W1, hW1⟩ : ∃ W1, W1 = wr.alloc (.cells #[.int .i64 more, .int .i64 0] 38) := ⟨_, rfl⟩
            obtain ⟨kb, ekb⟩ : ∃ kb, kb = wr.heap.size := ⟨_, rfl⟩
            have H5 : Hid (Ss W0 W1 g sb m z i lb ∧ Tk W1 kb more 0 ∧ W0.heap.size ≤ kb) := by
              refine ⟨by rw [hW1]; exact hI.out.below ((Below.refl _ _).alloc (Nat.le_refl _) _), by rw [hW1, ekb]; exact (MapKept.heap_alloc _ _).1, by rw [ekb]; exact hI.out.bel.size⟩
            have HW : Hid (wr.alloc (.cells #[.int .i64 more, .int .i64 0] 38) = W1 ∧ wr.heap.size = kb) := ⟨hW1.symm, ekb.symm⟩
            clear hW1 ekb hI
            go_upto_region 19 with fail
            rw [HW.out.1, HW.out.2]
            go_wp2_with fail
            refine Calls.mono (funcNow_any kb more 0 _ H5.out.2.1 (by omega)) ?_
            rintro e w6 ⟨rfl, g1, g2⟩
            have H6 : Hid (Ss W0 w6 g sb m z i lb ∧ Tk w6 kb more 1) := ⟨H5.out.1.tick H5.out.2.1 g2 H5.out.2.2, g1⟩
            clear g1 g2
            go_wp2_with fail
            refine Calls.mono (funcNow_any kb more 1 _ H6.out.2 (by omega)) ?_
            rintro e w7 ⟨rfl, g1, g2⟩
            have H7 : Hid (Ss W0 w7 g sb m z i lb ∧ Tk w7 kb more 2) := ⟨H6.out.1.tick H6.out.2 g2 H5.out.2.2, g1⟩
            obtain ⟨_, k1, _, _⟩ := H7.out.2.cells
            have k1' : w7.cell? ⟨kb, 1, none⟩ = some (.int .i64 2) := k1
            obtain ⟨r1, r2⟩ := H7.out.1.row.cells
            have hm2a : m < m + 2 := by omega
            have hm2b : m + 1 < m + 2 := by omega
            clear g1 g2 H6 H5 k1
            go_wp2_with fail
            refine Calls.mono (funcNow_none _) ?_
            rintro e w8 ⟨rfl, h9⟩
            obtain rfl : w7 = w8 := h9.symm
            clear h9
            go_wp2_with fail
            refine Calls.mono (started_any _) ?_
            rintro e w9 ⟨rfl, b9⟩
            have H9 : Hid (Below W0.heap.size W0 w9) := H7.out.1.bel.trans (b9.mono H7.out.1.bel.size)
            clear b9
            go_wp2_with fail
            go_ret
            exact ⟨rfl, H9.out⟩
  · have sl := sl hmn
    have hd2 : 300 < n := of_decide_eq_true hd
    clear hd
    have HM : Hid (m = 300) := hmn
    clear hmn
    go_enter Try.func4, Try.ntmps4
    go_upto_region 4 with fail
    obtain ⟨v0, ev0⟩ : ∃ v0, v0 = Value.slice none 0 0 := ⟨_, rfl⟩
    rw [← ev0]
    have HN : Hid (W0.ownsRow W0.heap.size 3 1 v0 0 [] ∧ v0.ownBlock = none) := by rw [ev0]; exact ⟨World.ownsRow_nil W0 _ _ _, rfl⟩
    clear ev0
    go_upto_region 5 with (refine (id ?_ : wpList Try.prog _ _ (⟨some 18, _, _, _, _, _⟩ :: _) _ _); refine wp_appRow rfl _ _ rfl W0.heap.size _ _ _ rfl HN.out.1 a m cap z rfl HS.out (by omega) (Nat.le_refl _) ?_; intro v1 w1 h1)
    have H1 : Hid (w1.ownsRow W0.heap.size 3 1 v1 m (ints m z) ∧ Below W0.heap.size W0 w1) := by
      obtain ⟨q1, q2, _⟩ := h1.out
      exact ⟨by simpa using q1, bel_grownBy (Below.refl _ _) q2 (Nat.le_refl _) (fun g e => by have e2 : v0.ownBlock = some g := e; rw [HN.out.2] at e2; cases e2)⟩
    clear h1 HN
    obtain ⟨va, vc, ev⟩ : ∃ va vc, v1 = .slice va m vc := by
      rcases H1.out.1.2 with ⟨e, e0⟩ | ⟨g, cap', cur, e, _⟩
      · exact ⟨none, 0, by rw [e, e0]⟩
      · exact ⟨_, _, e⟩
    subst ev
    have H2 : Hid ((w1.alloc (.cells #[.int .i64 (-77), .int .i64 (-78)] 3)).ownsRow W0.heap.size 3 1 (.slice va m vc) m (ints m z)) := H1.out.1.alloc _
    go_upto_region 6 with (refine (id ?_ : wpList Try.prog _ _ (⟨some 21, _, _, _, _, _⟩ :: _) _ _); refine wp_appRow rfl _ _ rfl W0.heap.size _ _ _ rfl H2.out (some ⟨w1.heap.size, 0, none⟩) 2 2 z7 rfl (isl_2 w1) (by omega) (by have := H1.out.2.size; simp; omega) ?_; intro v2 w2 h2)
    obtain ⟨g, cap2, ev, hc1, hc2, hbg, hrow, hcells⟩ := rowz_of h2.out.1
    subst ev
    have B2 : Below W0.heap.size W0 w2 := by
      obtain ⟨q1, q2, _⟩ := h2.out
      refine bel_grownBy (H1.out.2.alloc H1.out.2.size _) q2 (by have := H1.out.2.size; simp; omega) (fun k e => ?_)
      rcases H1.out.1.2 with ⟨e', _⟩ | ⟨g', _, _, e', hb', _⟩
      · have e2 : (Value.slice va m vc).ownBlock = some k := e
        rw [e'] at e2
        cases e2
      · have e2 : (Value.slice va m vc).ownBlock = some k := e
        rw [e'] at e2
        cases e2
        exact hb'
    have H3 : Hid (Rowz w2 g m ∧ Below W0.heap.size W0 w2 ∧ ISl w2 (some ⟨g, 0, none⟩) m cap2 z ∧ W0.heap.size ≤ g ∧ g < w2.heap.size) := ⟨hrow, B2, ⟨by omega, hc2, (fun e => by cases e), HS.out.wf, .inr ⟨g, 0, rfl, fun i hi => by rw [Nat.zero_add]; exact hcells i hi⟩⟩, hbg, hrow.lt⟩
    clear h2 H1 H2 hrow hcells B2 hbg
    have cut := cut_h g (m + 2) cap2 m (by omega) (by omega) 0 w2
    go_wp2_with fail
    refine Calls.mono (newSteps_lb (some ⟨g, 0, none⟩) m cap2 z _ H3.out.2.2.1 (by omega)) ?_
    rintro e w3 ⟨sb, rfl, g1, g2, g3⟩
    obtain ⟨lb, elb⟩ : ∃ lb, lb = w2.heap.size := ⟨_, rfl⟩
    have H4 : Hid (Ss W0 w3 g sb m z 0 lb) := by
      obtain ⟨q1, q2, q3, q4, q5⟩ := H3.out
      refine ⟨q1.kept (fun cs e => g3.block _ (lt_of_at e)), by rw [elb]; exact g2, ⟨q4, by have := q2.size; omega, by omega⟩, q2.trans (g3.mono q2.size)⟩
    clear g1 g2 g3 elb H3 cut
    go_wp2_with fail
    go_loopw [7] (fun t wr => ∃ (j : Nat), j ≤ m ∧ t = .int .i64 (j : Int) ∧ Hid (Ss W0 wr g sb m z 0 lb)) (fun t _ => m - (intOf t).toNat)
    case atStart => exact ⟨0, by omega, rfl, H4⟩
    case round =>
      clear H4
      obtain ⟨j, hj, rfl, hI⟩ := hrel
      by_cases hjm : j < m
      · obtain ⟨⟨v, cv⟩, fv⟩ := hI.out.row.cell hjm
        have H5 : Hid (Ss W0 (wr.setCell ⟨g, j, none⟩ (.int .i64 123456)) g sb m z 0 lb) := hI.out.set hjm _
        have hjm2 : j < m + 2 := by omega
        go_wp2_with fail
        go_roundw
        case rel => exact ⟨j + 1, by omega, by go_num, H5⟩
        case measure => simp [intOf]; omega
      · go_wp2_with fail
        go_loopw [8] (fun t wr => ∃ (i : Nat), i ≤ m + q ∧ t = .int .i64 (i : Int) ∧ Hid (Ss W0 wr g sb m z i lb)) (fun t _ => m + q - (intOf t).toNat)
        case atStart => exact ⟨0, by omega, rfl, hI⟩
        case round =>
          clear hI
          obtain ⟨i, hi, rfl, hI⟩ := hrel
          by_cases him : i < m + q
          · have himi : (i : Int) < (m : Int) + (q : Int) := by omega
            obtain ⟨tv, etv⟩ : ∃ tv, tv = told z m i := ⟨_, rfl⟩
            have SN : Hid (Calls Try.prog 14 #[.pointer (some ⟨sb, 0, none⟩)] wr fun e w' => e = .returned (.int .i64 tv) ∧ Ss W0 w' g sb m z (i + 1) lb) := by
              rw [etv]
              exact (stepsNow_lb sb m z i lb _ hI.out.sp).mono fun e w' ⟨h1, h2, h3⟩ => ⟨h1, hI.out.now h2 h3⟩
            have RT : Hid (∀ w', Below W0.heap.size W0 w' → Calls Try.prog 15 #[.slice a m cap, .int .i64 (i : Int)] w' fun e w2 => e = .returned (.int .i64 tv) ∧ w' = w2) := fun w' hB => by
              rw [etv]
              exact (refTold_any a m cap z i w' (HS.out.mono hB) (by omega)).mono fun e w2 h => ⟨h.1, h.2.symm⟩
            clear etv
            go_wp2_with fail
            refine Calls.mono SN.out ?_
            rintro e w5 ⟨rfl, g1⟩
            have H5 : Hid (Ss W0 w5 g sb m z (i + 1) lb) := g1
            clear g1 hI
            go_wp2_with fail
            refine Calls.mono (RT.out _ H5.out.bel) ?_
            rintro e w6 ⟨rfl, rfl⟩
            go_wp2_with fail
            go_roundw
            case rel => exact ⟨i + 1, by omega, by go_num, H5⟩
            case measure => simp [intOf]; omega
          · have himi : ¬ (i : Int) < (m : Int) + (q : Int) := by omega
            obtain ⟨W1, hW1⟩ : ∃ W1, W1 = wr.alloc (.cells #[.int .i64 more, .int .i64 0] 38) := ⟨_, rfl⟩
            obtain ⟨kb, ekb⟩ : ∃ kb, kb = wr.heap.size := ⟨_, rfl⟩
            have H5 : Hid (Ss W0 W1 g sb m z i lb ∧ Tk W1 kb more 0 ∧ W0.heap.size ≤ kb) := by
              refine ⟨by rw [hW1]; exact hI.out.below ((Below.refl _ _).alloc (Nat.le_refl _) _), by rw [hW1, ekb]; exact (MapKept.heap_alloc _ _).1, by rw [ekb]; exact hI.out.bel.size⟩
            have HW : Hid (wr.alloc (.cells #[.int .i64 more, .int .i64 0] 38) = W1 ∧ wr.heap.size = kb) := ⟨hW1.symm, ekb.symm⟩
            clear hW1 ekb hI
            go_upto_region 19 with fail
            rw [HW.out.1, HW.out.2]
            go_wp2_with fail
            refine Calls.mono (funcNow_any kb more 0 _ H5.out.2.1 (by omega)) ?_
            rintro e w6 ⟨rfl, g1, g2⟩
            have H6 : Hid (Ss W0 w6 g sb m z i lb ∧ Tk w6 kb more 1) := ⟨H5.out.1.tick H5.out.2.1 g2 H5.out.2.2, g1⟩
            clear g1 g2
            go_wp2_with fail
            refine Calls.mono (funcNow_any kb more 1 _ H6.out.2 (by omega)) ?_
            rintro e w7 ⟨rfl, g1, g2⟩
            have H7 : Hid (Ss W0 w7 g sb m z i lb ∧ Tk w7 kb more 2) := ⟨H6.out.1.tick H6.out.2 g2 H5.out.2.2, g1⟩
            obtain ⟨_, k1, _, _⟩ := H7.out.2.cells
            have k1' : w7.cell? ⟨kb, 1, none⟩ = some (.int .i64 2) := k1
            obtain ⟨r1, r2⟩ := H7.out.1.row.cells
            have hm2a : m < m + 2 := by omega
            have hm2b : m + 1 < m + 2 := by omega
            clear g1 g2 H6 H5 k1
            go_wp2_with fail
            refine Calls.mono (funcNow_none _) ?_
            rintro e w8 ⟨rfl, h9⟩
            obtain rfl : w7 = w8 := h9.symm
            clear h9
            go_wp2_with fail
            refine Calls.mono (started_any _) ?_
            rintro e w9 ⟨rfl, b9⟩
            have H9 : Hid (Below W0.heap.size W0 w9) := H7.out.1.bel.trans (b9.mono H7.out.1.bel.size)
            clear b9
            go_wp2_with fail
            go_ret
            exact ⟨rfl, H9.out⟩
end Go.Proofs.Ytbhpapcfknjakaa
namespace Go.Proofs.Ytbhpapcfknjakaa
open Go.RowKit
set_option linter.unusedVariables false
theorem wf_i64 {n : Int} (h : (Lit.int .i64 n).wf = true) : -9223372036854775808 ≤ n ∧ n ≤ 9223372036854775807 := by
  have hmin : IntKind.i64.min = -9223372036854775808 := rfl
  have hmax : IntKind.i64.max = 9223372036854775807 := rfl
  have h2 : IntKind.i64.min ≤ n ∧ n ≤ IntKind.i64.max := by simpa [Lit.wf] using h
  rw [hmin, hmax] at h2
  exact h2
theorem isl_none (w : World) : ISl w none 0 0 (fun _ => 0) := ⟨Nat.le_refl _, by omega, fun _ => ⟨rfl, rfl⟩, fun i hi => by omega, .inl rfl⟩
theorem isl_of {w : World} {a : Addr} {len cap : Nat} {zs : List Int} (hl : len ≤ cap) (hm : cap ≤ maxLen) (hz : zs.length = cap) (h : ∀ i, i < zs.length → w.cell? (a.add i) = some (.int .i64 (zs.getD i 0))) (hw : ∀ n ∈ zs, (Lit.int .i64 n).wf = true) : ISl w (some a) len cap (fun i => zs.getD i 0) := by
  refine ⟨hl, by simp only [maxLen] at hm; omega, (fun e => by cases e), fun i hi => ?_, ?_⟩
  · have : zs.getD i 0 ∈ zs := by
      rw [List.getD_eq_getElem?_getD, List.getElem?_eq_getElem (by omega)]
      exact List.getElem_mem _
    exact wf_i64 (hw _ this)
  · rcases Nat.eq_zero_or_pos len with e | e
    · exact .inl e
    · obtain ⟨b, off, spot⟩ := a
      have hc := h 0 (by omega)
      have hspot : spot = none := by simpa [Addr.add] using World.cell?_spot hc
      subst hspot
      refine .inr ⟨b, off, rfl, fun i hi => ?_⟩
      have h1 := h i (by omega)
      rw [addr_add] at h1
      exact h1
theorem add_more (a : Addr) (m j : Nat) : (a.add m).add j = a.add (m + j) := by
  unfold Addr.add
  rcases Nat.eq_zero_or_pos m with e | e
  · subst e; simp
  · rcases Nat.eq_zero_or_pos j with e2 | e2
    · subst e2; simp
    · rw [if_neg (by omega), if_neg (by omega), if_neg (by omega)]
      simp [Nat.add_assoc]
theorem stepsK_of {K : Nat} {H : Type} {enc : TypeId × Value → H} {P : Program} {w : World} {base : Nat} {spare : Nat → Bool} {held : Bool} {t e : TypeId} {fuel : Nat} {cs : List Value} {x : DataW H × List MemPlace} {fs : Array Field}
    (ht : P.underlying t = some (.slice e)) (he : P.underlying e = some (.struct fs)) (ce : P.cellsOf e = K) (hsz : fs.size = K)
    (hf : ∀ j, j < K → ∃ f, fs[j]? = some f ∧ f.offset = j ∧ P.cellsOf f.type = 1 ∧ P.underlying f.type = some (.int .i64)) (h : DataW.trod enc P w base spare held fuel t cs = some x) :
    cs = [.slice none 0 0] ∨ ∃ (a : Addr) (len cap : Nat), cs = [.slice (some a) len cap] ∧ len ≤ cap ∧ cap ≤ maxLen ∧ ∀ i j, i < len → j < K → ∃ v, w.cell? (a.add (i * K + j)) = some (.int .i64 v) ∧ (Lit.int .i64 v).wf = true := by
  rcases Deep.open_slice ht h with ⟨h0, _⟩ | ⟨a, len, cap, m, n, D, Pl, rfl, hb, hl, hm, hmm, _, hx⟩
  · exact .inl h0
  · refine .inr ⟨a, len, cap, rfl, hl, hm, fun i j hi hj => ?_⟩
    have hlm : len ≤ m := by rw [hmm]; split <;> omega
    obtain ⟨cs', h1, h2⟩ := hx i (by omega)
    rw [ce] at h1
    obtain ⟨_, hlen, hcell⟩ := World.cells?_some h1
    obtain ⟨xs, k, _, _, _, hxl, hff⟩ := DataW.trod_struct he h2
    obtain ⟨f, f1, f2, f3, f4⟩ := hf j hj
    have g := hff j f f1
    rw [f2, f3] at g
    have hxj : ∃ y, xs[j]? = some y := ⟨_, List.getElem?_eq_getElem (by omega)⟩
    obtain ⟨y, hy⟩ := hxj
    rw [hy] at g
    obtain ⟨v, hv, _, hw⟩ := DataW.trod_int f4 g
    refine ⟨v, ?_, hw⟩
    have e1 := hcell j hj
    rw [add_more] at e1
    rw [e1]
    have e2 := congrArg (fun l => l[0]?) hv
    simpa using e2
theorem psl_of {w : World} {a : Addr} {len cap : Nat} (hl : len ≤ cap) (hm : cap ≤ maxLen) (h : ∀ i j, i < len → j < 2 → ∃ v, w.cell? (a.add (i * 2 + j)) = some (.int .i64 v) ∧ (Lit.int .i64 v).wf = true) :
    ∃ F, PSl w (some a) len cap F := by
  refine ⟨fun i j => intOf ((w.cell? (a.add (i * 2 + j))).getD undef), hl, by simp only [maxLen] at hm; omega, fun i j hi hj => ?_, ?_⟩
  · obtain ⟨v, hv, hw⟩ := h i j hi hj
    show -9223372036854775808 ≤ intOf ((w.cell? (a.add (i * 2 + j))).getD undef) ∧ _
    rw [hv]
    exact wf_i64 hw
  · rcases Nat.eq_zero_or_pos len with e | e
    · exact .inl e
    · obtain ⟨b, off, spot⟩ := a
      obtain ⟨v, hc, _⟩ := h 0 0 e (by omega)
      have hspot : spot = none := by simpa [Addr.add] using World.cell?_spot hc
      subst hspot
      refine .inr ⟨b, off, rfl, fun i j hi hj => ?_⟩
      obtain ⟨v, hv, _⟩ := h i j hi hj
      rw [addr_add] at hv
      have e3 : off + i * 2 + j = off + (i * 2 + j) := by omega
      rw [e3, hv, addr_add, hv]
      rfl
theorem psl_open {t e : TypeId} {fs : Array Field} (ht : Try.prog.underlying t = some (.slice e)) (he : Try.prog.underlying e = some (.struct fs)) (ce : Try.prog.cellsOf e = 2) (hsz : fs.size = 2)
    (hf : ∀ j, j < 2 → ∃ f, fs[j]? = some f ∧ f.offset = j ∧ Try.prog.cellsOf f.type = 1 ∧ Try.prog.underlying f.type = some (.int .i64))
    {H : Type} {enc : TypeId × Value → H} {w : World} {base : Nat} {spare : Nat → Bool} {held : Bool} {fuel : Nat} {a : Option Addr} {len cap : Nat} {x : DataW H × List MemPlace} (h : DataW.trod enc Try.prog w base spare held fuel t (Value.slice a len cap).cells.toList = some x) : ∃ F, PSl w a len cap F := by
  rcases stepsK_of ht he ce hsz hf h with hcs | ⟨y, l, c, hcs, hl, hm, hcell⟩
  · simp [Value.cells] at hcs
    obtain ⟨rfl, rfl, rfl⟩ := hcs
    exact ⟨fun _ _ => 0, Nat.le_refl _, by omega, fun i j hi _ => by omega, .inl rfl⟩
  · simp [Value.cells] at hcs
    obtain ⟨rfl, rfl, rfl⟩ := hcs
    exact psl_of hl hm hcell
theorem acts_of {H : Type} {enc : TypeId × Value → H} {w : World} {base : Nat} {spare : Nat → Bool} {held : Bool} {fuel : Nat} {a : Option Addr} {len cap : Nat} {x : DataW H × List MemPlace} (h : DataW.trod enc Try.prog w base spare held fuel 22 (Value.slice a len cap).cells.toList = some x) : ∃ F, PSl w a len cap F :=
  psl_open Try.underlying22 Try.underlying26 (by kernel_rfl) rfl (fun j hj => match j, hj with
    | 0, _ => ⟨_, rfl, rfl, by kernel_rfl, by kernel_rfl⟩
    | 1, _ => ⟨_, rfl, rfl, by kernel_rfl, by kernel_rfl⟩) h
theorem looks_of {H : Type} {enc : TypeId × Value → H} {w : World} {base : Nat} {spare : Nat → Bool} {held : Bool} {fuel : Nat} {a : Option Addr} {len cap : Nat} {x : DataW H × List MemPlace} (h : DataW.trod enc Try.prog w base spare held fuel 41 (Value.slice a len cap).cells.toList = some x) : ∃ F, PSl w a len cap F :=
  psl_open Try.underlying41 Try.underlying50 (by kernel_rfl) rfl (fun j hj => match j, hj with
    | 0, _ => ⟨_, rfl, rfl, by kernel_rfl, by kernel_rfl⟩
    | 1, _ => ⟨_, rfl, rfl, by kernel_rfl, by kernel_rfl⟩) h
end Go.Proofs.Ytbhpapcfknjakaa
