/- Contracts of the program's functions, part 15: own work, joined in build order. -/
import Derived.Test.YtjnfcihichaonaaJ14
import Derived.Laws.MakeOwn
import Derived.Deep.RegionLaw
namespace Go.Proofs.Ytjnfcihichaonaa
open Go.RowKit
set_option maxRecDepth 100000
set_option linter.unusedVariables false
/-- Behind narrow: the same heap, maybe elsewhere. -/
def NarI (w : World) (base hb ob n : Nat) (pu : Int) (f : Nat → Nat) (it ke : Nat → Int) (va : Nat → Int) (e : Ending) (w' : World) : Prop :=
  e = .returned (.tuple #[]) ∧ ∃ a' cap' mb' nn', HsI w' base hb ob a' n cap' mb' nn' pu f it ke va ∧ TnN (fun k => k = hb) w w' (NewB w hb (.slice a' n cap') mb')
/-- While the map is made anew. -/
structure NlpI (w : World) (base hb ob n cap2 m9 g2 : Nat) (pu : Int) (f : Nat → Nat) (it : Nat → Int) (W : World) (j : Nat) : Prop where
  hd : W.heap[hb]? = some (.cells #[.func (.func 28) #[.pointer (some ⟨ob, 0, none⟩)] #[], .slice (some ⟨g2, 0, none⟩) n cap2, .map (some m9), .int .i64 pu] 70)
  old : ∀ k, k < w.heap.size → k ≠ hb → W.heap[k]? = w.heap[k]?
  row : W.ownsRow base 77 1 (.slice (some ⟨g2, 0, none⟩) n cap2) n ((List.range n).map fun i => .pointer (some ⟨f i, 0, none⟩))
  mp : ∃ g, Mp W m9 j g ∧ ∀ i b, g i = some b ↔ ∃ k, k < j ∧ f k = b ∧ it b = i
  os : W.os = w.os
  tape : W.tape = w.tape
  output : W.output = w.output
  size : w.heap.size ≤ W.heap.size
  m9 : w.heap.size ≤ m9
set_option maxHeartbeats 2000000 in
theorem narrowI_any {base hb ob : Nat} {a : Option Addr} {n cap mb nn : Nat} {pu : Int} {f : Nat → Nat} {it ke : Nat → Int} {va : Nat → Int} (w : World) (h : HsI w base hb ob a n cap mb nn pu f it ke va) (hb0 : base ≤ w.heap.size) :
    Calls Try.prog 65 #[.pointer (some ⟨hb, 0, none⟩)] w (NarI w base hb ob n pu f it ke va) := by
  obtain ⟨c1, c2, c3, c4⟩ := h.cells
  have z1 := c4 1
  have z2 := c4 2
  have hl := h.lim
  obtain ⟨m, em⟩ : ∃ m : Nat, m = max 16 n := ⟨_, rfl⟩
  have hmx : (if (16 : Int) < (n : Int) then (n : Int) else 16) = (m : Int) := by split <;> omega
  have hmn : 16 ≤ m ∧ n ≤ m ∧ m ≤ 1000000000 := by omega
  have hw1 : IntKind.i64.wrap (2 * (m : Int)) = ((2 * m : Nat) : Int) := by rw [IntKind.wrap_i64]; omega
  have hw2 : IntKind.i64.wrap (2 * ((2 * m : Nat) : Int)) = ((4 * m : Nat) : Int) := by rw [IntKind.wrap_i64]; omega
  have HH : Hid (HsI w base hb ob a n cap mb nn pu f it ke va) := h
  by_cases c : cap < 4 * m
  · clear h em c4
    generalize 2 * m = R at *
    generalize 4 * m = R2 at *
    go_enter Try.func65, Try.ntmps65
    go_wp2_with fail
    refine bodyPost_ret (results_none rfl _ _ _) rfl ?_
    exact ⟨rfl, _, _, _, _, HH.out, { Tn.refl _ _ with new := ⟨fun k hk => .inr ⟨_, HH.out.cells.1, hk⟩, .inr HH.out.cells.2.1⟩ }⟩
  · have hn0 : ¬ a = none := by
      rintro rfl
      rcases h.row.2 with ⟨e, _⟩ | ⟨g, cap', cur, e, _⟩
      · injection e with _ _ e
        omega
      · cases e
    obtain ⟨gp, rfl, hgb, hle, hcl, cs, ec, esz, hcs⟩ : ∃ gp, a = some ⟨gp, 0, none⟩ ∧ base ≤ gp ∧ n ≤ cap ∧ cap ≤ maxLen ∧ ∃ cs : Array Value, w.heap[gp]? = some (.cells cs 77) ∧ cs.size = cap ∧ ∀ i, i < n → cs[i]? = some (.pointer (some ⟨f i, 0, none⟩)) := by
      rcases h.row.2 with ⟨e, _⟩ | ⟨g, cap', cur, e, hb', hg, h1, h2, h3, h4⟩
      · injection e with e
        exact absurd e hn0
      · injection e with e1 _ e3
        subst e1 e3
        refine ⟨g, rfl, hb', by omega, by omega, cur, hg, by omega, fun i hi => ?_⟩
        have q4 := congrArg (fun l => l[i]?) h4
        simp only [Nat.mul_one] at q4
        rw [List.getElem?_take_of_lt hi] at q4
        rw [← Array.getElem?_toList, q4]
        simp [hi]
    obtain ⟨i0, hi0, hz0, hsz0, hby0⟩ := info_parts Try.infoPI
    obtain ⟨Wm, hr1, rm, gm⟩ := run_make_own (P := Try.prog) w.drew base 68 77 i0 _ 1 Try.underlying68 hi0 hz0 hsz0 .i64 .i64 (2 * m) (by rw [hby0]; omega) (by simp only [maxLen]; omega) hb0
    have lt : ∀ {k : Nat} {o : Obj}, w.heap[k]? = some o → k < w.heap.size := fun e => (Array.getElem?_eq_some_iff.1 e).1
    have km : ∀ k, k < w.heap.size → Wm.heap[k]? = w.heap[k]? := fun k hk => gm.block k hk (by simp)
    obtain ⟨v', Wa, hr2, ra, ga, _, hat⟩ := run_append_own_at (P := Try.prog) Wm base 68 68 77 i0 _ 1 8 Try.underlying68 hi0 hz0 hsz0 hby0 rfl (by omega) _ 0 [] rm ⟨gp, 0, none⟩ n cap ((List.range n).map fun i => .pointer (some ⟨f i, 0, none⟩)) (by simp) (fun j u hj => by
      have hjn : j < n := by
        rcases Nat.lt_or_ge j n with h' | h'
        · exact h'
        · rw [List.getElem?_eq_none (by simpa using h')] at hj
          cases hj
      rw [addr_add, World.cell?_of_block (km gp (lt ec))]
      simp [hjn] at hj
      subst hj
      simp [World.cell?, ec, hcs j hjn]) (fun u hu => by
      simp at hu
      obtain ⟨j, _, rfl⟩ := hu
      rfl) (by simp only [maxLen]; omega) (by omega) (by have := gm.size; exact Nat.le_trans hb0 this)
    have zm : w.heap.size ≤ Wm.heap.size := gm.size
    obtain ⟨g2, cap2, rfl, hg2⟩ : ∃ g2 cap2, v' = .slice (some ⟨g2, 0, none⟩) n cap2 ∧ w.heap.size ≤ g2 := by
      rcases ra.2 with ⟨e, _⟩ | ⟨g, cap', cur, e, _⟩
      · rw [e] at hat
        rcases hat with e2 | e2 <;> cases e2
      · rw [Nat.zero_add] at e
        refine ⟨g, cap', e, ?_⟩
        rw [e] at hat
        rcases hat with e2 | e2
        · have : g = w.heap.size := by injection e2
          omega
        · have : g = Wm.heap.size := by injection e2
          omega
    have HG2 : Hid (w.heap.size ≤ g2) := hg2
    have za := ga.size
    have ka : ∀ k, k < w.heap.size → Wa.heap[k]? = w.heap[k]? := fun k hk => (ga.block k (by omega) (fun e => by
      have e2 : k = w.heap.size := by injection e
      omega)).trans (km k hk)
    have hh : Wa.heap[hb]? = _ := (ka hb (lt h.hd)).trans h.hd
    have ea1 : Wa.cell? ⟨hb, 1, none⟩ = some (.slice (some ⟨gp, 0, none⟩) n cap) := by simp [World.cell?, hh]
    have ea2 : Wa.frozen? ⟨hb, 1, none⟩ = false := by simp [World.frozen?, hh]
    have em1 : Wm.cell? ⟨hb, 1, none⟩ = some (.slice (some ⟨gp, 0, none⟩) n cap) := by simp [World.cell?, (km hb (lt h.hd)).trans h.hd]
    clear h em c4
    generalize 2 * m = R at *
    generalize 4 * m = R2 at *
    go_enter Try.func65, Try.ntmps65
    go_wp2_with fail
    rename_i hz
    go_region_law (refine step_append_run rfl (.tmp 22) (.tmp 26) 68 rfl _ _ rfl rfl _ Wa hr2 ?_)
    all_goals (
      refine hz _ _ ?_
      obtain ⟨W5, hW5⟩ : ∃ W5, W5 = Wa.setCell ⟨hb, 1, none⟩ (.slice (some ⟨g2, 0, none⟩) n cap2) := ⟨_, rfl⟩
      rw [← hW5]
      have h5 : W5.heap[hb]? = some (.cells #[.func (.func 28) #[.pointer (some ⟨ob, 0, none⟩)] #[], .slice (some ⟨g2, 0, none⟩) n cap2, .map (some mb), .int .i64 pu] 70) := by
        rw [hW5]
        exact heap_setCell_same Wa hb 1 _ _ _ hh
      have k5 : Hid (∀ k, k < w.heap.size → k ≠ hb → W5.heap[k]? = w.heap[k]?) := fun k h1 h2 => by
        rw [hW5]
        exact (Below.heap_setCell _ _ _ k h2).trans (ka k h1)
      have hz5 : w.heap.size ≤ W5.heap.size := by rw [hW5]; simp; omega
      have r5 : Hid (W5.ownsRow base 77 1 (.slice (some ⟨g2, 0, none⟩) n cap2) n ((List.range n).map fun i => .pointer (some ⟨f i, 0, none⟩)) ∧ W5.os = w.os ∧ W5.tape = w.tape ∧ W5.output = w.output) := by
        have hlt := lt HH.out.hd
        rw [hW5]
        refine ⟨own_kept (by simpa using ra) fun k hk => Below.heap_setCell _ _ _ k ?_, ?_⟩
        · have : k = g2 := by injection hk with e; exact e.symm
          show k ≠ hb
          omega
        · exact ⟨ga.os.trans gm.os, ga.tape.trans gm.tape, ga.output.trans gm.output⟩
      have p1 : W5.cell? ⟨hb, 1, none⟩ = some (.slice (some ⟨g2, 0, none⟩) n cap2) := by simp [World.cell?, h5]
      have p2 : W5.cell? ⟨hb, 2, none⟩ = some (.map (some mb)) := by simp [World.cell?, h5]
      have p3 : W5.frozen? ⟨hb, 2, none⟩ = false := by simp [World.frozen?, h5]
      have hmm : ∀ W : World, (Instr.makeMap 67 (some (.int .i64 (n : Int)))).run Try.prog W = .ok (.map (some W.heap.size)) (W.alloc (.map #[] 0)) := by
        intro W
        have : ¬ ((n : Int) < 0) := by omega
        simp [Instr.makeMap, go_sem, run_underlying Try.underlying67]
      clear hW5 ra ga hat hr1 hr2 rm gm ka km hh ea1 ea2 em1 c1 z1 z2 c2 c3
      obtain ⟨m9, em9⟩ : ∃ m9, m9 = W5.heap.size := ⟨_, rfl⟩
      obtain ⟨W6, hW6⟩ : ∃ W6, W6 = (W5.setCell ⟨hb, 2, none⟩ (.map (some m9))).alloc (.map #[] 0) := ⟨_, rfl⟩
      have hlt5 := (Array.getElem?_eq_some_iff.1 h5).1
      have lt : ∀ {k : Nat} {o : Obj}, w.heap[k]? = some o → k < w.heap.size := fun e => (Array.getElem?_eq_some_iff.1 e).1
      have hlb := lt HH.out.hd
      have S6 : Hid (NlpI w base hb ob n cap2 m9 g2 pu f it W6 0) := by
        have z6 : (W5.setCell ⟨hb, 2, none⟩ (.map (some m9))).heap.size = W5.heap.size := by simp
        rw [hW6]
        refine ⟨(Below.heap_alloc _ _ hb (by omega)).trans (heap_setCell_same _ hb 2 _ _ _ h5), fun k h1 h2 => (Below.heap_alloc _ _ k (by omega)).trans ((Below.heap_setCell _ _ _ k h2).trans (k5.out k h1 h2)), own_kept r5.out.1 fun k hk => ?_, ⟨fun _ => none, ?_, fun i b => ⟨fun e => (by cases e), fun e => (by obtain ⟨k, hk, _⟩ := e; omega)⟩⟩, r5.out.2.1, r5.out.2.2.1, r5.out.2.2.2, by simp; omega, by rw [em9]; omega⟩
        · have e9 : k = g2 := by injection hk with e; exact e.symm
          subst e9
          have hk5 : k < W5.heap.size := by
            rcases r5.out.1.2 with ⟨e, _⟩ | ⟨g, cap', cur, e, _, hg, _⟩
            · cases e
            · cases e
              exact (Array.getElem?_eq_some_iff.1 hg).1
          exact (Below.heap_alloc _ _ k (by omega)).trans (Below.heap_setCell _ _ _ k (by show k ≠ hb; omega))
        · have hm := Mp.made (W5.setCell ⟨hb, 2, none⟩ (.map (some m9)))
          rw [z6, ← em9] at hm
          exact hm
      have s1 : W6.cell? ⟨hb, 1, none⟩ = some (.slice (some ⟨g2, 0, none⟩) n cap2) := by simp [World.cell?, S6.out.hd]
      have HW6 : Hid ((W5.setCell ⟨hb, 2, none⟩ (.map (some m9))).alloc (.map #[] 0) = W6 ∧ W5.heap.size = m9) := ⟨hW6.symm, em9.symm⟩
      have hnc : n ≤ cap2 := by
        rcases S6.out.row.2 with ⟨e, _⟩ | ⟨g, cap', cur, e, _, _, q1, q2, q3, _⟩
        · cases e
        · cases e
          omega
      clear hW6 em9 h5 k5 r5
      go_wp2_with fail
      rw [HW6.out.2, HW6.out.1]
      go_loopw [44] (fun t wr => ∃ (j : Nat), j ≤ n ∧ t = .int .i64 (j : Int) ∧ Hid (NlpI w base hb ob n cap2 m9 g2 pu f it wr j)) (fun t _ => n - (intOf t).toNat)
      case atStart => exact ⟨0, by omega, rfl, S6⟩
      case round =>
        clear S6 s1
        obtain ⟨j, hj, rfl, hS⟩ := hrel
        by_cases hjn : j < n
        · have q1 : wr.cell? ⟨g2, j, none⟩ = some (.pointer (some ⟨f j, 0, none⟩)) := by
            rcases hS.out.row.2 with ⟨e, _⟩ | ⟨g, cap', cur, e, _, hg, _, _, _, h4⟩
            · cases e
            · cases e
              have q4 := congrArg (fun l => l[j]?) h4
              simp only [Nat.mul_one] at q4
              rw [List.getElem?_take_of_lt hjn] at q4
              have q5 : cur[j]? = some (.pointer (some ⟨f j, 0, none⟩)) := by
                rw [← Array.getElem?_toList, q4]
                simp [hjn]
              simp [World.cell?, hg, q5]
          have nfh : f j ≠ hb := ne_of_type (HH.out.pl j hjn) HH.out.hd (by decide)
          have pj : wr.heap[f j]? = _ := (hS.out.old (f j) (lt (HH.out.pl j hjn)) nfh).trans (HH.out.pl j hjn)
          have q2 : wr.cell? ⟨f j, 0, none⟩ = some (.int .i64 (it (f j))) := by simp [World.cell?, pj]
          have q3 : wr.cell? ⟨hb, 2, none⟩ = some (.map (some m9)) := by simp [World.cell?, hS.out.hd]
          obtain ⟨g, hm, hg⟩ := hS.out.mp
          have hir := HH.out.itr j hjn
          have hpu1 := HH.out.pu1
          have m2 : Mp wr.drew m9 j g := hm.kept rfl
          obtain ⟨W7, hrun, m7, g7⟩ := m2.store (by omega) Try.underlying67 (i := it (f j)) (by omega) (by omega) (f j)
          have nm1 : hb ≠ m9 := by have := hS.out.m9; omega
          have nm2 : f j ≠ m9 := by have := hS.out.m9; have := lt (HH.out.pl j hjn); omega
          have k7 : ∀ k, k < wr.heap.size → k ≠ m9 → W7.heap[k]? = wr.heap[k]? := fun k h1 h2 => g7.block k h1 (fun e => h2 (by injection e))
          have hlr := (Array.getElem?_eq_some_iff.1 hS.out.hd).1
          have h7 : W7.heap[hb]? = _ := (k7 hb hlr nm1).trans hS.out.hd
          have t2 : W7.cell? ⟨f j, 0, none⟩ = some (.int .i64 (it (f j))) := (World.cell?_of_block (k7 (f j) (Array.getElem?_eq_some_iff.1 pj).1 nm2)).trans q2
          have t3 : W7.cell? ⟨hb, 2, none⟩ = some (.map (some m9)) := by simp [World.cell?, h7]
          have S7 : Hid (NlpI w base hb ob n cap2 m9 g2 pu f it W7 (j + 1)) := by
            have z7 : wr.heap.size ≤ W7.heap.size := g7.size
            have hsz := hS.out.size
            refine ⟨h7, fun k h1 h2 => (k7 k (by omega) (by have := hS.out.m9; omega)).trans (hS.out.old k h1 h2), own_kept hS.out.row fun k hk => ?_, ⟨_, m7, fun i b => ?_⟩, g7.os.trans hS.out.os, g7.tape.trans hS.out.tape, g7.output.trans hS.out.output, by omega, hS.out.m9⟩
            · have e9 : k = g2 := by injection hk with e; exact e.symm
              subst e9
              rcases hS.out.row.2 with ⟨e, _⟩ | ⟨g9, cap', cur, e, _, hg9, _⟩
              · cases e
              · cases e
                obtain ⟨es, ck, hmb⟩ := hm.block
                exact k7 k (Array.getElem?_eq_some_iff.1 hg9).1 (fun e => map_ne hmb hg9 e.symm)
            · unfold updI
              split <;> rename_i ci
              · subst ci
                constructor
                · intro e
                  injection e with e
                  exact ⟨j, by omega, e, by rw [← e]⟩
                · rintro ⟨k, hk, rfl, e⟩
                  rw [HH.out.iti k j (by omega) hjn e]
              · rw [hg i b]
                constructor
                · rintro ⟨k, hk, e1, e2⟩
                  exact ⟨k, by omega, e1, e2⟩
                · rintro ⟨k, hk, rfl, e2⟩
                  by_cases ek : k = j
                  · subst ek
                    exact absurd e2.symm ci
                  · exact ⟨k, by omega, rfl, e2⟩
          clear hS hm m2 m7 g7 pj h7 k7 hg
          generalize f j = y at *
          generalize it y = iy at *
          go_wp2_with fail
          rename_i hz9
          go_region_held3 (fun w9 => w9.cell? ⟨hb, 2, none⟩ = some (.map (some m9)) ∧ w9.cell? ⟨y, 0, none⟩ = some (.int .i64 iy)) (first | (simp [go_sem, *]; done) | (trace_state; fail)) (fail)
          refine hz9 _ _ ?_
          go_wp2_with fail
          go_roundw
          case rel => exact ⟨j + 1, by omega, by go_num, S7⟩
          case measure => simp [intOf]; omega
        · obtain rfl : j = n := by omega
          have HN : Hid (HsI wr base hb ob (some ⟨g2, 0, none⟩) j cap2 m9 j pu f it ke va ∧ Tn (fun k => k = hb) w wr) := by
            refine ⟨{ HH.out with hd := hS.out.hd, row := hS.out.row, pl := fun i hi => (hS.out.old (f i) (lt (HH.out.pl i hi)) (ne_of_type (HH.out.pl i hi) HH.out.hd (by decide))).trans (HH.out.pl i hi), nn1 := by have := HH.out.pu0; omega, mp := hS.out.mp, ge := ⟨HH.out.ge.1, HH.out.ge.2.1, by have := hS.out.m9; omega, HH.out.ge.2.2.2⟩ }, hS.out.os, hS.out.tape, hS.out.output, hS.out.size, fun k h1 h2 => hS.out.old k h1 h2⟩
          have HM9 : Hid (w.heap.size ≤ m9) := hS.out.m9
          clear hS
          go_wp2_with fail
          refine bodyPost_end (results_none rfl _ _ _) rfl ?_
          exact ⟨rfl, _, _, _, _, HN.out.1, { HN.out.2 with new := ⟨fun k hk => .inl (by injection hk with hk; have := hk.symm; subst this; exact HG2.out), .inl HM9.out⟩ }⟩)
end Go.Proofs.Ytjnfcihichaonaa
