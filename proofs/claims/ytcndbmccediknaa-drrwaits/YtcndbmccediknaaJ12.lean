/- Contracts of the program's functions, part 12: own work, joined in build order. -/
import Derived.Test.YtcndbmccediknaaJ11
import Derived.Maps.AppendAt
import Derived.Deep.Upon
namespace Go.Proofs.Ytcndbmccediknaa
open Go.RowKit
set_option maxRecDepth 100000
set_option linter.unusedVariables false
set_option maxHeartbeats 4000000 in
theorem wmove_evict0 (b : Nat) (x : Wv) (s : Sd) (P : Nat → List Pk) (fl sz : Int) (f : Nat) (hf : f < 4) (hfl : fl % 4 = (f : Int)) (w : World) (h : WS w b x s P) (hP : P f = []) :
    Calls Try.prog 9 #[.pointer (some ⟨b, 0, none⟩), .agg #[.int .i64 2, .int .i64 fl, .int .i64 sz]] w fun e w' => e = .returned (.bool true) ∧ WF b x.d s w x s P w' := by
  obtain ⟨W, hW⟩ : ∃ W, W = w.alloc (.cells #[.int .i64 2, .int .i64 fl, .int .i64 sz] 28) := ⟨_, rfl⟩
  obtain ⟨v, ev⟩ : ∃ v, v = w.heap.size := ⟨_, rfl⟩
  have B0 : Below w.heap.size w W := by rw [hW]; exact (Below.refl _ _).alloc (Nat.le_refl _) _
  have hB : W.heap[v]? = some (.cells #[.int .i64 2, .int .i64 fl, .int .i64 sz] 28) := by rw [hW, ev]; exact (MapKept.heap_alloc _ _).1
  have D0 : WF b x.d s w x s P W := h.wf.below B0
  have v0 : (w.alloc (.cells #[.int .i64 2, .int .i64 fl, .int .i64 sz] 28)).cell? ⟨v, 0, none⟩ = some (.int .i64 2) := by rw [← hW]; simp [World.cell?, hB]
  have v1 : (w.alloc (.cells #[.int .i64 2, .int .i64 fl, .int .i64 sz] 28)).cell? ⟨v, 1, none⟩ = some (.int .i64 fl) := by rw [← hW]; simp [World.cell?, hB]
  rw [ev] at v0 v1
  have HW : Hid (w.alloc (.cells #[.int .i64 2, .int .i64 fl, .int .i64 sz] 28) = W ∧ w.heap.size = v) := ⟨hW.symm, ev.symm⟩
  obtain ⟨p0, k0, e0, _, _⟩ := D0.ws.ls f hf
  rw [hP] at e0
  have l0 : (w.alloc (.cells #[.int .i64 2, .int .i64 fl, .int .i64 sz] 28)).cell? ⟨b, 5 + f, none⟩ = some (.slice p0 0 k0) := by
    have := D0.ws.wr.cL hf
    rw [e0] at this
    rw [← hW]
    exact this
  have hff : bits .and .i64 fl 3 = (f : Int) := by rw [i64_and3]; exact hfl
  have hf4 : (f : Int) < 4 := by omega
  have HD : Hid (WF b x.d s w x s P (w.alloc (.cells #[.int .i64 2, .int .i64 fl, .int .i64 sz] 28))) := by rw [← hW]; exact D0
  clear h hP B0 hB D0 hW ev e0 HW hfl
  go_enter Try.func9, Try.ntmps9
  go_wp2_with fail
  exact bodyPost_ret (v := .bool true) (by simp [results, Try.results9, go_sem]) rfl ⟨rfl, HD.out⟩
set_option maxHeartbeats 8000000 in
theorem wmove_evict (b : Nat) (x : Wv) (s : Sd) (P : Nat → List Pk) (fl sz : Int) (f c k : Nat) (p : Pk) (xs : List Pk) (hf : f < 4) (hfl : fl % 4 = (f : Int)) (w : World) (h : WS w b x s P) (hP : P f = xs ++ [p]) (hQ : s.Q c = P f) (hF : s.F p.slot = some c) (hg : (s.Y c).gen = p.gen) (hsl : p.slot = (f : Int)) (s1 : 0 ≤ p.size) (s2 : p.size ≤ 65536) (hb1 : -4611686018427387904 ≤ (s.Y c).bytes) (hb2 : (s.Y c).bytes ≤ 4611686018427387904) (hc1 : -4611686018427387904 ≤ s.x.count) (hc2 : s.x.count ≤ 4611686018427387904) (hn : s.R.length ≤ 1073741824) (hdu : s.R.Nodup) (hk : k < s.R.length) (hnb : s.nth k = c) (hlen : xs.length ≤ 1000000) :
    Calls Try.prog 9 #[.pointer (some ⟨b, 0, none⟩), .agg #[.int .i64 2, .int .i64 fl, .int .i64 sz]] w fun e w' => e = .returned (.bool true) ∧ ∃ g2 s' v, ((xs ≠ [] ∧ s' = (s.queued c xs g2).lessOf c p.size) ∨ (xs = [] ∧ ∃ g3, s' = ((s.queued c xs g2).lessOf c p.size).outOf c k g3)) ∧ WF b x.d s w { x with L := updN x.L f v } s' (updN P f xs) w' := by
  obtain ⟨W, hW⟩ : ∃ W, W = w.alloc (.cells #[.int .i64 2, .int .i64 fl, .int .i64 sz] 28) := ⟨_, rfl⟩
  obtain ⟨v, ev⟩ : ∃ v, v = w.heap.size := ⟨_, rfl⟩
  have B0 : Below w.heap.size w W := by rw [hW]; exact (Below.refl _ _).alloc (Nat.le_refl _) _
  have hB : W.heap[v]? = some (.cells #[.int .i64 2, .int .i64 fl, .int .i64 sz] 28) := by rw [hW, ev]; exact (MapKept.heap_alloc _ _).1
  have D0 : WF b x.d s w x s P W := h.wf.below B0
  have v0 : (w.alloc (.cells #[.int .i64 2, .int .i64 fl, .int .i64 sz] 28)).cell? ⟨v, 0, none⟩ = some (.int .i64 2) := by rw [← hW]; simp [World.cell?, hB]
  have v1 : (w.alloc (.cells #[.int .i64 2, .int .i64 fl, .int .i64 sz] 28)).cell? ⟨v, 1, none⟩ = some (.int .i64 fl) := by rw [← hW]; simp [World.cell?, hB]
  rw [ev] at v0 v1
  have HW : Hid (w.alloc (.cells #[.int .i64 2, .int .i64 fl, .int .i64 sz] 28) = W ∧ w.heap.size = v) := ⟨hW.symm, ev.symm⟩
  obtain ⟨la, lc, e1, e2, e3⟩ := D0.ws.ls f hf
  rw [hP] at e1 e2 e3
  obtain ⟨g, o, e4, e5, e6, e7⟩ := e3 (by simp)
  obtain ⟨n, en⟩ : ∃ n, n = xs.length := ⟨_, rfl⟩
  have hln : (xs ++ [p]).length = n + 1 := by simp [en]
  rw [hln] at e1 e2 e7
  have eL : p = (xs ++ [p]).getD n Pk.zero := by simp [List.getD_eq_getElem?_getD, en]
  obtain ⟨a0, a1, a2, a3, a4, a5⟩ := p
  have g0 : W.cell? ⟨g, o + n * 6, none⟩ = some (.int .i64 a0) := by have := e7 n (by omega) 0 (by omega); rw [← eL] at this; exact this
  have g1 : W.cell? ⟨g, o + n * 6 + 1, none⟩ = some (.int .i64 a1) := by have := e7 n (by omega) 1 (by omega); rw [← eL] at this; exact this
  have g2 : W.cell? ⟨g, o + n * 6 + 2, none⟩ = some (.int .i64 a2) := by have := e7 n (by omega) 2 (by omega); rw [← eL] at this; exact this
  have g3 : W.cell? ⟨g, o + n * 6 + 3, none⟩ = some (.int .i64 a3) := by have := e7 n (by omega) 3 (by omega); rw [← eL] at this; exact this
  have g4 : W.cell? ⟨g, o + n * 6 + 4, none⟩ = some (.int .i64 a4) := by have := e7 n (by omega) 4 (by omega); rw [← eL] at this; exact this
  have g5 : W.cell? ⟨g, o + n * 6 + 5, none⟩ = some (.int .i64 a5) := by have := e7 n (by omega) 5 (by omega); rw [← eL] at this; exact this
  have q0 : (w.alloc (.cells #[.int .i64 2, .int .i64 fl, .int .i64 sz] 28)).cell? ⟨g, o + n * 6, none⟩ = some (.int .i64 a0) := by rw [← hW]; exact g0
  have q1 : (w.alloc (.cells #[.int .i64 2, .int .i64 fl, .int .i64 sz] 28)).cell? ⟨g, o + n * 6 + 1, none⟩ = some (.int .i64 a1) := by rw [← hW]; exact g1
  have q2 : (w.alloc (.cells #[.int .i64 2, .int .i64 fl, .int .i64 sz] 28)).cell? ⟨g, o + n * 6 + 2, none⟩ = some (.int .i64 a2) := by rw [← hW]; exact g2
  have q3 : (w.alloc (.cells #[.int .i64 2, .int .i64 fl, .int .i64 sz] 28)).cell? ⟨g, o + n * 6 + 3, none⟩ = some (.int .i64 a3) := by rw [← hW]; exact g3
  have q4 : (w.alloc (.cells #[.int .i64 2, .int .i64 fl, .int .i64 sz] 28)).cell? ⟨g, o + n * 6 + 4, none⟩ = some (.int .i64 a4) := by rw [← hW]; exact g4
  have q5 : (w.alloc (.cells #[.int .i64 2, .int .i64 fl, .int .i64 sz] 28)).cell? ⟨g, o + n * 6 + 5, none⟩ = some (.int .i64 a5) := by rw [← hW]; exact g5
  have cl : (w.alloc (.cells #[.int .i64 2, .int .i64 fl, .int .i64 sz] 28)).cell? ⟨b, 5 + f, none⟩ = some (.slice (some ⟨g, o, none⟩) (n + 1) lc) := by
    have := D0.ws.wr.cL hf
    rw [e1, e4] at this
    rw [← hW]
    exact this
  have hff : bits .and .i64 fl 3 = (f : Int) := by rw [i64_and3]; exact hfl
  have hf4 : (f : Int) < 4 := by omega
  have hnn : ¬ ((n : Int) + 1 = 0) := by omega
  have w9 : IntKind.i64.wrap ((n : Int) + 1 - 1) = (n : Int) := by rw [IntKind.wrap_i64]; omega
  have w8 : IntKind.i64.wrap (n : Int) = (n : Int) := by rw [IntKind.wrap_i64]; omega
  have w7 : ((n + 1 : Nat) : Int) - 1 = (n : Int) := by omega
  have HD : Hid (WF b x.d s w x s P W) := D0
  have HE : Hid (s.Q c = xs ++ [⟨a0, a1, a2, a3, a4, a5⟩] ∧ s.F a0 = some c ∧ (s.Y c).gen = a1 ∧ a0 = (f : Int) ∧ 0 ≤ a3 ∧ a3 ≤ 65536 ∧ -4611686018427387904 ≤ (s.Y c).bytes ∧ (s.Y c).bytes ≤ 4611686018427387904 ∧ -4611686018427387904 ≤ s.x.count ∧ s.x.count ≤ 4611686018427387904 ∧ s.R.length ≤ 1073741824 ∧ s.R.Nodup ∧ k < s.R.length ∧ s.nth k = c) := ⟨by rw [hQ, hP], hF, hg, hsl, s1, s2, hb1, hb2, hc1, hc2, hn, hdu, hk, hnb⟩
  have HL : Hid (n = xs.length ∧ n + 1 ≤ lc ∧ ¬ Mine x.d s g ∧ (∃ cs, W.heap[g]? = some (.cells cs 49)) ∧ ∀ i, i < n + 1 → ∀ j, j < 6 → W.cell? ⟨g, o + i * 6 + j, none⟩ = some (encPk ((xs ++ [(⟨a0, a1, a2, a3, a4, a5⟩ : Pk)]).getD i Pk.zero) j)) := ⟨en, e2, e5, e6, e7⟩
  clear h hP hQ hF hg hsl s1 s2 hb1 hb2 hc1 hc2 hn hdu hk hnb hlen B0 hB D0 hW ev e1 e2 e3 e4 e5 e6 e7 en hln eL hfl
  obtain ⟨W5, hW5⟩ : ∃ W5, W5 = W.alloc (.cells #[.int .i64 a0, .int .i64 a1, .int .i64 a2, .int .i64 a3, .int .i64 a4, .int .i64 a5] 49) := ⟨_, rfl⟩
  obtain ⟨u, eu⟩ : ∃ u, u = W.heap.size := ⟨_, rfl⟩
  have D5 : WF b x.d s w x s P W5 := by rw [hW5]; exact HD.out.below ((Below.refl _ _).alloc (Nat.le_refl _) _)
  have hu5 : W5.heap[u]? = some (.cells #[.int .i64 a0, .int .i64 a1, .int .i64 a2, .int .i64 a3, .int .i64 a4, .int .i64 a5] 49) := by rw [hW5, eu]; exact (MapKept.heap_alloc _ _).1
  have fu : ¬ Mine x.d s u := HD.out.ws.ds.fresh (by omega)
  have hub : ¬ u = b := by
    have := World.rowIs.lt HD.out.ws.wr
    omega
  have hbu : ¬ b = u := fun e => hub e.symm
  have cl5 : W5.cell? ⟨b, 5 + f, none⟩ = some (.slice (some ⟨g, o, none⟩) (n + 1) lc) := by
    rw [hW5]
    exact cell_later ((Below.refl _ _).alloc (Nat.le_refl _) _) (by rw [← HW.out.1] ; exact cl)
  have z5 : W5.frozen? ⟨b, 5 + f, none⟩ = false := World.rowIs.frozen D5.ws.wr _
  obtain ⟨q, hq1, hq2⟩ := headP (some ⟨g, o, none⟩) (n + 1) lc n (by have := HL.out.2.1; omega)
  have hLs : Lsl W5 x.d s (.slice q n lc) xs := by
    obtain ⟨h1, h2, h3, ⟨cs', h4⟩, h5⟩ := HL.out
    have hgl := (Array.getElem?_eq_some_iff.1 h4).1
    have hbk : W5.heap[g]? = W.heap[g]? := by rw [hW5]; exact Below.heap_alloc _ _ _ hgl
    refine ⟨q, lc, by rw [h1], by omega, fun h0 => ?_⟩
    refine ⟨g, o, hq1 g o rfl, h3, ⟨cs', hbk.trans h4⟩, fun i hi j hj => ?_⟩
    have := h5 i (by omega) j hj
    rw [show (xs ++ [(⟨a0, a1, a2, a3, a4, a5⟩ : Pk)]).getD i Pk.zero = xs.getD i Pk.zero by simp [List.getD_eq_getElem?_getD, List.getElem?_append_left hi]] at this
    exact (World.cell?_of_block (a := ⟨g, o + i * 6 + j, none⟩) hbk).trans this
  obtain ⟨W6, hW6⟩ : ∃ W6, W6 = (W5.setCell ⟨b, 5 + f, none⟩ (.slice q n lc)).drew := ⟨_, rfl⟩
  have D6 : WF b x.d s w { x with L := updN x.L f (.slice q n lc) } s (updN P f xs) W6 := by rw [hW6]; exact (D5.setL hf (.slice q n lc) xs hLs).drew
  have hu6 : W6.heap[u]? = some (.cells #[.int .i64 a0, .int .i64 a1, .int .i64 a2, .int .i64 a3, .int .i64 a4, .int .i64 a5] 49) := by rw [hW6]; exact (Below.heap_setCell _ _ _ u hub).trans hu5
  have EV : Hid (∀ nd, Calls Try.prog 19 #[.pointer (some ⟨x.d, 0, none⟩), .agg #[.int .i64 a0, .int .i64 a1, .int .i64 a2, .int .i64 a3, .int .i64 a4, .int .i64 a5]] (W6.drewN nd) fun e w' => e = .returned (.int .i64 0) ∧ ∃ g2 s', ((xs ≠ [] ∧ s' = (s.queued c xs g2).lessOf c a3) ∨ (xs = [] ∧ ∃ g3, s' = ((s.queued c xs g2).lessOf c a3).outOf c k g3)) ∧ WF b x.d s w { x with L := updN x.L f (.slice q n lc) } s' (updN P f xs) w' ∧ w'.cell? ⟨b, 0, none⟩ = some (.pointer (some ⟨x.d, 0, none⟩)) ∧ w'.cell? ⟨u, 0, none⟩ = some (.int .i64 a0) ∧ w'.cell? ⟨u, 1, none⟩ = some (.int .i64 a1) ∧ w'.cell? ⟨u, 2, none⟩ = some (.int .i64 a2) ∧ w'.cell? ⟨u, 3, none⟩ = some (.int .i64 a3) ∧ w'.cell? ⟨u, 4, none⟩ = some (.int .i64 a4) ∧ w'.cell? ⟨u, 5, none⟩ = some (.int .i64 a5)) := fun nd => by
    obtain ⟨h1, h2, h3, h4, h5, h6, h7, h8, h9, h10, h11, h12, h13, h14⟩ := HE.out
    have D7 := D6.drewN nd
    refine (evictD_any x.d s ⟨a0, a1, a2, a3, a4, a5⟩ c k xs (W6.drewN nd) D7.ws.ds (by show -9223372036854775808 ≤ a0; omega) (by show a0 ≤ 9223372036854775807; omega) h2 h3 h1 h5 h6 h7 h8 h9 h10 h11 h12 h13 h14).mono ?_
    rintro e w7 ⟨rfl, g2, s', X, hs⟩
    have D8 := D7.go X
    have hu8 : w7.heap[u]? = some (.cells #[.int .i64 a0, .int .i64 a1, .int .i64 a2, .int .i64 a3, .int .i64 a4, .int .i64 a5] 49) := (X.2.block u (Array.getElem?_eq_some_iff.1 hu6).1 fu).trans hu6
    refine ⟨rfl, g2, s', hs, D8, D8.ws.wr.cd, by simp [World.cell?, hu8], by simp [World.cell?, hu8], by simp [World.cell?, hu8], by simp [World.cell?, hu8], by simp [World.cell?, hu8], by simp [World.cell?, hu8]⟩
  have cb6 : W6.cell? ⟨b, 0, none⟩ = some (.pointer (some ⟨x.d, 0, none⟩)) := D6.ws.wr.cd
  have u0 : W6.cell? ⟨u, 0, none⟩ = some (.int .i64 a0) := by simp [World.cell?, hu6]
  have u1 : W6.cell? ⟨u, 1, none⟩ = some (.int .i64 a1) := by simp [World.cell?, hu6]
  have u2 : W6.cell? ⟨u, 2, none⟩ = some (.int .i64 a2) := by simp [World.cell?, hu6]
  have u3 : W6.cell? ⟨u, 3, none⟩ = some (.int .i64 a3) := by simp [World.cell?, hu6]
  have u4 : W6.cell? ⟨u, 4, none⟩ = some (.int .i64 a4) := by simp [World.cell?, hu6]
  have u5 : W6.cell? ⟨u, 5, none⟩ = some (.int .i64 a5) := by simp [World.cell?, hu6]
  have HW5 : Hid (W.alloc (.cells #[.int .i64 a0, .int .i64 a1, .int .i64 a2, .int .i64 a3, .int .i64 a4, .int .i64 a5] 49) = W5 ∧ W.heap.size = u ∧ (W5.setCell ⟨b, 5 + f, none⟩ (.slice q n lc)).drew = W6) := ⟨hW5.symm, eu.symm, hW6.symm⟩
  have HZ : Hid (w.alloc (.cells #[.int .i64 2, .int .i64 fl, .int .i64 sz] 28) = W ∧ w.heap.size + 1 = W.heap.size) := ⟨HW.out.1, by rw [← HW.out.1]; simp⟩
  have HH5 : Hid (W5.cell? ⟨b, 5 + f, none⟩ = some (.slice (some ⟨g, o, none⟩) (n + 1) lc)) := cl5
  clear hW5 hW6 eu D5 D6 hu5 hu6 fu hLs hq1 cl5
  go_enter Try.func9, Try.ntmps9
  go_wp2_with fail
  rw [HZ.out.1, HZ.out.2, HW5.out.1, HW5.out.2.1]
  have cl5 := HH5.out
  clear v0 v1 cl g0 q0 g1 q1 g2 q2 g3 q3 g4 q4 g5 q5
  go_region
  go_wp2_with fail
  rw [HW5.out.2.2]
  rename_i hz
  go_region_held3 (fun w9 => w9.cell? ⟨b, 0, none⟩ = some (.pointer (some ⟨x.d, 0, none⟩)) ∧ w9.cell? ⟨u, 0, none⟩ = some (.int .i64 a0) ∧ w9.cell? ⟨u, 1, none⟩ = some (.int .i64 a1) ∧ w9.cell? ⟨u, 2, none⟩ = some (.int .i64 a2) ∧ w9.cell? ⟨u, 3, none⟩ = some (.int .i64 a3) ∧ w9.cell? ⟨u, 4, none⟩ = some (.int .i64 a4) ∧ w9.cell? ⟨u, 5, none⟩ = some (.int .i64 a5)) (first | (simp [go_sem, *]; done) | (trace_state; fail))
    (first
      | (go_at_call 19; refine Calls.mono (EV.out _) ?_; rintro e w7 ⟨rfl, g2, s', hs, D8, y0, y1, y2, y3, y4, y5, y6⟩))
  all_goals
    have HD8 : Hid (((xs ≠ [] ∧ s' = (s.queued c xs g2).lessOf c a3) ∨ (xs = [] ∧ ∃ g3, s' = ((s.queued c xs g2).lessOf c a3).outOf c k g3)) ∧ WF b x.d s w { x with L := updN x.L f (.slice q n lc) } s' (updN P f xs) w7) := ⟨hs, D8⟩
    clear hs D8 EV y0 y1 y2 y3 y4 y5 y6
    try refine hz _ _ ?_
    go_wp2_with fail
    exact bodyPost_ret (v := .bool true) (by simp [results, Try.results9, go_sem]) rfl ⟨rfl, g2, s', _, HD8.out.1, HD8.out.2⟩
set_option maxHeartbeats 4000000 in
theorem same13_some (g1 o1 c1 g2 o2 c2 n : Nat) (L : List Pk) (hn : n = L.length) (hn2 : n ≤ 1000000) (w : World) (h1 : ∀ i, i < n → ∀ j, j < 6 → w.cell? ⟨g1, o1 + i * 6 + j, none⟩ = some (encPk (L.getD i Pk.zero) j)) (h2 : ∀ i, i < n → ∀ j, j < 6 → w.cell? ⟨g2, o2 + i * 6 + j, none⟩ = some (encPk (L.getD i Pk.zero) j)) :
    Calls Try.prog 21 #[.slice (some ⟨g1, o1, none⟩) n c1, .slice (some ⟨g2, o2, none⟩) n c2] w fun e w' => e = .returned (.bool true) ∧ ∃ m, w' = w.drewN m := by
  have HA : Hid ((∀ i, i < n → ∀ j, j < 6 → w.cell? ⟨g1, o1 + i * 6 + j, none⟩ = some (encPk (L.getD i Pk.zero) j)) ∧ (∀ i, i < n → ∀ j, j < 6 → w.cell? ⟨g2, o2 + i * 6 + j, none⟩ = some (encPk (L.getD i Pk.zero) j))) := ⟨h1, h2⟩
  clear h1 h2
  go_enter Try.func21, Try.ntmps21
  go_wp2_with fail
  go_loopw [5] (fun q5 wr => ∃ (i : Nat), q5 = .int .i64 (i : Int) ∧ i ≤ n ∧ ∃ m, wr = w.drewN m) (fun q5 _ => n - (intOf q5).toNat)
  case atStart => exact ⟨0, rfl, Nat.zero_le _, 0, rfl⟩
  case round =>
    obtain ⟨i, rfl, hi, m, hw⟩ := hrel
    by_cases hin : i < n
    · obtain ⟨x, ex⟩ : ∃ x, x = L.getD i Pk.zero := ⟨_, rfl⟩
      obtain ⟨a0, a1, a2, a3, a4, a5⟩ := x
      have k0 : wr.cell? ⟨g1, o1 + i * 6, none⟩ = some (.int .i64 a0) := by have := HA.out.1 i hin 0 (by omega); rw [← ex] at this; rw [hw]; exact this
      have l0 : wr.cell? ⟨g2, o2 + i * 6, none⟩ = some (.int .i64 a0) := by have := HA.out.2 i hin 0 (by omega); rw [← ex] at this; rw [hw]; exact this
      have k1 : wr.cell? ⟨g1, o1 + i * 6 + 1, none⟩ = some (.int .i64 a1) := by have := HA.out.1 i hin 1 (by omega); rw [← ex] at this; rw [hw]; exact this
      have l1 : wr.cell? ⟨g2, o2 + i * 6 + 1, none⟩ = some (.int .i64 a1) := by have := HA.out.2 i hin 1 (by omega); rw [← ex] at this; rw [hw]; exact this
      have k2 : wr.cell? ⟨g1, o1 + i * 6 + 2, none⟩ = some (.int .i64 a2) := by have := HA.out.1 i hin 2 (by omega); rw [← ex] at this; rw [hw]; exact this
      have l2 : wr.cell? ⟨g2, o2 + i * 6 + 2, none⟩ = some (.int .i64 a2) := by have := HA.out.2 i hin 2 (by omega); rw [← ex] at this; rw [hw]; exact this
      have k3 : wr.cell? ⟨g1, o1 + i * 6 + 3, none⟩ = some (.int .i64 a3) := by have := HA.out.1 i hin 3 (by omega); rw [← ex] at this; rw [hw]; exact this
      have l3 : wr.cell? ⟨g2, o2 + i * 6 + 3, none⟩ = some (.int .i64 a3) := by have := HA.out.2 i hin 3 (by omega); rw [← ex] at this; rw [hw]; exact this
      have k4 : wr.cell? ⟨g1, o1 + i * 6 + 4, none⟩ = some (.int .i64 a4) := by have := HA.out.1 i hin 4 (by omega); rw [← ex] at this; rw [hw]; exact this
      have l4 : wr.cell? ⟨g2, o2 + i * 6 + 4, none⟩ = some (.int .i64 a4) := by have := HA.out.2 i hin 4 (by omega); rw [← ex] at this; rw [hw]; exact this
      have k5 : wr.cell? ⟨g1, o1 + i * 6 + 5, none⟩ = some (.int .i64 a5) := by have := HA.out.1 i hin 5 (by omega); rw [← ex] at this; rw [hw]; exact this
      have l5 : wr.cell? ⟨g2, o2 + i * 6 + 5, none⟩ = some (.int .i64 a5) := by have := HA.out.2 i hin 5 (by omega); rw [← ex] at this; rw [hw]; exact this
      have hlt : (i : Int) < (n : Int) := by omega
      have wi : IntKind.i64.wrap ((i : Int) + 1) = (i : Int) + 1 := by rw [IntKind.wrap_i64]; omega
      have HWW : Hid (wr = w.drewN m) := hw
      clear ex hw
      go_wp2_with fail
      go_quiet (fail)
      go_wp2_with fail
      go_roundw
      case rel => exact ⟨i + 1, by go_num, by omega, m + nq, by rw [HWW.out, World.drewN_drewN]⟩
      case measure =>
        simp only [intOf]
        omega
    obtain rfl : i = n := by omega
    have hnl : ¬ (i : Int) < (i : Int) := by omega
    have HWW : Hid (wr = w.drewN m) := hw
    clear hw
    go_wp2_with fail
    exact bodyPost_ret (v := .bool true) (by simp [results, Try.results21, go_sem]) rfl ⟨rfl, m, HWW.out⟩
theorem same13_none (a1 a2 : Option Addr) (c1 c2 : Nat) (w : World) :
    Calls Try.prog 21 #[.slice a1 0 c1, .slice a2 0 c2] w fun e w' => e = .returned (.bool true) ∧ ∃ m, w' = w.drewN m := by
  go_enter Try.func21, Try.ntmps21
  go_wp2_with fail
  go_loopw [5] (fun q5 wr => q5 = .int .i64 0 ∧ wr = w) (fun _ _ => 0)
  case atStart => exact ⟨rfl, rfl⟩
  case round =>
    obtain ⟨rfl, rfl⟩ := hrel
    go_wp2_with fail
    exact bodyPost_ret (v := .bool true) (by simp [results, Try.results21, go_sem]) rfl ⟨rfl, 0, rfl⟩
theorem same13_lsl {w : World} {d : Nat} {s : Sd} {l l' : Value} {L : List Pk} (h1 : Lsl w d s l L) (h2 : Lsl w d s l' L) (hl : L.length ≤ 1000000) : Calls Try.prog 21 #[l, l'] w fun e w' => e = .returned (.bool true) ∧ ∃ m, w' = w.drewN m := by
  obtain ⟨a1, c1, rfl, _, e1⟩ := h1
  obtain ⟨a2, c2, rfl, _, e2⟩ := h2
  rcases Nat.eq_zero_or_pos L.length with h0 | h0
  · rw [h0]
    exact same13_none a1 a2 c1 c2 w
  obtain ⟨g1, o1, rfl, _, _, k1⟩ := e1 h0
  obtain ⟨g2, o2, rfl, _, _, k2⟩ := e2 h0
  exact same13_some g1 o1 c1 g2 o2 c2 L.length L rfl hl w k1 k2
set_option maxHeartbeats 16000000 in
theorem wmove_leave_of (b : Nat) (x : Wv) (s : Sd) (P : Nat → List Pk) (fl sz : Int) (f : Nat) (C : Sd → Prop) (hf : f < 4) (hfl : fl % 4 = (f : Int)) (w : World) (h : WS w b x s P)
    (hLV : ∀ w1, WF b x.d s w x s P w1 → Calls Try.prog 20 #[.pointer (some ⟨x.d, 0, none⟩), .agg #[.int .i64 (f : Int), .int .i64 (x.Gen f)], .int .i64 0] w1 fun e w' => ∃ l s1, e = .returned (.tuple #[l, .int .i64 0]) ∧ C s1 ∧ WF b x.d s w x s1 P w' ∧ Lsl w' x.d s1 l (P f))
    (hC : ∀ s1, C s1 → s1.F (f : Int) = none ∧ s1.nn < 1000000000 ∧ -4611686018427387904 ≤ s1.x.weight + 1 ∧ s1.x.weight + 1 ≤ 4611686018427387904) (hG : 0 ≤ x.Gen f ∧ x.Gen f ≤ 4611686018427387904) (hlen : (P f).length ≤ 1000000) :
    Calls Try.prog 9 #[.pointer (some ⟨b, 0, none⟩), .agg #[.int .i64 3, .int .i64 fl, .int .i64 sz]] w fun e w' => e = .returned (.bool true) ∧ ∃ s1 b' q, C s1 ∧ (∀ j c, s1.F j = some c → c ≠ b') ∧ WF b x.d s w { x with L := updN x.L f (.slice none 0 0), Gen := updN x.Gen f (x.Gen f + 1) } { s1.joined (f : Int) b' ⟨(f : Int), x.Gen f + 1, 1, qOf (x.Q f), q, 0, 0⟩ with x := { s1.x with weight := s1.x.weight + 1 } } (updN P f []) w' := by
  obtain ⟨W, hW⟩ : ∃ W, W = w.alloc (.cells #[.int .i64 3, .int .i64 fl, .int .i64 sz] 28) := ⟨_, rfl⟩
  obtain ⟨v, ev⟩ : ∃ v, v = w.heap.size := ⟨_, rfl⟩
  have B0 : Below w.heap.size w W := by rw [hW]; exact (Below.refl _ _).alloc (Nat.le_refl _) _
  have hB : W.heap[v]? = some (.cells #[.int .i64 3, .int .i64 fl, .int .i64 sz] 28) := by rw [hW, ev]; exact (MapKept.heap_alloc _ _).1
  have D0 : WF b x.d s w x s P W := h.wf.below B0
  have v0 : (w.alloc (.cells #[.int .i64 3, .int .i64 fl, .int .i64 sz] 28)).cell? ⟨v, 0, none⟩ = some (.int .i64 3) := by rw [← hW]; simp [World.cell?, hB]
  have v1 : (w.alloc (.cells #[.int .i64 3, .int .i64 fl, .int .i64 sz] 28)).cell? ⟨v, 1, none⟩ = some (.int .i64 fl) := by rw [← hW]; simp [World.cell?, hB]
  rw [ev] at v0 v1
  have HW : Hid (w.alloc (.cells #[.int .i64 3, .int .i64 fl, .int .i64 sz] 28) = W ∧ w.heap.size = v) := ⟨hW.symm, ev.symm⟩
  have hff : bits .and .i64 fl 3 = (f : Int) := by rw [i64_and3]; exact hfl
  have hf4 : (f : Int) < 4 := by omega
  have HD0 : Hid (WF b x.d s w x s P W) := D0
  have cb : W.cell? ⟨b, 0, none⟩ = some (.pointer (some ⟨x.d, 0, none⟩)) := D0.ws.wr.cd
  have HL : Hid (∀ w1, Hid (WF b x.d s w x s P w1) → Calls Try.prog 20 #[.pointer (some ⟨x.d, 0, none⟩), .agg #[.int .i64 (f : Int), .int .i64 (x.Gen f)], .int .i64 0] w1 fun e w' => ∃ l s1, e = .returned (.tuple #[l, .int .i64 0]) ∧ Hid (C s1 ∧ WF b x.d s w x s1 P w' ∧ Lsl w' x.d s1 l (P f)) ∧ w'.cell? ⟨b, 0, none⟩ = some (.pointer (some ⟨x.d, 0, none⟩))) := fun w1 h1 => by
    refine (hLV w1 h1.out).mono ?_
    rintro e w' ⟨l, s1, rfl, c1, c2, c3⟩
    exact ⟨l, s1, rfl, ⟨c1, c2, c3⟩, by have := c2.ws.wr.cd; rw [c2.dd] at this; exact this⟩
  have HN : Hid (∀ nd, Calls Try.prog 12 #[.pointer (some ⟨b, 0, none⟩), .int .i64 (f : Int)] (W.drewN nd) fun e w' => e = .returned (.agg #[.int .i64 (f : Int), .int .i64 (x.Gen f)]) ∧ Hid (WF b x.d s w x s P w') ∧ w'.cell? ⟨b, 0, none⟩ = some (.pointer (some ⟨x.d, 0, none⟩))) := fun nd => by
    have D1 := HD0.out.drewN nd
    refine (whandle_any b x f hf (W.drewN nd) D1.ws.wr).mono ?_
    rintro e w' ⟨rfl, hb⟩
    have D2 := D1.below hb
    exact ⟨rfl, D2, D2.ws.wr.cd⟩
  have HC : Hid ((∀ s1, C s1 → s1.F (f : Int) = none ∧ s1.nn < 1000000000 ∧ -4611686018427387904 ≤ s1.x.weight + 1 ∧ s1.x.weight + 1 ≤ 4611686018427387904) ∧ (0 ≤ x.Gen f ∧ x.Gen f ≤ 4611686018427387904) ∧ (P f).length ≤ 1000000) := ⟨hC, hG, hlen⟩
  clear h hLV hC hG hlen hfl B0 hB D0 hW ev
  go_enter Try.func9, Try.ntmps9
  go_wp2_with fail
  rw [HW.out.1, HW.out.2]
  clear v0 v1
  rename_i hz
  go_region_held3 (fun w9 => w9.cell? ⟨b, 0, none⟩ = some (.pointer (some ⟨x.d, 0, none⟩))) (first | (simp [go_sem, *]; done) | (trace_state; fail))
    (first
      | (go_at_call 12; refine Calls.mono (HN.out _) ?_; rintro e w1 ⟨rfl, hw1, hc1⟩)
      | (go_at_call 20; refine Calls.mono (HL.out _ (by assumption)) ?_; rintro e w2 ⟨l, s1, rfl, hw2, hc2⟩))
  refine hz _ _ ?_
  clear hz hw1 hc1 HL HN cb
  obtain ⟨vl, evl⟩ : ∃ vl, vl = x.L f := ⟨_, rfl⟩
  have cl : w2.cell? ⟨b, 5 + f, none⟩ = some vl := by rw [evl]; exact hw2.out.2.1.ws.wr.cL hf
  have SA : Hid (Calls Try.prog 21 #[l, vl] w2 fun e w' => e = .returned (.bool true) ∧ ∃ m, w' = w2.drewN m) := by
    have h2 := hw2.out.2.1.ws.ls f hf
    rw [← evl] at h2
    exact same13_lsl hw2.out.2.2 h2 HC.out.2.2
  clear evl
  go_wp2_with fail
  refine SA.out.mono ?_
  rintro e w3 ⟨rfl, m3, rfl⟩
  clear SA cl hc2
  have D3 : WF b x.d s w x s1 P (w2.drewN m3) := hw2.out.2.1.drewN m3
  obtain ⟨W3, hW3⟩ : ∃ W3, W3 = w2.drewN m3 := ⟨_, rfl⟩
  rw [← hW3] at D3 ⊢
  have z5 : W3.frozen? ⟨b, 5 + f, none⟩ = false := World.rowIs.frozen D3.ws.wr _
  have z9 : W3.frozen? ⟨b, 9 + f, none⟩ = false := World.rowIs.frozen D3.ws.wr _
  obtain ⟨c5, k5⟩ : ∃ c, W3.cell? ⟨b, 5 + f, none⟩ = some c := ⟨_, D3.ws.wr.cL hf⟩
  obtain ⟨gg, egg⟩ : ∃ gg, gg = x.Gen f := ⟨_, rfl⟩
  have k9 : W3.cell? ⟨b, 9 + f, none⟩ = some (.int .i64 gg) := by rw [egg]; exact D3.ws.wr.cG hf
  have wg : IntKind.i64.wrap (gg + 1) = gg + 1 := by
    have := HC.out.2.1
    rw [IntKind.wrap_i64, egg]
    omega
  have D4 : WF b x.d s w { x with L := updN x.L f (.slice none 0 0), Gen := updN x.Gen f (gg + 1) } s1 (updN P f []) (((W3.setCell ⟨b, 5 + f, none⟩ (.slice none 0 0)).setCell ⟨b, 9 + f, none⟩ (.int .i64 (gg + 1))).drew) := by
    have X1 := D3.setL hf (.slice none 0 0) [] (Lsl.nil _ _ _)
    have X2 := X1.setGen hf (gg + 1)
    exact X2.drew
  obtain ⟨W4, hW4⟩ : ∃ W4, W4 = ((W3.setCell ⟨b, 5 + f, none⟩ (.slice none 0 0)).setCell ⟨b, 9 + f, none⟩ (.int .i64 (gg + 1))).drew := ⟨_, rfl⟩
  rw [← hW4] at D4
  obtain ⟨qf, eqf⟩ : ∃ qf, qf = x.Q f := ⟨_, rfl⟩
  have cb : W4.cell? ⟨b, 0, none⟩ = some (.pointer (some ⟨x.d, 0, none⟩)) := D4.ws.wr.cd
  have cq : W4.cell? ⟨b, 1 + f, none⟩ = some (.int .i64 qf) := by rw [eqf]; exact D4.ws.wr.cQ hf
  have HD4 : Hid (WF b x.d s w { x with L := updN x.L f (.slice none 0 0), Gen := updN x.Gen f (gg + 1) } s1 (updN P f []) W4) := D4
  have HCC : Hid (C s1) := hw2.out.1
  have HW4 : Hid (((W3.setCell ⟨b, 5 + f, none⟩ (.slice none 0 0)).setCell ⟨b, 9 + f, none⟩ (.int .i64 (gg + 1))).drew = W4) := hW4.symm
  have HQ : Hid (qf = x.Q f ∧ gg = x.Gen f) := ⟨eqf, egg⟩
  have HN : Hid (∀ nd, Calls Try.prog 12 #[.pointer (some ⟨b, 0, none⟩), .int .i64 (f : Int)] (W4.drewN nd) fun e w' => e = .returned (.agg #[.int .i64 (f : Int), .int .i64 (gg + 1)]) ∧ Hid (WF b x.d s w { x with L := updN x.L f (.slice none 0 0), Gen := updN x.Gen f (gg + 1) } s1 (updN P f []) w') ∧ w'.cell? ⟨b, 0, none⟩ = some (.pointer (some ⟨x.d, 0, none⟩)) ∧ w'.cell? ⟨b, 1 + f, none⟩ = some (.int .i64 qf)) := fun nd => by
    have D5 := HD4.out.drewN nd
    refine (whandle_any b _ f hf (W4.drewN nd) D5.ws.wr).mono ?_
    rintro e w' ⟨rfl, hb⟩
    have D6 := D5.below hb
    refine ⟨?_, D6, D6.ws.wr.cd, by rw [HQ.out.1]; exact D6.ws.wr.cQ hf⟩
    show _ = Ending.returned (.agg #[.int .i64 (f : Int), .int .i64 (gg + 1)])
    have e9 : updN x.Gen f (gg + 1) f = gg + 1 := updN_eq _ _ _
    show Ending.returned (.agg #[.int .i64 (f : Int), .int .i64 (updN x.Gen f (gg + 1) f)]) = _
    rw [e9]
  have HJ : Hid (∀ w1, Hid (WF b x.d s w { x with L := updN x.L f (.slice none 0 0), Gen := updN x.Gen f (gg + 1) } s1 (updN P f []) w1) → Calls Try.prog 15 #[.pointer (some ⟨x.d, 0, none⟩), .agg #[.int .i64 (f : Int), .int .i64 (gg + 1)], .agg #[.int .i64 1, .int .i64 qf, .int .i64 0, .int .i64 0, .int .i64 0, .float .f64 0, .int .i64 0, .int .i64 0], .int .i64 0] w1 fun e w' => e = .returned (.int .i64 0) ∧ ∃ b' q, Hid ((∀ j c, s1.F j = some c → c ≠ b') ∧ WF b x.d s w { x with L := updN x.L f (.slice none 0 0), Gen := updN x.Gen f (gg + 1) } { s1.joined (f : Int) b' ⟨(f : Int), gg + 1, 1, qOf qf, q, 0, 0⟩ with x := { s1.x with weight := s1.x.weight + 1 } } (updN P f []) w') ∧ w'.cell? ⟨b, 0, none⟩ = some (.pointer (some ⟨x.d, 0, none⟩)) ∧ w'.cell? ⟨b, 1 + f, none⟩ = some (.int .i64 qf)) := fun w1 h1 => by
    obtain ⟨k1, k2, k3, k4⟩ := HC.out.1 s1 HCC.out
    refine (joinD_any x.d s1 (f : Int) (gg + 1) 1 qf 0 0 0 0 0 0 0 w1 h1.out.ws.ds (by omega) (by omega) k1 k2 k3 k4).mono ?_
    rintro e w' ⟨rfl, b', q, hb1, hb2, X⟩
    have D6 := h1.out.go X
    refine ⟨rfl, b', q, ⟨fun j c hj e => ?_, D6⟩, D6.ws.wr.cd, by rw [HQ.out.1]; exact D6.ws.wr.cQ hf⟩
    have := h1.out.ws.ds.bl hj
    omega
  clear hW3 D3 D4 hW4 hw2 eqf egg
  go_wp2_with fail
  go_region
  go_wp2_with fail
  rw [HW4.out]
  clear z5 z9 k5 k9
  rename_i hz
  go_region_held3 (fun w9 => w9.cell? ⟨b, 0, none⟩ = some (.pointer (some ⟨x.d, 0, none⟩)) ∧ w9.cell? ⟨b, 1 + f, none⟩ = some (.int .i64 qf)) (first | (simp [go_sem, *]; done) | (trace_state; fail))
    (first
      | (go_at_call 12; refine Calls.mono (HN.out _) ?_; rintro e w5 ⟨rfl, hw5, hc5, hd5⟩)
      | (go_at_call 15; refine Calls.mono (HJ.out _ (by assumption)) ?_; rintro e w6 ⟨rfl, b', q, hw6, hc6, hd6⟩))
  all_goals
    try refine hz _ _ ?_
    clear HN HJ cb cq
    go_wp2_with fail
    have e2 := HQ.out.2
    have e1 := HQ.out.1
    subst e2
    subst e1
    exact bodyPost_ret (v := .bool true) (by simp [results, Try.results9, go_sem]) rfl ⟨rfl, s1, b', q, HCC.out, hw6.out.1, hw6.out.2⟩
def Gone0 (s : Sd) (b : Nat) (f : Int) (s1 : Sd) : Prop := s1 = ({ s with x := { s.x with weight := s.x.weight - (s.Y b).weight } } : Sd).shut f
def Gone1 (s : Sd) (b k n : Nat) (f : Int) (s1 : Sd) : Prop := ∃ g', s1 = ((({ s with x := { s.x with weight := s.x.weight - (s.Y b).weight, count := s.x.count - (n : Int) } } : Sd).outOf b k g').shut f)
theorem shut_none (s : Sd) (f : Int) : (s.shut f).F f = none := by
  show updI s.F f none f = none
  unfold updI
  rw [if_pos rfl]
theorem wmove_leave0 (b : Nat) (x : Wv) (s : Sd) (P : Nat → List Pk) (fl sz : Int) (f c : Nat) (hf : f < 4) (hfl : fl % 4 = (f : Int)) (w : World) (h : WS w b x s P) (hP : P f = []) (hQ : s.Q c = []) (hF : s.F (f : Int) = some c) (hg : (s.Y c).gen = x.Gen f) (hb : c ∉ s.R) (hw1 : -2305843009213693952 ≤ s.x.weight - (s.Y c).weight) (hw2 : s.x.weight - (s.Y c).weight ≤ 2305843009213693952) (hn : s.nn < 1000000000) (hG : 0 ≤ x.Gen f ∧ x.Gen f ≤ 4611686018427387904) :
    Calls Try.prog 9 #[.pointer (some ⟨b, 0, none⟩), .agg #[.int .i64 3, .int .i64 fl, .int .i64 sz]] w fun e w' => e = .returned (.bool true) ∧ ∃ s1 b' q, Gone0 s c f s1 ∧ (∀ j c, s1.F j = some c → c ≠ b') ∧ WF b x.d s w { x with L := updN x.L f (.slice none 0 0), Gen := updN x.Gen f (x.Gen f + 1) } { s1.joined (f : Int) b' ⟨(f : Int), x.Gen f + 1, 1, qOf (x.Q f), q, 0, 0⟩ with x := { s1.x with weight := s1.x.weight + 1 } } (updN P f []) w' := by
  refine wmove_leave_of b x s P fl sz f (Gone0 s c f) hf hfl w h (fun w1 h1 => ?_) (fun s1 h1 => ?_) hG (by rw [hP]; simp)
  · refine (leaveD_empty x.d s (f : Int) (x.Gen f) 0 c w1 h1.ws.ds (by omega) (by omega) hF hg (by omega) (by omega) hQ hb).mono ?_
    rintro e w2 ⟨rfl, X⟩
    refine ⟨_, _, rfl, rfl, h1.go X, ?_⟩
    rw [hP]
    exact Lsl.nil _ _ _
  rw [h1]
  refine ⟨shut_none _ _, hn, ?_, ?_⟩
  · show -4611686018427387904 ≤ s.x.weight - (s.Y c).weight + 1
    omega
  show s.x.weight - (s.Y c).weight + 1 ≤ 4611686018427387904
  omega
theorem wmove_leave1 (b : Nat) (x : Wv) (s : Sd) (P : Nat → List Pk) (fl sz : Int) (f c k : Nat) (hf : f < 4) (hfl : fl % 4 = (f : Int)) (w : World) (h : WS w b x s P) (hP : P f ≠ []) (hQ : s.Q c = P f) (hF : s.F (f : Int) = some c) (hg : (s.Y c).gen = x.Gen f) (hw1 : -2305843009213693952 ≤ s.x.weight - (s.Y c).weight) (hw2 : s.x.weight - (s.Y c).weight ≤ 2305843009213693952) (hnn : s.nn < 1000000000) (hG : 0 ≤ x.Gen f ∧ x.Gen f ≤ 4611686018427387904) (hc1 : -4611686018427387904 ≤ s.x.count) (hc2 : s.x.count ≤ 4611686018427387904) (hl : (P f).length ≤ 1000000) (hn : s.R.length ≤ 1073741824) (hdu : s.R.Nodup) (hk : k < s.R.length) (hnb : s.nth k = c) :
    Calls Try.prog 9 #[.pointer (some ⟨b, 0, none⟩), .agg #[.int .i64 3, .int .i64 fl, .int .i64 sz]] w fun e w' => e = .returned (.bool true) ∧ ∃ s1 b' q, Gone1 s c k (P f).length f s1 ∧ (∀ j c, s1.F j = some c → c ≠ b') ∧ WF b x.d s w { x with L := updN x.L f (.slice none 0 0), Gen := updN x.Gen f (x.Gen f + 1) } { s1.joined (f : Int) b' ⟨(f : Int), x.Gen f + 1, 1, qOf (x.Q f), q, 0, 0⟩ with x := { s1.x with weight := s1.x.weight + 1 } } (updN P f []) w' := by
  refine wmove_leave_of b x s P fl sz f (Gone1 s c k (P f).length f) hf hfl w h (fun w1 h1 => ?_) (fun s1 h1 => ?_) hG hl
  · refine (leaveD_some x.d s (f : Int) (x.Gen f) 0 c (P f) w1 h1.ws.ds (by omega) (by omega) hF hg (by omega) (by omega) hQ hP hc1 hc2 (by omega) hn hdu k hk hnb).mono ?_
    rintro e w2 ⟨g, g', rfl, hgl, hrow, hnm, X⟩
    refine ⟨_, _, rfl, ⟨g', rfl⟩, h1.go X, some ⟨g, 0, none⟩, (P f).length, rfl, Nat.le_refl _, fun _ => ⟨g, 0, rfl, hnm, ?_, fun i hi j hj => ?_⟩⟩
    · obtain ⟨cs, e, _⟩ := hrow
      exact ⟨cs, e⟩
    have := World.rowIs.cell hrow (i := i * 6 + j) (by omega)
    rw [show (i * 6 + j) / 6 = i by omega, show (i * 6 + j) % 6 = j by omega] at this
    rw [Nat.zero_add]
    exact this
  obtain ⟨g', e⟩ := h1
  rw [e]
  refine ⟨shut_none _ _, hnn, ?_, ?_⟩
  · show -4611686018427387904 ≤ s.x.weight - (s.Y c).weight + 1
    omega
  show s.x.weight - (s.Y c).weight + 1 ≤ 4611686018427387904
  omega
theorem flatP_one (L : List Pk) : ∀ u ∈ flatP L, u.oneCell' = true := by
  intro u hu
  unfold flatP at hu
  obtain ⟨x, _, h⟩ := List.mem_flatMap.1 hu
  obtain ⟨j, _, rfl⟩ := List.mem_map.1 h
  exact encPk_one x j
def Ow (base : Nat) (W : World) (v : Value) (L : List Pk) : Prop := W.ownsRow base 49 6 v L.length (flatP L)
theorem Ow.nil (base : Nat) (W : World) : Ow base W (.slice none 0 0) [] := ⟨rfl, .inl ⟨rfl, rfl⟩⟩
theorem appP_run (w : World) (ty : TypeId) (base : Nat) (v : Value) (L M : List Pk) (hown : Ow base w v L) (a : Option Addr) (c : Nat) (hM : 0 < M.length → ∃ g o, a = some ⟨g, o, none⟩ ∧ ∀ i, i < M.length → ∀ j, j < 6 → w.cell? ⟨g, o + i * 6 + j, none⟩ = some (encPk (M.getD i Pk.zero) j)) (hlim : L.length + M.length ≤ 1000000) (hb : base ≤ w.heap.size) (hv : v = .slice none 0 0 ∨ 0 < M.length) :
    ∃ v' w', (Builtin.append_ #[33, 33] ty #[v, .slice a M.length c]).run Try.prog w = .ok v' w' ∧ Ow base w' v' (L ++ M) ∧ w.grownBy w' v.ownBlock ∧ (v'.ownBlock = v.ownBlock ∨ v'.ownBlock = some w.heap.size) := by
  obtain ⟨i, hi, hz, hsz, hby⟩ := info_parts Try.infoPk
  rcases Nat.eq_zero_or_pos M.length with h0 | h0
  · obtain rfl : M = [] := List.eq_nil_of_length_eq_zero h0
    rcases hv with rfl | e
    · refine ⟨.slice none 0 0, w, ?_, by rw [List.append_nil]; exact hown, ⟨rfl, rfl, rfl, Nat.le_refl _, fun _ _ _ => rfl⟩, .inl rfl⟩
      have hs : Src Try.prog i.size 33 (.slice a 0 c) 0 [] w := by
        cases a with
        | none => exact Src.ofNil w Try.underlying33 c
        | some a => exact Src.ofSlice w Try.underlying33 a 0 c [] (by simp) (fun j u h => by simp at h) (by simp)
      exact run_append_nothing w _ _ ty 49 i Try.underlying33 hi none 0 0 (Nat.le_refl _) _ hs
    simp at e
  obtain ⟨g, o, rfl, hc⟩ := hM h0
  obtain ⟨v', w', r1, r2, r3, _, r5⟩ := run_append_own_at (P := Try.prog) w base 33 ty 49 i _ 6 48 Try.underlying33 hi hz hsz hby rfl (by omega) v _ _ hown ⟨g, o, none⟩ M.length c (flatP M) (flatP_len M) (fun j u hj => by
    have hjl : j < M.length * 6 := by
      have := (List.getElem?_eq_some_iff.1 hj).1
      rw [flatP_len] at this
      exact this
    rw [flatP_q M j hjl] at hj
    rw [addr_add, ← hj]
    have := hc (j / 6) (by omega) (j % 6) (by omega)
    rw [show o + j / 6 * 6 + j % 6 = o + j by omega] at this
    exact this) (flatP_one M) (by simp only [maxLen]; omega) (by omega) hb
  refine ⟨v', w', r1, ?_, r3, r5⟩
  show World.ownsRow _ _ _ _ _ _ _
  rw [List.length_append, flatP_app]
  exact r2
end Go.Proofs.Ytcndbmccediknaa
namespace Go.Proofs.Ytcndbmccediknaa
set_option maxRecDepth 100000
set_option linter.unusedVariables false
def ix (R : List Nat) (b : Nat) : Nat := R.idxOf b
theorem ix_at : ∀ (R : List Nat), R.Nodup → ∀ i, i < R.length → ix R (R.getD i 0) = i
  | [], _, i, h => by simp at h
  | x :: R, hd, i, h => by
    have hd' := List.nodup_cons.1 hd
    cases i with
    | zero => simp [ix]
    | succ i =>
      have hi : i < R.length := by simpa using h
      have hm : R.getD i 0 ∈ R := by
        rw [List.getD_eq_getElem?_getD, List.getElem?_eq_getElem hi]
        exact List.getElem_mem hi
      have hne : (x == R.getD i 0) = false := by
        rw [beq_eq_false_iff_ne]
        rintro rfl
        exact hd'.1 hm
      have := ix_at R hd'.2 i hi
      unfold ix at this ⊢
      rw [List.getD_cons_succ, List.idxOf_cons, hne, this]
      rfl
theorem at_mem {R : List Nat} {b : Nat} (h : b ∈ R) : ∃ i, i < R.length ∧ R.getD i 0 = b := by
  obtain ⟨i, hi, e⟩ := List.getElem_of_mem h
  exact ⟨i, hi, by rw [List.getD_eq_getElem?_getD, List.getElem?_eq_getElem hi]; exact e⟩
theorem rl_len {α : Type} (xs : List α) (k : Nat) : (rl k xs).length = xs.length := by
  unfold rl
  rw [List.length_append, List.length_drop, List.length_take]
  omega
theorem rl_at (R : List Nat) {k i : Nat} (hk : k ≤ R.length) (hi : i < R.length) : (rl k R).getD (if i < k then R.length - k + i else i - k) 0 = R.getD i 0 := by
  unfold rl
  split
  · rw [List.getD_eq_getElem?_getD, List.getD_eq_getElem?_getD, List.getElem?_append_right (by rw [List.length_drop]; omega), List.length_drop, List.getElem?_take, if_pos (by omega)]
    congr 2
    omega
  rw [List.getD_eq_getElem?_getD, List.getD_eq_getElem?_getD, List.getElem?_append_left (by rw [List.length_drop]; omega), List.getElem?_drop]
  congr 2
  omega
theorem ix_rl {R : List Nat} (hd : R.Nodup) {k i : Nat} (hk : k ≤ R.length) (hi : i < R.length) : ix (rl k R) (R.getD i 0) = if i < k then R.length - k + i else i - k := by
  rw [← rl_at R hk hi]
  exact ix_at _ (rl_nodup hd k) _ (by rw [rl_len]; split <;> omega)
def tw (R : List Nat) (Y : Nat → Fw) (a b : Nat) : Int := (if ix R b < ix R a then (Y a).quantum * (Y b).quantum else 0) - (Y b).quantum * (Y a).kept + (Y a).quantum * (Y b).kept
theorem tw_pass {s : Sd} {r : Int} {k : Nat} {Y' : Nat → Fw} (hd : s.R.Nodup) (hk : k < s.R.length) (hu : Up s r k s.R.length Y') {a b : Nat} (ha : a ∈ s.R) (hb : b ∈ s.R) : tw (rl k s.R) Y' a b = tw s.R s.Y a b := by
  obtain ⟨i, hi, rfl⟩ := at_mem ha
  obtain ⟨j, hj, rfl⟩ := at_mem hb
  have e1 := hu.inn i hi
  have e2 := hu.inn j hj
  rw [if_pos hi] at e1
  rw [if_pos hj] at e2
  unfold Sd.nth at e1 e2
  unfold tw
  rw [ix_rl hd (by omega) hi, ix_rl hd (by omega) hj, ix_at _ hd i hi, ix_at _ hd j hj, e1, e2]
  unfold upd Sd.nth
  simp only
  generalize (s.Y (s.R.getD i 0)).quantum = p
  generalize (s.Y (s.R.getD j 0)).quantum = q
  generalize (s.Y (s.R.getD i 0)).kept = x
  generalize (s.Y (s.R.getD j 0)).kept = y
  have hpq : p * q = q * p := Int.mul_comm _ _
  unfold ow
  have n1 : q * (x + (r + 1) * p) = q * x + (q * p) * r + q * p := by
    rw [Int.mul_add, Int.add_mul, Int.mul_add, Int.one_mul, ← Int.add_assoc]
    congr 2
    rw [Int.mul_comm r p, Int.mul_assoc]
  have n2 : q * (x + r * p) = q * x + (q * p) * r := by
    rw [Int.mul_add]
    congr 1
    rw [Int.mul_comm r p, Int.mul_assoc]
  have n3 : p * (y + (r + 1) * q) = p * y + (q * p) * r + q * p := by
    rw [Int.mul_add, Int.add_mul, Int.mul_add, Int.one_mul, ← Int.add_assoc, hpq]
    congr 2
    rw [Int.mul_comm r q, ← Int.mul_assoc, hpq]
  have n4 : p * (y + r * q) = p * y + (q * p) * r := by
    rw [Int.mul_add]
    congr 1
    rw [Int.mul_comm r q, ← Int.mul_assoc, hpq]
  generalize q * p * r = z at *
  by_cases h1 : i < k <;> by_cases h2 : j < k <;> simp only [h1, h2, if_true, if_false]
  · rw [n1, n3]
    by_cases h3 : j < i
    · rw [if_pos (by omega), if_pos h3]; omega
    rw [if_neg (by omega), if_neg h3]; omega
  · rw [n1, n4, if_pos (by omega), if_neg (by omega)]; omega
  · rw [n2, n3, if_neg (by omega), if_pos (by omega)]; omega
  rw [n2, n4]
  by_cases h3 : j < i
  · rw [if_pos (by omega), if_pos h3]; omega
  rw [if_neg (by omega), if_neg h3]; omega
theorem ix_push {R : List Nat} {c a : Nat} (h : a ∈ R) : ix (R ++ [c]) a = ix R a := by
  unfold ix
  rw [List.idxOf_append, if_pos h]
theorem eraseIdx_at (R : List Nat) {c i : Nat} (hi : i ≠ c) (h : i < R.length) : (R.eraseIdx c).getD (if i < c then i else i - 1) 0 = R.getD i 0 := by
  rw [List.getD_eq_getElem?_getD, List.getD_eq_getElem?_getD, List.getElem?_eraseIdx]
  by_cases h1 : i < c
  · rw [if_pos h1, if_pos h1]
  rw [if_neg h1, if_neg (by omega), show i - 1 + 1 = i by omega]
theorem eraseIdx_nodup {R : List Nat} (h : R.Nodup) (c : Nat) : (R.eraseIdx c).Nodup := h.sublist (List.eraseIdx_sublist _ _)
theorem ix_out {R : List Nat} (hd : R.Nodup) {c i : Nat} (hc : c < R.length) (hi : i ≠ c) (h : i < R.length) : ix (R.eraseIdx c) (R.getD i 0) = if i < c then i else i - 1 := by
  rw [← eraseIdx_at R hi h]
  exact ix_at _ (eraseIdx_nodup hd c) _ (by rw [List.length_eraseIdx, if_pos hc]; split <;> omega)
theorem tw_out {R : List Nat} {Y : Nat → Fw} (hd : R.Nodup) {c : Nat} (hc : c < R.length) {a b : Nat} (ha : a ∈ R) (hb : b ∈ R) (ha' : a ≠ R.getD c 0) (hb' : b ≠ R.getD c 0) : tw (R.eraseIdx c) Y a b = tw R Y a b := by
  obtain ⟨i, hi, rfl⟩ := at_mem ha
  obtain ⟨j, hj, rfl⟩ := at_mem hb
  have h1 : i ≠ c := by rintro rfl; exact ha' rfl
  have h2 : j ≠ c := by rintro rfl; exact hb' rfl
  unfold tw
  rw [ix_out hd hc h1 hi, ix_out hd hc h2 hj, ix_at _ hd i hi, ix_at _ hd j hj]
  by_cases h3 : j < i
  · rw [if_pos h3, if_pos (by split <;> split <;> omega)]
  rw [if_neg h3, if_neg (by split <;> split <;> omega)]
theorem tw_push {R : List Nat} {Y : Nat → Fw} {a b c : Nat} (ha : a ∈ R) (hb : b ∈ R) : tw (R ++ [c]) Y a b = tw R Y a b := by
  unfold tw
  rw [ix_push ha, ix_push hb]
theorem tw_congr {R : List Nat} {Y Y' : Nat → Fw} {a b : Nat} (h1 : (Y' a).quantum = (Y a).quantum) (h2 : (Y' b).quantum = (Y b).quantum) (h3 : (Y' a).kept = (Y a).kept) (h4 : (Y' b).kept = (Y b).kept) : tw R Y' a b = tw R Y a b := by
  unfold tw
  rw [h1, h2, h3, h4]
theorem tw_sentA {R : List Nat} {Y Y' : Nat → Fw} {a b : Nat} {x : Int} (hq : ∀ c, (Y' c).quantum = (Y c).quantum) (h3 : (Y' a).kept = (Y a).kept - x) (h4 : (Y' b).kept = (Y b).kept) : tw R Y' a b = tw R Y a b + x * (Y b).quantum := by
  unfold tw
  rw [hq, hq, h3, h4, Int.mul_sub, Int.mul_comm x]
  omega
theorem tw_sentB {R : List Nat} {Y Y' : Nat → Fw} {a b : Nat} {x : Int} (hq : ∀ c, (Y' c).quantum = (Y c).quantum) (h3 : (Y' a).kept = (Y a).kept) (h4 : (Y' b).kept = (Y b).kept - x) : tw R Y' a b = tw R Y a b - x * (Y a).quantum := by
  unfold tw
  rw [hq, hq, h3, h4, Int.mul_sub, Int.mul_comm x]
  omega
theorem td_le {x q t : Int} (hq : 1 ≤ q) (h : t ≤ x.tdiv q) (ht : 1 ≤ t) : t * q ≤ x := by
  rcases Int.lt_or_le x 0 with e | e
  · have h1 : 0 ≤ (-x).tdiv q := Int.tdiv_nonneg (by omega) (by omega)
    rw [Int.neg_tdiv] at h1
    omega
  rw [Int.tdiv_eq_ediv_of_nonneg e] at h
  exact Int.mul_le_of_le_ediv (by omega) h
theorem td_lt {x q t : Int} (hq : 1 ≤ q) (h : x.tdiv q ≤ t) (ht : 0 ≤ t) : x < (t + 1) * q := by
  rcases Int.lt_or_le x 0 with e | e
  · have : 0 ≤ (t + 1) * q := Int.mul_nonneg (by omega) (by omega)
    omega
  rw [Int.tdiv_eq_ediv_of_nonneg e] at h
  exact Int.lt_mul_of_ediv_lt (by omega) (by omega)
structure Kp (m : Int) (R : List Nat) (Y : Nat → Fw) (Q : Nat → List Pk) (tn : Bool) : Prop where
  nd : R.Nodup
  qu : ∀ b, b ∈ R → 1 ≤ (Y b).quantum ∧ (Y b).quantum ≤ 1000
  ne : ∀ b, b ∈ R → Q b ≠ []
  sz : ∀ b, b ∈ R → ∀ p, p ∈ Q b → 1 ≤ p.size ∧ p.size ≤ m
  hi : ∀ b, b ∈ R → (Y b).kept < m
  lo : ∀ b, b ∈ R → -(Y b).quantum ≤ (Y b).kept
  own : ∀ i, i < R.length → (0 < i ∨ tn = false) → 0 ≤ (Y (R.getD i 0)).kept ∧ (Y (R.getD i 0)).kept < ((Q (R.getD i 0)).headD Pk.zero).size
  tr : tn = true → 0 < R.length
theorem getD_mem {R : List Nat} {i : Nat} (h : i < R.length) : R.getD i 0 ∈ R := by
  rw [List.getD_eq_getElem?_getD, List.getElem?_eq_getElem h]
  exact List.getElem_mem h
theorem getD_ne {R : List Nat} (hd : R.Nodup) {i j : Nat} (hi : i < R.length) (hj : j < R.length) (h : i ≠ j) : R.getD i 0 ≠ R.getD j 0 := by
  intro e
  have := ix_at R hd i hi
  rw [e, ix_at R hd j hj] at this
  omega
theorem headD_mem {L : List Pk} (h : L ≠ []) : L.headD Pk.zero ∈ L := by
  cases L with
  | nil => exact absurd rfl h
  | cons x L => simp
theorem Kp.size {m : Int} {R : List Nat} {Y : Nat → Fw} {Q : Nat → List Pk} {tn : Bool} (h : Kp m R Y Q tn) {b : Nat} (hb : b ∈ R) : 1 ≤ ((Q b).headD Pk.zero).size ∧ ((Q b).headD Pk.zero).size ≤ m := h.sz b hb _ (headD_mem (h.ne b hb))
theorem Kp.good {m : Int} {s : Sd} {tn : Bool} (h : Kp m s.R s.Y s.Q tn) (hm : m ≤ 65536) : s.Good := by
  intro b hb
  have h1 := h.qu b hb
  have h2 : 1 ≤ (hdP s b).size ∧ (hdP s b).size ≤ m := h.size hb
  have h3 := h.hi b hb
  have h4 := h.lo b hb
  exact ⟨h.ne b hb, h1.1, by omega, by omega, by omega, by omega, by omega⟩
theorem Kp.mono {m m' : Int} {R : List Nat} {Y : Nat → Fw} {Q : Nat → List Pk} {tn : Bool} (h : Kp m R Y Q tn) (hm : m ≤ m') : Kp m' R Y Q tn :=
  ⟨h.nd, h.qu, h.ne, fun b hb p hp => ⟨(h.sz b hb p hp).1, Int.le_trans (h.sz b hb p hp).2 hm⟩, fun b hb => Int.lt_of_lt_of_le (h.hi b hb) hm, h.lo, h.own, h.tr⟩
theorem Kp.pass {m : Int} {s : Sd} {r : Int} {k : Nat} {Y' : Nat → Fw} (h : Kp m s.R s.Y s.Q s.x.turn) (hp : Pas s r k) (hu : Up s r k s.R.length Y') :
    Kp m (rl k s.R) Y' s.Q true ∧ (hdP s (s.nth k)).size ≤ (Y' (s.nth k)).kept + (Y' (s.nth k)).quantum ∧ ∀ b, (Y' b).quantum = (s.Y b).quantum := by
  have hk := hp.kn
  have hr := hp.r0
  have KF : ∀ i, i < s.R.length → (Y' (s.R.getD i 0)).quantum = (s.Y (s.R.getD i 0)).quantum ∧ (Y' (s.R.getD i 0)).kept = (s.Y (s.R.getD i 0)).kept + ow r k i * (s.Y (s.R.getD i 0)).quantum := fun i hi => by
    have := hu.inn i hi
    rw [if_pos hi] at this
    unfold Sd.nth at this
    rw [this]
    unfold upd Sd.nth
    exact ⟨rfl, rfl⟩
  have KQ : ∀ b, (Y' b).quantum = (s.Y b).quantum := fun b => by
    by_cases hb : b ∈ s.R
    · obtain ⟨i, hi, rfl⟩ := at_mem hb
      exact (KF i hi).1
    rw [hu.out b hb]
  -- who had his turns to their end
  have KB : ∀ i, i < s.R.length → i ≠ k → 0 ≤ (Y' (s.R.getD i 0)).kept ∧ (Y' (s.R.getD i 0)).kept < ((s.Q (s.R.getD i 0)).headD Pk.zero).size := fun i hi hik => by
    have hm := getD_mem hi
    have hq := h.qu _ hm
    have hlo := h.lo _ hm
    rw [(KF i hi).2]
    unfold ow
    split
    · rename_i hlt
      have hv := hp.no i hlt
      unfold va Sd.nth hdP at hv
      have h1 := td_le (t := r + 1) hq.1 (Int.add_one_le_iff.2 hv) (by omega)
      have h2 : 0 ≤ r * (s.Y (s.R.getD i 0)).quantum := Int.mul_nonneg hr (by omega)
      have h3 : (r + 1) * (s.Y (s.R.getD i 0)).quantum = r * (s.Y (s.R.getD i 0)).quantum + (s.Y (s.R.getD i 0)).quantum := by rw [Int.add_mul, Int.one_mul]
      omega
    have ho := h.own i hi (.inl (by omega))
    have h2 : 0 ≤ r * (s.Y (s.R.getD i 0)).quantum := Int.mul_nonneg hr (by omega)
    rcases hp.least with e | e
    · rw [e, Int.zero_mul, Int.add_zero]
      exact ho
    rcases Int.lt_or_le r 1 with e1 | e1
    · rw [show r = 0 by omega, Int.zero_mul, Int.add_zero]
      exact ho
    have hv := e i hi
    unfold va Sd.nth hdP at hv
    have h1 := td_le (t := r) hq.1 hv e1
    omega
  have hkm := getD_mem hk
  have hqk := h.qu _ hkm
  have ek : (Y' (s.R.getD k 0)).kept = (s.Y (s.R.getD k 0)).kept + r * (s.Y (s.R.getD k 0)).quantum := by
    rw [(KF k hk).2]
    unfold ow
    rw [if_neg (by omega)]
  have hzk : 0 ≤ r * (s.Y (s.R.getD k 0)).quantum := Int.mul_nonneg hr (by omega)
  have KM : (Y' (s.R.getD k 0)).kept < m := by
    rw [ek]
    have h1 := h.hi _ hkm
    have h2 := (h.size hkm).2
    rcases hp.least with e | e
    · rw [e, Int.zero_mul, Int.add_zero]
      exact h1
    rcases Int.lt_or_le r 1 with e1 | e1
    · rw [show r = 0 by omega, Int.zero_mul, Int.add_zero]
      exact h1
    have hv := e k hk
    unfold va Sd.nth hdP at hv
    have h3 := td_le (t := r) hqk.1 hv e1
    omega
  have hmem : ∀ b, b ∈ rl k s.R → b ∈ s.R := fun b hb => by
    unfold rl at hb
    rcases List.mem_append.1 hb with e | e
    · exact List.mem_of_mem_drop e
    exact List.mem_of_mem_take e
  refine ⟨⟨rl_nodup h.nd k, fun b hb => by rw [KQ]; exact h.qu b (hmem b hb), fun b hb => h.ne b (hmem b hb), fun b hb => h.sz b (hmem b hb), fun b hb => ?_, fun b hb => ?_, fun p hpl hp0 => ?_, fun _ => by rw [rl_len]; omega⟩, ?_, KQ⟩
  · obtain ⟨i, hi, rfl⟩ := at_mem (hmem b hb)
    by_cases e : i = k
    · rw [e]; exact KM
    have h1 := (KB i hi e).2
    have h2 := (h.size (getD_mem hi)).2
    omega
  · obtain ⟨i, hi, rfl⟩ := at_mem (hmem b hb)
    have h1 := h.qu _ (getD_mem hi)
    rw [KQ]
    by_cases e : i = k
    · subst e
      have h2 := h.lo _ hkm
      omega
    have h2 := (KB i hi e).1
    omega
  · rw [rl_len] at hpl
    have hp1 : 0 < p := by
      rcases hp0 with e | e
      · exact e
      cases e
    have e : ∃ j, j < s.R.length ∧ j ≠ k ∧ p = if j < k then s.R.length - k + j else j - k := by
      by_cases h1 : p < s.R.length - k
      · exact ⟨p + k, by omega, by omega, by rw [if_neg (by omega)]; omega⟩
      exact ⟨p - (s.R.length - k), by omega, by omega, by rw [if_pos (by omega)]; omega⟩
    obtain ⟨j, hj, hjk, rfl⟩ := e
    rw [rl_at s.R (by omega) hj]
    exact KB j hj hjk
  have hv := hp.yes
  unfold va at hv
  have h1 := td_lt hqk.1 (show ((hdP s (s.nth k)).size - (s.Y (s.nth k)).kept - 1).tdiv (s.Y (s.R.getD k 0)).quantum ≤ r from hv) hr
  rw [KQ]
  have h3 : (r + 1) * (s.Y (s.R.getD k 0)).quantum = r * (s.Y (s.R.getD k 0)).quantum + (s.Y (s.R.getD k 0)).quantum := by rw [Int.add_mul, Int.one_mul]
  have e2 : s.nth k = s.R.getD k 0 := rfl
  rw [e2] at h1 ⊢
  omega
theorem Kp.out {m : Int} {R : List Nat} {Y Y' : Nat → Fw} {Q Q' : Nat → List Pk} {tn : Bool} (h : Kp m R Y Q tn) {c : Nat} (hc : c < R.length) (hq : ∀ b, (Y' b).quantum = (Y b).quantum) (hk : ∀ b, b ≠ R.getD c 0 → (Y' b).kept = (Y b).kept) (hQ : ∀ b, b ≠ R.getD c 0 → Q' b = Q b) : Kp m (R.eraseIdx c) Y' Q' (tn && decide (0 < c)) := by
  have hl : (R.eraseIdx c).length = R.length - 1 := by rw [List.length_eraseIdx, if_pos hc]
  have hmem : ∀ b, b ∈ R.eraseIdx c → b ∈ R ∧ b ≠ R.getD c 0 := fun b hb => by
    obtain ⟨i, hi, rfl⟩ := at_mem hb
    rw [hl] at hi
    by_cases e : i < c
    · have := eraseIdx_at R (c := c) (i := i) (by omega) (by omega)
      rw [if_pos e] at this
      rw [this]
      exact ⟨getD_mem (by omega), getD_ne h.nd (by omega) hc (by omega)⟩
    have := eraseIdx_at R (c := c) (i := i + 1) (by omega) (by omega)
    rw [if_neg (by omega), show i + 1 - 1 = i by omega] at this
    rw [this]
    exact ⟨getD_mem (by omega), getD_ne h.nd (by omega) hc (by omega)⟩
  refine ⟨eraseIdx_nodup h.nd c, fun b hb => by rw [hq]; exact h.qu b (hmem b hb).1, fun b hb => by rw [hQ b (hmem b hb).2]; exact h.ne b (hmem b hb).1, fun b hb => by rw [hQ b (hmem b hb).2]; exact h.sz b (hmem b hb).1, fun b hb => by rw [hk b (hmem b hb).2]; exact h.hi b (hmem b hb).1, fun b hb => by rw [hq, hk b (hmem b hb).2]; exact h.lo b (hmem b hb).1, fun i hi h0 => ?_, fun e => by
    have e2 : 0 < c := by simp at e; exact e.2
    rw [hl]
    omega⟩
  have hm := (hmem _ (getD_mem hi)).2
  rw [hk _ hm, hQ _ hm]
  rw [hl] at hi
  by_cases e : i < c
  · have := eraseIdx_at R (c := c) (i := i) (by omega) (by omega)
    rw [if_pos e] at this
    rw [this]
    refine h.own i (by omega) ?_
    rcases h0 with h0 | h0
    · exact .inl h0
    rw [show decide (0 < c) = true from decide_eq_true (by omega), Bool.and_true] at h0
    exact .inr h0
  have := eraseIdx_at R (c := c) (i := i + 1) (by omega) (by omega)
  rw [if_neg (by omega), show i + 1 - 1 = i by omega] at this
  rw [this]
  exact h.own (i + 1) (by omega) (.inl (by omega))
theorem Kp.push {m : Int} {R : List Nat} {Y Y' : Nat → Fw} {Q Q' : Nat → List Pk} {tn : Bool} (h : Kp m R Y Q tn) {c : Nat} {p : Pk} (hc : c ∉ R) (hq : ∀ b, b ∈ R → (Y' b).quantum = (Y b).quantum) (hk : ∀ b, b ∈ R → (Y' b).kept = (Y b).kept) (hQ : ∀ b, b ∈ R → Q' b = Q b) (c1 : 1 ≤ (Y' c).quantum ∧ (Y' c).quantum ≤ 1000) (c2 : (Y' c).kept = 0) (c3 : Q' c = [p]) (c4 : 1 ≤ p.size ∧ p.size ≤ m) : Kp m (R ++ [c]) Y' Q' tn := by
  have hmem : ∀ b, b ∈ R ++ [c] → b ∈ R ∨ b = c := fun b hb => by
    rcases List.mem_append.1 hb with e | e
    · exact .inl e
    exact .inr (List.mem_singleton.1 e)
  refine ⟨?_, fun b hb => ?_, fun b hb => ?_, fun b hb => ?_, fun b hb => ?_, fun b hb => ?_, fun i hi h0 => ?_, fun _ => by simp⟩
  · rw [List.nodup_append]
    refine ⟨h.nd, by simp, fun x hx y hy => ?_⟩
    rw [List.mem_singleton.1 hy]
    rintro rfl
    exact hc hx
  · rcases hmem b hb with e | rfl
    · rw [hq b e]; exact h.qu b e
    exact c1
  · rcases hmem b hb with e | rfl
    · rw [hQ b e]; exact h.ne b e
    rw [c3]; simp
  · rcases hmem b hb with e | rfl
    · rw [hQ b e]; exact h.sz b e
    rw [c3]
    intro x hx
    rw [List.mem_singleton.1 hx]
    exact c4
  · rcases hmem b hb with e | rfl
    · rw [hk b e]; exact h.hi b e
    omega
  · rcases hmem b hb with e | rfl
    · rw [hq b e, hk b e]; exact h.lo b e
    omega
  rw [List.length_append, List.length_singleton] at hi
  rcases Nat.lt_or_ge i R.length with e | e
  · have e1 : (R ++ [c]).getD i 0 = R.getD i 0 := by
      rw [List.getD_eq_getElem?_getD, List.getD_eq_getElem?_getD, List.getElem?_append_left e]
    rw [e1, hk _ (getD_mem e), hQ _ (getD_mem e)]
    exact h.own i e h0
  have e1 : (R ++ [c]).getD i 0 = c := by
    rw [List.getD_eq_getElem?_getD, List.getElem?_append_right e, show i - R.length = 0 by omega]
    rfl
  rw [e1, c2, c3]
  exact ⟨Int.le_refl _, c4.1⟩
theorem Kp.keep {m : Int} {R : List Nat} {Y Y' : Nat → Fw} {Q Q' : Nat → List Pk} {tn : Bool} (h : Kp m R Y Q tn) (hq : ∀ b, b ∈ R → (Y' b).quantum = (Y b).quantum) (hk : ∀ b, b ∈ R → (Y' b).kept = (Y b).kept) (hn : ∀ b, b ∈ R → Q' b ≠ []) (hh : ∀ b, b ∈ R → (Q' b).headD Pk.zero = (Q b).headD Pk.zero) (hs : ∀ b, b ∈ R → ∀ p, p ∈ Q' b → 1 ≤ p.size ∧ p.size ≤ m) : Kp m R Y' Q' tn :=
  ⟨h.nd, fun b hb => by rw [hq b hb]; exact h.qu b hb, hn, hs, fun b hb => by rw [hk b hb]; exact h.hi b hb, fun b hb => by rw [hq b hb, hk b hb]; exact h.lo b hb, fun i hi h0 => by rw [hk _ (getD_mem hi), hh _ (getD_mem hi)]; exact h.own i hi h0, h.tr⟩
theorem Kp.head {m : Int} {R : List Nat} {Y Y' : Nat → Fw} {Q Q' : Nat → List Pk} (h : Kp m R Y Q true) (h0 : 0 < R.length) (hq : ∀ b, (Y' b).quantum = (Y b).quantum) (hk : ∀ b, b ≠ R.getD 0 0 → (Y' b).kept = (Y b).kept) (hQ : ∀ b, b ≠ R.getD 0 0 → Q' b = Q b) (c1 : Q' (R.getD 0 0) ≠ []) (c2 : ∀ p, p ∈ Q' (R.getD 0 0) → p ∈ Q (R.getD 0 0)) (c3 : (Y' (R.getD 0 0)).kept < m) (c4 : -(Y (R.getD 0 0)).quantum ≤ (Y' (R.getD 0 0)).kept) : Kp m R Y' Q' true := by
  refine ⟨h.nd, fun b hb => by rw [hq]; exact h.qu b hb, fun b hb => ?_, fun b hb p hp => ?_, fun b hb => ?_, fun b hb => ?_, fun i hi h1 => ?_, fun _ => h0⟩
  · by_cases e : b = R.getD 0 0
    · rw [e]; exact c1
    rw [hQ b e]; exact h.ne b hb
  · by_cases e : b = R.getD 0 0
    · rw [e] at hp hb
      exact h.sz _ hb p (c2 p hp)
    rw [hQ b e] at hp; exact h.sz b hb p hp
  · by_cases e : b = R.getD 0 0
    · rw [e]; exact c3
    rw [hk b e]; exact h.hi b hb
  · by_cases e : b = R.getD 0 0
    · rw [e, hq]; exact c4
    rw [hq, hk b e]; exact h.lo b hb
  have hi0 : 0 < i := by
    rcases h1 with h1 | h1
    · exact h1
    cases h1
  have hne := getD_ne h.nd hi h0 (by omega)
  rw [hk _ hne, hQ _ hne]
  exact h.own i hi (.inl hi0)
end Go.Proofs.Ytcndbmccediknaa
