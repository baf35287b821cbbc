/- Contracts of the program's functions, part 35: own work, joined in build order. -/
import Derived.Test.YtmghkkaoblkmpaaJ34
namespace Go.Proofs.Ytmghkkaoblkmpaa
open Go.RowKit Go.Shelf
set_option maxRecDepth 100000
set_option linter.unusedVariables false
def twoF {α : Type} (a b : α) : Nat → α := fun j => if j = 0 then a else b
theorem boxed_new (w : World) (v : Value) (t : TypeId) : Boxed (w.alloc (.cells #[v] t)) w.heap.size t v := World.alloc_heap_new _ _
theorem Pl.start {w w1 w2 w3 : World} (B1 : Below w.heap.size w w1) (R2 : RI w2 w1.heap.size w1.heap.size 0 0 0 []) (B2 : Below w1.heap.size w1 w2) (R3 : RI w3 w2.heap.size w2.heap.size 0 0 0 []) (B3 : Below w2.heap.size w2 w3) :
    Pl w (((w3.alloc (.cells #[.pointer (some ⟨w1.heap.size, 0, none⟩), .pointer (some ⟨w2.heap.size, 0, none⟩)] 26)).alloc (.cells #[.slice none 0 0, .slice none 0 0] 28)).alloc (.cells #[.pointer (some ⟨w1.heap.size, 0, none⟩)] 24)) w3.heap.size (w3.heap.size + 1) (twoF w1.heap.size w2.heap.size) (twoF w1.heap.size w2.heap.size) (fun _ => .slice none 0 0) (fun _ => []) (w3.heap.size + 1 + 1) 0 (.slice none 0 0) [] 0 := by
  obtain ⟨W0, hW⟩ : ∃ W0, W0 = ((w3.alloc (.cells #[.pointer (some ⟨w1.heap.size, 0, none⟩), .pointer (some ⟨w2.heap.size, 0, none⟩)] 26)).alloc (.cells #[.slice none 0 0, .slice none 0 0] 28)).alloc (.cells #[.pointer (some ⟨w1.heap.size, 0, none⟩)] 24) := ⟨_, rfl⟩
  have hz : W0.heap.size = w3.heap.size + 3 := by rw [hW]; simp
  have l2 := R2.rlt
  have l3 := R3.rlt
  have s1 := B1.size
  have s2 := B2.size
  have s3 := B3.size
  have BW : Below w3.heap.size w3 W0 := by
    rw [hW]
    refine (((Below.refl _ _).alloc ?_ _).alloc ?_ _).alloc ?_ _ <;> simp <;> omega
  have e0 : W0.heap[w3.heap.size]? = some (.cells #[.pointer (some ⟨w1.heap.size, 0, none⟩), .pointer (some ⟨w2.heap.size, 0, none⟩)] 26) := by
    rw [hW, heap_alloc_if, if_neg (by simp <;> omega), heap_alloc_if, if_neg (by simp <;> omega), heap_alloc_if, if_pos rfl]
  have e1 : W0.heap[w3.heap.size + 1]? = some (.cells #[.slice none 0 0, .slice none 0 0] 28) := by
    rw [hW, heap_alloc_if, if_neg (by simp <;> omega), heap_alloc_if, if_pos (by simp)]
  have e2 : W0.heap[w3.heap.size + 1 + 1]? = some (.cells #[.pointer (some ⟨w1.heap.size, 0, none⟩)] 24) := by
    rw [hW, heap_alloc_if, if_pos (by simp)]
  rw [← hW]
  have two : ∀ o, o < 2 → o = 0 ∨ o = 1 := fun o h => by omega
  have hr : ∀ o, o < 2 → w1.heap.size ≤ twoF w1.heap.size w2.heap.size o ∧ twoF w1.heap.size w2.heap.size o < w3.heap.size := fun o ho => by
    rcases two o ho with rfl | rfl
    · exact ⟨Nat.le_refl _, by show w1.heap.size < _; omega⟩
    · exact ⟨by show _ ≤ w2.heap.size; omega, by show w2.heap.size < _; omega⟩
  refine { rows := ⟨_, e0, rfl, fun i hi => ?_⟩, lsts := ⟨_, e1, rfl, fun i hi => ?_⟩, ring := fun o ho => ⟨0, 0, ?_⟩, apart := fun i j hi hj hij => ?_, lst := fun o ho => ⟨none, 0, rfl, ⟨⟨Nat.le_refl _, by omega, rfl, .inl rfl⟩, fun _ => rfl⟩, fun b p e => by cases e⟩, held := e2, ofl := by omega, lists := World.ownsRow_nil _ _ _ _, each := fun j hj => by simp at hj, freR := ⟨by omega, fun o ho => ⟨by have := hr o ho; omega, by have := hr o ho; omega⟩, by omega, fun e => by cases e⟩, freH := ⟨by omega, fun o ho => ⟨by have := hr o ho; omega, by have := hr o ho; omega⟩, by omega, fun e => by cases e⟩, okL := ⟨by omega, fun o ho => ⟨by have := hr o ho; omega, by have := hr o ho; omega⟩⟩, okV := fun k e => (by cases e), base := ⟨by omega, fun o ho => ⟨by have := hr o ho; omega, by have := hr o ho; omega⟩⟩, bel := ?_, lim := fun o ho => Nat.le_refl _ }
  · rcases two i hi with rfl | rfl <;> rfl
  · rcases two i hi with rfl | rfl <;> rfl
  · rcases two o ho with rfl | rfl
    · exact (R2.of_blocks (B3.block _ l2) (B3.block _ l2)).of_blocks (BW.block _ (by omega)) (BW.block _ (by omega))
    · exact R3.of_blocks (BW.block _ l3) (BW.block _ l3)
  · have : twoF w1.heap.size w2.heap.size i ≠ twoF w1.heap.size w2.heap.size j := by
      rcases two i hi with rfl | rfl <;> rcases two j hj with rfl | rfl
      · omega
      · show w1.heap.size ≠ w2.heap.size; omega
      · show w2.heap.size ≠ w1.heap.size; omega
      · omega
    exact ⟨this, this, this⟩
  · exact (B1.trans (B2.mono s1)).trans ((B3.mono (by omega)).trans (BW.mono (by omega)))
/-- The marks of the ranges so far. -/
structure Mk (B0 : Nat) (W : World) (Ds : List Nat) : Prop where
  nodup : Ds.Nodup
  ge : ∀ D, D ∈ Ds → B0 ≤ D
  at' : ∀ D, D ∈ Ds → W.heap[D]? = some (.deferred (some []))
def markOf (D : Nat) : Deferred := { target := .collected D, args := #[] }
theorem Mk.keep {B0 : Nat} {W W' : World} {Ds : List Nat} (h : Mk B0 W Ds) (hk : ∀ (k : Nat) (o : Obj), W.heap[k]? = some o → o.isCells = false → W'.heap[k]? = W.heap[k]?) : Mk B0 W' Ds :=
  ⟨h.nodup, h.ge, fun D hD => (hk D _ (h.at' D hD) rfl).trans (h.at' D hD)⟩
theorem Mk.cons {B0 : Nat} {W : World} {Ds : List Nat} (h : Mk B0 W Ds) {D : Nat} (hb : B0 ≤ D) (hD : W.heap[D]? = some (.deferred (some []))) (hn : ∀ E ∈ Ds, E < D) : Mk B0 W (D :: Ds) :=
  ⟨List.nodup_cons.2 ⟨fun hm => by have := hn D hm; omega, h.nodup⟩, fun E hE => by
    rcases List.mem_cons.1 hE with rfl | hE
    · exact hb
    · exact h.ge E hE, fun E hE => by
    rcases List.mem_cons.1 hE with rfl | hE
    · exact hD
    · exact h.at' E hE⟩
theorem Mk.lt {B0 : Nat} {W : World} {Ds : List Nat} (h : Mk B0 W Ds) : ∀ E ∈ Ds, E < W.heap.size := fun E hE => (Array.getElem?_eq_some_iff.1 (h.at' E hE)).1
theorem Fre.mono {W W' : World} {bL : Nat} {r g : Nat → Nat} {vl : Value} {k : Nat} (h : Fre W bL r g vl k) (hz : W.heap.size ≤ W'.heap.size) : Fre W' bL r g vl k := ⟨Nat.lt_of_lt_of_le h.lt hz, h.nr, h.nl, h.nv⟩
/-- New memory changes nothing. -/
theorem Pl.mono {w W W' : World} {bR bL : Nat} {r g : Nat → Nat} {v : Nat → Value} {ys : Nat → List Int} {hb of : Nat} {vl : Value} {Vs : List Value} {M : Nat} (h : Pl w W bR bL r g v ys hb of vl Vs M) (hB : Below W.heap.size W W') : Pl w W' bR bL r g v ys hb of vl Vs M := by
  have hz := hB.size
  refine { rows := h.rows.of_block (hB.block _ h.freR.lt), lsts := h.lsts.of_block (hB.block _ h.okL.1), ring := fun o ho => ?_, apart := h.apart, lst := fun o ho => ?_, held := (hB.block _ h.freH.lt).trans h.held, ofl := h.ofl, lists := rows_kept h.lists fun k hk => hB.block k (h.okV k hk).1, each := fun j hj => ?_, freR := h.freR.mono hz, freH := h.freH.mono hz, okL := ⟨Nat.lt_of_lt_of_le h.okL.1 hz, h.okL.2⟩, okV := fun k hk => ⟨Nat.lt_of_lt_of_le (h.okV k hk).1 hz, (h.okV k hk).2⟩, base := h.base, bel := h.bel.trans (hB.mono h.bel.size), lim := h.lim }
  · obtain ⟨N, f, hR⟩ := h.ring o ho
    exact ⟨N, f, hR.mono hB⟩
  · obtain ⟨a, cap, e, hx, hf⟩ := h.lst o ho
    exact ⟨a, cap, e, hx.mono hB, fun b p e => (hf b p e).mono hz⟩
  · obtain ⟨n, h1, h2⟩ := h.each j hj
    exact ⟨n, rows_kept h1 fun k hk => hB.block k (h2 k hk).lt, fun k hk => (h2 k hk).mono hz⟩
theorem Mk.mono {B0 : Nat} {W W' : World} {Ds : List Nat} (h : Mk B0 W Ds) (hB : Below W.heap.size W W') : Mk B0 W' Ds := h.keep fun k o hk _ => hB.block k (Array.getElem?_eq_some_iff.1 hk).1
theorem bit_of (O : Int) : ∃ o : Nat, bits .and .i64 O 1 = (o : Int) ∧ o < 2 := by
  have h := i64_mask O 1 (by omega) 1 (by rfl)
  have e : ((2 ^ 1 : Nat) : Int) = 2 := rfl
  rw [e] at h
  exact ⟨(O % 2).toNat, by rw [h]; omega, by omega⟩
theorem Stp.marks {W W' : World} {r g : Nat} {v0 v : Value} {xs : List Int} {Ds : List Nat} {B0 N f : Nat} (h : Stp W W' r g v0 xs v) (hR : RI W r g N f xs.length xs) (hM : Mk B0 W Ds) : Mk B0 W' Ds := by
  refine hM.keep fun k o hk ho => h.chg.block k (Array.getElem?_eq_some_iff.1 hk).1 ?_ ?_
  · rintro rfl
    obtain ⟨cs, e, _⟩ := hR.hd
    rw [e] at hk
    cases hk
    cases ho
  · rintro rfl
    rcases Nat.eq_zero_or_pos N with e0 | e0
    · rw [(hR.zr e0).1] at hk
      obtain ⟨cs, e, _⟩ := hR.hd
      rw [e] at hk
      cases hk
      cases ho
    · obtain ⟨cs, e, _⟩ := hR.row e0
      rw [e] at hk
      cases hk
      cases ho
theorem Mk.setCell {B0 : Nat} {W : World} {Ds : List Nat} (h : Mk B0 W Ds) {b i : Nat} {u : Value} (hb : ∃ cs t z, W.heap[b]? = some (.cells cs t z)) : Mk B0 (W.setCell ⟨b, i, none⟩ u) Ds := by
  refine h.keep fun k o hk ho => Below.heap_setCell _ _ _ _ ?_
  rintro rfl
  obtain ⟨cs, t, z, e⟩ := hb
  rw [e] at hk
  cases hk
  cases ho
/-- What stands behind a step, ahead of the round's test. -/
structure Nx (w : World) (bR bL : Nat) (r : Nat → Nat) (hb of : Nat) (vl : Value) (Vs : List Value) (M sb : Nat) (S : Nat → Value) (Ds : List Nat) (W2 : World) : Prop where
  pl : ∃ g v ys, Pl w W2 bR bL r g v ys hb of vl Vs M
  marks : Mk w.heap.size W2 Ds
  st : W2.rowIs sb 34 4 S
def Dd15 (w : World) (bR bL : Nat) (r : Nat → Nat) (hb of : Nat) (vl : Value) (Vs : List Value) (M sb : Nat) (S : Nat → Value) (Ds : List Nat) (o : Nat) (u : Value) (w1 : World) : Prop :=
  (∃ x, w1.cell? ⟨bL, o, none⟩ = some x) ∧ w1.frozen? ⟨bL, o, none⟩ = false ∧ (∃ a n c, u = .slice a n c) ∧ Nx w bR bL r hb of vl Vs M sb S Ds (w1.setCell ⟨bL, o, none⟩ u)
theorem Pl.called {w W w1 : World} {bR bL : Nat} {r g : Nat → Nat} {v : Nat → Value} {ys : Nat → List Int} {hb of : Nat} {vl : Value} {Vs : List Value} {M sb : Nat} {S : Nat → Value} {Ds : List Nat} (h : Pl w W bR bL r g v ys hb of vl Vs M) {o : Nat} (ho : o < 2) (hM : Mk w.heap.size W Ds) (hs : W.rowIs sb 34 4 S) (hn : ∀ o, o < 2 → sb ≠ r o ∧ sb ≠ g o) (hl : sb ≠ bL) {u : Value} (hS : Stp W w1 (r o) (g o) (v o) (ys o) u) : Dd15 w bR bL r hb of vl Vs (M + 3) sb S Ds o u w1 := by
  have hlL := h.okL.1
  have hLo := h.okL.2 o ho
  have h1 : w1.rowIs bL 28 2 v := h.lsts.of_block (hS.chg.block bL hlL hLo.1 hLo.2)
  obtain ⟨N, f, hR⟩ := h.ring o ho
  obtain ⟨g', ys', hP⟩ := h.step ho hS
  refine ⟨⟨_, h1.cell ho⟩, h1.frozen o, ?_, ⟨_, _, _, hP⟩, (hS.marks hR hM).setCell ?_, ?_⟩
  · obtain ⟨zs, g1, N1, f1, _, _, _, q4⟩ := hS.ring
    rcases q4 with ⟨e, _⟩ | ⟨⟨b0, _, p4⟩, _⟩
    · obtain ⟨a, cap, e2, _⟩ := h.lst o ho
      exact ⟨_, _, _, e.trans e2⟩
    · obtain ⟨a, cap, e2, _⟩ := p4.isx
      exact ⟨_, _, _, e2⟩
  · obtain ⟨cs, e, _⟩ := h1
    exact ⟨_, _, _, e⟩
  · exact hs.of_block ((Below.heap_setCell _ _ _ _ hl).trans (hS.chg.block sb hs.lt (hn o ho).1 (hn o ho).2))
/-- What the round's test asks. -/
theorem Pl.ends {w W : World} {bR bL : Nat} {r g : Nat → Nat} {v : Nat → Value} {ys : Nat → List Int} {hb of : Nat} {vl : Value} {Vs : List Value} {M : Nat} (h : Pl w W bR bL r g v ys hb of vl Vs M) {o : Nat} (ho : o < 2) (i : Int) :
    ∃ a n c, W.cell? ⟨bR, o, none⟩ = some (.pointer (some ⟨r o, 0, none⟩)) ∧ W.cell? ⟨bL, o, none⟩ = some (.slice a n c) ∧ ∀ k, Calls Try.prog 15 #[.pointer (some ⟨r o, 0, none⟩), .slice a n c, .int .i64 i] (W.drewN k) fun e w' => e = .returned (.bool true) ∧ ∃ m, w' = (W.drewN k).drewN m := by
  obtain ⟨a, cap, e, hx, hf⟩ := h.lst o ho
  obtain ⟨N, f, hR⟩ := h.ring o ho
  refine ⟨a, (ys o).length, cap, h.rows.cell ho, by rw [← e]; exact h.lsts.cell ho, fun k => ?_⟩
  have hB : Below W.heap.size W (W.drewN k) := bel_drewN (Below.refl _ _) k
  exact ends_any a (ys o).length cap (ys o) i (r o) (g o) N f (W.drewN k) (hR.mono hB) (hx.mono hB)
theorem Pl.weak {w W : World} {bR bL : Nat} {r g : Nat → Nat} {v : Nat → Value} {ys : Nat → List Int} {hb of : Nat} {vl : Value} {Vs : List Value} {M M' : Nat} (h : Pl w W bR bL r g v ys hb of vl Vs M) (hm : M ≤ M') : Pl w W bR bL r g v ys hb of vl Vs M' := { h with lim := fun o ho => Nat.le_trans (h.lim o ho) hm }
theorem Pl.hold {w W : World} {bR bL : Nat} {r g : Nat → Nat} {v : Nat → Value} {ys : Nat → List Int} {hb of : Nat} {vl : Value} {Vs : List Value} {M : Nat} (h : Pl w W bR bL r g v ys hb of vl Vs M) {o : Nat} (ho : o < 2) : Pl w (W.alloc (.cells #[.pointer (some ⟨r o, 0, none⟩)] 24)) bR bL r g v ys W.heap.size o vl Vs M := by
  have B1 : Below W.heap.size W (W.alloc (.cells #[.pointer (some ⟨r o, 0, none⟩)] 24)) := (Below.refl _ _).alloc (Nat.le_refl _) _
  have h2 := h.mono B1
  refine { h2 with held := boxed_new _ _ _, ofl := ho, freH := ⟨by simp, fun j hj => ?_, ?_, fun e => ?_⟩ }
  · obtain ⟨N, f, hR⟩ := h.ring j hj
    have h1 := hR.rlt
    have h3 := hR.glt
    omega
  · have := h.okL.1
    omega
  · have := (h.okV _ e).1
    omega
/-- One of the lists that were told, as it was written full. -/
theorem Pl.told {w W : World} {bR bL : Nat} {r g : Nat → Nat} {v : Nat → Value} {ys : Nat → List Int} {hb of : Nat} {al : Option Addr} {nl cl : Nat} {Vs : List Value} {M : Nat} (h : Pl w W bR bL r g v ys hb of (.slice al nl cl) Vs M) {j : Nat} (hj : j < Vs.length) :
    ∃ G aj nj cj, al = some ⟨G, 0, none⟩ ∧ nl ≤ cl ∧ cl ≤ maxLen ∧ W.cell? ⟨G, j, none⟩ = some (.slice aj nj cj) ∧ nj ≤ cj ∧ cj ≤ 9223372036854775807 ∧ (0 < nj → ∃ b o, aj = some ⟨b, o, none⟩ ∧ ∀ k, k < nj → W.cell? ⟨b, o + k, none⟩ = some (.int .i64 (-7 - (j : Int)))) := by
  rcases h.lists.2 with ⟨e, e0⟩ | ⟨G, cap, cur, e, hb, hg, hn, hc, hsz, htk⟩
  · omega
  · injection e with e1 e2 e3
    obtain ⟨n, hO, _⟩ := h.each j hj
    obtain ⟨aj, cj, ej, hx, _⟩ := hO.isx
    have q4 := congrArg (fun l => l[j]?) htk
    simp only [Nat.mul_one] at q4
    rw [List.getElem?_take_of_lt hj] at q4
    have q5 : cur[j]? = some (Vs.getD j undef) := by
      rw [← Array.getElem?_toList, q4]
      simp [List.getD_eq_getElem?_getD, hj]
    rw [List.length_replicate] at ej hx
    refine ⟨G, aj, n, cj, e1, by omega, by omega, by rw [← ej]; simp [World.cell?, hg, q5], hx.sl.le, hx.sl.lim, fun hp => ?_⟩
    obtain ⟨b, o, e9, hcell⟩ := hx.sl.at hp
    refine ⟨b, o, e9, fun k hk => ?_⟩
    rw [hcell k hk]
    simp [List.getD_eq_getElem?_getD, hk]
theorem isl_row {W : World} {b c : Nat} {xs : List Int} (h : W.rowIs b 3 c (fun j => Value.int .i64 (xs.getD j (0 : Int)))) (hx : xs.length = c) (hc : c ≤ 4294967296) : ISl W (some ⟨b, 0, none⟩) c c xs :=
  ⟨Nat.le_refl _, by omega, hx, .inr ⟨b, 0, rfl, fun i hi => by rw [Nat.zero_add]; exact h.cell hi⟩⟩
/-- A ring and the list beside it tell the same. -/
theorem Pl.tells {w W : World} {bR bL : Nat} {r g : Nat → Nat} {v : Nat → Value} {ys : Nat → List Int} {hb of : Nat} {vl : Value} {Vs : List Value} {M : Nat} (h : Pl w W bR bL r g v ys hb of vl Vs M) {o : Nat} (ho : o < 2) (hM : M ≤ 1048576) :
    ∃ a n c, W.cell? ⟨bR, o, none⟩ = some (.pointer (some ⟨r o, 0, none⟩)) ∧ W.cell? ⟨bL, o, none⟩ = some (.slice a n c) ∧
      (∀ W', Below W.heap.size W W' → Calls Try.prog 12 #[.pointer (some ⟨r o, 0, none⟩)] W' fun e w' => e = .returned (.slice (some ⟨W'.heap.size, 0, none⟩) n n) ∧ ISl w' (some ⟨W'.heap.size, 0, none⟩) n n (ys o) ∧ Below W.heap.size W w') ∧
      (∀ W' b, Below W.heap.size W W' → ISl W' (some ⟨b, 0, none⟩) n n (ys o) → Calls Try.prog 11 #[.slice (some ⟨b, 0, none⟩) n n, .slice a n c] W' fun e w' => e = .returned (.bool true) ∧ Below W.heap.size W w') := by
  obtain ⟨a, cap, e, hx, hf⟩ := h.lst o ho
  obtain ⟨N, f, hR⟩ := h.ring o ho
  have hl := h.lim o ho
  refine ⟨a, (ys o).length, cap, h.rows.cell ho, by rw [← e]; exact h.lsts.cell ho, fun W' hB => ?_, fun W' b hB hI => ?_⟩
  · refine (listI_any (r o) (g o) N f (ys o).length (ys o) W' (hR.mono hB) rfl).mono ?_
    rintro e' w' ⟨rfl, hrow, hB'⟩
    exact ⟨rfl, isl_row hrow rfl (by omega), hB.trans (hB'.mono hB.size)⟩
  · refine (same_yes (some ⟨b, 0, none⟩) a (ys o).length (ys o).length cap (ys o) W' hI (hx.mono hB).sl).mono ?_
    rintro e' w' ⟨rfl, m, rfl⟩
    exact ⟨rfl, bel_drewN hB m⟩
end Go.Proofs.Ytmghkkaoblkmpaa
