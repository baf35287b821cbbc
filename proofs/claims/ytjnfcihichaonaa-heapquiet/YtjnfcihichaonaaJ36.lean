/- Contracts of the program's functions, part 36: own work, joined in build order. -/
import Derived.Test.YtjnfcihichaonaaJ35
namespace Go.Proofs.Ytjnfcihichaonaa
open Go.RowKit
set_option maxRecDepth 100000
set_option linter.unusedVariables false
/-- A heap stays what it is while orders and pairs are written. -/
theorem HsI.keep {W W' : World} {base hb ob : Nat} {a : Option Addr} {n cap mb nn : Nat} {pu : Int} {f : Nat → Nat} {it ke va : Nat → Int} (h : HsI W base hb ob a n cap mb nn pu f it ke va) (hk : ∀ (k : Nat) (o : Obj), W.heap[k]? = some o → (∀ cs, o ≠ .cells cs 57) → (∀ cs, o ≠ .cells cs 26) → W'.heap[k]? = W.heap[k]?) : HsI W' base hb ob a n cap mb nn pu f it ke va := by
  have hc : ∀ (k : Nat) (cs : Array Value) (t : TypeId), W.heap[k]? = some (.cells cs t) → t ≠ 57 → t ≠ 26 → W'.heap[k]? = W.heap[k]? := fun k cs t e h1 h2 => hk k _ e (fun cs' e2 => by injection e2 with _ e3; exact h1 e3) (fun cs' e2 => by injection e2 with _ e3; exact h2 e3)
  refine { h with hd := (hc _ _ _ h.hd (by decide) (by decide)).trans h.hd, row := own_kept h.row fun k hk2 => ?_, pl := fun i hi => (hc _ _ _ (h.pl i hi) (by decide) (by decide)).trans (h.pl i hi), mp := ?_ }
  · obtain ⟨_, cs, e⟩ := h.own hk2
    exact hc _ _ _ e (by decide) (by decide)
  · obtain ⟨g, hm, hg⟩ := h.mp
    obtain ⟨es, ck, hmb⟩ := hm.block
    exact ⟨g, hm.kept (hk _ _ hmb (fun cs e => by cases e) (fun cs e => by cases e)), hg⟩
/-- An empty pair. -/
def Made (w : World) (tur : Bool) (lies : Int) (e : Ending) (w' : World) : Prop :=
  ∃ hb ob mb md, e = .returned (.agg #[.pointer (some ⟨hb, 0, none⟩), .pointer (some ⟨ob, 0, none⟩)]) ∧ HsI w' w.heap.size hb ob none 0 0 mb 0 0 (fun _ => 0) (fun _ => 0) (fun _ => 0) (fun _ => 0) ∧ Ordr w' ob (.slice none 0 0) 0 md tur lies 0 ∧ Below w.heap.size w w'
theorem made_any (mod : Int) (tur : Bool) (lies : Int) (w : World) (h1 : -9223372036854775808 ≤ mod) (h2 : mod ≤ 9223372036854775807) (h3 : 0 ≤ lies) (h4 : lies ≤ 100) :
    Calls Try.prog 9 #[.int .i64 mod, .bool tur, .int .i64 lies] w (Made w tur lies) := by
  obtain ⟨md, emd⟩ : ∃ md : Int, md = (if mod < 0 then -(mod + 1) else mod).tmod 12 := ⟨_, rfl⟩
  have m0 : 0 ≤ md ∧ md ≤ 12 := by
    have hp : 0 ≤ (if mod < 0 then -(mod + 1) else mod) := by split <;> omega
    have h5 := Int.tmod_nonneg 12 hp
    have h6 := Int.tmod_lt_of_pos (if mod < 0 then -(mod + 1) else mod) (by omega : (0 : Int) < 12)
    omega
  have hw3 : IntKind.i64.wrap md = md := by rw [IntKind.wrap_i64]; omega
  obtain ⟨W1, hW1⟩ : ∃ W1, W1 = (w.alloc (.cells #[.pointer none, .pointer none] 26)).alloc (.cells #[.slice none 0 0, .int .i64 0, .int .i64 md, .bool tur, .int .i64 lies, .int .i64 0] 57) := ⟨_, rfl⟩
  have sA : (w.alloc (.cells #[.pointer none, .pointer none] 26)).heap.size = w.heap.size + 1 := by simp
  have s1 : W1.heap.size = w.heap.size + 2 := by rw [hW1]; simp
  have B1 : Below w.heap.size w W1 := by rw [hW1]; exact ((Below.refl _ _).alloc (Nat.le_refl _) _).alloc (by simp) _
  have e1 : W1.heap[w.heap.size + 1]? = some (.cells #[.slice none 0 0, .int .i64 0, .int .i64 md, .bool tur, .int .i64 lies, .int .i64 0] 57) := by
    rw [hW1, ← sA]
    exact (MapKept.heap_alloc _ _).1
  have e0 : W1.heap[w.heap.size]? = some (.cells #[.pointer none, .pointer none] 26) := by
    rw [hW1]
    exact (Below.heap_alloc _ _ _ (by omega)).trans (MapKept.heap_alloc _ _).1
  have O1 : Ordr W1 (w.heap.size + 1) (.slice none 0 0) 0 md tur lies 0 := ⟨e1, ⟨_, _, _, rfl⟩, m0.1, m0.2, h3, h4⟩
  have NW : Hid (Calls Try.prog 10 #[.func (.func 28) #[.pointer (some ⟨w.heap.size + 1, 0, none⟩)] #[]] W1 fun e w' => e = .returned (.pointer (some ⟨W1.heap.size + 1, 0, none⟩)) ∧ HsI w' w.heap.size (W1.heap.size + 1) (w.heap.size + 1) none 0 0 W1.heap.size 0 0 (fun _ => 0) (fun _ => 0) (fun _ => 0) (fun _ => 0) ∧ Below W1.heap.size W1 w') := newI_any (w.heap.size + 1) w.heap.size W1 B1.size (by omega)
  have HW : Hid ((w.alloc (.cells #[.pointer none, .pointer none] 26)).alloc (.cells #[.slice none 0 0, .int .i64 0, .int .i64 md, .bool tur, .int .i64 lies, .int .i64 0] 57) = W1) := hW1.symm
  have H1 : Hid (Below w.heap.size w W1 ∧ W1.heap.size = w.heap.size + 2 ∧ Ordr W1 (w.heap.size + 1) (.slice none 0 0) 0 md tur lies 0 ∧ W1.heap[w.heap.size]? = some (.cells #[.pointer none, .pointer none] 26)) := ⟨B1, s1, O1, e0⟩
  clear hW1 B1 s1 O1 e1 e0 sA
  by_cases c : mod < 0
  · have hw1 : IntKind.i64.wrap (mod + 1) = mod + 1 := by rw [IntKind.wrap_i64]; omega
    have hw2 : IntKind.i64.wrap (-(mod + 1)) = -(mod + 1) := by rw [IntKind.wrap_i64]; omega
    have emd2 : (-(mod + 1)).tmod 12 = md := by rw [emd, if_pos c]
    clear emd
    go_enter Try.func9, Try.ntmps9
    go_wp2_with fail
    rw [HW.out]
    refine Calls.mono NW.out ?_
    rintro e w2 ⟨rfl, S2, B2⟩
    have e0 : w2.heap[w.heap.size]? = some (.cells #[.pointer none, .pointer none] 26) := (B2.block _ (by have := H1.out.2.1; omega)).trans H1.out.2.2.2
    have c0 : w2.cell? ⟨w.heap.size, 0, none⟩ = some (.pointer none) := by simp [World.cell?, e0]
    have c1 : w2.cell? ⟨w.heap.size, 1, none⟩ = some (.pointer none) := by simp [World.cell?, e0]
    have z0 : w2.frozen? ⟨w.heap.size, 0, none⟩ = false := by simp [World.frozen?, e0]
    have z1 : w2.frozen? ⟨w.heap.size, 1, none⟩ = false := by simp [World.frozen?, e0]
    obtain ⟨hb, ehb⟩ : ∃ hb, hb = W1.heap.size + 1 := ⟨_, rfl⟩
    obtain ⟨ob, eob⟩ : ∃ ob, ob = w.heap.size + 1 := ⟨_, rfl⟩
    obtain ⟨pb, epb⟩ : ∃ pb, pb = w.heap.size := ⟨_, rfl⟩
    have HR : Hid (∀ W3, W3 = (w2.setCell ⟨pb, 0, none⟩ (.pointer (some ⟨hb, 0, none⟩))).setCell ⟨pb, 1, none⟩ (.pointer (some ⟨ob, 0, none⟩)) → Made w tur lies (.returned (.agg #[.pointer (some ⟨hb, 0, none⟩), .pointer (some ⟨ob, 0, none⟩)])) W3) := fun W3 hW3 => by
      have kept : ∀ k, k ≠ pb → W3.heap[k]? = w2.heap[k]? := fun k hk => by
        rw [hW3]
        exact (Below.heap_setCell _ _ _ k hk).trans (Below.heap_setCell _ _ _ k hk)
      rw [← ehb, ← eob] at S2
      refine ⟨hb, ob, W1.heap.size, md, rfl, S2.keep fun k o e h1 h2 => kept k fun e2 => ?_, ?_, ?_⟩
      · rw [e2, epb, e0] at e
        injection e with e
        exact h2 _ e.symm
      · rw [eob]
        exact H1.out.2.2.1.kept ((kept _ (by omega)).trans (B2.block _ H1.out.2.2.1.lt))
      · rw [hW3, epb]
        exact ((H1.out.1.trans (B2.mono H1.out.1.size)).setCell (Nat.le_refl _) _).setCell (Nat.le_refl _) _
    rw [← ehb, ← eob, ← epb]
    rw [← epb] at c0 c1 z0 z1 e0
    have HE : Hid (w2.heap[pb]? = some (.cells #[.pointer none, .pointer none] 26)) := e0
    clear S2 B2 e0 ehb eob NW HW H1 epb
    go_wp2_with fail
    obtain ⟨W3, hW3⟩ : ∃ W3, W3 = (w2.setCell ⟨pb, 0, none⟩ (.pointer (some ⟨hb, 0, none⟩))).setCell ⟨pb, 1, none⟩ (.pointer (some ⟨ob, 0, none⟩)) := ⟨_, rfl⟩
    have g3 : W3.heap[pb]? = some (.cells #[.pointer (some ⟨hb, 0, none⟩), .pointer (some ⟨ob, 0, none⟩)] 26) := by
      rw [hW3]
      exact heap_setCell_same _ pb 1 _ _ _ (heap_setCell_same _ pb 0 _ _ _ HE.out)
    have q0 : W3.cell? ⟨pb, 0, none⟩ = some (.pointer (some ⟨hb, 0, none⟩)) := by simp [World.cell?, g3]
    have q1 : W3.cell? ⟨pb, 1, none⟩ = some (.pointer (some ⟨ob, 0, none⟩)) := by simp [World.cell?, g3]
    rw [← hW3]
    refine bodyPost_ret (v := .agg #[.pointer (some ⟨hb, 0, none⟩), .pointer (some ⟨ob, 0, none⟩)]) (by simp [results, Try.results9, go_sem, q0, q1]) rfl ?_
    exact HR.out _ hW3
  · have emd2 : mod.tmod 12 = md := by rw [emd, if_neg c]
    clear emd
    go_enter Try.func9, Try.ntmps9
    go_wp2_with fail
    rw [HW.out]
    refine Calls.mono NW.out ?_
    rintro e w2 ⟨rfl, S2, B2⟩
    have e0 : w2.heap[w.heap.size]? = some (.cells #[.pointer none, .pointer none] 26) := (B2.block _ (by have := H1.out.2.1; omega)).trans H1.out.2.2.2
    have c0 : w2.cell? ⟨w.heap.size, 0, none⟩ = some (.pointer none) := by simp [World.cell?, e0]
    have c1 : w2.cell? ⟨w.heap.size, 1, none⟩ = some (.pointer none) := by simp [World.cell?, e0]
    have z0 : w2.frozen? ⟨w.heap.size, 0, none⟩ = false := by simp [World.frozen?, e0]
    have z1 : w2.frozen? ⟨w.heap.size, 1, none⟩ = false := by simp [World.frozen?, e0]
    obtain ⟨hb, ehb⟩ : ∃ hb, hb = W1.heap.size + 1 := ⟨_, rfl⟩
    obtain ⟨ob, eob⟩ : ∃ ob, ob = w.heap.size + 1 := ⟨_, rfl⟩
    obtain ⟨pb, epb⟩ : ∃ pb, pb = w.heap.size := ⟨_, rfl⟩
    have HR : Hid (∀ W3, W3 = (w2.setCell ⟨pb, 0, none⟩ (.pointer (some ⟨hb, 0, none⟩))).setCell ⟨pb, 1, none⟩ (.pointer (some ⟨ob, 0, none⟩)) → Made w tur lies (.returned (.agg #[.pointer (some ⟨hb, 0, none⟩), .pointer (some ⟨ob, 0, none⟩)])) W3) := fun W3 hW3 => by
      have kept : ∀ k, k ≠ pb → W3.heap[k]? = w2.heap[k]? := fun k hk => by
        rw [hW3]
        exact (Below.heap_setCell _ _ _ k hk).trans (Below.heap_setCell _ _ _ k hk)
      rw [← ehb, ← eob] at S2
      refine ⟨hb, ob, W1.heap.size, md, rfl, S2.keep fun k o e h1 h2 => kept k fun e2 => ?_, ?_, ?_⟩
      · rw [e2, epb, e0] at e
        injection e with e
        exact h2 _ e.symm
      · rw [eob]
        exact H1.out.2.2.1.kept ((kept _ (by omega)).trans (B2.block _ H1.out.2.2.1.lt))
      · rw [hW3, epb]
        exact ((H1.out.1.trans (B2.mono H1.out.1.size)).setCell (Nat.le_refl _) _).setCell (Nat.le_refl _) _
    rw [← ehb, ← eob, ← epb]
    rw [← epb] at c0 c1 z0 z1 e0
    have HE : Hid (w2.heap[pb]? = some (.cells #[.pointer none, .pointer none] 26)) := e0
    clear S2 B2 e0 ehb eob NW HW H1 epb
    go_wp2_with fail
    obtain ⟨W3, hW3⟩ : ∃ W3, W3 = (w2.setCell ⟨pb, 0, none⟩ (.pointer (some ⟨hb, 0, none⟩))).setCell ⟨pb, 1, none⟩ (.pointer (some ⟨ob, 0, none⟩)) := ⟨_, rfl⟩
    have g3 : W3.heap[pb]? = some (.cells #[.pointer (some ⟨hb, 0, none⟩), .pointer (some ⟨ob, 0, none⟩)] 26) := by
      rw [hW3]
      exact heap_setCell_same _ pb 1 _ _ _ (heap_setCell_same _ pb 0 _ _ _ HE.out)
    have q0 : W3.cell? ⟨pb, 0, none⟩ = some (.pointer (some ⟨hb, 0, none⟩)) := by simp [World.cell?, g3]
    have q1 : W3.cell? ⟨pb, 1, none⟩ = some (.pointer (some ⟨ob, 0, none⟩)) := by simp [World.cell?, g3]
    rw [← hW3]
    refine bodyPost_ret (v := .agg #[.pointer (some ⟨hb, 0, none⟩), .pointer (some ⟨ob, 0, none⟩)]) (by simp [results, Try.results9, go_sem, q0, q1]) rfl ?_
    exact HR.out _ hW3
end Go.Proofs.Ytjnfcihichaonaa
