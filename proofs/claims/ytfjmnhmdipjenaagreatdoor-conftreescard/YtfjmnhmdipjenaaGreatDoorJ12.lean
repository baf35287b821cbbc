/- Contracts of the program's functions, part 12: own work, joined in build order. -/
import Derived.Test.YtfjmnhmdipjenaaGreatDoorJ11
namespace Go.Proofs.YtfjmnhmdipjenaaGreatDoor
open Go.RowKit
set_option maxRecDepth 100000
set_option linter.unusedVariables false
/-- Words are not long. -/
def Sh4 (L : List ByteArray) : Prop := ∀ x ∈ L, x.size ≤ 4096
theorem Sh4.tail {L : List ByteArray} (h : Sh4 L) : Sh4 L.tail := fun x hx => h x (List.mem_of_mem_tail hx)
theorem Sh4.hd {L : List ByteArray} (h : Sh4 L) : (hdT L).size ≤ 4096 := by
  cases L with
  | nil => show (⟨#[]⟩ : ByteArray).size ≤ 4096; decide
  | cons x l => exact h x List.mem_cons_self
theorem sh4_arr {O : List ByteArray} : ∀ (k : Nat) (V L : List ByteArray) (b : Bool), Sh4 V → Sh4 L → Sh4 (arr O k V L b).1
  | 0, V, L, b, hV, hL => fun x hx => by
    rcases List.mem_append.1 (show x ∈ V ++ L from hx) with q | q
    · exact hV x q
    · exact hL x q
  | k + 1, V, L, b, hV, hL => by
    unfold arr
    split
    · exact hL.tail
    · split
      · exact hL.tail
      · refine sh4_arr k _ _ _ (fun x hx => ?_) hL.tail.tail
        rcases List.mem_or_eq_of_mem_set hx with q | q
        · exact hV x q
        · rw [q]; exact hL.tail.hd
theorem sm_rep (n : Nat) : Sh4 (List.replicate n ⟨#[]⟩) := fun x hx => by
  rw [List.eq_of_mem_replicate hx]
  decide
/-- A reader's words and whether one was wrong: behind a number; the number. -/
def nmS (p : List ByteArray × Bool) : List ByteArray × Bool := (p.1.tail, p.2 || p.1.isEmpty || (nvV (hdT p.1)).isNone)
def nmI (p : List ByteArray × Bool) : Int := (nvV (hdT p.1)).getD 0
def naS (s : ByteArray) (p : List ByteArray × Bool) : List ByteArray × Bool := (p.1.tail, p.2 || p.1.isEmpty || decide (hdT p.1 ≠ s))
def kdS (p : List ByteArray × Bool) : List ByteArray × Bool := (p.1.tail, p.2 || p.1.isEmpty || decide (kdV (hdT p.1) = 0))
def woS (p : List ByteArray × Bool) : List ByteArray × Bool := (p.1.tail, p.2 || p.1.isEmpty)
def arS (s : ByteArray) (p : List ByteArray × Bool) : List ByteArray × Bool := arr (wordsL s) (wordsL s).length (List.replicate (wordsL s).length ⟨#[]⟩) p.1 p.2
/-- The reader, between two calls. -/
structure Rp (lm : Nat) (W : World) (rb : Nat) (p : List ByteArray × Bool) : Prop where
  rd : Rd lm W rb p.1 p.2
  lm' : lm ≤ W.heap.size
  sm : Sh4 p.1
  ev : EV W
  kn : KN W
  len : p.1.length ≤ 100000
theorem Rp.go {lm : Nat} {W W' : World} {rb : Nat} {p : List ByteArray × Bool} (h : Rp lm W rb p) (k : Below W.heap.size W W') : Rp lm W' rb p :=
  ⟨h.rd.go k, Nat.le_trans h.lm' k.size, h.sm, h.ev.go k, h.kn.go k, h.len⟩
theorem Rp.name {lm : Nat} {w : World} {rb : Nat} {p : List ByteArray × Bool} (h : Rp lm w rb p) (s : ByteArray) : Calls Tryz.prog 45 #[.pointer (some ⟨rb, 0, none⟩), .string s] w fun e w' => e = .returned (.tuple #[]) ∧ Rp lm w' rb (naS s p) ∧ Ob rb w w' := by
  refine (name_any rb s p.1 p.2 w h.rd).mono ?_
  rintro e w' ⟨rfl, hr, ho⟩
  exact ⟨rfl, ⟨hr, Nat.le_trans h.lm' ho.size, h.sm.tail, h.ev.ob h.rd ho, KN.ob h.kn h.rd ho, by have := h.len; simp only [naS, List.length_tail]; omega⟩, ho⟩
theorem Rp.word {lm : Nat} {w : World} {rb : Nat} {p : List ByteArray × Bool} (h : Rp lm w rb p) : Calls Tryz.prog 50 #[.pointer (some ⟨rb, 0, none⟩)] w fun e w' => e = .returned (.string (hdT p.1)) ∧ Rp lm w' rb (woS p) ∧ Ob rb w w' := by
  refine (word_any rb p.1 p.2 w h.rd).mono ?_
  rintro e w' ⟨rfl, hr, ho⟩
  exact ⟨rfl, ⟨hr, Nat.le_trans h.lm' ho.size, h.sm.tail, h.ev.ob h.rd ho, KN.ob h.kn h.rd ho, by have := h.len; simp only [woS, List.length_tail]; omega⟩, ho⟩
theorem Rp.kind {lm : Nat} {w : World} {rb : Nat} {p : List ByteArray × Bool} (h : Rp lm w rb p) : Calls Tryz.prog 46 #[.pointer (some ⟨rb, 0, none⟩)] w fun e w' => e = .returned (.int .i64 (kdV (hdT p.1))) ∧ Rp lm w' rb (kdS p) ∧ Ob rb w w' := by
  refine (kind_any rb p.1 p.2 w h.rd h.kn).mono ?_
  rintro e w' ⟨rfl, hr, ho⟩
  exact ⟨rfl, ⟨hr, Nat.le_trans h.lm' ho.size, h.sm.tail, h.ev.ob h.rd ho, KN.ob h.kn h.rd ho, by have := h.len; simp only [kdS, List.length_tail]; omega⟩, ho⟩
theorem Rp.number {lm : Nat} {w : World} {rb : Nat} {p : List ByteArray × Bool} (h : Rp lm w rb p) : Calls Tryz.prog 48 #[.pointer (some ⟨rb, 0, none⟩)] w fun e w' => e = .returned (.int .i64 (nmI p)) ∧ Rp lm w' rb (nmS p) ∧ Ob rb w w' := by
  refine (number_any rb p.1 p.2 w h.rd h.sm.hd h.ev).mono ?_
  rintro e w' ⟨rfl, hr, ho⟩
  exact ⟨rfl, ⟨hr, Nat.le_trans h.lm' ho.size, h.sm.tail, h.ev.ob h.rd ho, KN.ob h.kn h.rd ho, by have := h.len; simp only [nmS, List.length_tail]; omega⟩, ho⟩
theorem arr_len (O : List ByteArray) : ∀ (k : Nat) (V L : List ByteArray) (b : Bool), (arr O k V L b).1.length ≤ V.length + L.length
  | 0, V, L, b => by show (V ++ L).length ≤ _; rw [List.length_append]; omega
  | k + 1, V, L, b => by
    unfold arr
    split
    · simp only [List.length_tail]; omega
    · split
      · simp only [List.length_tail]; omega
      · have := arr_len O k (V.set (Lib.idxOfS O (hdT L)).toNat (hdT L.tail)) L.tail.tail (b || L.isEmpty || L.tail.isEmpty)
        simp only [List.length_tail, List.length_set] at this
        omega
theorem Rp.arrange {lm : Nat} {w : World} {rb : Nat} {p : List ByteArray × Bool} (h : Rp lm w rb p) (s : ByteArray) (hs : s.size ≤ 1000) (h0 : 0 < (wordsL s).length) (hn : (wordsL s).length ≤ 100) (hl : p.1.length ≤ 50000) : Calls Tryz.prog 47 #[.pointer (some ⟨rb, 0, none⟩), .string s] w fun e w' => e = .returned (.tuple #[]) ∧ (∃ lm', Rp lm' w' rb (arS s p)) ∧ Ob rb w w' := by
  refine (arrange_any rb s p.1 p.2 w h.rd h.lm' (by omega) h0 (by omega) (by have := h.len; omega)).mono ?_
  rintro e w' ⟨rfl, hr, ho⟩
  exact ⟨rfl, ⟨_, hr, Nat.le_refl _, sh4_arr _ _ _ _ (sm_rep _) h.sm, h.ev.ob h.rd ho, KN.ob h.kn h.rd ho, by have := arr_len (wordsL s) (wordsL s).length (List.replicate (wordsL s).length ⟨#[]⟩) p.1 p.2; rw [List.length_replicate] at this; show (arr _ _ _ _ _).1.length ≤ _; omega⟩, ho⟩
/-- A world by what is known of it. -/
theorem wpList_as {ops : Array Oper} {l : List Oper} {ac : Act} {Q : Exit → Act → World → Prop} {w : World} (P : World → Prop) (hP : P w) (h : ∀ w', P w' → wpList Tryz.prog ops Q l ac w') : wpList Tryz.prog ops Q l ac w := h w hP
theorem bodyPost_as {fn : Func} {R : Ending → World → Prop} {x : Exit} {ac : Act} {w : World} (P : World → Prop) (hP : P w) (h : ∀ w', P w' → bodyPost Tryz.prog fn R x ac w') : bodyPost Tryz.prog fn R x ac w := h w hP
/-- Two boxes, and all else as it was. -/
structure Bx2 (w0 W : World) (g r : Nat) (tg tr : TypeId) (c d : Array Value) : Prop where
  hc : W.heap[g]? = some (.cells c tg)
  hr : W.heap[r]? = some (.cells d tr)
  ot : ∀ k, k ≠ g → k ≠ r → W.heap[k]? = w0.heap[k]?
  os : W.os = w0.os
  tape : W.tape = w0.tape
  output : W.output = w0.output
  size : W.heap.size = w0.heap.size
theorem Bx2.setC {w0 W : World} {g r : Nat} {tg tr : TypeId} {c d : Array Value} (h : Bx2 w0 W g r tg tr c d) (hn : g ≠ r) (i : Nat) (u : Value) : Bx2 w0 (W.setCell ⟨g, i, none⟩ u) g r tg tr (c.setIfInBounds i u) d :=
  ⟨(heap_setCell_same W g i _ _ _ h.hc).trans (by simp), (Below.heap_setCell _ _ _ _ (by show r ≠ g; omega)).trans h.hr, fun k h1 h2 => (Below.heap_setCell _ _ _ _ (by show k ≠ g; omega)).trans (h.ot k h1 h2), h.os, h.tape, h.output, by simpa [World.setCell] using h.size⟩
theorem Bx2.setR {w0 W : World} {g r : Nat} {tg tr : TypeId} {c d : Array Value} (h : Bx2 w0 W g r tg tr c d) (hn : g ≠ r) (i : Nat) (u : Value) : Bx2 w0 (W.setCell ⟨r, i, none⟩ u) g r tg tr c (d.setIfInBounds i u) :=
  ⟨(Below.heap_setCell _ _ _ _ (by show g ≠ r; omega)).trans h.hc, (heap_setCell_same W r i _ _ _ h.hr).trans (by simp), fun k h1 h2 => (Below.heap_setCell _ _ _ _ (by show k ≠ r; omega)).trans (h.ot k h1 h2), h.os, h.tape, h.output, by simpa [World.setCell] using h.size⟩
/-- No text and no error lies in it. -/
def plainV : Value → Bool
  | .string _ => false
  | .nilIface => false
  | .iface _ _ => false
  | _ => true
def Pln (c : Array Value) : Prop := c.toList.all plainV = true
theorem pln_no {w0 : World} {g i : Nat} {tg : TypeId} {c0 : Array Value} {x : Value} (h1 : w0.heap[g]? = some (.cells c0 tg)) (p1 : Pln c0) (hx : w0.cell? ⟨g, i, none⟩ = some x) (hs : (∃ s, x = Value.string s) ∨ x = Value.nilIface ∨ ∃ t q, x = Value.iface t q) : False := by
  have e : c0[i]? = some x := by simpa [World.cell?, h1] using hx
  have hm : x ∈ c0.toList := by
    rw [← Array.getElem?_toList] at e
    exact List.mem_of_getElem? e
  have q := List.all_eq_true.1 p1 x hm
  rcases hs with ⟨s, rfl⟩ | rfl | ⟨t, u, rfl⟩ <;> simp [plainV] at q
/-- One box, and all else as it was. -/
structure Bx1 (w0 W : World) (g : Nat) (tg : TypeId) (c : Array Value) : Prop where
  hc : W.heap[g]? = some (.cells c tg)
  ot : ∀ k, k ≠ g → W.heap[k]? = w0.heap[k]?
  os : W.os = w0.os
  tape : W.tape = w0.tape
  output : W.output = w0.output
  size : W.heap.size = w0.heap.size
theorem Bx1.set {w0 W : World} {g : Nat} {tg : TypeId} {c : Array Value} (h : Bx1 w0 W g tg c) (i : Nat) (u : Value) : Bx1 w0 (W.setCell ⟨g, i, none⟩ u) g tg (c.setIfInBounds i u) :=
  ⟨(heap_setCell_same W g i _ _ _ h.hc).trans (by simp), fun k h1 => (Below.heap_setCell _ _ _ _ (by show k ≠ g; omega)).trans (h.ot k h1), h.os, h.tape, h.output, by simpa [World.setCell] using h.size⟩
theorem Rp.one {lm : Nat} {w0 W : World} {rb g : Nat} {p : List ByteArray × Bool} {tg : TypeId} {c c0 : Array Value} (h : Rp lm w0 rb p) (k : Bx1 w0 W g tg c) (h1 : w0.heap[g]? = some (.cells c0 tg)) (p1 : Pln c0) (n1 : g ≠ rb) : Rp lm W rb p := by
  have cel : ∀ (b i : Nat) (x : Value), w0.cell? ⟨b, i, none⟩ = some x → ((∃ s, x = Value.string s) ∨ x = Value.nilIface ∨ ∃ t q, x = Value.iface t q) → W.cell? ⟨b, i, none⟩ = some x := fun b i x hx hs => by
    by_cases e1 : b = g
    · subst e1; exact (pln_no h1 p1 hx hs).elim
    exact (World.cell?_of_block (w := w0) (k.ot b e1)).trans hx
  refine ⟨?_, by rw [k.size]; exact h.lm', h.sm, ?_, fun i hi => cel 0 i _ (h.kn i hi) (.inl ⟨_, rfl⟩), h.len⟩
  · obtain ⟨v, h0, a, cap, e, k1, k2⟩ := h.rd.is
    refine ⟨⟨v, (k.ot rb n1.symm).trans h0, a, cap, e, k1, k2.imp id ?_⟩⟩
    rintro ⟨g', o, ha, hc⟩
    exact ⟨g', o, ha, fun i hi => ⟨(hc i hi).1, cel _ _ _ (hc i hi).2 (.inl ⟨_, rfl⟩)⟩⟩
  · obtain ⟨⟨e1, a1, b1⟩, ⟨e2, a2, b2⟩⟩ := h.ev
    exact ⟨⟨e1, cel _ _ _ a1 (.inr b1), b1⟩, ⟨e2, cel _ _ _ a2 (.inr b2), b2⟩⟩
theorem Rp.two {lm : Nat} {w0 W : World} {rb g r : Nat} {p : List ByteArray × Bool} {tg tr : TypeId} {c d c0 d0 : Array Value} (h : Rp lm w0 rb p) (k : Bx2 w0 W g r tg tr c d) (h1 : w0.heap[g]? = some (.cells c0 tg)) (h2 : w0.heap[r]? = some (.cells d0 tr)) (p1 : Pln c0) (p2 : Pln d0) (n1 : g ≠ rb) (n2 : r ≠ rb) : Rp lm W rb p := by
  have cel : ∀ (b i : Nat) (x : Value), w0.cell? ⟨b, i, none⟩ = some x → ((∃ s, x = Value.string s) ∨ x = Value.nilIface ∨ ∃ t q, x = Value.iface t q) → W.cell? ⟨b, i, none⟩ = some x := fun b i x hx hs => by
    by_cases e1 : b = g
    · subst e1; exact (pln_no h1 p1 hx hs).elim
    by_cases e2 : b = r
    · subst e2; exact (pln_no h2 p2 hx hs).elim
    exact (World.cell?_of_block (w := w0) (k.ot b e1 e2)).trans hx
  refine ⟨?_, by rw [k.size]; exact h.lm', h.sm, ?_, fun i hi => cel 0 i _ (h.kn i hi) (.inl ⟨_, rfl⟩), h.len⟩
  · obtain ⟨v, h0, a, cap, e, k1, k2⟩ := h.rd.is
    refine ⟨⟨v, (k.ot rb n1.symm n2.symm).trans h0, a, cap, e, k1, k2.imp id ?_⟩⟩
    rintro ⟨g', o, ha, hc⟩
    exact ⟨g', o, ha, fun i hi => ⟨(hc i hi).1, cel _ _ _ (hc i hi).2 (.inl ⟨_, rfl⟩)⟩⟩
  · obtain ⟨⟨e1, a1, b1⟩, ⟨e2, a2, b2⟩⟩ := h.ev
    exact ⟨⟨e1, cel _ _ _ a1 (.inr b1), b1⟩, ⟨e2, cel _ _ _ a2 (.inr b2), b2⟩⟩
/-- What a line tells that is no tree. -/
def setV (p : List ByteArray × Bool) (i : Nat) : Int := match i with
  | 0 => kdV (hdT (naS ⟨#[107, 105, 110, 100]⟩ p).1)
  | 1 => nmI (arS ⟨#[114, 111, 111, 109, 32, 109, 111, 115, 116, 32, 99, 97, 112, 32, 102, 108, 111, 119, 115, 32, 97, 103, 101]⟩ (kdS (naS ⟨#[107, 105, 110, 100]⟩ p)))
  | 2 => nmI (nmS (arS ⟨#[114, 111, 111, 109, 32, 109, 111, 115, 116, 32, 99, 97, 112, 32, 102, 108, 111, 119, 115, 32, 97, 103, 101]⟩ (kdS (naS ⟨#[107, 105, 110, 100]⟩ p))))
  | 3 => nmI (nmS (nmS (arS ⟨#[114, 111, 111, 109, 32, 109, 111, 115, 116, 32, 99, 97, 112, 32, 102, 108, 111, 119, 115, 32, 97, 103, 101]⟩ (kdS (naS ⟨#[107, 105, 110, 100]⟩ p)))))
  | 4 => nmI (nmS (nmS (nmS (arS ⟨#[114, 111, 111, 109, 32, 109, 111, 115, 116, 32, 99, 97, 112, 32, 102, 108, 111, 119, 115, 32, 97, 103, 101]⟩ (kdS (naS ⟨#[107, 105, 110, 100]⟩ p))))))
  | 5 => nmI (nmS (nmS (nmS (nmS (arS ⟨#[114, 111, 111, 109, 32, 109, 111, 115, 116, 32, 99, 97, 112, 32, 102, 108, 111, 119, 115, 32, 97, 103, 101]⟩ (kdS (naS ⟨#[107, 105, 110, 100]⟩ p)))))))
  | _ => 0
def setS (p : List ByteArray × Bool) : List ByteArray × Bool := (nmS (nmS (nmS (nmS (nmS (arS ⟨#[114, 111, 111, 109, 32, 109, 111, 115, 116, 32, 99, 97, 112, 32, 102, 108, 111, 119, 115, 32, 97, 103, 101]⟩ (kdS (naS ⟨#[107, 105, 110, 100]⟩ p))))))))
theorem setupN_len : 0 < (wordsL ⟨#[114, 111, 111, 109, 32, 109, 111, 115, 116, 32, 99, 97, 112, 32, 102, 108, 111, 119, 115, 32, 97, 103, 101]⟩).length ∧ (wordsL ⟨#[114, 111, 111, 109, 32, 109, 111, 115, 116, 32, 99, 97, 112, 32, 102, 108, 111, 119, 115, 32, 97, 103, 101]⟩).length ≤ 100 := by
  have e : wordsL ⟨#[114, 111, 111, 109, 32, 109, 111, 115, 116, 32, 99, 97, 112, 32, 102, 108, 111, 119, 115, 32, 97, 103, 101]⟩ = _ := setupN_words
  rw [e]
  decide
set_option maxHeartbeats 1000000 in
theorem setup_walk {lm : Nat} (rb : Nat) (p p1 p2 p3 p4 p5 p6 p7 p8 : List ByteArray × Bool) (KD n0 n1 n2 n3 n4 : Int) (e1 : naS ⟨#[107, 105, 110, 100]⟩ p = p1) (e2 : kdS p1 = p2) (e3 : arS ⟨#[114, 111, 111, 109, 32, 109, 111, 115, 116, 32, 99, 97, 112, 32, 102, 108, 111, 119, 115, 32, 97, 103, 101]⟩ p2 = p3) (e4 : nmS p3 = p4) (e5 : nmS p4 = p5) (e6 : nmS p5 = p6) (e7 : nmS p6 = p7) (e8 : nmS p7 = p8) (k0 : kdV (hdT p1.1) = KD) (k1 : nmI p3 = n0) (k2 : nmI p4 = n1) (k3 : nmI p5 = n2) (k4 : nmI p6 = n3) (k5 : nmI p7 = n4) (w : World) (h : Rp lm w rb p) (hl : p2.1.length ≤ 50000) (h6 : KD ≠ 6) :
    Calls Tryz.prog 27 #[.pointer (some ⟨rb, 0, none⟩)] w fun e w' => e = .returned (.agg #[.int .i64 KD, .int .i64 n0, .int .i64 n1, .int .i64 n2, .int .i64 n3, .int .i64 n4, .slice none 0 0]) ∧ (∃ lm', Rp lm' w' rb p8) ∧ Ob rb w w' := by
  have lrb := h.rd.lt
  have HR : Hid _ := h
  clear h
  have HL : Hid _ := hl
  have E1 : Hid _ := e1
  have E2 : Hid _ := e2
  have E3 : Hid _ := e3
  have E4 : Hid _ := e4
  have E5 : Hid _ := e5
  have E6 : Hid _ := e6
  have E7 : Hid _ := e7
  have E8 : Hid _ := e8
  have K0 : Hid _ := k0
  have K1 : Hid _ := k1
  have K2 : Hid _ := k2
  have K3 : Hid _ := k3
  have K4 : Hid _ := k4
  have K5 : Hid _ := k5
  clear e1 e2 e3 e4 e5 e6 e7 e8 k0 k1 k2 k3 k4 k5
  have d6 : (KD == 6) = false := by simpa using h6
  go_enter Tryz.func27, Tryz.ntmps27
  go_wp2_with fail
  refine ((HR.out.go (bc_al (bel_refl _))).name ⟨#[107, 105, 110, 100]⟩).mono ?_
  rintro e w1 ⟨rfl, hr1, ho1⟩
  rw [E1.out] at hr1
  have R1 : Hid _ := hr1
  have O1 : Hid _ := ho1
  clear hr1 ho1
  go_wp2_with fail
  refine (R1.out.kind).mono ?_
  rintro e w2 ⟨rfl, hr2, ho2⟩
  rw [E2.out] at hr2
  have R2 : Hid _ := hr2
  have O2 : Hid (Ob rb (w.alloc (.cells #[.int .i64 0, .int .i64 0, .int .i64 0, .int .i64 0, .int .i64 0, .int .i64 0, .slice none 0 0] 24)) w2) := O1.out.trans ho2
  have hsz2 := O2.out.size
  rw [World.size_alloc] at hsz2
  clear hr2 ho2 O1 R1
  rw [K0.out]
  go_wp2_with fail
  refine ((R2.out.go (bc_al (bel_refl _))).arrange ⟨#[114, 111, 111, 109, 32, 109, 111, 115, 116, 32, 99, 97, 112, 32, 102, 108, 111, 119, 115, 32, 97, 103, 101]⟩ (by decide) setupN_len.1 setupN_len.2 HL.out).mono ?_
  rintro e w3 ⟨rfl, ⟨lm3, hr3⟩, ho3⟩
  rw [E3.out] at hr3
  have R3 : Hid _ := hr3
  have O3 : Hid (Ob rb (w2.alloc (.cells #[.int .i64 KD, .int .i64 0, .int .i64 0, .int .i64 0, .int .i64 0, .int .i64 0, .slice none 0 0] 24)) w3) := ho3
  clear hr3 ho3 R2
  go_wp2_with fail
  refine (R3.out.number).mono ?_
  rintro e w4 ⟨rfl, hr4, ho4⟩
  rw [E4.out] at hr4
  have R4 : Hid _ := hr4
  have O4 : Hid (Ob rb (w2.alloc (.cells #[.int .i64 KD, .int .i64 0, .int .i64 0, .int .i64 0, .int .i64 0, .int .i64 0, .slice none 0 0] 24)) w4) := O3.out.trans ho4
  clear hr4 ho4 R3 O3
  rw [K1.out]
  go_wp2_with fail
  refine (R4.out.number).mono ?_
  rintro e w5 ⟨rfl, hr5, ho5⟩
  rw [E5.out] at hr5
  have R5 : Hid _ := hr5
  have O5 : Hid (Ob rb (w2.alloc (.cells #[.int .i64 KD, .int .i64 0, .int .i64 0, .int .i64 0, .int .i64 0, .int .i64 0, .slice none 0 0] 24)) w5) := O4.out.trans ho5
  clear hr5 ho5 R4 O4
  rw [K2.out]
  go_wp2_with fail
  refine (R5.out.number).mono ?_
  rintro e w6 ⟨rfl, hr6, ho6⟩
  rw [E6.out] at hr6
  have R6 : Hid _ := hr6
  have O6 : Hid (Ob rb (w2.alloc (.cells #[.int .i64 KD, .int .i64 0, .int .i64 0, .int .i64 0, .int .i64 0, .int .i64 0, .slice none 0 0] 24)) w6) := O5.out.trans ho6
  clear hr6 ho6 R5 O5
  rw [K3.out]
  go_wp2_with fail
  refine (R6.out.number).mono ?_
  rintro e w7 ⟨rfl, hr7, ho7⟩
  rw [E7.out] at hr7
  have R7 : Hid _ := hr7
  have O7 : Hid (Ob rb (w2.alloc (.cells #[.int .i64 KD, .int .i64 0, .int .i64 0, .int .i64 0, .int .i64 0, .int .i64 0, .slice none 0 0] 24)) w7) := O6.out.trans ho7
  clear hr7 ho7 R6 O6
  rw [K4.out]
  go_wp2_with fail
  refine (R7.out.number).mono ?_
  rintro e w8 ⟨rfl, hr8, ho8⟩
  rw [E8.out] at hr8
  have R8 : Hid _ := hr8
  have O8 : Hid (Ob rb (w2.alloc (.cells #[.int .i64 KD, .int .i64 0, .int .i64 0, .int .i64 0, .int .i64 0, .int .i64 0, .slice none 0 0] 24)) w8) := O7.out.trans ho8
  clear hr8 ho8 R7 O7
  rw [K5.out]
  obtain ⟨gR, eR⟩ : ∃ g, g = w.heap.size := ⟨_, rfl⟩
  obtain ⟨gC, eC⟩ : ∃ g, g = w2.heap.size := ⟨_, rfl⟩
  have hC : w8.heap[gC]? = some (.cells #[.int .i64 KD, .int .i64 0, .int .i64 0, .int .i64 0, .int .i64 0, .int .i64 0, .slice none 0 0] 24) := (O8.out.block gC (by rw [World.size_alloc]; omega) (by omega)).trans (by rw [eC]; exact al_at _ _)
  have hR : w8.heap[gR]? = some (.cells #[.int .i64 0, .int .i64 0, .int .i64 0, .int .i64 0, .int .i64 0, .int .i64 0, .slice none 0 0] 24) := (O8.out.block gR (by rw [World.size_alloc]; omega) (by omega)).trans (((bc_al (bel_refl w2)).block gR (by omega)).trans ((O2.out.block gR (by rw [World.size_alloc]; omega) (by omega)).trans (by rw [eR]; exact al_at _ _)))
  have HC : Hid _ := hC
  have HRR : Hid _ := hR
  have x0 : w8.cell? ⟨gC, 0, none⟩ = some (.int .i64 KD) := by simp [World.cell?, hC]
  have x1 : w8.cell? ⟨gC, 1, none⟩ = some (.int .i64 0) := by simp [World.cell?, hC]
  have x2 : w8.cell? ⟨gC, 2, none⟩ = some (.int .i64 0) := by simp [World.cell?, hC]
  have x3 : w8.cell? ⟨gC, 3, none⟩ = some (.int .i64 0) := by simp [World.cell?, hC]
  have x4 : w8.cell? ⟨gC, 4, none⟩ = some (.int .i64 0) := by simp [World.cell?, hC]
  have x5 : w8.cell? ⟨gC, 5, none⟩ = some (.int .i64 0) := by simp [World.cell?, hC]
  have x6 : w8.cell? ⟨gC, 6, none⟩ = some (.slice none 0 0) := by simp [World.cell?, hC]
  have y0 : w8.cell? ⟨gR, 0, none⟩ = some (.int .i64 0) := by simp [World.cell?, hR]
  have y1 : w8.cell? ⟨gR, 1, none⟩ = some (.int .i64 0) := by simp [World.cell?, hR]
  have y2 : w8.cell? ⟨gR, 2, none⟩ = some (.int .i64 0) := by simp [World.cell?, hR]
  have y3 : w8.cell? ⟨gR, 3, none⟩ = some (.int .i64 0) := by simp [World.cell?, hR]
  have y4 : w8.cell? ⟨gR, 4, none⟩ = some (.int .i64 0) := by simp [World.cell?, hR]
  have y5 : w8.cell? ⟨gR, 5, none⟩ = some (.int .i64 0) := by simp [World.cell?, hR]
  have y6 : w8.cell? ⟨gR, 6, none⟩ = some (.slice none 0 0) := by simp [World.cell?, hR]
  have fC : ∀ i, w8.frozen? ⟨gC, i, none⟩ = false := fun i => by simp [World.frozen?, hC]
  have fR : ∀ i, w8.frozen? ⟨gR, i, none⟩ = false := fun i => by simp [World.frozen?, hR]
  have fc0 := fC 0
  have fr0 := fR 0
  have fc1 := fC 1
  have fr1 := fR 1
  have fc2 := fC 2
  have fr2 := fR 2
  have fc3 := fC 3
  have fr3 := fR 3
  have fc4 := fC 4
  have fr4 := fR 4
  have fc5 := fC 5
  have fr5 := fR 5
  have fc6 := fC 6
  have fr6 := fR 6
  have neg : gC ≠ gR := by omega
  have lR : gR < w8.heap.size := World.block_lt_of_cell? _ _ y0
  have lC : gC < w8.heap.size := World.block_lt_of_cell? _ _ x0
  clear hC hR fC fR
  rw [← eC, ← eR]
  have HER : Hid _ := eR
  have HEC : Hid _ := eC
  clear eC eR
  have B8 : Hid (Bx2 w8 w8 gC gR 24 24 #[.int .i64 KD, .int .i64 0, .int .i64 0, .int .i64 0, .int .i64 0, .int .i64 0, .slice none 0 0] #[.int .i64 0, .int .i64 0, .int .i64 0, .int .i64 0, .int .i64 0, .int .i64 0, .slice none 0 0]) := ⟨HC.out, HRR.out, fun _ _ _ => rfl, rfl, rfl, rfl, rfl⟩
  have negH : Hid (gC ≠ gR) := neg
  go_wp2_with (refine (id ?_ : wpList Tryz.prog _ _ (⟨some 26, _, _, _, _, _⟩ :: _) _ _); refine wpList_as (fun W => Bx2 w8 W gC gR 24 24 #[.int .i64 KD, .int .i64 n0, .int .i64 n1, .int .i64 n2, .int .i64 n3, .int .i64 n4, .slice none 0 0] #[.int .i64 0, .int .i64 0, .int .i64 0, .int .i64 0, .int .i64 0, .int .i64 0, .slice none 0 0]) (((((B8.out.setC negH.out 1 (.int .i64 n0)).setC negH.out 2 (.int .i64 n1)).setC negH.out 3 (.int .i64 n2)).setC negH.out 4 (.int .i64 n3)).setC negH.out 5 (.int .i64 n4)) ?_)
  intro w9 B9
  clear x0 y0 fc0 fr0
  clear x1 y1 fc1 fr1
  clear x2 y2 fc2 fr2
  clear x3 y3 fc3 fr3
  clear x4 y4 fc4 fr4
  clear x5 y5 fc5 fr5
  clear x6 y6 fc6 fr6
  have hC := B9.hc
  have hR := B9.hr
  have x0 : w9.cell? ⟨gC, 0, none⟩ = some (.int .i64 KD) := by simp [World.cell?, hC]
  have x1 : w9.cell? ⟨gC, 1, none⟩ = some (.int .i64 n0) := by simp [World.cell?, hC]
  have x2 : w9.cell? ⟨gC, 2, none⟩ = some (.int .i64 n1) := by simp [World.cell?, hC]
  have x3 : w9.cell? ⟨gC, 3, none⟩ = some (.int .i64 n2) := by simp [World.cell?, hC]
  have x4 : w9.cell? ⟨gC, 4, none⟩ = some (.int .i64 n3) := by simp [World.cell?, hC]
  have x5 : w9.cell? ⟨gC, 5, none⟩ = some (.int .i64 n4) := by simp [World.cell?, hC]
  have x6 : w9.cell? ⟨gC, 6, none⟩ = some (.slice none 0 0) := by simp [World.cell?, hC]
  have y0 : w9.cell? ⟨gR, 0, none⟩ = some (.int .i64 0) := by simp [World.cell?, hR]
  have y1 : w9.cell? ⟨gR, 1, none⟩ = some (.int .i64 0) := by simp [World.cell?, hR]
  have y2 : w9.cell? ⟨gR, 2, none⟩ = some (.int .i64 0) := by simp [World.cell?, hR]
  have y3 : w9.cell? ⟨gR, 3, none⟩ = some (.int .i64 0) := by simp [World.cell?, hR]
  have y4 : w9.cell? ⟨gR, 4, none⟩ = some (.int .i64 0) := by simp [World.cell?, hR]
  have y5 : w9.cell? ⟨gR, 5, none⟩ = some (.int .i64 0) := by simp [World.cell?, hR]
  have y6 : w9.cell? ⟨gR, 6, none⟩ = some (.slice none 0 0) := by simp [World.cell?, hR]
  have fr0 : w9.frozen? ⟨gR, 0, none⟩ = false := by simp [World.frozen?, hR]
  have fr1 : w9.frozen? ⟨gR, 1, none⟩ = false := by simp [World.frozen?, hR]
  have fr2 : w9.frozen? ⟨gR, 2, none⟩ = false := by simp [World.frozen?, hR]
  have fr3 : w9.frozen? ⟨gR, 3, none⟩ = false := by simp [World.frozen?, hR]
  have fr4 : w9.frozen? ⟨gR, 4, none⟩ = false := by simp [World.frozen?, hR]
  have fr5 : w9.frozen? ⟨gR, 5, none⟩ = false := by simp [World.frozen?, hR]
  have fr6 : w9.frozen? ⟨gR, 6, none⟩ = false := by simp [World.frozen?, hR]
  have K9 : Hid _ := B9
  clear B9 hC hR
  have OW : Hid (Ob rb w w8) := ((Ob.of (bc_al (bel_refl w))).trans O2.out).trans ((Ob.of (bc_al (bel_refl w2))).trans O8.out)
  go_wp2_with fail
  refine bodyPost_as (fun W => Bx2 w8 W gC gR 24 24 #[.int .i64 KD, .int .i64 n0, .int .i64 n1, .int .i64 n2, .int .i64 n3, .int .i64 n4, .slice none 0 0] #[.int .i64 KD, .int .i64 n0, .int .i64 n1, .int .i64 n2, .int .i64 n3, .int .i64 n4, .slice none 0 0]) (((((((K9.out.setR negH.out 0 (.int .i64 KD)).setR negH.out 1 (.int .i64 n0)).setR negH.out 2 (.int .i64 n1)).setR negH.out 3 (.int .i64 n2)).setR negH.out 4 (.int .i64 n3)).setR negH.out 5 (.int .i64 n4)).setR negH.out 6 (.slice none 0 0)) ?_
  intro w10 B10
  clear y0 fr0
  clear y1 fr1
  clear y2 fr2
  clear y3 fr3
  clear y4 fr4
  clear y5 fr5
  clear y6 fr6
  have hR := B10.hr
  have y0 : w10.cell? ⟨gR, 0, none⟩ = some (.int .i64 KD) := by simp [World.cell?, hR]
  have y1 : w10.cell? ⟨gR, 1, none⟩ = some (.int .i64 n0) := by simp [World.cell?, hR]
  have y2 : w10.cell? ⟨gR, 2, none⟩ = some (.int .i64 n1) := by simp [World.cell?, hR]
  have y3 : w10.cell? ⟨gR, 3, none⟩ = some (.int .i64 n2) := by simp [World.cell?, hR]
  have y4 : w10.cell? ⟨gR, 4, none⟩ = some (.int .i64 n3) := by simp [World.cell?, hR]
  have y5 : w10.cell? ⟨gR, 5, none⟩ = some (.int .i64 n4) := by simp [World.cell?, hR]
  have y6 : w10.cell? ⟨gR, 6, none⟩ = some (.slice none 0 0) := by simp [World.cell?, hR]
  refine bodyPost_ret (v := .agg #[.int .i64 KD, .int .i64 n0, .int .i64 n1, .int .i64 n2, .int .i64 n3, .int .i64 n4, .slice none 0 0]) (by simp [results, Tryz.results27, go_sem, y0, y1, y2, y3, y4, y5, y6]) rfl ⟨rfl, ⟨lm3, R8.out.two B10 HC.out HRR.out rfl rfl (by have := HEC.out; omega) (by have := HER.out; omega)⟩, ?_⟩
  refine ⟨B10.os.trans OW.out.os, B10.tape.trans OW.out.tape, B10.output.trans OW.out.output, by rw [B10.size]; exact OW.out.size, fun k hk hne => (B10.ot k (by have := HEC.out; omega) (by have := HER.out; omega)).trans (OW.out.block k hk hne)⟩
theorem setup_flat {lm : Nat} (rb : Nat) (p : List ByteArray × Bool) (w : World) (h : Rp lm w rb p) (hl : p.1.length ≤ 40000) (h6 : setV p 0 ≠ 6) :
    Calls Tryz.prog 27 #[.pointer (some ⟨rb, 0, none⟩)] w fun e w' => e = .returned (.agg #[.int .i64 (setV p 0), .int .i64 (setV p 1), .int .i64 (setV p 2), .int .i64 (setV p 3), .int .i64 (setV p 4), .int .i64 (setV p 5), .slice none 0 0]) ∧ (∃ lm', Rp lm' w' rb (setS p)) ∧ Ob rb w w' :=
  setup_walk rb p _ _ _ _ _ _ _ _ _ _ _ _ _ _ rfl rfl rfl rfl rfl rfl rfl rfl rfl rfl rfl rfl rfl rfl w h (by simp only [kdS, naS, List.length_tail]; omega) h6
end Go.Proofs.YtfjmnhmdipjenaaGreatDoor

namespace Go.Proofs.YtfjmnhmdipjenaaGreatDoor
open Go.RowKit
set_option maxRecDepth 100000
set_option linter.unusedVariables false
def flowN : ByteArray := ⟨#[119, 101, 105, 103, 104, 116, 32, 113, 117, 97, 110, 116, 117, 109, 32, 99, 108, 97, 115, 115, 32, 115, 112, 97, 110, 32, 98, 117, 114, 115, 116, 32, 114, 97, 116, 101, 32, 112, 101, 114, 32, 110, 111, 100, 101]⟩
theorem flowN_words : wordsL flowN = [⟨#[119, 101, 105, 103, 104, 116]⟩, ⟨#[113, 117, 97, 110, 116, 117, 109]⟩, ⟨#[99, 108, 97, 115, 115]⟩, ⟨#[115, 112, 97, 110]⟩, ⟨#[98, 117, 114, 115, 116]⟩, ⟨#[114, 97, 116, 101]⟩, ⟨#[112, 101, 114]⟩, ⟨#[110, 111, 100, 101]⟩] := by decide +kernel
theorem flowN_len : 0 < (wordsL ⟨#[119, 101, 105, 103, 104, 116, 32, 113, 117, 97, 110, 116, 117, 109, 32, 99, 108, 97, 115, 115, 32, 115, 112, 97, 110, 32, 98, 117, 114, 115, 116, 32, 114, 97, 116, 101, 32, 112, 101, 114, 32, 110, 111, 100, 101]⟩).length ∧ (wordsL ⟨#[119, 101, 105, 103, 104, 116, 32, 113, 117, 97, 110, 116, 117, 109, 32, 99, 108, 97, 115, 115, 32, 115, 112, 97, 110, 32, 98, 117, 114, 115, 116, 32, 114, 97, 116, 101, 32, 112, 101, 114, 32, 110, 111, 100, 101]⟩).length ≤ 100 := by
  have e : wordsL ⟨#[119, 101, 105, 103, 104, 116, 32, 113, 117, 97, 110, 116, 117, 109, 32, 99, 108, 97, 115, 115, 32, 115, 112, 97, 110, 32, 98, 117, 114, 115, 116, 32, 114, 97, 116, 101, 32, 112, 101, 114, 32, 110, 111, 100, 101]⟩ = _ := flowN_words
  rw [e]
  decide
theorem Bx1.row {w0 W : World} {g : Nat} {tg : TypeId} {c : Array Value} (h : Bx1 w0 W g tg c) (cs : Array Value) : Bx1 w0 (W.setRow g cs) g tg cs :=
  ⟨setRow_heap W g c cs tg _ h.hc, fun k hk => (setRow_other W g k cs hk).trans (h.ot k hk), h.os, h.tape, h.output, by rw [size_setRow]; exact h.size⟩
theorem calls_as {f : Nat} {args : Array Value} {w : World} {Q : Ending → World → Prop} (P : World → Prop) (hP : P w) (h : ∀ w', P w' → Calls Tryz.prog f args w' Q) : Calls Tryz.prog f args w Q := h w hP
set_option maxHeartbeats 1000000 in
theorem flow_walk {lm : Nat} (rb : Nat) (p p1 p2 p3 p4 p5 p6 p7 p8 p9 : List ByteArray × Bool) (n0 n1 n2 n3 n4 n5 n6 : Int) (rt : ByteArray) (e1 : arS ⟨#[119, 101, 105, 103, 104, 116, 32, 113, 117, 97, 110, 116, 117, 109, 32, 99, 108, 97, 115, 115, 32, 115, 112, 97, 110, 32, 98, 117, 114, 115, 116, 32, 114, 97, 116, 101, 32, 112, 101, 114, 32, 110, 111, 100, 101]⟩ p = p1) (e2 : nmS p1 = p2) (e3 : nmS p2 = p3) (e4 : nmS p3 = p4) (e5 : nmS p4 = p5) (e6 : nmS p5 = p6) (e7 : woS p6 = p7) (e8 : nmS p7 = p8) (e9 : nmS p8 = p9) (k0 : nmI p1 = n0) (k1 : nmI p2 = n1) (k2 : nmI p3 = n2) (k3 : nmI p4 = n3) (k4 : nmI p5 = n4) (k5 : nmI p7 = n5) (k6 : nmI p8 = n6) (kr : hdT p6.1 = rt) (w : World) (h : Rp lm w rb p) (hl : p.1.length ≤ 50000) :
    Calls Tryz.prog 29 #[.pointer (some ⟨rb, 0, none⟩)] w fun e w' => e = .returned (.tuple #[.agg #[.int .i64 n0, .int .i64 n1, .int .i64 n2, .int .i64 n3, .int .i64 n4, .float .f64 0, .int .i64 n5, .int .i64 n6], .string rt]) ∧ (∃ lm', Rp lm' w' rb p9) ∧ Ob rb w w' := by
  have lrb := h.rd.lt
  have HR : Hid _ := h
  clear h
  have HL : Hid _ := hl
  have E1 : Hid _ := e1
  have E2 : Hid _ := e2
  have E3 : Hid _ := e3
  have E4 : Hid _ := e4
  have E5 : Hid _ := e5
  have E6 : Hid _ := e6
  have E7 : Hid _ := e7
  have E8 : Hid _ := e8
  have E9 : Hid _ := e9
  have K0 : Hid _ := k0
  have K1 : Hid _ := k1
  have K2 : Hid _ := k2
  have K3 : Hid _ := k3
  have K4 : Hid _ := k4
  have K5 : Hid _ := k5
  have K6 : Hid _ := k6
  have KR : Hid _ := kr
  clear e1 e2 e3 e4 e5 e6 e7 e8 e9 k0 k1 k2 k3 k4 k5 k6 kr
  go_enter Tryz.func29, Tryz.ntmps29
  go_wp2_with fail
  refine ((HR.out.go (bc_al (bel_refl _))).arrange ⟨#[119, 101, 105, 103, 104, 116, 32, 113, 117, 97, 110, 116, 117, 109, 32, 99, 108, 97, 115, 115, 32, 115, 112, 97, 110, 32, 98, 117, 114, 115, 116, 32, 114, 97, 116, 101, 32, 112, 101, 114, 32, 110, 111, 100, 101]⟩ (by decide) flowN_len.1 flowN_len.2 HL.out).mono ?_
  rintro e w1 ⟨rfl, ⟨lm1, hr1⟩, ho1⟩
  rw [E1.out] at hr1
  have R1 : Hid _ := hr1
  have O1 : Hid (Ob rb (w.alloc (.cells #[.int .i64 0, .int .i64 0, .int .i64 0, .int .i64 0, .int .i64 0, .float .f64 0, .int .i64 0, .int .i64 0] 27)) w1) := ho1
  clear hr1 ho1
  go_wp2_with fail
  refine (R1.out.number).mono ?_
  rintro e w2 ⟨rfl, hr2, ho2⟩
  rw [E2.out] at hr2
  have R2 : Hid _ := hr2
  have O2 : Hid (Ob rb (w.alloc (.cells #[.int .i64 0, .int .i64 0, .int .i64 0, .int .i64 0, .int .i64 0, .float .f64 0, .int .i64 0, .int .i64 0] 27)) w2) := O1.out.trans ho2
  clear hr2 ho2 R1 O1
  rw [K0.out]
  go_wp2_with fail
  refine (R2.out.number).mono ?_
  rintro e w3 ⟨rfl, hr3, ho3⟩
  rw [E3.out] at hr3
  have R3 : Hid _ := hr3
  have O3 : Hid (Ob rb (w.alloc (.cells #[.int .i64 0, .int .i64 0, .int .i64 0, .int .i64 0, .int .i64 0, .float .f64 0, .int .i64 0, .int .i64 0] 27)) w3) := O2.out.trans ho3
  clear hr3 ho3 R2 O2
  rw [K1.out]
  go_wp2_with fail
  refine (R3.out.number).mono ?_
  rintro e w4 ⟨rfl, hr4, ho4⟩
  rw [E4.out] at hr4
  have R4 : Hid _ := hr4
  have O4 : Hid (Ob rb (w.alloc (.cells #[.int .i64 0, .int .i64 0, .int .i64 0, .int .i64 0, .int .i64 0, .float .f64 0, .int .i64 0, .int .i64 0] 27)) w4) := O3.out.trans ho4
  clear hr4 ho4 R3 O3
  rw [K2.out]
  go_wp2_with fail
  refine (R4.out.number).mono ?_
  rintro e w5 ⟨rfl, hr5, ho5⟩
  rw [E5.out] at hr5
  have R5 : Hid _ := hr5
  have O5 : Hid (Ob rb (w.alloc (.cells #[.int .i64 0, .int .i64 0, .int .i64 0, .int .i64 0, .int .i64 0, .float .f64 0, .int .i64 0, .int .i64 0] 27)) w5) := O4.out.trans ho5
  clear hr5 ho5 R4 O4
  rw [K3.out]
  go_wp2_with fail
  refine (R5.out.number).mono ?_
  rintro e w6 ⟨rfl, hr6, ho6⟩
  rw [E6.out] at hr6
  have R6 : Hid _ := hr6
  have O6 : Hid (Ob rb (w.alloc (.cells #[.int .i64 0, .int .i64 0, .int .i64 0, .int .i64 0, .int .i64 0, .float .f64 0, .int .i64 0, .int .i64 0] 27)) w6) := O5.out.trans ho6
  clear hr6 ho6 R5 O5
  rw [K4.out]
  obtain ⟨gR, eR⟩ : ∃ g, g = w.heap.size := ⟨_, rfl⟩
  have hR : w6.heap[gR]? = some (.cells #[.int .i64 0, .int .i64 0, .int .i64 0, .int .i64 0, .int .i64 0, .float .f64 0, .int .i64 0, .int .i64 0] 27) := (O6.out.block gR (by rw [World.size_alloc]; omega) (by omega)).trans (by rw [eR]; exact al_at _ _)
  have H6 : Hid _ := hR
  have y0 : w6.cell? ⟨gR, 0, none⟩ = some (.int .i64 0) := by simp [World.cell?, hR]
  have y1 : w6.cell? ⟨gR, 1, none⟩ = some (.int .i64 0) := by simp [World.cell?, hR]
  have y2 : w6.cell? ⟨gR, 2, none⟩ = some (.int .i64 0) := by simp [World.cell?, hR]
  have y3 : w6.cell? ⟨gR, 3, none⟩ = some (.int .i64 0) := by simp [World.cell?, hR]
  have y4 : w6.cell? ⟨gR, 4, none⟩ = some (.int .i64 0) := by simp [World.cell?, hR]
  have y5 : w6.cell? ⟨gR, 5, none⟩ = some (.float .f64 0) := by simp [World.cell?, hR]
  have y6 : w6.cell? ⟨gR, 6, none⟩ = some (.int .i64 0) := by simp [World.cell?, hR]
  have y7 : w6.cell? ⟨gR, 7, none⟩ = some (.int .i64 0) := by simp [World.cell?, hR]
  have fr0 : w6.frozen? ⟨gR, 0, none⟩ = false := by simp [World.frozen?, hR]
  have fr1 : w6.frozen? ⟨gR, 1, none⟩ = false := by simp [World.frozen?, hR]
  have fr2 : w6.frozen? ⟨gR, 2, none⟩ = false := by simp [World.frozen?, hR]
  have fr3 : w6.frozen? ⟨gR, 3, none⟩ = false := by simp [World.frozen?, hR]
  have fr4 : w6.frozen? ⟨gR, 4, none⟩ = false := by simp [World.frozen?, hR]
  have fr5 : w6.frozen? ⟨gR, 5, none⟩ = false := by simp [World.frozen?, hR]
  have fr6 : w6.frozen? ⟨gR, 6, none⟩ = false := by simp [World.frozen?, hR]
  have fr7 : w6.frozen? ⟨gR, 7, none⟩ = false := by simp [World.frozen?, hR]
  have nrb : Hid (gR ≠ rb) := by show gR ≠ rb; omega
  have OW : Hid (Ob rb w w6) := (Ob.of (bc_al (bel_refl w))).trans O6.out
  have B6 : Hid (Bx1 w6 w6 gR 27 #[.int .i64 0, .int .i64 0, .int .i64 0, .int .i64 0, .int .i64 0, .float .f64 0, .int .i64 0, .int .i64 0]) := ⟨hR, fun _ _ => rfl, rfl, rfl, rfl, rfl⟩
  clear hR O6
  rw [← eR]
  have HER : Hid _ := eR
  clear eR
  go_wp2_with fail
  refine calls_as (fun W => Bx1 w6 W gR 27 #[.int .i64 n0, .int .i64 n1, .int .i64 n2, .int .i64 n3, .int .i64 n4, .float .f64 0, .int .i64 0, .int .i64 0]) (((((B6.out.set 0 (.int .i64 n0)).set 1 (.int .i64 n1)).set 2 (.int .i64 n2)).set 3 (.int .i64 n3)).set 4 (.int .i64 n4)) ?_
  intro v6 B7
  have Q6 : Hid (Rp lm1 v6 rb p6) := R6.out.one B7 H6.out rfl nrb.out
  have A6 : Hid _ := B7
  have G6 : Hid _ := B7.hc
  clear B7
  clear y0 fr0
  clear y1 fr1
  clear y2 fr2
  clear y3 fr3
  clear y4 fr4
  clear y5 fr5
  clear y6 fr6
  clear y7 fr7
  refine (Q6.out.word).mono ?_
  rintro e w7 ⟨rfl, hr7, ho7⟩
  rw [E7.out] at hr7
  have R7 : Hid _ := hr7
  have O7 : Hid (Ob rb v6 w7) := ho7
  clear hr7 ho7
  rw [KR.out]
  go_wp2_with fail
  refine (R7.out.number).mono ?_
  rintro e w8 ⟨rfl, hr8, ho8⟩
  rw [E8.out] at hr8
  have R8 : Hid _ := hr8
  have O8 : Hid (Ob rb v6 w8) := O7.out.trans ho8
  clear hr8 ho8 R7 O7
  rw [K5.out]
  go_wp2_with fail
  refine (R8.out.number).mono ?_
  rintro e w9 ⟨rfl, hr9, ho9⟩
  rw [E9.out] at hr9
  have R9 : Hid _ := hr9
  have O9 : Hid (Ob rb v6 w9) := O8.out.trans ho9
  clear hr9 ho9 R8 O8
  rw [K6.out]
  have hR : w9.heap[gR]? = some (.cells #[.int .i64 n0, .int .i64 n1, .int .i64 n2, .int .i64 n3, .int .i64 n4, .float .f64 0, .int .i64 0, .int .i64 0] 27) := (O9.out.block gR (Array.getElem?_eq_some_iff.1 G6.out).1 nrb.out).trans G6.out
  have H9 : Hid _ := hR
  have y0 : w9.cell? ⟨gR, 0, none⟩ = some (.int .i64 n0) := by simp [World.cell?, hR]
  have y1 : w9.cell? ⟨gR, 1, none⟩ = some (.int .i64 n1) := by simp [World.cell?, hR]
  have y2 : w9.cell? ⟨gR, 2, none⟩ = some (.int .i64 n2) := by simp [World.cell?, hR]
  have y3 : w9.cell? ⟨gR, 3, none⟩ = some (.int .i64 n3) := by simp [World.cell?, hR]
  have y4 : w9.cell? ⟨gR, 4, none⟩ = some (.int .i64 n4) := by simp [World.cell?, hR]
  have y5 : w9.cell? ⟨gR, 5, none⟩ = some (.float .f64 0) := by simp [World.cell?, hR]
  have y6 : w9.cell? ⟨gR, 6, none⟩ = some (.int .i64 0) := by simp [World.cell?, hR]
  have y7 : w9.cell? ⟨gR, 7, none⟩ = some (.int .i64 0) := by simp [World.cell?, hR]
  have fr0 : w9.frozen? ⟨gR, 0, none⟩ = false := by simp [World.frozen?, hR]
  have fr1 : w9.frozen? ⟨gR, 1, none⟩ = false := by simp [World.frozen?, hR]
  have fr2 : w9.frozen? ⟨gR, 2, none⟩ = false := by simp [World.frozen?, hR]
  have fr3 : w9.frozen? ⟨gR, 3, none⟩ = false := by simp [World.frozen?, hR]
  have fr4 : w9.frozen? ⟨gR, 4, none⟩ = false := by simp [World.frozen?, hR]
  have fr5 : w9.frozen? ⟨gR, 5, none⟩ = false := by simp [World.frozen?, hR]
  have fr6 : w9.frozen? ⟨gR, 6, none⟩ = false := by simp [World.frozen?, hR]
  have fr7 : w9.frozen? ⟨gR, 7, none⟩ = false := by simp [World.frozen?, hR]
  have B9 : Hid (Bx1 w9 w9 gR 27 #[.int .i64 n0, .int .i64 n1, .int .i64 n2, .int .i64 n3, .int .i64 n4, .float .f64 0, .int .i64 0, .int .i64 0]) := ⟨hR, fun _ _ => rfl, rfl, rfl, rfl, rfl⟩
  clear hR
  go_wp2_with (refine (id ?_ : wpList Tryz.prog _ _ (⟨some 29, _, _, _, _, _⟩ :: _) _ _); refine wpList_as (fun W => Bx1 w9 W gR 27 #[.int .i64 n0, .int .i64 n1, .int .i64 n2, .int .i64 n3, .int .i64 n4, .float .f64 0, .int .i64 n5, .int .i64 n6]) ((B9.out.set 6 (.int .i64 n5)).set 7 (.int .i64 n6)) ?_)
  intro v9 B10
  clear y0 fr0
  clear y1 fr1
  clear y2 fr2
  clear y3 fr3
  clear y4 fr4
  clear y5 fr5
  clear y6 fr6
  clear y7 fr7
  have hR := B10.hc
  have y0 : v9.cell? ⟨gR, 0, none⟩ = some (.int .i64 n0) := by simp [World.cell?, hR]
  have y1 : v9.cell? ⟨gR, 1, none⟩ = some (.int .i64 n1) := by simp [World.cell?, hR]
  have y2 : v9.cell? ⟨gR, 2, none⟩ = some (.int .i64 n2) := by simp [World.cell?, hR]
  have y3 : v9.cell? ⟨gR, 3, none⟩ = some (.int .i64 n3) := by simp [World.cell?, hR]
  have y4 : v9.cell? ⟨gR, 4, none⟩ = some (.int .i64 n4) := by simp [World.cell?, hR]
  have y5 : v9.cell? ⟨gR, 5, none⟩ = some (.float .f64 0) := by simp [World.cell?, hR]
  have y6 : v9.cell? ⟨gR, 6, none⟩ = some (.int .i64 n5) := by simp [World.cell?, hR]
  have y7 : v9.cell? ⟨gR, 7, none⟩ = some (.int .i64 n6) := by simp [World.cell?, hR]
  have fr0 : v9.frozen? ⟨gR, 0, none⟩ = false := by simp [World.frozen?, hR]
  have fr1 : v9.frozen? ⟨gR, 1, none⟩ = false := by simp [World.frozen?, hR]
  have fr2 : v9.frozen? ⟨gR, 2, none⟩ = false := by simp [World.frozen?, hR]
  have fr3 : v9.frozen? ⟨gR, 3, none⟩ = false := by simp [World.frozen?, hR]
  have fr4 : v9.frozen? ⟨gR, 4, none⟩ = false := by simp [World.frozen?, hR]
  have fr5 : v9.frozen? ⟨gR, 5, none⟩ = false := by simp [World.frozen?, hR]
  have fr6 : v9.frozen? ⟨gR, 6, none⟩ = false := by simp [World.frozen?, hR]
  have fr7 : v9.frozen? ⟨gR, 7, none⟩ = false := by simp [World.frozen?, hR]
  have A9 : Hid _ := B10
  clear hR B10
  go_wp2_with (refine (id ?_ : wpList Tryz.prog _ _ (⟨none, .store 27 (.tmp 2) (.tmp 29), _, _, _, _⟩ :: _) _ _); refine wpList_store_row rfl 27 (.tmp 2) (.tmp 29) rfl gR #[.int .i64 n0, .int .i64 n1, .int .i64 n2, .int .i64 n3, .int .i64 n4, .float .f64 0, .int .i64 n5, .int .i64 n6] rfl rfl 27 #[.int .i64 n0, .int .i64 n1, .int .i64 n2, .int .i64 n3, .int .i64 n4, .float .f64 0, .int .i64 n5, .int .i64 n6] A9.out.hc (by kernel_rfl) (by kernel_rfl) (by kernel_rfl) ?_; refine wpList_as (fun W => Bx1 w9 W gR 27 #[.int .i64 n0, .int .i64 n1, .int .i64 n2, .int .i64 n3, .int .i64 n4, .float .f64 0, .int .i64 n5, .int .i64 n6]) (A9.out.row _) ?_)
  intro w10 B10
  clear y0 fr0
  clear y1 fr1
  clear y2 fr2
  clear y3 fr3
  clear y4 fr4
  clear y5 fr5
  clear y6 fr6
  clear y7 fr7
  go_wp2_with fail
  have hR := B10.hc
  have y0 : w10.cell? ⟨gR, 0, none⟩ = some (.int .i64 n0) := by simp [World.cell?, hR]
  have y1 : w10.cell? ⟨gR, 1, none⟩ = some (.int .i64 n1) := by simp [World.cell?, hR]
  have y2 : w10.cell? ⟨gR, 2, none⟩ = some (.int .i64 n2) := by simp [World.cell?, hR]
  have y3 : w10.cell? ⟨gR, 3, none⟩ = some (.int .i64 n3) := by simp [World.cell?, hR]
  have y4 : w10.cell? ⟨gR, 4, none⟩ = some (.int .i64 n4) := by simp [World.cell?, hR]
  have y5 : w10.cell? ⟨gR, 5, none⟩ = some (.float .f64 0) := by simp [World.cell?, hR]
  have y6 : w10.cell? ⟨gR, 6, none⟩ = some (.int .i64 n5) := by simp [World.cell?, hR]
  have y7 : w10.cell? ⟨gR, 7, none⟩ = some (.int .i64 n6) := by simp [World.cell?, hR]
  refine bodyPost_ret (v := .tuple #[.agg #[.int .i64 n0, .int .i64 n1, .int .i64 n2, .int .i64 n3, .int .i64 n4, .float .f64 0, .int .i64 n5, .int .i64 n6], .string rt]) (by simp [results, Tryz.results29, go_sem, y0, y1, y2, y3, y4, y5, y6, y7]) rfl ⟨rfl, ⟨lm1, R9.out.one B10 H9.out rfl nrb.out⟩, ?_⟩
  have X := A6.out
  refine ⟨B10.os.trans (O9.out.os.trans (X.os.trans OW.out.os)), B10.tape.trans (O9.out.tape.trans (X.tape.trans OW.out.tape)), B10.output.trans (O9.out.output.trans (X.output.trans OW.out.output)), ?_, fun k hk hne => ?_⟩
  · have q1 := B10.size
    have q2 := O9.out.size
    have q3 := X.size
    have q4 := OW.out.size
    omega
  · have q1 := HER.out
    have q3 := X.size
    have q4 := OW.out.size
    exact (B10.ot k (by omega)).trans ((O9.out.block k (by omega) hne).trans ((X.ot k (by omega)).trans (OW.out.block k hk hne)))
end Go.Proofs.YtfjmnhmdipjenaaGreatDoor

namespace Go.Proofs.YtfjmnhmdipjenaaGreatDoor
open Go.RowKit
set_option maxRecDepth 100000
set_option linter.unusedVariables false
def sg (s : Bool) : Int := if s then -1 else 1
theorem sg_f : sg false = 1 := rfl
theorem sg_t : sg true = -1 := rfl
theorem lemA {u v q X B : Nat} (h : u ≤ v) (hq : v ≤ q) (hX : X < B) : u * X + v ≤ q * B := by
  have h1 : u * X ≤ v * X := Nat.mul_le_mul_right _ h
  have h2 : v * (X + 1) ≤ q * B := Nat.mul_le_mul hq hX
  rw [Nat.mul_add] at h2
  omega
/-- Euclid's steps on the highest words, and what they say of the whole numbers. -/
structure Fs (X Y x0 y0 p q u0 u1 u2 v0 v1 v2 : Nat) (s : Bool) : Prop where
  hp : (p : Int) = sg s * (u1 * x0 - v1 * y0)
  hq : (q : Int) = - (sg s * (u2 * x0 - v2 * y0))
  i1 : v2 * p + v1 * q = x0
  i2 : u2 * p + u1 * q = y0
  l2 : u2 ≤ v2
  l12 : u1 + u2 ≤ v1 + v2
  pos : 1 ≤ v2
  qp : q ≤ p
  det : sg s * ((u1 : Int) * v2 - v1 * u2) = 1
  zero : v1 = 0 → u1 = 1 ∧ u2 = 0 ∧ v2 = 1 ∧ s = false ∧ v0 = 0
  a1 : 0 ≤ sg s * ((u1 : Int) * X - v1 * Y)
  a1Y : v1 ≠ 0 → sg s * ((u1 : Int) * X - v1 * Y) ≤ Y
  a0 : v0 ≠ 0 → - (sg s * ((u0 : Int) * X - v0 * Y)) ≤ Y ∧ sg s * ((u1 : Int) * X - v1 * Y) < - (sg s * ((u0 : Int) * X - v0 * Y)) ∧ sg s * ((v0 : Int) * u1 - u0 * v1) = 1
theorem Fs.start {X Y x0 y0 : Nat} (h : y0 ≤ x0) : Fs X Y x0 y0 x0 y0 0 1 0 0 0 1 false := by
  constructor <;> (try simp [sg]) <;> omega
theorem sg_not (s : Bool) : sg (!s) = - sg s := by cases s <;> rfl
theorem Fs.real {X Y x0 y0 B X' Y' p q u0 u1 u2 v0 v1 v2 : Nat} {s : Bool} (h : Fs X Y x0 y0 p q u0 u1 u2 v0 v1 v2 s) (hX : X = x0 * B + X') (hY : Y = y0 * B + Y') (hX' : X' < B) (hY' : Y' < B) (c1 : v2 ≤ q) (c2 : v1 + v2 ≤ p - q) :
    0 ≤ - (sg s * ((u2 : Int) * X - v2 * Y)) ∧ - (sg s * ((u2 : Int) * X - v2 * Y)) < sg s * ((u1 : Int) * X - v1 * Y) := by
  have a1 := lemA h.l2 c1 hX'
  have a2 := lemA (Nat.le_refl v2) c1 hY'
  have a3 := lemA h.l12 c2 hX'
  have a4 := lemA (Nat.le_refl (v1 + v2)) c2 hY'
  have hp := h.hp
  have hq := h.hq
  have hqp := h.qp
  have hpos := h.pos
  have e1 : ((p - q : Nat) : Int) = p - q := by omega
  have a1' : (u2 : Int) * X' + v2 ≤ q * B := by exact_mod_cast a1
  have a2' : (v2 : Int) * Y' + v2 ≤ q * B := by exact_mod_cast a2
  have a3' : ((u1 : Int) + u2) * X' + (v1 + v2) ≤ ((p - q : Nat) : Int) * B := by exact_mod_cast a3
  have a4' : ((v1 : Int) + v2) * Y' + (v1 + v2) ≤ ((p - q : Nat) : Int) * B := by exact_mod_cast a4
  rw [e1] at a3' a4'
  have n1 : 0 ≤ (v2 : Int) * Y' := Int.mul_nonneg (by omega) (by omega)
  have n2 : 0 ≤ ((u1 : Int) + u2) * X' := Int.mul_nonneg (by omega) (by omega)
  have n3 : 0 ≤ (u2 : Int) * X' := Int.mul_nonneg (by omega) (by omega)
  have n4 : 0 ≤ ((v1 : Int) + v2) * Y' := Int.mul_nonneg (by omega) (by omega)
  subst hX hY
  cases s
  · rw [sg_f] at hp hq ⊢
    have E2 : -(1 * ((u2 : Int) * ((x0 * B + X' : Nat) : Int) - v2 * ((y0 * B + Y' : Nat) : Int))) = q * B - u2 * X' + v2 * Y' := by
      push_cast; grind
    have E1 : 1 * ((u1 : Int) * ((x0 * B + X' : Nat) : Int) - v1 * ((y0 * B + Y' : Nat) : Int)) = p * B + u1 * X' - v1 * Y' := by
      push_cast; grind
    rw [E1, E2]
    clear hp hq E1 E2 h a1 a2 a3 a4
    grind
  · rw [sg_t] at hp hq ⊢
    have E2 : -(-1 * ((u2 : Int) * ((x0 * B + X' : Nat) : Int) - v2 * ((y0 * B + Y' : Nat) : Int))) = q * B + u2 * X' - v2 * Y' := by
      push_cast; grind
    have E1 : -1 * ((u1 : Int) * ((x0 * B + X' : Nat) : Int) - v1 * ((y0 * B + Y' : Nat) : Int)) = p * B - u1 * X' + v1 * Y' := by
      push_cast; grind
    rw [E1, E2]
    clear hp hq E1 E2 h a1 a2 a3 a4
    grind
theorem Fs.step {X Y x0 y0 B X' Y' p q u0 u1 u2 v0 v1 v2 : Nat} {s : Bool} (h : Fs X Y x0 y0 p q u0 u1 u2 v0 v1 v2 s) (hX : X = x0 * B + X') (hY : Y = y0 * B + Y') (hX' : X' < B) (hY' : Y' < B) (c1 : v2 ≤ q) (c2 : v1 + v2 ≤ p - q) :
    Fs X Y x0 y0 q (p % q) u1 u2 (u1 + p / q * u2) v1 v2 (v1 + p / q * v2) (!s) := by
  obtain ⟨r1, r2⟩ := h.real hX hY hX' hY' c1 c2
  have hpos := h.pos
  have hq0 : 0 < q := by omega
  have hm : q * (p / q) + p % q = p := Nat.div_add_mod p q
  have hd : 1 ≤ p / q := (Nat.le_div_iff_mul_le hq0).2 (by have := h.qp; omega)
  generalize p / q = t at hm hd ⊢
  have hlt : p % q < q := Nat.mod_lt _ hq0
  generalize p % q = r at hm hlt ⊢
  have hp := h.hp
  have hq := h.hq
  have hmZ : (q : Int) * t + r = p := by exact_mod_cast hm
  obtain ⟨d, rfl⟩ : ∃ d, t = d + 1 := ⟨t - 1, by omega⟩
  have l12 := h.l12
  have l2 := h.l2
  have lx : d * u2 ≤ d * v2 := Nat.mul_le_mul_left _ l2
  have det := h.det
  refine ⟨?_, ?_, ?_, ?_, ?_, ?_, ?_, Nat.le_of_lt hlt, ?_, fun e => absurd e (by omega), ?_, fun _ => ?_, fun e => ?_⟩
  · rw [sg_not, hq]; grind
  · rw [sg_not]; push_cast; grind
  · have := h.i1; grind
  · have := h.i2; grind
  · grind
  · grind
  · grind
  · rw [sg_not]; push_cast; grind
  · rw [sg_not]; grind
  · rw [sg_not]
    by_cases hv : v1 = 0
    · obtain ⟨z1, z2, z3, z4, z5⟩ := h.zero hv
      subst z2 z3 z4
      rw [sg_f]; grind
    · have := h.a1Y hv
      grind
  · rw [sg_not]
    refine ⟨?_, ?_, ?_⟩
    · have := h.a1Y e
      grind
    · grind
    · grind
/-- No word overflows: the next ones are at most x0 and y0. -/
theorem Fs.next_le {X Y x0 y0 p q u0 u1 u2 v0 v1 v2 : Nat} {s : Bool} (h : Fs X Y x0 y0 p q u0 u1 u2 v0 v1 v2 s) (c1 : v2 ≤ q) : v1 + p / q * v2 ≤ x0 ∧ u1 + p / q * u2 ≤ y0 ∧ v1 + v2 ≤ x0 ∧ p / q * v2 ≤ x0 ∧ p / q * u2 ≤ y0 := by
  have hpos := h.pos
  have hq0 : 0 < q := by omega
  have hm : q * (p / q) + p % q = p := Nat.div_add_mod p q
  have hd : 1 ≤ p / q := (Nat.le_div_iff_mul_le hq0).2 (by have := h.qp; omega)
  generalize p / q = t at hm hd ⊢
  generalize p % q = r at hm ⊢
  have i1 := h.i1
  have i2 := h.i2
  obtain ⟨m, rfl⟩ : ∃ m, q = m + 1 := ⟨q - 1, by omega⟩
  obtain ⟨d, rfl⟩ : ∃ d, t = d + 1 := ⟨t - 1, by omega⟩
  subst hm
  refine ⟨?_, ?_, ?_, ?_, ?_⟩ <;> grind
/-- What the steps make: two numbers with the same divisors. -/
theorem Fs.taken {X Y x0 y0 p q u0 u1 u2 v0 v1 v2 : Nat} {s : Bool} (h : Fs X Y x0 y0 p q u0 u1 u2 v0 v1 v2 s) (hv : v0 ≠ 0) :
    ∃ A C : Nat, (A : Int) = - (sg s * ((u0 : Int) * X - v0 * Y)) ∧ (C : Int) = sg s * ((u1 : Int) * X - v1 * Y) ∧ C < A ∧ A ≤ Y ∧ Nat.gcd A C = Nat.gcd X Y := by
  obtain ⟨b1, b2, b3⟩ := h.a0 hv
  have b0 := h.a1
  generalize hA : - (sg s * ((u0 : Int) * X - v0 * Y)) = A at b1 b2 ⊢
  generalize hC : sg s * ((u1 : Int) * X - v1 * Y) = C at b0 b2 ⊢
  obtain ⟨a, rfl⟩ := Int.eq_ofNat_of_zero_le (show 0 ≤ A by omega)
  obtain ⟨c, rfl⟩ := Int.eq_ofNat_of_zero_le b0
  refine ⟨a, c, rfl, rfl, by omega, by omega, ?_⟩
  have e1 : X = v1 * a + v0 * c := by
    have : (X : Int) = v1 * a + v0 * c := by rw [← hA, ← hC]; grind
    exact_mod_cast this
  have e2 : Y = u1 * a + u0 * c := by
    have : (Y : Int) = u1 * a + u0 * c := by rw [← hA, ← hC]; grind
    exact_mod_cast this
  refine Nat.dvd_antisymm (Nat.dvd_gcd ?_ ?_) (Nat.dvd_gcd ?_ ?_)
  · rw [e1]; exact Nat.dvd_add (Nat.dvd_mul_left_of_dvd (Nat.gcd_dvd_left _ _) _) (Nat.dvd_mul_left_of_dvd (Nat.gcd_dvd_right _ _) _)
  · rw [e2]; exact Nat.dvd_add (Nat.dvd_mul_left_of_dvd (Nat.gcd_dvd_left _ _) _) (Nat.dvd_mul_left_of_dvd (Nat.gcd_dvd_right _ _) _)
  · refine Int.ofNat_dvd.1 ?_
    rw [← hA]
    refine Int.dvd_neg.2 (Int.dvd_mul_of_dvd_right ?_ )
    exact Int.dvd_sub (Int.dvd_mul_of_dvd_right (Int.ofNat_dvd.2 (Nat.gcd_dvd_left _ _))) (Int.dvd_mul_of_dvd_right (Int.ofNat_dvd.2 (Nat.gcd_dvd_right _ _)))
  · refine Int.ofNat_dvd.1 ?_
    rw [← hC]
    refine Int.dvd_mul_of_dvd_right ?_
    exact Int.dvd_sub (Int.dvd_mul_of_dvd_right (Int.ofNat_dvd.2 (Nat.gcd_dvd_left _ _))) (Int.dvd_mul_of_dvd_right (Int.ofNat_dvd.2 (Nat.gcd_dvd_right _ _)))
/-- The word of G at n + 1, moved up by r, with the word below moved in. -/
def winW (G : Nat → Nat) (m n r : Nat) : Nat := cutU G m 0 (n + 1) * 2 ^ r % 18446744073709551616 + cutU G m 0 n / 2 ^ (64 - r)
theorem V_cut {G : Nat → Nat} {m n : Nat} (h : m ≤ n) : V (cutU G m 0) n = V G m := by
  rw [V_top h fun i h1 h2 => cutU_out (by omega)]
  exact V_congr fun i hi => by rw [cutU_in (by omega), Nat.zero_add]
theorem ok_cut {G : Nat → Nat} {m n : Nat} (hG : Ok G m) : Ok (cutU G m 0) n := fun i _ => by
  by_cases h : 0 + i < m
  · rw [cutU_in h]; exact hG _ h
  · rw [cutU_out h]; omega
theorem winW_eq {G : Nat → Nat} {m n r : Nat} (hG : Ok G m) (hm : m ≤ n + 2) (hr : r ≤ 63) (hlt : V G m < 2 ^ (64 * (n + 2) - r)) :
    winW G m n r = V G m / 2 ^ (64 * (n + 1) - r) ∧ V G m / 2 ^ (64 * (n + 1) - r) < 18446744073709551616 := by
  have hU : Ok (cutU G m 0) (n + 2) := ok_cut hG
  have e := V_cut (G := G) hm
  unfold winW
  rw [← e] at hlt ⊢
  generalize cutU G m 0 = U at hU hlt ⊢
  have h0 := V_lt (hU.mono (show n ≤ n + 2 by omega))
  have h1 := hU n (by omega)
  have h2 := hU (n + 1) (by omega)
  have ee : 2 ^ (64 * (n + 1) - r) = P n * 2 ^ (64 - r) := by rw [P_two, ← Nat.pow_add, show 64 * n + (64 - r) = 64 * (n + 1) - r by omega]
  have e2 : 2 ^ (64 * (n + 2) - r) = P (n + 1) * 2 ^ (64 - r) := by rw [P_two, ← Nat.pow_add, show 64 * (n + 1) + (64 - r) = 64 * (n + 2) - r by omega]
  rw [V_succ] at hlt ⊢
  rw [e2] at hlt
  have hU1 : U (n + 1) < 2 ^ (64 - r) := by
    refine Nat.lt_of_mul_lt_mul_left (a := P (n + 1)) ?_
    rw [Nat.mul_comm (P (n + 1)) (U (n + 1))]
    omega
  have hb : U (n + 1) * 2 ^ r < 18446744073709551616 := by
    rw [two64 r (by omega), Nat.mul_comm (2 ^ r)]
    exact Nat.mul_lt_mul_of_pos_right hU1 (Nat.two_pow_pos r)
  rw [V_succ, ee, ← Nat.div_div_eq_div_mul]
  have e3 : (V U n + U n * P n + U (n + 1) * P (n + 1)) / P n = U n + U (n + 1) * 18446744073709551616 := by
    rw [P_succ, show V U n + U n * P n + U (n + 1) * (P n * 18446744073709551616) = V U n + P n * (U n + U (n + 1) * 18446744073709551616) by grind, Nat.add_mul_div_left _ _ (P_pos n), Nat.div_eq_of_lt h0, Nat.zero_add]
  have e4 : (U n + U (n + 1) * 18446744073709551616) / 2 ^ (64 - r) = U (n + 1) * 2 ^ r + U n / 2 ^ (64 - r) := by
    rw [two64 r (by omega), show U n + U (n + 1) * (2 ^ r * 2 ^ (64 - r)) = U n + 2 ^ (64 - r) * (U (n + 1) * 2 ^ r) by grind, Nat.add_mul_div_left _ _ (Nat.two_pow_pos _), Nat.add_comm]
  rw [e3, e4, Nat.mod_eq_of_lt hb]
  refine ⟨rfl, ?_⟩
  have h3 : U n / 2 ^ (64 - r) < 2 ^ r := by
    rw [Nat.div_lt_iff_lt_mul (Nat.two_pow_pos _), ← two64 r (by omega)]
    exact h1
  have h4 : (U (n + 1) + 1) * 2 ^ r ≤ 2 ^ (64 - r) * 2 ^ r := Nat.mul_le_mul_right _ hU1
  rw [Nat.mul_comm (2 ^ (64 - r)), ← two64 r (by omega), Nat.add_mul] at h4
  omega
/-- The or of a word moved up and one moved down. -/
theorem or_win (f h r : Nat) (hh : h < 18446744073709551616) (hr : r ≤ 63) :
    bits .or .u64 (IntKind.u64.wrap ((f : Int) * 2 ^ r)) ((h / 2 ^ (64 - r) : Nat) : Int) = ((f * 2 ^ r % 18446744073709551616 + h / 2 ^ (64 - r) : Nat) : Int) := by
  have hd : h / 2 ^ (64 - r) < 2 ^ r := by
    rw [Nat.div_lt_iff_lt_mul (Nat.two_pow_pos _), ← two64 r (by omega)]
    exact hh
  have e : (f : Int) * 2 ^ r = ((f * 2 ^ r : Nat) : Int) := by rw [Int.natCast_mul, cast_pow2]
  have hm := shl_mod f r (by omega)
  have hor : f * 2 ^ r % 18446744073709551616 ||| h / 2 ^ (64 - r) = f * 2 ^ r % 18446744073709551616 + h / 2 ^ (64 - r) := or_add _ _ r (by rw [hm]; exact Nat.mul_mod_left _ _) hd
  rw [e, wrapU_mod, bits_or_u64_nat _ _ (Nat.mod_lt _ (by omega)) (Nat.lt_of_le_of_lt (Nat.div_le_self _ _) hh), hor]
/-- What difference makes of its row: x a - y b. -/
theorem diff_val {w1 w2 w3 w4 w5 w6 : World} {g lx ly N xa yb c c2 c3 : Nat} {H H2 H3 : Nat → Nat} (hx : lx < N) (hy : ly < N) (hle : yb ≤ xa)
    (p1 : Prod w1 w2 g N 0 (fun _ => 0) xa lx c H) (p2 : Prodm w3 w4 g N 0 (put H lx c) yb ly c2 H2) (p3 : Subbed w5 w6 g N ly H2 c2 (N - ly) c3 H3) : V H3 N = xa - yb := by
  obtain ⟨_, a2, _, a4, _⟩ := p1
  obtain ⟨_, b2, _, b4, _⟩ := p2
  obtain ⟨r3, d2, d3, d4, _⟩ := p3
  have s1 : V (put H lx c) N = xa := by
    rw [V_top (m := lx + 1) (by omega) fun i h1 h2 => by rw [put_other _ _ (by omega)]; exact a2 i (by omega), V_succ, put_same]
    have := V_congr (F := put H lx c) (G := H) (n := lx) fun i hi => put_other _ _ (by omega)
    rw [this]
    rw [fro_zero, fro_zero, V_const0] at a4
    omega
  rw [fro_zero, fro_zero] at b4
  have e1 : V H2 N = V H2 ly + P ly * V (fro H2 ly) (N - ly) := by
    rw [show V H2 N = V H2 (ly + (N - ly)) by rw [show ly + (N - ly) = N by omega], V_split]
    rfl
  have e2 : V (put H lx c) N = V (put H lx c) ly + P ly * V (fro (put H lx c) ly) (N - ly) := by
    rw [show V (put H lx c) N = V (put H lx c) (ly + (N - ly)) by rw [show ly + (N - ly) = N by omega], V_split]
    rfl
  have e3 : V (fro H2 ly) (N - ly) = V (fro (put H lx c) ly) (N - ly) := V_congr fun i hi => b2 _ (by omega)
  have e4 : V H3 N = V H3 ly + P ly * V (fro H3 ly) (N - ly) := by
    rw [show V H3 N = V H3 (ly + (N - ly)) by rw [show ly + (N - ly) = N by omega], V_split]
    rfl
  have e5 : V H3 ly = V H2 ly := V_congr fun i hi => d2 _ (by omega)
  have e6 : P N = P ly * P (N - ly) := by rw [← P_add, show ly + (N - ly) = N by omega]
  have hlt := V_lt r3.2
  have key : V H3 N + yb = xa + c3 * P N := by
    rw [e4, e5, e6]
    rw [s1] at e2
    rw [e2]
    have q1 := congrArg (P ly * ·) d4
    simp only [Nat.mul_add] at q1
    rw [e3] at q1
    grind
  have hc3 : c3 = 0 := by
    rcases Nat.eq_zero_or_pos c3 with h | h
    · exact h
    · have : 1 * P N ≤ c3 * P N := Nat.mul_le_mul_right _ h
      omega
  rw [hc3, Nat.zero_mul] at key
  omega
theorem or_mod {a b c : Nat} (h : (a ||| b) % 2 ^ c = 0) : a % 2 ^ c = 0 ∧ b % 2 ^ c = 0 := by
  rw [Nat.or_mod_two_pow] at h
  exact Nat.or_eq_zero_iff.1 h
theorem V_dvd {F : Nat → Nat} {n i c : Nat} (hz : ∀ j, j < i → cutU F n 0 j = 0) (hc : cutU F n 0 i % 2 ^ c = 0) (hcc : c ≤ 64) : 2 ^ (64 * i + c) ∣ V F n := by
  have hz' : ∀ j, j < i → j < n → F j = 0 := fun j h1 h2 => by have := hz j h1; rw [cutU_in (by omega), Nat.zero_add] at this; exact this
  rcases Nat.lt_or_ge i n with h | h
  · rw [cutU_in (by omega), Nat.zero_add] at hc
    obtain ⟨k, rfl⟩ : ∃ k, n = i + (k + 1) := ⟨n - i - 1, by omega⟩
    rw [V_split, V_zeros fun j hj => hz' j hj (by omega), Nat.zero_add, V_cons, Nat.pow_add, ← P_two]
    refine Nat.mul_dvd_mul_left _ (Nat.dvd_add (Nat.dvd_of_mod_eq_zero hc) (Nat.dvd_mul_right_of_dvd ?_ _))
    exact Nat.pow_dvd_pow 2 hcc
  · rw [V_zeros fun j hj => hz' j (by omega) hj]
    exact Nat.dvd_zero _
theorem gcd_up {x y t : Nat} (hx : 2 ^ t ∣ x) (hy : 2 ^ t ∣ y) : Nat.gcd (x / 2 ^ t) (y / 2 ^ t) * 2 ^ t = Nat.gcd x y := by
  obtain ⟨a, rfl⟩ := hx
  obtain ⟨b, rfl⟩ := hy
  rw [Nat.mul_div_cancel_left _ (Nat.two_pow_pos t), Nat.mul_div_cancel_left _ (Nat.two_pow_pos t), Nat.gcd_mul_left, Nat.mul_comm]
end Go.Proofs.YtfjmnhmdipjenaaGreatDoor

