/- Contracts of the program's functions, part 23: own work, joined in build order. -/
import Derived.Test.YtchomkadekikdaaGreatDoorJ22
import Derived.Maps.AppendAt
import Derived.Deep.WholeRow
import Derived.Laws.AppendOwnNone
namespace Go.Proofs.YtchomkadekikdaaGreatDoor
open Go.RowKit
set_option maxRecDepth 100000
set_option linter.unusedVariables false
def Sh4 (L : List ByteArray) : Prop := ∀ x ∈ L, x.size ≤ 4096
theorem Sh4.tail {L : List ByteArray} (h : Sh4 L) : Sh4 L.tail := fun x hx => h x (List.mem_of_mem_tail hx)
theorem Sh4.hd {L : List ByteArray} (h : Sh4 L) : (hdT L).size ≤ 4096 := by
  cases L with
  | nil => show (⟨#[]⟩ : ByteArray).size ≤ 4096; decide
  | cons x l => exact h x List.mem_cons_self
theorem sh4_arr {O : List ByteArray} : ∀ (k : Nat) (V L : List ByteArray) (b : Bool), Sh4 V → Sh4 L → Sh4 (arr O k V L b).1
  | 0, V, L, b, hV, hL => fun x hx => by
    rcases List.mem_append.1 (show x ∈ V ++ L from hx) with q | q
    · exact hV x q
    exact hL x q
  | k + 1, V, L, b, hV, hL => by
    unfold arr
    split
    · exact hL.tail
    split
    · exact hL.tail
    refine sh4_arr k _ _ _ (fun x hx => ?_) hL.tail.tail
    rcases List.mem_or_eq_of_mem_set hx with q | q
    · exact hV x q
    rw [q]; exact hL.tail.hd
theorem sm_rep (n : Nat) : Sh4 (List.replicate n ⟨#[]⟩) := fun x hx => by
  rw [List.eq_of_mem_replicate hx]
  decide
def nmS (p : List ByteArray × Bool) : List ByteArray × Bool := (p.1.tail, p.2 || p.1.isEmpty || (nvV (hdT p.1)).isNone)
def nmI (p : List ByteArray × Bool) : Int := (nvV (hdT p.1)).getD 0
def naS (s : ByteArray) (p : List ByteArray × Bool) : List ByteArray × Bool := (p.1.tail, p.2 || p.1.isEmpty || decide (hdT p.1 ≠ s))
def kdS (p : List ByteArray × Bool) : List ByteArray × Bool := (p.1.tail, p.2 || p.1.isEmpty || decide (kdV (hdT p.1) = 0))
def woS (p : List ByteArray × Bool) : List ByteArray × Bool := (p.1.tail, p.2 || p.1.isEmpty)
def arS (s : ByteArray) (p : List ByteArray × Bool) : List ByteArray × Bool := arr (wordsL s) (wordsL s).length (List.replicate (wordsL s).length ⟨#[]⟩) p.1 p.2
structure Rp (lm : Nat) (W : World) (rb : Nat) (p : List ByteArray × Bool) : Prop where
  rd : Rd lm W rb p.1 p.2
  lm' : lm ≤ W.heap.size
  sm : Sh4 p.1
  ev : EV W
  kn : KN W
  len : p.1.length ≤ 100000
theorem Rp.go {lm : Nat} {W W' : World} {rb : Nat} {p : List ByteArray × Bool} (h : Rp lm W rb p) (k : Below W.heap.size W W') : Rp lm W' rb p :=
  ⟨h.rd.go k, Nat.le_trans h.lm' k.size, h.sm, h.ev.go k, h.kn.go k, h.len⟩
theorem Rp.name {lm : Nat} {w : World} {rb : Nat} {p : List ByteArray × Bool} (h : Rp lm w rb p) (s : ByteArray) : Calls Tryz.prog 83 #[.pointer (some ⟨rb, 0, none⟩), .string s] w fun e w' => e = .returned (.tuple #[]) ∧ Rp lm w' rb (naS s p) ∧ Ob rb w w' := by
  refine (name_any rb s p.1 p.2 w h.rd).mono ?_
  rintro e w' ⟨rfl, hr, ho⟩
  exact ⟨rfl, ⟨hr, Nat.le_trans h.lm' ho.size, h.sm.tail, h.ev.ob h.rd ho, KN.ob h.kn h.rd ho, by have := h.len; simp only [naS, List.length_tail]; omega⟩, ho⟩
theorem Rp.word {lm : Nat} {w : World} {rb : Nat} {p : List ByteArray × Bool} (h : Rp lm w rb p) : Calls Tryz.prog 89 #[.pointer (some ⟨rb, 0, none⟩)] w fun e w' => e = .returned (.string (hdT p.1)) ∧ Rp lm w' rb (woS p) ∧ Ob rb w w' := by
  refine (word_any rb p.1 p.2 w h.rd).mono ?_
  rintro e w' ⟨rfl, hr, ho⟩
  exact ⟨rfl, ⟨hr, Nat.le_trans h.lm' ho.size, h.sm.tail, h.ev.ob h.rd ho, KN.ob h.kn h.rd ho, by have := h.len; simp only [woS, List.length_tail]; omega⟩, ho⟩
theorem Rp.kind {lm : Nat} {w : World} {rb : Nat} {p : List ByteArray × Bool} (h : Rp lm w rb p) : Calls Tryz.prog 84 #[.pointer (some ⟨rb, 0, none⟩)] w fun e w' => e = .returned (.int .i64 (kdV (hdT p.1))) ∧ Rp lm w' rb (kdS p) ∧ Ob rb w w' := by
  refine (kind_any rb p.1 p.2 w h.rd h.kn).mono ?_
  rintro e w' ⟨rfl, hr, ho⟩
  exact ⟨rfl, ⟨hr, Nat.le_trans h.lm' ho.size, h.sm.tail, h.ev.ob h.rd ho, KN.ob h.kn h.rd ho, by have := h.len; simp only [kdS, List.length_tail]; omega⟩, ho⟩
theorem Rp.number {lm : Nat} {w : World} {rb : Nat} {p : List ByteArray × Bool} (h : Rp lm w rb p) : Calls Tryz.prog 86 #[.pointer (some ⟨rb, 0, none⟩)] w fun e w' => e = .returned (.int .i64 (nmI p)) ∧ Rp lm w' rb (nmS p) ∧ Ob rb w w' := by
  refine (number_any rb p.1 p.2 w h.rd h.sm.hd h.ev).mono ?_
  rintro e w' ⟨rfl, hr, ho⟩
  exact ⟨rfl, ⟨hr, Nat.le_trans h.lm' ho.size, h.sm.tail, h.ev.ob h.rd ho, KN.ob h.kn h.rd ho, by have := h.len; simp only [nmS, List.length_tail]; omega⟩, ho⟩
theorem arr_len (O : List ByteArray) : ∀ (k : Nat) (V L : List ByteArray) (b : Bool), (arr O k V L b).1.length ≤ V.length + L.length
  | 0, V, L, b => by show (V ++ L).length ≤ _; rw [List.length_append]; omega
  | k + 1, V, L, b => by
    unfold arr
    split
    · simp only [List.length_tail]; omega
    split
    · simp only [List.length_tail]; omega
    have := arr_len O k (V.set (Lib.idxOfS O (hdT L)).toNat (hdT L.tail)) L.tail.tail (b || L.isEmpty || L.tail.isEmpty)
    simp only [List.length_tail, List.length_set] at this
    omega
theorem Rp.arrange {lm : Nat} {w : World} {rb : Nat} {p : List ByteArray × Bool} (h : Rp lm w rb p) (s : ByteArray) (hs : s.size ≤ 1000) (h0 : 0 < (wordsL s).length) (hn : (wordsL s).length ≤ 100) (hl : p.1.length ≤ 50000) : Calls Tryz.prog 85 #[.pointer (some ⟨rb, 0, none⟩), .string s] w fun e w' => e = .returned (.tuple #[]) ∧ (∃ lm', Rp lm' w' rb (arS s p)) ∧ Ob rb w w' := by
  refine (arrange_any rb s p.1 p.2 w h.rd h.lm' (by omega) h0 (by omega) (by have := h.len; omega)).mono ?_
  rintro e w' ⟨rfl, hr, ho⟩
  exact ⟨rfl, ⟨_, hr, Nat.le_refl _, sh4_arr _ _ _ _ (sm_rep _) h.sm, h.ev.ob h.rd ho, KN.ob h.kn h.rd ho, by have := arr_len (wordsL s) (wordsL s).length (List.replicate (wordsL s).length ⟨#[]⟩) p.1 p.2; rw [List.length_replicate] at this; show (arr _ _ _ _ _).1.length ≤ _; omega⟩, ho⟩
theorem wpList_as {ops : Array Oper} {l : List Oper} {ac : Act} {Q : Exit → Act → World → Prop} {w : World} (P : World → Prop) (hP : P w) (h : ∀ w', P w' → wpList Tryz.prog ops Q l ac w') : wpList Tryz.prog ops Q l ac w := h w hP
theorem bodyPost_as {fn : Func} {R : Ending → World → Prop} {x : Exit} {ac : Act} {w : World} (P : World → Prop) (hP : P w) (h : ∀ w', P w' → bodyPost Tryz.prog fn R x ac w') : bodyPost Tryz.prog fn R x ac w := h w hP
structure Bx2 (w0 W : World) (g r : Nat) (tg tr : TypeId) (c d : Array Value) : Prop where
  hc : W.heap[g]? = some (.cells c tg)
  hr : W.heap[r]? = some (.cells d tr)
  ot : ∀ k, k ≠ g → k ≠ r → W.heap[k]? = w0.heap[k]?
  os : W.os = w0.os
  tape : W.tape = w0.tape
  output : W.output = w0.output
  size : W.heap.size = w0.heap.size
theorem Bx2.setC {w0 W : World} {g r : Nat} {tg tr : TypeId} {c d : Array Value} (h : Bx2 w0 W g r tg tr c d) (hn : g ≠ r) (i : Nat) (u : Value) : Bx2 w0 (W.setCell ⟨g, i, none⟩ u) g r tg tr (c.setIfInBounds i u) d :=
  ⟨(heap_setCell_same W g i _ _ _ h.hc).trans (by simp), (Below.heap_setCell _ _ _ _ (by show r ≠ g; omega)).trans h.hr, fun k h1 h2 => (Below.heap_setCell _ _ _ _ (by show k ≠ g; omega)).trans (h.ot k h1 h2), h.os, h.tape, h.output, by simpa [World.setCell] using h.size⟩
theorem Bx2.setR {w0 W : World} {g r : Nat} {tg tr : TypeId} {c d : Array Value} (h : Bx2 w0 W g r tg tr c d) (hn : g ≠ r) (i : Nat) (u : Value) : Bx2 w0 (W.setCell ⟨r, i, none⟩ u) g r tg tr c (d.setIfInBounds i u) :=
  ⟨(Below.heap_setCell _ _ _ _ (by show g ≠ r; omega)).trans h.hc, (heap_setCell_same W r i _ _ _ h.hr).trans (by simp), fun k h1 h2 => (Below.heap_setCell _ _ _ _ (by show k ≠ r; omega)).trans (h.ot k h1 h2), h.os, h.tape, h.output, by simpa [World.setCell] using h.size⟩
def plainV : Value → Bool
  | .string _ => false
  | .nilIface => false
  | .iface _ _ => false
  | _ => true
def Pln (c : Array Value) : Prop := c.toList.all plainV = true
theorem pln_no {w0 : World} {g i : Nat} {tg : TypeId} {c0 : Array Value} {x : Value} (h1 : w0.heap[g]? = some (.cells c0 tg)) (p1 : Pln c0) (hx : w0.cell? ⟨g, i, none⟩ = some x) (hs : (∃ s, x = Value.string s) ∨ x = Value.nilIface ∨ ∃ t q, x = Value.iface t q) : False := by
  have e : c0[i]? = some x := by simpa [World.cell?, h1] using hx
  have hm : x ∈ c0.toList := by
    rw [← Array.getElem?_toList] at e
    exact List.mem_of_getElem? e
  have q := List.all_eq_true.1 p1 x hm
  rcases hs with ⟨s, rfl⟩ | rfl | ⟨t, u, rfl⟩ <;> simp [plainV] at q
structure Bx1 (w0 W : World) (g : Nat) (tg : TypeId) (c : Array Value) : Prop where
  hc : W.heap[g]? = some (.cells c tg)
  ot : ∀ k, k ≠ g → W.heap[k]? = w0.heap[k]?
  os : W.os = w0.os
  tape : W.tape = w0.tape
  output : W.output = w0.output
  size : W.heap.size = w0.heap.size
theorem Bx1.set {w0 W : World} {g : Nat} {tg : TypeId} {c : Array Value} (h : Bx1 w0 W g tg c) (i : Nat) (u : Value) : Bx1 w0 (W.setCell ⟨g, i, none⟩ u) g tg (c.setIfInBounds i u) :=
  ⟨(heap_setCell_same W g i _ _ _ h.hc).trans (by simp), fun k h1 => (Below.heap_setCell _ _ _ _ (by show k ≠ g; omega)).trans (h.ot k h1), h.os, h.tape, h.output, by simpa [World.setCell] using h.size⟩
theorem Rp.one {lm : Nat} {w0 W : World} {rb g : Nat} {p : List ByteArray × Bool} {tg : TypeId} {c c0 : Array Value} (h : Rp lm w0 rb p) (k : Bx1 w0 W g tg c) (h1 : w0.heap[g]? = some (.cells c0 tg)) (p1 : Pln c0) (n1 : g ≠ rb) : Rp lm W rb p := by
  have cel : ∀ (b i : Nat) (x : Value), w0.cell? ⟨b, i, none⟩ = some x → ((∃ s, x = Value.string s) ∨ x = Value.nilIface ∨ ∃ t q, x = Value.iface t q) → W.cell? ⟨b, i, none⟩ = some x := fun b i x hx hs => by
    by_cases e1 : b = g
    · subst e1; exact (pln_no h1 p1 hx hs).elim
    exact (World.cell?_of_block (w := w0) (k.ot b e1)).trans hx
  refine ⟨?_, by rw [k.size]; exact h.lm', h.sm, ?_, fun i hi => cel 0 i _ (h.kn i hi) (.inl ⟨_, rfl⟩), h.len⟩
  · obtain ⟨v, h0, a, cap, e, k1, k2⟩ := h.rd.is
    refine ⟨⟨v, (k.ot rb n1.symm).trans h0, a, cap, e, k1, k2.imp id ?_⟩⟩
    rintro ⟨g', o, ha, hc⟩
    exact ⟨g', o, ha, fun i hi => ⟨(hc i hi).1, cel _ _ _ (hc i hi).2 (.inl ⟨_, rfl⟩)⟩⟩
  obtain ⟨⟨e1, a1, b1⟩, ⟨e2, a2, b2⟩⟩ := h.ev
  exact ⟨⟨e1, cel _ _ _ a1 (.inr b1), b1⟩, ⟨e2, cel _ _ _ a2 (.inr b2), b2⟩⟩
theorem Rp.two {lm : Nat} {w0 W : World} {rb g r : Nat} {p : List ByteArray × Bool} {tg tr : TypeId} {c d c0 d0 : Array Value} (h : Rp lm w0 rb p) (k : Bx2 w0 W g r tg tr c d) (h1 : w0.heap[g]? = some (.cells c0 tg)) (h2 : w0.heap[r]? = some (.cells d0 tr)) (p1 : Pln c0) (p2 : Pln d0) (n1 : g ≠ rb) (n2 : r ≠ rb) : Rp lm W rb p := by
  have cel : ∀ (b i : Nat) (x : Value), w0.cell? ⟨b, i, none⟩ = some x → ((∃ s, x = Value.string s) ∨ x = Value.nilIface ∨ ∃ t q, x = Value.iface t q) → W.cell? ⟨b, i, none⟩ = some x := fun b i x hx hs => by
    by_cases e1 : b = g
    · subst e1; exact (pln_no h1 p1 hx hs).elim
    by_cases e2 : b = r
    · subst e2; exact (pln_no h2 p2 hx hs).elim
    exact (World.cell?_of_block (w := w0) (k.ot b e1 e2)).trans hx
  refine ⟨?_, by rw [k.size]; exact h.lm', h.sm, ?_, fun i hi => cel 0 i _ (h.kn i hi) (.inl ⟨_, rfl⟩), h.len⟩
  · obtain ⟨v, h0, a, cap, e, k1, k2⟩ := h.rd.is
    refine ⟨⟨v, (k.ot rb n1.symm n2.symm).trans h0, a, cap, e, k1, k2.imp id ?_⟩⟩
    rintro ⟨g', o, ha, hc⟩
    exact ⟨g', o, ha, fun i hi => ⟨(hc i hi).1, cel _ _ _ (hc i hi).2 (.inl ⟨_, rfl⟩)⟩⟩
  obtain ⟨⟨e1, a1, b1⟩, ⟨e2, a2, b2⟩⟩ := h.ev
  exact ⟨⟨e1, cel _ _ _ a1 (.inr b1), b1⟩, ⟨e2, cel _ _ _ a2 (.inr b2), b2⟩⟩
def setV (p : List ByteArray × Bool) (i : Nat) : Int := match i with
  | 0 => kdV (hdT (naS ⟨#[107, 105, 110, 100]⟩ p).1)
  | 1 => nmI (arS ⟨#[114, 111, 111, 109, 32, 109, 111, 115, 116, 32, 99, 97, 112, 32, 102, 108, 111, 119, 115, 32, 97, 103, 101]⟩ (kdS (naS ⟨#[107, 105, 110, 100]⟩ p)))
  | 2 => nmI (nmS (arS ⟨#[114, 111, 111, 109, 32, 109, 111, 115, 116, 32, 99, 97, 112, 32, 102, 108, 111, 119, 115, 32, 97, 103, 101]⟩ (kdS (naS ⟨#[107, 105, 110, 100]⟩ p))))
  | 3 => nmI (nmS (nmS (arS ⟨#[114, 111, 111, 109, 32, 109, 111, 115, 116, 32, 99, 97, 112, 32, 102, 108, 111, 119, 115, 32, 97, 103, 101]⟩ (kdS (naS ⟨#[107, 105, 110, 100]⟩ p)))))
  | 4 => nmI (nmS (nmS (nmS (arS ⟨#[114, 111, 111, 109, 32, 109, 111, 115, 116, 32, 99, 97, 112, 32, 102, 108, 111, 119, 115, 32, 97, 103, 101]⟩ (kdS (naS ⟨#[107, 105, 110, 100]⟩ p))))))
  | 5 => nmI (nmS (nmS (nmS (nmS (arS ⟨#[114, 111, 111, 109, 32, 109, 111, 115, 116, 32, 99, 97, 112, 32, 102, 108, 111, 119, 115, 32, 97, 103, 101]⟩ (kdS (naS ⟨#[107, 105, 110, 100]⟩ p)))))))
  | _ => 0
def setS (p : List ByteArray × Bool) : List ByteArray × Bool := (nmS (nmS (nmS (nmS (nmS (arS ⟨#[114, 111, 111, 109, 32, 109, 111, 115, 116, 32, 99, 97, 112, 32, 102, 108, 111, 119, 115, 32, 97, 103, 101]⟩ (kdS (naS ⟨#[107, 105, 110, 100]⟩ p))))))))
theorem setupN_len : 0 < (wordsL ⟨#[114, 111, 111, 109, 32, 109, 111, 115, 116, 32, 99, 97, 112, 32, 102, 108, 111, 119, 115, 32, 97, 103, 101]⟩).length ∧ (wordsL ⟨#[114, 111, 111, 109, 32, 109, 111, 115, 116, 32, 99, 97, 112, 32, 102, 108, 111, 119, 115, 32, 97, 103, 101]⟩).length ≤ 100 := by
  have e : wordsL ⟨#[114, 111, 111, 109, 32, 109, 111, 115, 116, 32, 99, 97, 112, 32, 102, 108, 111, 119, 115, 32, 97, 103, 101]⟩ = _ := setupN_words
  rw [e]
  decide
set_option maxHeartbeats 1000000 in
theorem setup_walk {lm : Nat} (rb : Nat) (p p1 p2 p3 p4 p5 p6 p7 p8 : List ByteArray × Bool) (KD n0 n1 n2 n3 n4 : Int) (e1 : naS ⟨#[107, 105, 110, 100]⟩ p = p1) (e2 : kdS p1 = p2) (e3 : arS ⟨#[114, 111, 111, 109, 32, 109, 111, 115, 116, 32, 99, 97, 112, 32, 102, 108, 111, 119, 115, 32, 97, 103, 101]⟩ p2 = p3) (e4 : nmS p3 = p4) (e5 : nmS p4 = p5) (e6 : nmS p5 = p6) (e7 : nmS p6 = p7) (e8 : nmS p7 = p8) (k0 : kdV (hdT p1.1) = KD) (k1 : nmI p3 = n0) (k2 : nmI p4 = n1) (k3 : nmI p5 = n2) (k4 : nmI p6 = n3) (k5 : nmI p7 = n4) (w : World) (h : Rp lm w rb p) (hl : p2.1.length ≤ 50000) (h6 : KD ≠ 6) :
    Calls Tryz.prog 50 #[.pointer (some ⟨rb, 0, none⟩)] w fun e w' => e = .returned (.agg #[.int .i64 KD, .int .i64 n0, .int .i64 n1, .int .i64 n2, .int .i64 n3, .int .i64 n4, .slice none 0 0]) ∧ (∃ lm', Rp lm' w' rb p8) ∧ Ob rb w w' := by
  have lrb := h.rd.lt
  have HR : Hid _ := h
  clear h
  have HL : Hid _ := hl
  have E1 : Hid _ := e1
  have E2 : Hid _ := e2
  have E3 : Hid _ := e3
  have E4 : Hid _ := e4
  have E5 : Hid _ := e5
  have E6 : Hid _ := e6
  have E7 : Hid _ := e7
  have E8 : Hid _ := e8
  have K0 : Hid _ := k0
  have K1 : Hid _ := k1
  have K2 : Hid _ := k2
  have K3 : Hid _ := k3
  have K4 : Hid _ := k4
  have K5 : Hid _ := k5
  clear e1 e2 e3 e4 e5 e6 e7 e8 k0 k1 k2 k3 k4 k5
  have d6 : (KD == 6) = false := by simpa using h6
  go_enter Tryz.func50, Tryz.ntmps50
  go_wp2_with fail
  refine ((HR.out.go (bc_al (bel_refl _))).name ⟨#[107, 105, 110, 100]⟩).mono ?_
  rintro e w1 ⟨rfl, hr1, ho1⟩
  rw [E1.out] at hr1
  have R1 : Hid _ := hr1
  have O1 : Hid _ := ho1
  clear hr1 ho1
  go_wp2_with fail
  refine (R1.out.kind).mono ?_
  rintro e w2 ⟨rfl, hr2, ho2⟩
  rw [E2.out] at hr2
  have R2 : Hid _ := hr2
  have O2 : Hid (Ob rb (w.alloc (.cells #[.int .i64 0, .int .i64 0, .int .i64 0, .int .i64 0, .int .i64 0, .int .i64 0, .slice none 0 0] 24)) w2) := O1.out.trans ho2
  have hsz2 := O2.out.size
  rw [World.size_alloc] at hsz2
  clear hr2 ho2 O1 R1
  rw [K0.out]
  go_wp2_with fail
  refine ((R2.out.go (bc_al (bel_refl _))).arrange ⟨#[114, 111, 111, 109, 32, 109, 111, 115, 116, 32, 99, 97, 112, 32, 102, 108, 111, 119, 115, 32, 97, 103, 101]⟩ (by decide) setupN_len.1 setupN_len.2 HL.out).mono ?_
  rintro e w3 ⟨rfl, ⟨lm3, hr3⟩, ho3⟩
  rw [E3.out] at hr3
  have R3 : Hid _ := hr3
  have O3 : Hid (Ob rb (w2.alloc (.cells #[.int .i64 KD, .int .i64 0, .int .i64 0, .int .i64 0, .int .i64 0, .int .i64 0, .slice none 0 0] 24)) w3) := ho3
  clear hr3 ho3 R2
  go_wp2_with fail
  refine (R3.out.number).mono ?_
  rintro e w4 ⟨rfl, hr4, ho4⟩
  rw [E4.out] at hr4
  have R4 : Hid _ := hr4
  have O4 : Hid (Ob rb (w2.alloc (.cells #[.int .i64 KD, .int .i64 0, .int .i64 0, .int .i64 0, .int .i64 0, .int .i64 0, .slice none 0 0] 24)) w4) := O3.out.trans ho4
  clear hr4 ho4 R3 O3
  rw [K1.out]
  go_wp2_with fail
  refine (R4.out.number).mono ?_
  rintro e w5 ⟨rfl, hr5, ho5⟩
  rw [E5.out] at hr5
  have R5 : Hid _ := hr5
  have O5 : Hid (Ob rb (w2.alloc (.cells #[.int .i64 KD, .int .i64 0, .int .i64 0, .int .i64 0, .int .i64 0, .int .i64 0, .slice none 0 0] 24)) w5) := O4.out.trans ho5
  clear hr5 ho5 R4 O4
  rw [K2.out]
  go_wp2_with fail
  refine (R5.out.number).mono ?_
  rintro e w6 ⟨rfl, hr6, ho6⟩
  rw [E6.out] at hr6
  have R6 : Hid _ := hr6
  have O6 : Hid (Ob rb (w2.alloc (.cells #[.int .i64 KD, .int .i64 0, .int .i64 0, .int .i64 0, .int .i64 0, .int .i64 0, .slice none 0 0] 24)) w6) := O5.out.trans ho6
  clear hr6 ho6 R5 O5
  rw [K3.out]
  go_wp2_with fail
  refine (R6.out.number).mono ?_
  rintro e w7 ⟨rfl, hr7, ho7⟩
  rw [E7.out] at hr7
  have R7 : Hid _ := hr7
  have O7 : Hid (Ob rb (w2.alloc (.cells #[.int .i64 KD, .int .i64 0, .int .i64 0, .int .i64 0, .int .i64 0, .int .i64 0, .slice none 0 0] 24)) w7) := O6.out.trans ho7
  clear hr7 ho7 R6 O6
  rw [K4.out]
  go_wp2_with fail
  refine (R7.out.number).mono ?_
  rintro e w8 ⟨rfl, hr8, ho8⟩
  rw [E8.out] at hr8
  have R8 : Hid _ := hr8
  have O8 : Hid (Ob rb (w2.alloc (.cells #[.int .i64 KD, .int .i64 0, .int .i64 0, .int .i64 0, .int .i64 0, .int .i64 0, .slice none 0 0] 24)) w8) := O7.out.trans ho8
  clear hr8 ho8 R7 O7
  rw [K5.out]
  obtain ⟨gR, eR⟩ : ∃ g, g = w.heap.size := ⟨_, rfl⟩
  obtain ⟨gC, eC⟩ : ∃ g, g = w2.heap.size := ⟨_, rfl⟩
  have hC : w8.heap[gC]? = some (.cells #[.int .i64 KD, .int .i64 0, .int .i64 0, .int .i64 0, .int .i64 0, .int .i64 0, .slice none 0 0] 24) := (O8.out.block gC (by rw [World.size_alloc]; omega) (by omega)).trans (by rw [eC]; exact al_at _ _)
  have hR : w8.heap[gR]? = some (.cells #[.int .i64 0, .int .i64 0, .int .i64 0, .int .i64 0, .int .i64 0, .int .i64 0, .slice none 0 0] 24) := (O8.out.block gR (by rw [World.size_alloc]; omega) (by omega)).trans (((bc_al (bel_refl w2)).block gR (by omega)).trans ((O2.out.block gR (by rw [World.size_alloc]; omega) (by omega)).trans (by rw [eR]; exact al_at _ _)))
  have HC : Hid _ := hC
  have HRR : Hid _ := hR
  have x0 : w8.cell? ⟨gC, 0, none⟩ = some (.int .i64 KD) := by simp [World.cell?, hC]
  have x1 : w8.cell? ⟨gC, 1, none⟩ = some (.int .i64 0) := by simp [World.cell?, hC]
  have x2 : w8.cell? ⟨gC, 2, none⟩ = some (.int .i64 0) := by simp [World.cell?, hC]
  have x3 : w8.cell? ⟨gC, 3, none⟩ = some (.int .i64 0) := by simp [World.cell?, hC]
  have x4 : w8.cell? ⟨gC, 4, none⟩ = some (.int .i64 0) := by simp [World.cell?, hC]
  have x5 : w8.cell? ⟨gC, 5, none⟩ = some (.int .i64 0) := by simp [World.cell?, hC]
  have x6 : w8.cell? ⟨gC, 6, none⟩ = some (.slice none 0 0) := by simp [World.cell?, hC]
  have y0 : w8.cell? ⟨gR, 0, none⟩ = some (.int .i64 0) := by simp [World.cell?, hR]
  have y1 : w8.cell? ⟨gR, 1, none⟩ = some (.int .i64 0) := by simp [World.cell?, hR]
  have y2 : w8.cell? ⟨gR, 2, none⟩ = some (.int .i64 0) := by simp [World.cell?, hR]
  have y3 : w8.cell? ⟨gR, 3, none⟩ = some (.int .i64 0) := by simp [World.cell?, hR]
  have y4 : w8.cell? ⟨gR, 4, none⟩ = some (.int .i64 0) := by simp [World.cell?, hR]
  have y5 : w8.cell? ⟨gR, 5, none⟩ = some (.int .i64 0) := by simp [World.cell?, hR]
  have y6 : w8.cell? ⟨gR, 6, none⟩ = some (.slice none 0 0) := by simp [World.cell?, hR]
  have fC : ∀ i, w8.frozen? ⟨gC, i, none⟩ = false := fun i => by simp [World.frozen?, hC]
  have fR : ∀ i, w8.frozen? ⟨gR, i, none⟩ = false := fun i => by simp [World.frozen?, hR]
  have fc0 := fC 0
  have fr0 := fR 0
  have fc1 := fC 1
  have fr1 := fR 1
  have fc2 := fC 2
  have fr2 := fR 2
  have fc3 := fC 3
  have fr3 := fR 3
  have fc4 := fC 4
  have fr4 := fR 4
  have fc5 := fC 5
  have fr5 := fR 5
  have fc6 := fC 6
  have fr6 := fR 6
  have neg : gC ≠ gR := by omega
  have lR : gR < w8.heap.size := World.block_lt_of_cell? _ _ y0
  have lC : gC < w8.heap.size := World.block_lt_of_cell? _ _ x0
  clear hC hR fC fR
  rw [← eC, ← eR]
  have HER : Hid _ := eR
  have HEC : Hid _ := eC
  clear eC eR
  have B8 : Hid (Bx2 w8 w8 gC gR 24 24 #[.int .i64 KD, .int .i64 0, .int .i64 0, .int .i64 0, .int .i64 0, .int .i64 0, .slice none 0 0] #[.int .i64 0, .int .i64 0, .int .i64 0, .int .i64 0, .int .i64 0, .int .i64 0, .slice none 0 0]) := ⟨HC.out, HRR.out, fun _ _ _ => rfl, rfl, rfl, rfl, rfl⟩
  have negH : Hid (gC ≠ gR) := neg
  go_wp2_with (refine (id ?_ : wpList Tryz.prog _ _ (⟨some 26, _, _, _, _, _⟩ :: _) _ _); refine wpList_as (fun W => Bx2 w8 W gC gR 24 24 #[.int .i64 KD, .int .i64 n0, .int .i64 n1, .int .i64 n2, .int .i64 n3, .int .i64 n4, .slice none 0 0] #[.int .i64 0, .int .i64 0, .int .i64 0, .int .i64 0, .int .i64 0, .int .i64 0, .slice none 0 0]) (((((B8.out.setC negH.out 1 (.int .i64 n0)).setC negH.out 2 (.int .i64 n1)).setC negH.out 3 (.int .i64 n2)).setC negH.out 4 (.int .i64 n3)).setC negH.out 5 (.int .i64 n4)) ?_)
  intro w9 B9
  clear x0 y0 fc0 fr0
  clear x1 y1 fc1 fr1
  clear x2 y2 fc2 fr2
  clear x3 y3 fc3 fr3
  clear x4 y4 fc4 fr4
  clear x5 y5 fc5 fr5
  clear x6 y6 fc6 fr6
  have hC := B9.hc
  have hR := B9.hr
  have x0 : w9.cell? ⟨gC, 0, none⟩ = some (.int .i64 KD) := by simp [World.cell?, hC]
  have x1 : w9.cell? ⟨gC, 1, none⟩ = some (.int .i64 n0) := by simp [World.cell?, hC]
  have x2 : w9.cell? ⟨gC, 2, none⟩ = some (.int .i64 n1) := by simp [World.cell?, hC]
  have x3 : w9.cell? ⟨gC, 3, none⟩ = some (.int .i64 n2) := by simp [World.cell?, hC]
  have x4 : w9.cell? ⟨gC, 4, none⟩ = some (.int .i64 n3) := by simp [World.cell?, hC]
  have x5 : w9.cell? ⟨gC, 5, none⟩ = some (.int .i64 n4) := by simp [World.cell?, hC]
  have x6 : w9.cell? ⟨gC, 6, none⟩ = some (.slice none 0 0) := by simp [World.cell?, hC]
  have y0 : w9.cell? ⟨gR, 0, none⟩ = some (.int .i64 0) := by simp [World.cell?, hR]
  have y1 : w9.cell? ⟨gR, 1, none⟩ = some (.int .i64 0) := by simp [World.cell?, hR]
  have y2 : w9.cell? ⟨gR, 2, none⟩ = some (.int .i64 0) := by simp [World.cell?, hR]
  have y3 : w9.cell? ⟨gR, 3, none⟩ = some (.int .i64 0) := by simp [World.cell?, hR]
  have y4 : w9.cell? ⟨gR, 4, none⟩ = some (.int .i64 0) := by simp [World.cell?, hR]
  have y5 : w9.cell? ⟨gR, 5, none⟩ = some (.int .i64 0) := by simp [World.cell?, hR]
  have y6 : w9.cell? ⟨gR, 6, none⟩ = some (.slice none 0 0) := by simp [World.cell?, hR]
  have fr0 : w9.frozen? ⟨gR, 0, none⟩ = false := by simp [World.frozen?, hR]
  have fr1 : w9.frozen? ⟨gR, 1, none⟩ = false := by simp [World.frozen?, hR]
  have fr2 : w9.frozen? ⟨gR, 2, none⟩ = false := by simp [World.frozen?, hR]
  have fr3 : w9.frozen? ⟨gR, 3, none⟩ = false := by simp [World.frozen?, hR]
  have fr4 : w9.frozen? ⟨gR, 4, none⟩ = false := by simp [World.frozen?, hR]
  have fr5 : w9.frozen? ⟨gR, 5, none⟩ = false := by simp [World.frozen?, hR]
  have fr6 : w9.frozen? ⟨gR, 6, none⟩ = false := by simp [World.frozen?, hR]
  have K9 : Hid _ := B9
  clear B9 hC hR
  have OW : Hid (Ob rb w w8) := ((Ob.of (bc_al (bel_refl w))).trans O2.out).trans ((Ob.of (bc_al (bel_refl w2))).trans O8.out)
  go_wp2_with fail
  refine bodyPost_as (fun W => Bx2 w8 W gC gR 24 24 #[.int .i64 KD, .int .i64 n0, .int .i64 n1, .int .i64 n2, .int .i64 n3, .int .i64 n4, .slice none 0 0] #[.int .i64 KD, .int .i64 n0, .int .i64 n1, .int .i64 n2, .int .i64 n3, .int .i64 n4, .slice none 0 0]) (((((((K9.out.setR negH.out 0 (.int .i64 KD)).setR negH.out 1 (.int .i64 n0)).setR negH.out 2 (.int .i64 n1)).setR negH.out 3 (.int .i64 n2)).setR negH.out 4 (.int .i64 n3)).setR negH.out 5 (.int .i64 n4)).setR negH.out 6 (.slice none 0 0)) ?_
  intro w10 B10
  clear y0 fr0
  clear y1 fr1
  clear y2 fr2
  clear y3 fr3
  clear y4 fr4
  clear y5 fr5
  clear y6 fr6
  have hR := B10.hr
  have y0 : w10.cell? ⟨gR, 0, none⟩ = some (.int .i64 KD) := by simp [World.cell?, hR]
  have y1 : w10.cell? ⟨gR, 1, none⟩ = some (.int .i64 n0) := by simp [World.cell?, hR]
  have y2 : w10.cell? ⟨gR, 2, none⟩ = some (.int .i64 n1) := by simp [World.cell?, hR]
  have y3 : w10.cell? ⟨gR, 3, none⟩ = some (.int .i64 n2) := by simp [World.cell?, hR]
  have y4 : w10.cell? ⟨gR, 4, none⟩ = some (.int .i64 n3) := by simp [World.cell?, hR]
  have y5 : w10.cell? ⟨gR, 5, none⟩ = some (.int .i64 n4) := by simp [World.cell?, hR]
  have y6 : w10.cell? ⟨gR, 6, none⟩ = some (.slice none 0 0) := by simp [World.cell?, hR]
  refine bodyPost_ret (v := .agg #[.int .i64 KD, .int .i64 n0, .int .i64 n1, .int .i64 n2, .int .i64 n3, .int .i64 n4, .slice none 0 0]) (by simp [results, Tryz.results50, go_sem, y0, y1, y2, y3, y4, y5, y6]) rfl ⟨rfl, ⟨lm3, R8.out.two B10 HC.out HRR.out rfl rfl (by have := HEC.out; omega) (by have := HER.out; omega)⟩, ?_⟩
  refine ⟨B10.os.trans OW.out.os, B10.tape.trans OW.out.tape, B10.output.trans OW.out.output, by rw [B10.size]; exact OW.out.size, fun k hk hne => (B10.ot k (by have := HEC.out; omega) (by have := HER.out; omega)).trans (OW.out.block k hk hne)⟩
theorem setup_flat {lm : Nat} (rb : Nat) (p : List ByteArray × Bool) (w : World) (h : Rp lm w rb p) (hl : p.1.length ≤ 40000) (h6 : setV p 0 ≠ 6) :
    Calls Tryz.prog 50 #[.pointer (some ⟨rb, 0, none⟩)] w fun e w' => e = .returned (.agg #[.int .i64 (setV p 0), .int .i64 (setV p 1), .int .i64 (setV p 2), .int .i64 (setV p 3), .int .i64 (setV p 4), .int .i64 (setV p 5), .slice none 0 0]) ∧ (∃ lm', Rp lm' w' rb (setS p)) ∧ Ob rb w w' :=
  setup_walk rb p _ _ _ _ _ _ _ _ _ _ _ _ _ _ rfl rfl rfl rfl rfl rfl rfl rfl rfl rfl rfl rfl rfl rfl w h (by simp only [kdS, naS, List.length_tail]; omega) h6
abbrev Nd := Int × Int × Int × Int
theorem Rp.keep {lm M : Nat} {W W' : World} {rb : Nat} {p : List ByteArray × Bool} (h : Rp lm W rb p) (hk : ∀ k, k < M → W'.heap[k]? = W.heap[k]?) (hs : W.heap.size ≤ W'.heap.size) (h1 : rb < M) (h2 : lm ≤ M) (w0 : World) (he : EV w0) (hn : KN w0) (h0 : w0.heap.size ≤ M) : Rp lm W' rb p := by
  refine ⟨h.rd.keep hk h1 h2, Nat.le_trans h.lm' hs, h.sm, ?_, fun i hi => ?_, h.len⟩
  · obtain ⟨⟨e1, a1, b1⟩, ⟨e2, a2, b2⟩⟩ := h.ev
    obtain ⟨⟨f1, c1, _⟩, ⟨f2, c2, _⟩⟩ := he
    have l1 := World.block_lt_of_cell? _ _ c1
    have l2 := World.block_lt_of_cell? _ _ c2
    exact ⟨⟨e1, (World.cell?_of_block (w := W) (hk _ (Nat.lt_of_lt_of_le l1 h0))).trans a1, b1⟩, ⟨e2, (World.cell?_of_block (w := W) (hk _ (Nat.lt_of_lt_of_le l2 h0))).trans a2, b2⟩⟩
  have l := World.block_lt_of_cell? _ _ (hn i hi)
  exact (World.cell?_of_block (w := W) (hk _ (Nat.lt_of_lt_of_le l h0))).trans (h.kn i hi)
def flowN : ByteArray := ⟨#[119, 101, 105, 103, 104, 116, 32, 113, 117, 97, 110, 116, 117, 109, 32, 99, 108, 97, 115, 115, 32, 115, 112, 97, 110, 32, 98, 117, 114, 115, 116, 32, 114, 97, 116, 101, 32, 112, 101, 114, 32, 110, 111, 100, 101]⟩
theorem flowN_words : wordsL flowN = [⟨#[119, 101, 105, 103, 104, 116]⟩, ⟨#[113, 117, 97, 110, 116, 117, 109]⟩, ⟨#[99, 108, 97, 115, 115]⟩, ⟨#[115, 112, 97, 110]⟩, ⟨#[98, 117, 114, 115, 116]⟩, ⟨#[114, 97, 116, 101]⟩, ⟨#[112, 101, 114]⟩, ⟨#[110, 111, 100, 101]⟩] := by decide +kernel
theorem flowN_len : 0 < (wordsL ⟨#[119, 101, 105, 103, 104, 116, 32, 113, 117, 97, 110, 116, 117, 109, 32, 99, 108, 97, 115, 115, 32, 115, 112, 97, 110, 32, 98, 117, 114, 115, 116, 32, 114, 97, 116, 101, 32, 112, 101, 114, 32, 110, 111, 100, 101]⟩).length ∧ (wordsL ⟨#[119, 101, 105, 103, 104, 116, 32, 113, 117, 97, 110, 116, 117, 109, 32, 99, 108, 97, 115, 115, 32, 115, 112, 97, 110, 32, 98, 117, 114, 115, 116, 32, 114, 97, 116, 101, 32, 112, 101, 114, 32, 110, 111, 100, 101]⟩).length ≤ 100 := by
  have e : wordsL ⟨#[119, 101, 105, 103, 104, 116, 32, 113, 117, 97, 110, 116, 117, 109, 32, 99, 108, 97, 115, 115, 32, 115, 112, 97, 110, 32, 98, 117, 114, 115, 116, 32, 114, 97, 116, 101, 32, 112, 101, 114, 32, 110, 111, 100, 101]⟩ = _ := flowN_words
  rw [e]
  decide
theorem Bx1.row {w0 W : World} {g : Nat} {tg : TypeId} {c : Array Value} (h : Bx1 w0 W g tg c) (cs : Array Value) : Bx1 w0 (W.setRow g cs) g tg cs :=
  ⟨setRow_heap W g c cs tg _ h.hc, fun k hk => (setRow_other W g k cs hk).trans (h.ot k hk), h.os, h.tape, h.output, by rw [size_setRow]; exact h.size⟩
theorem calls_as {f : Nat} {args : Array Value} {w : World} {Q : Ending → World → Prop} (P : World → Prop) (hP : P w) (h : ∀ w', P w' → Calls Tryz.prog f args w' Q) : Calls Tryz.prog f args w Q := h w hP
set_option maxHeartbeats 1000000 in
theorem flow_walk {lm : Nat} (rb : Nat) (p p1 p2 p3 p4 p5 p6 p7 p8 p9 : List ByteArray × Bool) (n0 n1 n2 n3 n4 n5 n6 : Int) (rt : ByteArray) (e1 : arS ⟨#[119, 101, 105, 103, 104, 116, 32, 113, 117, 97, 110, 116, 117, 109, 32, 99, 108, 97, 115, 115, 32, 115, 112, 97, 110, 32, 98, 117, 114, 115, 116, 32, 114, 97, 116, 101, 32, 112, 101, 114, 32, 110, 111, 100, 101]⟩ p = p1) (e2 : nmS p1 = p2) (e3 : nmS p2 = p3) (e4 : nmS p3 = p4) (e5 : nmS p4 = p5) (e6 : nmS p5 = p6) (e7 : woS p6 = p7) (e8 : nmS p7 = p8) (e9 : nmS p8 = p9) (k0 : nmI p1 = n0) (k1 : nmI p2 = n1) (k2 : nmI p3 = n2) (k3 : nmI p4 = n3) (k4 : nmI p5 = n4) (k5 : nmI p7 = n5) (k6 : nmI p8 = n6) (kr : hdT p6.1 = rt) (w : World) (h : Rp lm w rb p) (hl : p.1.length ≤ 50000) :
    Calls Tryz.prog 56 #[.pointer (some ⟨rb, 0, none⟩)] w fun e w' => e = .returned (.tuple #[.agg #[.int .i64 n0, .int .i64 n1, .int .i64 n2, .int .i64 n3, .int .i64 n4, .float .f64 0, .int .i64 n5, .int .i64 n6], .string rt]) ∧ (∃ lm', Rp lm' w' rb p9) ∧ Ob rb w w' := by
  have lrb := h.rd.lt
  have HR : Hid _ := h
  clear h
  have HL : Hid _ := hl
  have E1 : Hid _ := e1
  have E2 : Hid _ := e2
  have E3 : Hid _ := e3
  have E4 : Hid _ := e4
  have E5 : Hid _ := e5
  have E6 : Hid _ := e6
  have E7 : Hid _ := e7
  have E8 : Hid _ := e8
  have E9 : Hid _ := e9
  have K0 : Hid _ := k0
  have K1 : Hid _ := k1
  have K2 : Hid _ := k2
  have K3 : Hid _ := k3
  have K4 : Hid _ := k4
  have K5 : Hid _ := k5
  have K6 : Hid _ := k6
  have KR : Hid _ := kr
  clear e1 e2 e3 e4 e5 e6 e7 e8 e9 k0 k1 k2 k3 k4 k5 k6 kr
  go_enter Tryz.func56, Tryz.ntmps56
  go_wp2_with fail
  refine ((HR.out.go (bc_al (bel_refl _))).arrange ⟨#[119, 101, 105, 103, 104, 116, 32, 113, 117, 97, 110, 116, 117, 109, 32, 99, 108, 97, 115, 115, 32, 115, 112, 97, 110, 32, 98, 117, 114, 115, 116, 32, 114, 97, 116, 101, 32, 112, 101, 114, 32, 110, 111, 100, 101]⟩ (by decide) flowN_len.1 flowN_len.2 HL.out).mono ?_
  rintro e w1 ⟨rfl, ⟨lm1, hr1⟩, ho1⟩
  rw [E1.out] at hr1
  have R1 : Hid _ := hr1
  have O1 : Hid (Ob rb (w.alloc (.cells #[.int .i64 0, .int .i64 0, .int .i64 0, .int .i64 0, .int .i64 0, .float .f64 0, .int .i64 0, .int .i64 0] 27)) w1) := ho1
  clear hr1 ho1
  go_wp2_with fail
  refine (R1.out.number).mono ?_
  rintro e w2 ⟨rfl, hr2, ho2⟩
  rw [E2.out] at hr2
  have R2 : Hid _ := hr2
  have O2 : Hid (Ob rb (w.alloc (.cells #[.int .i64 0, .int .i64 0, .int .i64 0, .int .i64 0, .int .i64 0, .float .f64 0, .int .i64 0, .int .i64 0] 27)) w2) := O1.out.trans ho2
  clear hr2 ho2 R1 O1
  rw [K0.out]
  go_wp2_with fail
  refine (R2.out.number).mono ?_
  rintro e w3 ⟨rfl, hr3, ho3⟩
  rw [E3.out] at hr3
  have R3 : Hid _ := hr3
  have O3 : Hid (Ob rb (w.alloc (.cells #[.int .i64 0, .int .i64 0, .int .i64 0, .int .i64 0, .int .i64 0, .float .f64 0, .int .i64 0, .int .i64 0] 27)) w3) := O2.out.trans ho3
  clear hr3 ho3 R2 O2
  rw [K1.out]
  go_wp2_with fail
  refine (R3.out.number).mono ?_
  rintro e w4 ⟨rfl, hr4, ho4⟩
  rw [E4.out] at hr4
  have R4 : Hid _ := hr4
  have O4 : Hid (Ob rb (w.alloc (.cells #[.int .i64 0, .int .i64 0, .int .i64 0, .int .i64 0, .int .i64 0, .float .f64 0, .int .i64 0, .int .i64 0] 27)) w4) := O3.out.trans ho4
  clear hr4 ho4 R3 O3
  rw [K2.out]
  go_wp2_with fail
  refine (R4.out.number).mono ?_
  rintro e w5 ⟨rfl, hr5, ho5⟩
  rw [E5.out] at hr5
  have R5 : Hid _ := hr5
  have O5 : Hid (Ob rb (w.alloc (.cells #[.int .i64 0, .int .i64 0, .int .i64 0, .int .i64 0, .int .i64 0, .float .f64 0, .int .i64 0, .int .i64 0] 27)) w5) := O4.out.trans ho5
  clear hr5 ho5 R4 O4
  rw [K3.out]
  go_wp2_with fail
  refine (R5.out.number).mono ?_
  rintro e w6 ⟨rfl, hr6, ho6⟩
  rw [E6.out] at hr6
  have R6 : Hid _ := hr6
  have O6 : Hid (Ob rb (w.alloc (.cells #[.int .i64 0, .int .i64 0, .int .i64 0, .int .i64 0, .int .i64 0, .float .f64 0, .int .i64 0, .int .i64 0] 27)) w6) := O5.out.trans ho6
  clear hr6 ho6 R5 O5
  rw [K4.out]
  obtain ⟨gR, eR⟩ : ∃ g, g = w.heap.size := ⟨_, rfl⟩
  have hR : w6.heap[gR]? = some (.cells #[.int .i64 0, .int .i64 0, .int .i64 0, .int .i64 0, .int .i64 0, .float .f64 0, .int .i64 0, .int .i64 0] 27) := (O6.out.block gR (by rw [World.size_alloc]; omega) (by omega)).trans (by rw [eR]; exact al_at _ _)
  have H6 : Hid _ := hR
  have y0 : w6.cell? ⟨gR, 0, none⟩ = some (.int .i64 0) := by simp [World.cell?, hR]
  have y1 : w6.cell? ⟨gR, 1, none⟩ = some (.int .i64 0) := by simp [World.cell?, hR]
  have y2 : w6.cell? ⟨gR, 2, none⟩ = some (.int .i64 0) := by simp [World.cell?, hR]
  have y3 : w6.cell? ⟨gR, 3, none⟩ = some (.int .i64 0) := by simp [World.cell?, hR]
  have y4 : w6.cell? ⟨gR, 4, none⟩ = some (.int .i64 0) := by simp [World.cell?, hR]
  have y5 : w6.cell? ⟨gR, 5, none⟩ = some (.float .f64 0) := by simp [World.cell?, hR]
  have y6 : w6.cell? ⟨gR, 6, none⟩ = some (.int .i64 0) := by simp [World.cell?, hR]
  have y7 : w6.cell? ⟨gR, 7, none⟩ = some (.int .i64 0) := by simp [World.cell?, hR]
  have fr0 : w6.frozen? ⟨gR, 0, none⟩ = false := by simp [World.frozen?, hR]
  have fr1 : w6.frozen? ⟨gR, 1, none⟩ = false := by simp [World.frozen?, hR]
  have fr2 : w6.frozen? ⟨gR, 2, none⟩ = false := by simp [World.frozen?, hR]
  have fr3 : w6.frozen? ⟨gR, 3, none⟩ = false := by simp [World.frozen?, hR]
  have fr4 : w6.frozen? ⟨gR, 4, none⟩ = false := by simp [World.frozen?, hR]
  have fr5 : w6.frozen? ⟨gR, 5, none⟩ = false := by simp [World.frozen?, hR]
  have fr6 : w6.frozen? ⟨gR, 6, none⟩ = false := by simp [World.frozen?, hR]
  have fr7 : w6.frozen? ⟨gR, 7, none⟩ = false := by simp [World.frozen?, hR]
  have nrb : Hid (gR ≠ rb) := by show gR ≠ rb; omega
  have OW : Hid (Ob rb w w6) := (Ob.of (bc_al (bel_refl w))).trans O6.out
  have B6 : Hid (Bx1 w6 w6 gR 27 #[.int .i64 0, .int .i64 0, .int .i64 0, .int .i64 0, .int .i64 0, .float .f64 0, .int .i64 0, .int .i64 0]) := ⟨hR, fun _ _ => rfl, rfl, rfl, rfl, rfl⟩
  clear hR O6
  rw [← eR]
  have HER : Hid _ := eR
  clear eR
  go_wp2_with fail
  refine calls_as (fun W => Bx1 w6 W gR 27 #[.int .i64 n0, .int .i64 n1, .int .i64 n2, .int .i64 n3, .int .i64 n4, .float .f64 0, .int .i64 0, .int .i64 0]) (((((B6.out.set 0 (.int .i64 n0)).set 1 (.int .i64 n1)).set 2 (.int .i64 n2)).set 3 (.int .i64 n3)).set 4 (.int .i64 n4)) ?_
  intro v6 B7
  have Q6 : Hid (Rp lm1 v6 rb p6) := R6.out.one B7 H6.out rfl nrb.out
  have A6 : Hid _ := B7
  have G6 : Hid _ := B7.hc
  clear B7
  clear y0 fr0
  clear y1 fr1
  clear y2 fr2
  clear y3 fr3
  clear y4 fr4
  clear y5 fr5
  clear y6 fr6
  clear y7 fr7
  refine (Q6.out.word).mono ?_
  rintro e w7 ⟨rfl, hr7, ho7⟩
  rw [E7.out] at hr7
  have R7 : Hid _ := hr7
  have O7 : Hid (Ob rb v6 w7) := ho7
  clear hr7 ho7
  rw [KR.out]
  go_wp2_with fail
  refine (R7.out.number).mono ?_
  rintro e w8 ⟨rfl, hr8, ho8⟩
  rw [E8.out] at hr8
  have R8 : Hid _ := hr8
  have O8 : Hid (Ob rb v6 w8) := O7.out.trans ho8
  clear hr8 ho8 R7 O7
  rw [K5.out]
  go_wp2_with fail
  refine (R8.out.number).mono ?_
  rintro e w9 ⟨rfl, hr9, ho9⟩
  rw [E9.out] at hr9
  have R9 : Hid _ := hr9
  have O9 : Hid (Ob rb v6 w9) := O8.out.trans ho9
  clear hr9 ho9 R8 O8
  rw [K6.out]
  have hR : w9.heap[gR]? = some (.cells #[.int .i64 n0, .int .i64 n1, .int .i64 n2, .int .i64 n3, .int .i64 n4, .float .f64 0, .int .i64 0, .int .i64 0] 27) := (O9.out.block gR (Array.getElem?_eq_some_iff.1 G6.out).1 nrb.out).trans G6.out
  have H9 : Hid _ := hR
  have y0 : w9.cell? ⟨gR, 0, none⟩ = some (.int .i64 n0) := by simp [World.cell?, hR]
  have y1 : w9.cell? ⟨gR, 1, none⟩ = some (.int .i64 n1) := by simp [World.cell?, hR]
  have y2 : w9.cell? ⟨gR, 2, none⟩ = some (.int .i64 n2) := by simp [World.cell?, hR]
  have y3 : w9.cell? ⟨gR, 3, none⟩ = some (.int .i64 n3) := by simp [World.cell?, hR]
  have y4 : w9.cell? ⟨gR, 4, none⟩ = some (.int .i64 n4) := by simp [World.cell?, hR]
  have y5 : w9.cell? ⟨gR, 5, none⟩ = some (.float .f64 0) := by simp [World.cell?, hR]
  have y6 : w9.cell? ⟨gR, 6, none⟩ = some (.int .i64 0) := by simp [World.cell?, hR]
  have y7 : w9.cell? ⟨gR, 7, none⟩ = some (.int .i64 0) := by simp [World.cell?, hR]
  have fr0 : w9.frozen? ⟨gR, 0, none⟩ = false := by simp [World.frozen?, hR]
  have fr1 : w9.frozen? ⟨gR, 1, none⟩ = false := by simp [World.frozen?, hR]
  have fr2 : w9.frozen? ⟨gR, 2, none⟩ = false := by simp [World.frozen?, hR]
  have fr3 : w9.frozen? ⟨gR, 3, none⟩ = false := by simp [World.frozen?, hR]
  have fr4 : w9.frozen? ⟨gR, 4, none⟩ = false := by simp [World.frozen?, hR]
  have fr5 : w9.frozen? ⟨gR, 5, none⟩ = false := by simp [World.frozen?, hR]
  have fr6 : w9.frozen? ⟨gR, 6, none⟩ = false := by simp [World.frozen?, hR]
  have fr7 : w9.frozen? ⟨gR, 7, none⟩ = false := by simp [World.frozen?, hR]
  have B9 : Hid (Bx1 w9 w9 gR 27 #[.int .i64 n0, .int .i64 n1, .int .i64 n2, .int .i64 n3, .int .i64 n4, .float .f64 0, .int .i64 0, .int .i64 0]) := ⟨hR, fun _ _ => rfl, rfl, rfl, rfl, rfl⟩
  clear hR
  go_wp2_with (refine (id ?_ : wpList Tryz.prog _ _ (⟨some 29, _, _, _, _, _⟩ :: _) _ _); refine wpList_as (fun W => Bx1 w9 W gR 27 #[.int .i64 n0, .int .i64 n1, .int .i64 n2, .int .i64 n3, .int .i64 n4, .float .f64 0, .int .i64 n5, .int .i64 n6]) ((B9.out.set 6 (.int .i64 n5)).set 7 (.int .i64 n6)) ?_)
  intro v9 B10
  clear y0 fr0
  clear y1 fr1
  clear y2 fr2
  clear y3 fr3
  clear y4 fr4
  clear y5 fr5
  clear y6 fr6
  clear y7 fr7
  have hR := B10.hc
  have y0 : v9.cell? ⟨gR, 0, none⟩ = some (.int .i64 n0) := by simp [World.cell?, hR]
  have y1 : v9.cell? ⟨gR, 1, none⟩ = some (.int .i64 n1) := by simp [World.cell?, hR]
  have y2 : v9.cell? ⟨gR, 2, none⟩ = some (.int .i64 n2) := by simp [World.cell?, hR]
  have y3 : v9.cell? ⟨gR, 3, none⟩ = some (.int .i64 n3) := by simp [World.cell?, hR]
  have y4 : v9.cell? ⟨gR, 4, none⟩ = some (.int .i64 n4) := by simp [World.cell?, hR]
  have y5 : v9.cell? ⟨gR, 5, none⟩ = some (.float .f64 0) := by simp [World.cell?, hR]
  have y6 : v9.cell? ⟨gR, 6, none⟩ = some (.int .i64 n5) := by simp [World.cell?, hR]
  have y7 : v9.cell? ⟨gR, 7, none⟩ = some (.int .i64 n6) := by simp [World.cell?, hR]
  have fr0 : v9.frozen? ⟨gR, 0, none⟩ = false := by simp [World.frozen?, hR]
  have fr1 : v9.frozen? ⟨gR, 1, none⟩ = false := by simp [World.frozen?, hR]
  have fr2 : v9.frozen? ⟨gR, 2, none⟩ = false := by simp [World.frozen?, hR]
  have fr3 : v9.frozen? ⟨gR, 3, none⟩ = false := by simp [World.frozen?, hR]
  have fr4 : v9.frozen? ⟨gR, 4, none⟩ = false := by simp [World.frozen?, hR]
  have fr5 : v9.frozen? ⟨gR, 5, none⟩ = false := by simp [World.frozen?, hR]
  have fr6 : v9.frozen? ⟨gR, 6, none⟩ = false := by simp [World.frozen?, hR]
  have fr7 : v9.frozen? ⟨gR, 7, none⟩ = false := by simp [World.frozen?, hR]
  have A9 : Hid _ := B10
  clear hR B10
  go_wp2_with (refine (id ?_ : wpList Tryz.prog _ _ (⟨none, .store 27 (.tmp 2) (.tmp 29), _, _, _, _⟩ :: _) _ _); refine wpList_store_row rfl 27 (.tmp 2) (.tmp 29) rfl gR #[.int .i64 n0, .int .i64 n1, .int .i64 n2, .int .i64 n3, .int .i64 n4, .float .f64 0, .int .i64 n5, .int .i64 n6] rfl rfl 27 #[.int .i64 n0, .int .i64 n1, .int .i64 n2, .int .i64 n3, .int .i64 n4, .float .f64 0, .int .i64 n5, .int .i64 n6] A9.out.hc (by kernel_rfl) (by kernel_rfl) (by kernel_rfl) ?_; refine wpList_as (fun W => Bx1 w9 W gR 27 #[.int .i64 n0, .int .i64 n1, .int .i64 n2, .int .i64 n3, .int .i64 n4, .float .f64 0, .int .i64 n5, .int .i64 n6]) (A9.out.row _) ?_)
  intro w10 B10
  clear y0 fr0
  clear y1 fr1
  clear y2 fr2
  clear y3 fr3
  clear y4 fr4
  clear y5 fr5
  clear y6 fr6
  clear y7 fr7
  go_wp2_with fail
  have hR := B10.hc
  have y0 : w10.cell? ⟨gR, 0, none⟩ = some (.int .i64 n0) := by simp [World.cell?, hR]
  have y1 : w10.cell? ⟨gR, 1, none⟩ = some (.int .i64 n1) := by simp [World.cell?, hR]
  have y2 : w10.cell? ⟨gR, 2, none⟩ = some (.int .i64 n2) := by simp [World.cell?, hR]
  have y3 : w10.cell? ⟨gR, 3, none⟩ = some (.int .i64 n3) := by simp [World.cell?, hR]
  have y4 : w10.cell? ⟨gR, 4, none⟩ = some (.int .i64 n4) := by simp [World.cell?, hR]
  have y5 : w10.cell? ⟨gR, 5, none⟩ = some (.float .f64 0) := by simp [World.cell?, hR]
  have y6 : w10.cell? ⟨gR, 6, none⟩ = some (.int .i64 n5) := by simp [World.cell?, hR]
  have y7 : w10.cell? ⟨gR, 7, none⟩ = some (.int .i64 n6) := by simp [World.cell?, hR]
  refine bodyPost_ret (v := .tuple #[.agg #[.int .i64 n0, .int .i64 n1, .int .i64 n2, .int .i64 n3, .int .i64 n4, .float .f64 0, .int .i64 n5, .int .i64 n6], .string rt]) (by simp [results, Tryz.results56, go_sem, y0, y1, y2, y3, y4, y5, y6, y7]) rfl ⟨rfl, ⟨lm1, R9.out.one B10 H9.out rfl nrb.out⟩, ?_⟩
  have X := A6.out
  refine ⟨B10.os.trans (O9.out.os.trans (X.os.trans OW.out.os)), B10.tape.trans (O9.out.tape.trans (X.tape.trans OW.out.tape)), B10.output.trans (O9.out.output.trans (X.output.trans OW.out.output)), ?_, fun k hk hne => ?_⟩
  · have q1 := B10.size
    have q2 := O9.out.size
    have q3 := X.size
    have q4 := OW.out.size
    omega
  have q1 := HER.out
  have q3 := X.size
  have q4 := OW.out.size
  exact (B10.ot k (by omega)).trans ((O9.out.block k (by omega) hne).trans ((X.ot k (by omega)).trans (OW.out.block k hk hne)))
theorem ws_sm (s : ByteArray) (i : Nat) (hi : i ≤ s.size) : ∀ x ∈ (ws s i).2, x.size ≤ s.size := by
  induction i with
  | zero => intro x hx; simp [ws] at hx
  | succ i ih =>
    intro x hx
    rw [ws] at hx
    split at hx
    · split at hx
      · rcases List.mem_append.1 hx with q | q
        · exact ih (by omega) x q
        simp only [List.mem_singleton] at q
        rw [q, ByteArray.size_extract]
        omega
      exact ih (by omega) x hx
    exact ih (by omega) x hx
theorem words_sm (s : ByteArray) (x : ByteArray) (hx : x ∈ wordsL s) : x.size ≤ s.size := by
  unfold wordsL at hx
  split at hx
  · rcases List.mem_append.1 hx with q | q
    · exact ws_sm s _ (Nat.le_refl _) x q
    simp only [List.mem_singleton] at q
    rw [q, ByteArray.size_extract]
    omega
  exact ws_sm s _ (Nat.le_refl _) x hx
theorem words_len (s : ByteArray) : (wordsL s).length ≤ s.size + 1 := by
  have h := (ws_le s s.size).2
  unfold wordsL
  split
  · rw [List.length_append]; simp; omega
  omega
theorem rst_or {W : World} {base : Nat} {v : Value} {L : List ByteArray} (h : OR W 9 base v L.length (tx L)) : Rst W.heap.size W v L := by
  rcases h with ⟨rfl, q⟩ | ⟨g, cap, f, rfl, h1, h2, h3, h4, h5⟩
  · have e : L = [] := List.length_eq_zero_iff.1 q
    subst e
    exact ⟨none, 0, rfl, Nat.le_refl _, .inl ⟨rfl, rfl, rfl⟩⟩
  refine ⟨_, cap, rfl, h2, .inr ⟨g, 0, rfl, fun i hi => ?_⟩⟩
  have c := h4.cell (show i < cap by omega)
  rw [h5 i hi] at c
  rw [Nat.zero_add]
  exact ⟨World.block_lt_of_cell? _ _ c, c⟩
theorem rp_start {W W0 : World} {v : Value} {s : ByteArray} {base : Nat} (hs : s.size ≤ 4096) (h : OR W 9 base v (wordsL s).length (tx (wordsL s))) (he : EV W) (hk : KN W) : Rp (W.heap.size + 1) (W.alloc (.cells #[v, .bool false] 102)) W.heap.size (wordsL s, false) := by
  have B := bc_al (o := .cells #[v, .bool false] 102) (bel_refl W)
  refine ⟨⟨⟨v, al_at _ _, ?_⟩⟩, by rw [World.size_alloc]; omega, fun x hx => Nat.le_trans (words_sm s x hx) hs, he.go B, hk.go B, ?_⟩
  · obtain ⟨a, cap, e, h1, h2⟩ := rst_or h
    refine ⟨a, cap, e, h1, h2.imp id ?_⟩
    rintro ⟨g, o, ha, hc⟩
    exact ⟨g, o, ha, fun i hi => ⟨Nat.lt_succ_of_lt (hc i hi).1, bc_cell B (hc i hi).2⟩⟩
  have := words_len s
  show (wordsL s).length ≤ _
  omega
theorem nsl_nil (w : World) : NSl w none 0 0 (fun _ _ => 0) := ⟨Nat.le_refl _, by omega, fun i j hi => by omega, .inl rfl⟩
set_option maxHeartbeats 1000000 in
theorem parse_good (s : ByteArray) (KD n0 n1 n2 n3 n4 : Int) (w : World) (hs : s.size ≤ 4096) (he : EV w) (hk : KN w) (h6 : KD ≠ 6) (k0 : setV (wordsL s, false) 0 = KD) (k1 : setV (wordsL s, false) 1 = n0) (k2 : setV (wordsL s, false) 2 = n1) (k3 : setV (wordsL s, false) 3 = n2) (k4 : setV (wordsL s, false) 4 = n3) (k5 : setV (wordsL s, false) 5 = n4) (hd : setS (wordsL s, false) = ([], false)) (hc : checkE KD n0 n1 n2 n3 n4 (fun _ _ => 0) 0 = 0) :
    Calls Tryz.prog 19 #[.string s] w fun e w' => e = .returned (.tuple #[.agg #[.int .i64 KD, .int .i64 n0, .int .i64 n1, .int .i64 n2, .int .i64 n3, .int .i64 n4, .slice none 0 0], .int .i64 0]) ∧ Below w.heap.size w w' := by
  have HS : Hid _ := hs
  have HE : Hid _ := he
  have HK : Hid (KN w) := hk
  have HD : Hid _ := hd
  have HC : Hid _ := hc
  have HV : Hid (∀ e : Ending, e = Ending.returned (.agg #[.int .i64 (setV (wordsL s, false) 0), .int .i64 (setV (wordsL s, false) 1), .int .i64 (setV (wordsL s, false) 2), .int .i64 (setV (wordsL s, false) 3), .int .i64 (setV (wordsL s, false) 4), .int .i64 (setV (wordsL s, false) 5), .slice none 0 0]) → e = .returned (.agg #[.int .i64 KD, .int .i64 n0, .int .i64 n1, .int .i64 n2, .int .i64 n3, .int .i64 n4, .slice none 0 0])) := by
    intro e q
    rw [q, k0, k1, k2, k3, k4, k5]
  have H6 : Hid (setV (wordsL s, false) 0 ≠ 6) := by show _ ≠ _; rw [k0]; exact h6
  clear he hk hd hc k0 k1 k2 k3 k4 k5 h6
  have d0 : ¬ (4096 : Int) < (s.size : Int) := by omega
  go_enter Tryz.func19, Tryz.ntmps19
  go_wp2_with fail
  refine (words_any s _ (by omega)).mono ?_
  rintro e w1 ⟨v1, rfl, hO, hb1⟩
  have B1 : Hid (Below w.heap.size w w1) := bc_go (bc_al (bel_refl w)) hb1
  have BA : Hid (Below (w.alloc (.cells #[.int .i64 0, .int .i64 0, .int .i64 0, .int .i64 0, .int .i64 0, .int .i64 0, .slice none 0 0] 24)).heap.size (w.alloc (.cells #[.int .i64 0, .int .i64 0, .int .i64 0, .int .i64 0, .int .i64 0, .int .i64 0, .slice none 0 0] 24)) w1) := hb1
  have R1 : Hid _ := rp_start (W0 := w) hs hO (HE.out.go B1.out) (HK.out.go B1.out)
  have hsz1 := hb1.size
  rw [World.size_alloc] at hsz1
  have e1 : ∃ a n c, v1 = .slice a n c := by
    rcases hO with ⟨q, _⟩ | ⟨g, cap, f, q, _⟩
    · exact ⟨_, _, _, q⟩
    exact ⟨_, _, _, q⟩
  obtain ⟨a1, m1, c1, rfl⟩ := e1
  clear hO hb1
  go_wp2_with fail
  refine (setup_flat w1.heap.size (wordsL s, false) _ R1.out (by have := words_len s; show (wordsL s).length ≤ _; omega) H6.out).mono ?_
  rintro e w2 ⟨he2, ⟨lm2, hr2⟩, ho2⟩
  have he3 := HV.out e he2
  subst he3
  rw [HD.out] at hr2
  have R2 : Hid _ := hr2
  have O2 : Hid _ := ho2
  clear he2 hr2 ho2
  go_wp2_with fail
  refine (done_any w1.heap.size [] false _ (R2.out.rd.go (bc_al (bel_refl w2)))).mono ?_
  rintro e w3 ⟨rfl, rfl⟩
  obtain ⟨gC, eC⟩ : ∃ g, g = w2.heap.size := ⟨_, rfl⟩
  obtain ⟨gR, eR⟩ : ∃ g, g = w.heap.size := ⟨_, rfl⟩
  obtain ⟨w4, hw4⟩ : ∃ w4, w4 = w2.alloc (.cells #[.int .i64 KD, .int .i64 n0, .int .i64 n1, .int .i64 n2, .int .i64 n3, .int .i64 n4, .slice none 0 0] 24) := ⟨_, rfl⟩
  have hsz2 := O2.out.size
  rw [World.size_alloc] at hsz2
  have hC : w4.heap[gC]? = some (.cells #[.int .i64 KD, .int .i64 n0, .int .i64 n1, .int .i64 n2, .int .i64 n3, .int .i64 n4, .slice none 0 0] 24) := by rw [hw4, eC]; exact al_at _ _
  have hR : w4.heap[gR]? = some (.cells #[.int .i64 0, .int .i64 0, .int .i64 0, .int .i64 0, .int .i64 0, .int .i64 0, .slice none 0 0] 24) := by
    rw [hw4]
    refine ((bc_al (bel_refl w2)).block gR (by omega)).trans ((O2.out.block gR (by rw [World.size_alloc]; omega) (by omega)).trans (((bc_al (bel_refl w1)).block gR (by omega)).trans ((BA.out.block gR (by rw [World.size_alloc]; omega)).trans ?_)))
    rw [eR]
    exact al_at _ _
  have W4 : Hid (Below w.heap.size w w4) := by
    have q : Below w.heap.size (w1.alloc (.cells #[.slice a1 m1 c1, .bool false] 102)) w2 := O2.out.below (by rw [World.size_alloc]; omega) (by omega)
    rw [hw4]
    exact bc_al ((bc_al B1.out).trans q)
  rw [← hw4, ← eC, ← eR]
  have x0 : w4.cell? ⟨gC, 0, none⟩ = some (.int .i64 KD) := by simp [World.cell?, hC]
  have x1 : w4.cell? ⟨gC, 1, none⟩ = some (.int .i64 n0) := by simp [World.cell?, hC]
  have x2 : w4.cell? ⟨gC, 2, none⟩ = some (.int .i64 n1) := by simp [World.cell?, hC]
  have x3 : w4.cell? ⟨gC, 3, none⟩ = some (.int .i64 n2) := by simp [World.cell?, hC]
  have x4 : w4.cell? ⟨gC, 4, none⟩ = some (.int .i64 n3) := by simp [World.cell?, hC]
  have x5 : w4.cell? ⟨gC, 5, none⟩ = some (.int .i64 n4) := by simp [World.cell?, hC]
  have x6 : w4.cell? ⟨gC, 6, none⟩ = some (.slice none 0 0) := by simp [World.cell?, hC]
  have G4 : Hid _ := hR
  have GC : Hid _ := hC
  have lC : gC < w4.heap.size := World.block_lt_of_cell? _ _ x0
  have neg : Hid (gC ≠ gR) := by show gC ≠ gR; omega
  have HEQ : Hid _ := eR
  clear hC hR hw4 eC eR
  go_wp2_with fail
  refine (check_any KD n0 n1 n2 n3 n4 none 0 0 (fun _ _ => 0) _ (nsl_nil _)).mono ?_
  rintro e w5 ⟨rfl, hb5⟩
  rw [HC.out]
  have z0 := bc_cell hb5 x0
  have z1 := bc_cell hb5 x1
  have z2 := bc_cell hb5 x2
  have z3 := bc_cell hb5 x3
  have z4 := bc_cell hb5 x4
  have z5 := bc_cell hb5 x5
  have z6 := bc_cell hb5 x6
  have G5 : Hid (w5.heap[gR]? = some (.cells #[.int .i64 0, .int .i64 0, .int .i64 0, .int .i64 0, .int .i64 0, .int .i64 0, .slice none 0 0] 24)) := (hb5.block gR (Array.getElem?_eq_some_iff.1 G4.out).1).trans G4.out
  have W5 : Hid _ := bc_go W4.out hb5
  clear x0
  clear x1
  clear x2
  clear x3
  clear x4
  clear x5
  clear x6
  clear hb5
  go_wp2_with (refine (id ?_ : wpList Tryz.prog _ _ (⟨none, .store 24 (.tmp 2) (.tmp 24), _, _, _, _⟩ :: _) _ _); refine wpList_store_row rfl 24 (.tmp 2) (.tmp 24) rfl gR #[.int .i64 KD, .int .i64 n0, .int .i64 n1, .int .i64 n2, .int .i64 n3, .int .i64 n4, .slice none 0 0] rfl rfl 24 #[.int .i64 0, .int .i64 0, .int .i64 0, .int .i64 0, .int .i64 0, .int .i64 0, .slice none 0 0] G5.out (by kernel_rfl) (by kernel_rfl) (by kernel_rfl) ?_; refine wpList_as (fun W => W.heap[gR]? = some (.cells #[.int .i64 KD, .int .i64 n0, .int .i64 n1, .int .i64 n2, .int .i64 n3, .int .i64 n4, .slice none 0 0] 24) ∧ Below w.heap.size w W) ⟨setRow_heap _ _ _ _ _ _ G5.out, ?_⟩ ?_)
  · exact ⟨W5.out.os, W5.out.tape, W5.out.output, by rw [size_setRow]; exact W5.out.size, fun k hk => (setRow_other _ _ _ _ (by have := HEQ.out; omega)).trans (W5.out.block k hk)⟩
  intro w6 hR hB
  have W6 : Hid _ := hB
  have y0 : w6.cell? ⟨gR, 0, none⟩ = some (.int .i64 KD) := by simp [World.cell?, hR]
  have y1 : w6.cell? ⟨gR, 1, none⟩ = some (.int .i64 n0) := by simp [World.cell?, hR]
  have y2 : w6.cell? ⟨gR, 2, none⟩ = some (.int .i64 n1) := by simp [World.cell?, hR]
  have y3 : w6.cell? ⟨gR, 3, none⟩ = some (.int .i64 n2) := by simp [World.cell?, hR]
  have y4 : w6.cell? ⟨gR, 4, none⟩ = some (.int .i64 n3) := by simp [World.cell?, hR]
  have y5 : w6.cell? ⟨gR, 5, none⟩ = some (.int .i64 n4) := by simp [World.cell?, hR]
  have y6 : w6.cell? ⟨gR, 6, none⟩ = some (.slice none 0 0) := by simp [World.cell?, hR]
  clear hB hR
  go_wp2_with fail
  exact bodyPost_ret (v := .tuple #[.agg #[.int .i64 KD, .int .i64 n0, .int .i64 n1, .int .i64 n2, .int .i64 n3, .int .i64 n4, .slice none 0 0], .int .i64 0]) (by simp [results, Tryz.results19, go_sem, y0, y1, y2, y3, y4, y5, y6]) rfl ⟨rfl, W6.out⟩
end Go.Proofs.YtchomkadekikdaaGreatDoor
