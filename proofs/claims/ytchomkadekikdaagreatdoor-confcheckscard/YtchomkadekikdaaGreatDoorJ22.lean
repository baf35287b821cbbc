/- Contracts of the program's functions, part 22: own work, joined in build order. -/
import Derived.Test.YtchomkadekikdaaGreatDoorJ21
import Derived.Lib.ConvBytes
namespace Go.Proofs.YtchomkadekikdaaGreatDoor
open Go.RowKit
set_option maxRecDepth 100000
set_option linter.unusedVariables false
structure Ob (rb : Nat) (W W' : World) : Prop where
  os : W'.os = W.os
  tape : W'.tape = W.tape
  output : W'.output = W.output
  size : W.heap.size ≤ W'.heap.size
  block : ∀ k, k < W.heap.size → k ≠ rb → W'.heap[k]? = W.heap[k]?
theorem Ob.refl (rb : Nat) (W : World) : Ob rb W W := ⟨rfl, rfl, rfl, Nat.le_refl _, fun _ _ _ => rfl⟩
theorem Ob.trans {rb : Nat} {a b c : World} (h : Ob rb a b) (k : Ob rb b c) : Ob rb a c :=
  ⟨k.os.trans h.os, k.tape.trans h.tape, k.output.trans h.output, Nat.le_trans h.size k.size, fun i hi hn => (k.block i (Nat.lt_of_lt_of_le hi h.size) hn).trans (h.block i hi hn)⟩
theorem Ob.of {rb : Nat} {a b : World} (h : Below a.heap.size a b) : Ob rb a b := ⟨h.os, h.tape, h.output, h.size, fun i hi _ => h.block i hi⟩
theorem Ob.go {rb : Nat} {a b c : World} (h : Ob rb a b) (k : Below b.heap.size b c) : Ob rb a c := h.trans (Ob.of k)
theorem Ob.drew {rb : Nat} {a b : World} (h : Ob rb a b) (n : Nat) : Ob rb a (b.drewN n) := ⟨h.os, h.tape, h.output, h.size, h.block⟩
theorem Ob.set {rb : Nat} {a b : World} (h : Ob rb a b) (i : Nat) (u : Value) : Ob rb a (b.setCell ⟨rb, i, none⟩ u) :=
  h.trans ⟨rfl, rfl, rfl, by simp [World.setCell], fun k hk hn => Below.heap_setCell _ _ _ _ fun e => hn e⟩
theorem Ob.cell {rb : Nat} {a b : World} (h : Ob rb a b) {p : Addr} {v : Value} (hv : a.cell? p = some v) (hn : p.block ≠ rb) : b.cell? p = some v :=
  (World.cell?_of_block (w := a) (h.block p.block (World.block_lt_of_cell? _ _ hv) hn)).trans hv
theorem Ob.below {rb lb : Nat} {a b : World} (h : Ob rb a b) (hl : lb ≤ a.heap.size) (hs : lb ≤ rb) : Below lb a b :=
  ⟨h.os, h.tape, h.output, h.size, fun k hk => h.block k (by omega) (by omega)⟩
def Rst (lm : Nat) (W : World) (v : Value) (L : List ByteArray) : Prop := ∃ a cap, v = .slice a L.length cap ∧ L.length ≤ cap ∧ ((a = none ∧ L = [] ∧ cap = 0) ∨ ∃ g o, a = some ⟨g, o, none⟩ ∧ ∀ i, i < L.length → g < lm ∧ W.cell? ⟨g, o + i, none⟩ = some (.string (L.getD i ⟨#[]⟩)))
structure Rd (lm : Nat) (W : World) (rb : Nat) (L : List ByteArray) (b : Bool) : Prop where
  is : ∃ v, W.heap[rb]? = some (.cells #[v, .bool b] 102) ∧ Rst lm W v L
theorem Rd.cells {lm : Nat} {W : World} {rb : Nat} {L : List ByteArray} {b : Bool} (h : Rd lm W rb L b) : ∃ a cap, W.cell? ⟨rb, 0, none⟩ = some (.slice a L.length cap) ∧ W.cell? ⟨rb, 1, none⟩ = some (.bool b) ∧ W.frozen? ⟨rb, 0, none⟩ = false ∧ W.frozen? ⟨rb, 1, none⟩ = false ∧ L.length ≤ cap ∧ ((a = none ∧ L = [] ∧ cap = 0) ∨ ∃ g o, a = some ⟨g, o, none⟩ ∧ ∀ i, i < L.length → g < lm ∧ W.cell? ⟨g, o + i, none⟩ = some (.string (L.getD i ⟨#[]⟩))) := by
  obtain ⟨v, h0, a, cap, rfl, h1, h2⟩ := h.is
  refine ⟨a, cap, ?_, ?_, ?_, ?_, h1, h2⟩ <;> simp [World.cell?, World.frozen?, h0]
theorem Rd.lt {lm : Nat} {W : World} {rb : Nat} {L : List ByteArray} {b : Bool} (h : Rd lm W rb L b) : rb < W.heap.size := by
  obtain ⟨v, h0, _⟩ := h.is
  exact (Array.getElem?_eq_some_iff.1 h0).1
theorem rd_no {W : World} {rb i : Nat} {v : Value} {b : Bool} {x : ByteArray} {a : Option Addr} {n c : Nat} (h : W.heap[rb]? = some (.cells #[v, .bool b] 102)) (hv : v = .slice a n c) (k : W.cell? ⟨rb, i, none⟩ = some (.string x)) : False := by
  subst hv
  simp only [World.cell?, h] at k
  match i, k with
  | 0, k => simp at k
  | 1, k => simp at k
  | i + 2, k => simp at k
theorem Rst.ob {lm : Nat} {W W' : World} {rb : Nat} {v v0 : Value} {L : List ByteArray} {b : Bool} {a : Option Addr} {n c : Nat} (h : Rst lm W v L) (h0 : W.heap[rb]? = some (.cells #[v0, .bool b] 102)) (hv : v0 = .slice a n c) (k : Ob rb W W') : Rst lm W' v L := by
  obtain ⟨a, cap, e, h1, h2⟩ := h
  refine ⟨a, cap, e, h1, h2.imp id ?_⟩
  rintro ⟨g, o, ha, hc⟩
  refine ⟨g, o, ha, fun i hi => ⟨(hc i hi).1, k.cell (hc i hi).2 fun e => ?_⟩⟩
  have e : g = rb := e
  subst e
  exact rd_no h0 hv (hc i hi).2
theorem Rd.go {lm : Nat} {W W' : World} {rb : Nat} {L : List ByteArray} {b : Bool} (h : Rd lm W rb L b) (k : Below W.heap.size W W') : Rd lm W' rb L b := by
  obtain ⟨v, h0, hr⟩ := h.is
  have hr' := hr
  obtain ⟨a, cap, e, h1, h2⟩ := hr'
  exact ⟨⟨v, (k.block rb (Array.getElem?_eq_some_iff.1 h0).1).trans h0, hr.ob h0 e (Ob.of k)⟩⟩
theorem Rd.drew {lm : Nat} {W : World} {rb : Nat} {L : List ByteArray} {b : Bool} (h : Rd lm W rb L b) (n : Nat) : Rd lm (W.drewN n) rb L b := ⟨h.is⟩
theorem Rd.bad {lm : Nat} {W : World} {rb : Nat} {L : List ByteArray} {b : Bool} (h : Rd lm W rb L b) : Rd lm (W.setCell ⟨rb, 1, none⟩ (.bool true)) rb L true ∧ Ob rb W (W.setCell ⟨rb, 1, none⟩ (.bool true)) := by
  obtain ⟨v, h0, hr⟩ := h.is
  have hr' := hr
  obtain ⟨a, cap, e, h1, h2⟩ := hr'
  have k := (Ob.refl rb W).set 1 (.bool true)
  exact ⟨⟨⟨v, heap_setCell_same W rb 1 _ _ _ h0, hr.ob h0 e k⟩⟩, k⟩
theorem Rd.rest {lm lm' : Nat} {W : World} {rb : Nat} {L L' : List ByteArray} {b : Bool} {v : Value} (h : Rd lm W rb L b) (hr : Rst lm' W v L') : Rd lm' (W.setCell ⟨rb, 0, none⟩ v) rb L' b ∧ Ob rb W (W.setCell ⟨rb, 0, none⟩ v) := by
  obtain ⟨v0, h0, a, cap, e, _, _⟩ := h.is
  have k := (Ob.refl rb W).set 0 v
  exact ⟨⟨⟨v, heap_setCell_same W rb 0 _ _ _ h0, hr.ob h0 e k⟩⟩, k⟩
theorem Rst.of {lm : Nat} {W : World} {g o n cap : Nat} {L : List ByteArray} (hn : L.length = n) (hc : n ≤ cap) (h : ∀ i, i < L.length → g < lm ∧ W.cell? ⟨g, o + i, none⟩ = some (.string (L.getD i ⟨#[]⟩))) : Rst lm W (.slice (some ⟨g, o, none⟩) n cap) L := by
  subst hn
  exact ⟨_, _, rfl, hc, .inr ⟨g, o, rfl, h⟩⟩
theorem Rd.mono {lm lm' : Nat} {W : World} {rb : Nat} {L : List ByteArray} {b : Bool} (h : Rd lm W rb L b) (hl : lm ≤ lm') : Rd lm' W rb L b := by
  obtain ⟨v, h0, a, cap, e, h1, h2⟩ := h.is
  refine ⟨⟨v, h0, a, cap, e, h1, h2.imp id ?_⟩⟩
  rintro ⟨g, o, ha, hc⟩
  exact ⟨g, o, ha, fun i hi => ⟨Nat.lt_of_lt_of_le (hc i hi).1 hl, (hc i hi).2⟩⟩
theorem Rd.str {lm : Nat} {W : World} {rb i g : Nat} {L : List ByteArray} {b : Bool} {x : ByteArray} (h : Rd lm W rb L b) (k : W.cell? ⟨g, i, none⟩ = some (.string x)) : g ≠ rb := by
  rintro rfl
  obtain ⟨v, h0, a, cap, e, h1, h2⟩ := h.is
  exact rd_no h0 e k
theorem Rd.far {lm : Nat} {W : World} {rb : Nat} {L : List ByteArray} {b : Bool} {p : Addr} {u : Value} (h : Rd lm W rb L b) (h1 : lm ≤ p.block) (h2 : rb < p.block) : Rd lm (W.setCell p u) rb L b := by
  obtain ⟨v, h0, a, cap, e, k1, k2⟩ := h.is
  refine ⟨⟨v, (Below.heap_setCell _ _ _ _ (by omega)).trans h0, a, cap, e, k1, k2.imp id ?_⟩⟩
  rintro ⟨g, o, ha, hc⟩
  refine ⟨g, o, ha, fun i hi => ⟨(hc i hi).1, ?_⟩⟩
  have hg := (hc i hi).1
  exact (World.cell?_of_block (w := W) (Below.heap_setCell _ _ _ _ (by show g ≠ _; omega))).trans (hc i hi).2
theorem bt_eq (a b : ByteArray) : (a.toList == b.toList) = decide (a = b) := by
  rw [ByteArray.toList_eq, ByteArray.toList_eq]
  by_cases h : a = b
  · simp [h]
  have k : a.data.toList ≠ b.data.toList := fun e => h (by cases a; cases b; congr; exact Array.toList_inj.1 e)
  rw [decide_eq_false h]
  exact beq_eq_false_iff_ne.2 k
def hdT (L : List ByteArray) : ByteArray := L.headD ⟨#[]⟩
set_option maxHeartbeats 1000000 in
theorem word_none {lm : Nat} (rb : Nat) (b : Bool) (w : World) (h : Rd lm w rb [] b) :
    Calls Tryz.prog 89 #[.pointer (some ⟨rb, 0, none⟩)] w fun e w' => e = .returned (.string ⟨#[]⟩) ∧ Rd lm w' rb [] true ∧ Ob rb w w' := by
  have HB : Hid _ := h.bad
  obtain ⟨a, cap, x0, x1, f0, f1, hn, hc⟩ := h.cells
  clear h hc
  rw [List.length_nil] at x0 hn
  go_enter Tryz.func89, Tryz.ntmps89
  go_wp2_with fail
  exact bodyPost_ret (v := .string ⟨#[]⟩) (by simp [results, Tryz.results89, go_sem]) rfl ⟨rfl, HB.out⟩
set_option maxHeartbeats 1000000 in
theorem word_some {lm : Nat} (rb : Nat) (x : ByteArray) (L : List ByteArray) (b : Bool) (w : World) (h : Rd lm w rb (x :: L) b) :
    Calls Tryz.prog 89 #[.pointer (some ⟨rb, 0, none⟩)] w fun e w' => e = .returned (.string x) ∧ Rd lm w' rb L b ∧ Ob rb w w' := by
  have HR : Hid _ := h
  obtain ⟨a, cap, x0, x1, f0, f1, hn, hc⟩ := h.cells
  clear h
  rcases hc with ⟨_, q, _⟩ | ⟨g, o, rfl, hc⟩
  · cases q
  have HC : Hid _ := hc
  have y0 := (hc 0 (by simp)).2
  rw [Nat.add_zero] at y0
  have y0 : w.cell? ⟨g, o, none⟩ = some (.string x) := y0
  clear hc
  rw [List.length_cons] at x0 hn
  obtain ⟨n, en⟩ : ∃ n, n = L.length := ⟨_, rfl⟩
  rw [← en] at x0 hn
  have HN : Hid _ := en
  clear en
  have c1 : ((n + 1 : Nat) : Int) ≠ 0 := by omega
  by_cases hcap : cap = 1
  · subst hcap
    have e0 : n = 0 := by omega
    subst e0
    go_enter Tryz.func89, Tryz.ntmps89
    go_wp2_with fail
    exact bodyPost_ret (v := .string x) (by simp [results, Tryz.results89, go_sem]) rfl ⟨rfl, HR.out.rest (Rst.of HN.out.symm (by omega) fun i hi => by have := HN.out; omega)⟩
  go_enter Tryz.func89, Tryz.ntmps89
  go_wp2_with fail
  exact bodyPost_ret (v := .string x) (by simp [results, Tryz.results89, go_sem]) rfl ⟨rfl, HR.out.rest (Rst.of HN.out.symm (by omega) fun i hi => by have := HC.out (i + 1) (by simp; omega); rw [show o + (i + 1) = o + 1 + i by omega] at this; exact this)⟩
theorem word_any {lm : Nat} (rb : Nat) (L : List ByteArray) (b : Bool) (w : World) (h : Rd lm w rb L b) :
    Calls Tryz.prog 89 #[.pointer (some ⟨rb, 0, none⟩)] w fun e w' => e = .returned (.string (hdT L)) ∧ Rd lm w' rb L.tail (b || L.isEmpty) ∧ Ob rb w w' := by
  cases L with
  | nil => 
    rw [show (b || ([] : List ByteArray).isEmpty) = true by simp]
    exact word_none rb b w h
  | cons x L =>
    rw [show (b || (x :: L).isEmpty) = b by simp]
    exact word_some rb x L b w h
set_option maxHeartbeats 1000000 in
theorem name_any {lm : Nat} (rb : Nat) (s : ByteArray) (L : List ByteArray) (b : Bool) (w : World) (h : Rd lm w rb L b) :
    Calls Tryz.prog 83 #[.pointer (some ⟨rb, 0, none⟩), .string s] w fun e w' => e = .returned (.tuple #[]) ∧ Rd lm w' rb L.tail (b || L.isEmpty || decide (hdT L ≠ s)) ∧ Ob rb w w' := by
  go_enter Tryz.func83, Tryz.ntmps83
  go_wp2_with fail
  refine (word_any rb L b w h).mono ?_
  rintro e w1 ⟨rfl, hr, ho⟩
  have HR : Hid _ := hr
  have HO : Hid _ := ho
  obtain ⟨a, cap, x0, x1, f0, f1, _, _⟩ := hr.cells
  clear hr ho h
  by_cases c : hdT L = s
  · have d : decide (hdT L ≠ s) = false := by simpa using c
    have d1 : ((hdT L).toList == s.toList) = true := by rw [bt_eq]; simpa using c
    go_wp2_with fail
    exact bodyPost_end (v := .tuple #[]) (by simp [results, Tryz.results83, go_sem]) rfl ⟨rfl, by rw [d, Bool.or_false]; exact HR.out, HO.out⟩
  have d : decide (hdT L ≠ s) = true := by simpa using c
  have d1 : ((hdT L).toList == s.toList) = false := by rw [bt_eq]; simpa using c
  go_wp2_with fail
  exact bodyPost_end (v := .tuple #[]) (by simp [results, Tryz.results83, go_sem]) rfl ⟨rfl, by rw [d, Bool.or_true]; exact HR.out.bad.1, HO.out.trans HR.out.bad.2⟩
set_option maxHeartbeats 1000000 in
theorem done_any {lm : Nat} (rb : Nat) (L : List ByteArray) (b : Bool) (w : World) (h : Rd lm w rb L b) :
    Calls Tryz.prog 51 #[.pointer (some ⟨rb, 0, none⟩)] w fun e w' => e = .returned (.bool (!b && L.isEmpty)) ∧ w' = w := by
  obtain ⟨a, cap, x0, x1, f0, f1, _, _⟩ := h.cells
  clear h
  obtain ⟨n, hn⟩ : ∃ n, L.length = n := ⟨_, rfl⟩
  rw [hn] at x0
  have e : L.isEmpty = decide (n = 0) := by cases L <;> simp at hn ⊢ <;> omega
  rw [e]
  clear hn e
  cases b
  · by_cases c : n = 0
    · subst c
      go_enter Tryz.func51, Tryz.ntmps51
      go_wp2_with fail
      exact bodyPost_ret (v := .bool true) (by simp [results, Tryz.results51, go_sem]) rfl ⟨by simp, rfl⟩
    have c1 : ((n : Nat) : Int) ≠ 0 := by omega
    go_enter Tryz.func51, Tryz.ntmps51
    go_wp2_with fail
    exact bodyPost_ret (v := .bool false) (by simp [results, Tryz.results51, go_sem]; exact c) rfl ⟨by simp; exact c, rfl⟩
  go_enter Tryz.func51, Tryz.ntmps51
  go_wp2_with fail
  exact bodyPost_ret (v := .bool false) (by simp [results, Tryz.results51, go_sem]) rfl ⟨by simp, rfl⟩
def kdV (x : ByteArray) : Int := if x = kindT 1 then 1 else if x = kindT 2 then 2 else if x = kindT 3 then 3 else if x = kindT 4 then 4 else if x = kindT 5 then 5 else if x = kindT 6 then 6 else 0
theorem kdV_at {x : ByteArray} {k : Nat} (h : ∀ i, i < k → 1 ≤ i → x ≠ kindT i) (e : x = kindT k) (h1 : 1 ≤ k) (h7 : k < 7) : kdV x = (k : Int) := by
  unfold kdV
  match k, h, e, h1, h7 with
  | 1, h, e, _, _ => rw [if_pos e]; rfl
  | 2, h, e, _, _ => rw [if_neg (h 1 (by omega) (by omega)), if_pos e]; rfl
  | 3, h, e, _, _ => rw [if_neg (h 1 (by omega) (by omega)), if_neg (h 2 (by omega) (by omega)), if_pos e]; rfl
  | 4, h, e, _, _ => rw [if_neg (h 1 (by omega) (by omega)), if_neg (h 2 (by omega) (by omega)), if_neg (h 3 (by omega) (by omega)), if_pos e]; rfl
  | 5, h, e, _, _ => rw [if_neg (h 1 (by omega) (by omega)), if_neg (h 2 (by omega) (by omega)), if_neg (h 3 (by omega) (by omega)), if_neg (h 4 (by omega) (by omega)), if_pos e]; rfl
  | 6, h, e, _, _ => rw [if_neg (h 1 (by omega) (by omega)), if_neg (h 2 (by omega) (by omega)), if_neg (h 3 (by omega) (by omega)), if_neg (h 4 (by omega) (by omega)), if_neg (h 5 (by omega) (by omega)), if_pos e]; rfl
theorem kdV_no {x : ByteArray} (h : ∀ i, i < 7 → 1 ≤ i → x ≠ kindT i) : kdV x = 0 := by
  unfold kdV
  rw [if_neg (h 1 (by omega) (by omega)), if_neg (h 2 (by omega) (by omega)), if_neg (h 3 (by omega) (by omega)), if_neg (h 4 (by omega) (by omega)), if_neg (h 5 (by omega) (by omega)), if_neg (h 6 (by omega) (by omega))]
theorem KN.ob {lm : Nat} {w W : World} {rb : Nat} {L : List ByteArray} {b : Bool} (h : KN w) (hr : Rd lm w rb L b) (k : Ob rb w W) : KN W := fun i hi => by
  refine k.cell (h i hi) fun e => ?_
  obtain ⟨v, h0, a, cap, hv, _⟩ := hr.is
  have h1 := h i hi
  have e : 0 = rb := e
  rw [← e] at h0
  exact rd_no h0 hv h1
set_option maxHeartbeats 2000000 in
theorem kind_any {lm : Nat} (rb : Nat) (L : List ByteArray) (b : Bool) (w : World) (h : Rd lm w rb L b) (hk : KN w) :
    Calls Tryz.prog 84 #[.pointer (some ⟨rb, 0, none⟩)] w fun e w' => e = .returned (.int .i64 (kdV (hdT L))) ∧ Rd lm w' rb L.tail (b || L.isEmpty || decide (kdV (hdT L) = 0)) ∧ Ob rb w w' := by
  have HKN : Hid _ := hk
  clear hk
  go_enter Tryz.func84, Tryz.ntmps84
  go_wp2_with fail
  refine (word_any rb L b w h).mono ?_
  rintro e w1 ⟨rfl, hr, ho⟩
  have hk := KN.ob HKN.out h ho
  have HR : Hid _ := hr
  have HO : Hid _ := ho
  obtain ⟨a, cap, x0, x1, f0, f1, _, _⟩ := hr.cells
  clear hr ho h HKN
  obtain ⟨X, hX⟩ : ∃ X, hdT L = X := ⟨_, rfl⟩
  rw [hX]
  have HXL : Hid _ := hX
  clear hX
  have n0 := hk 0 (by omega)
  have n1 := hk 1 (by omega)
  have n2 := hk 2 (by omega)
  have n3 := hk 3 (by omega)
  have n4 := hk 4 (by omega)
  have n5 := hk 5 (by omega)
  have n6 := hk 6 (by omega)
  clear hk
  go_wp2_with fail
  go_loopw [9] (fun t wr => ∃ k : Int, 0 ≤ k ∧ k ≤ 7 ∧ t = .int .i64 k ∧ wr = w1 ∧ Hid (∀ i : Nat, (i : Int) < k → 1 ≤ i → X ≠ kindT i)) (fun t _ => 7 - (intOf t).toNat)
  case atStart => exact ⟨0, by omega, by omega, rfl, rfl, fun i hi => by omega⟩
  case round =>
    obtain ⟨k, hk0, hk, rfl, rfl, HA⟩ := hrel
    rcases (show k = 0 ∨ k = 1 ∨ k = 2 ∨ k = 3 ∨ k = 4 ∨ k = 5 ∨ k = 6 ∨ k = 7 by omega) with ek | ek | ek | ek | ek | ek | ek | ek
    · subst ek
      have ix : ∀ w, (Instr.index 58 (.agg #[.string (kindT 0), .string (kindT 1), .string (kindT 2), .string (kindT 3), .string (kindT 4), .string (kindT 5), .string (kindT 6)]) (.int .i64 0)).run Tryz.prog w = .ok (.string (kindT 0)) w := fun _ => by kernel_rfl
      by_cases c : X = kindT 0
      · have d1 : (X.toList == (kindT 0).toList) = true := by rw [bt_eq]; simpa using c
        have d2 : (X.toList == ([] : List UInt8)) = true := by rw [c, ByteArray.toList_eq]; rfl
        have HA' : Hid (∀ i : Nat, (i : Int) < 1 → 1 ≤ i → X ≠ kindT i) := fun i hi h1 => by omega
        clear c
        go_wp2_with fail
        go_roundw
        case rel => exact ⟨1, by omega, by omega, rfl, trivial, HA'⟩
        case measure => simp [intOf]
      have d1 : (X.toList == (kindT 0).toList) = false := by rw [bt_eq]; simpa using c
      have HA' : Hid (∀ i : Nat, (i : Int) < 1 → 1 ≤ i → X ≠ kindT i) := fun i hi h1 => by
        by_cases e : i = 0
        · rw [e]; exact c
        exact HA.out i (by omega) h1
      clear c
      go_wp2_with fail
      go_roundw
      case rel => exact ⟨1, by omega, by omega, rfl, trivial, HA'⟩
      case measure => simp [intOf]
    · subst ek
      have ix : ∀ w, (Instr.index 58 (.agg #[.string (kindT 0), .string (kindT 1), .string (kindT 2), .string (kindT 3), .string (kindT 4), .string (kindT 5), .string (kindT 6)]) (.int .i64 1)).run Tryz.prog w = .ok (.string (kindT 1)) w := fun _ => by kernel_rfl
      by_cases c : X = kindT 1
      · have d1 : (X.toList == (kindT 1).toList) = true := by rw [bt_eq]; simpa using c
        have d2 : (X.toList == ([] : List UInt8)) = false := by rw [c, ByteArray.toList_eq]; rfl
        have HK : Hid (kdV X = 1) := kdV_at (k := 1) (fun i hi => HA.out i (by omega)) c (by omega) (by omega)
        clear c
        go_wp2_with fail
        exact bodyPost_ret (v := .int .i64 1) (by simp [results, Tryz.results84, go_sem]) rfl ⟨by rw [HXL.out, HK.out], by rw [HXL.out, HK.out]; simpa using HR.out, HO.out⟩
      have d1 : (X.toList == (kindT 1).toList) = false := by rw [bt_eq]; simpa using c
      have HA' : Hid (∀ i : Nat, (i : Int) < 2 → 1 ≤ i → X ≠ kindT i) := fun i hi h1 => by
        by_cases e : i = 1
        · rw [e]; exact c
        exact HA.out i (by omega) h1
      clear c
      go_wp2_with fail
      go_roundw
      case rel => exact ⟨2, by omega, by omega, rfl, trivial, HA'⟩
      case measure => simp [intOf]
    · subst ek
      have ix : ∀ w, (Instr.index 58 (.agg #[.string (kindT 0), .string (kindT 1), .string (kindT 2), .string (kindT 3), .string (kindT 4), .string (kindT 5), .string (kindT 6)]) (.int .i64 2)).run Tryz.prog w = .ok (.string (kindT 2)) w := fun _ => by kernel_rfl
      by_cases c : X = kindT 2
      · have d1 : (X.toList == (kindT 2).toList) = true := by rw [bt_eq]; simpa using c
        have d2 : (X.toList == ([] : List UInt8)) = false := by rw [c, ByteArray.toList_eq]; rfl
        have HK : Hid (kdV X = 2) := kdV_at (k := 2) (fun i hi => HA.out i (by omega)) c (by omega) (by omega)
        clear c
        go_wp2_with fail
        exact bodyPost_ret (v := .int .i64 2) (by simp [results, Tryz.results84, go_sem]) rfl ⟨by rw [HXL.out, HK.out], by rw [HXL.out, HK.out]; simpa using HR.out, HO.out⟩
      have d1 : (X.toList == (kindT 2).toList) = false := by rw [bt_eq]; simpa using c
      have HA' : Hid (∀ i : Nat, (i : Int) < 3 → 1 ≤ i → X ≠ kindT i) := fun i hi h1 => by
        by_cases e : i = 2
        · rw [e]; exact c
        exact HA.out i (by omega) h1
      clear c
      go_wp2_with fail
      go_roundw
      case rel => exact ⟨3, by omega, by omega, rfl, trivial, HA'⟩
      case measure => simp [intOf]
    · subst ek
      have ix : ∀ w, (Instr.index 58 (.agg #[.string (kindT 0), .string (kindT 1), .string (kindT 2), .string (kindT 3), .string (kindT 4), .string (kindT 5), .string (kindT 6)]) (.int .i64 3)).run Tryz.prog w = .ok (.string (kindT 3)) w := fun _ => by kernel_rfl
      by_cases c : X = kindT 3
      · have d1 : (X.toList == (kindT 3).toList) = true := by rw [bt_eq]; simpa using c
        have d2 : (X.toList == ([] : List UInt8)) = false := by rw [c, ByteArray.toList_eq]; rfl
        have HK : Hid (kdV X = 3) := kdV_at (k := 3) (fun i hi => HA.out i (by omega)) c (by omega) (by omega)
        clear c
        go_wp2_with fail
        exact bodyPost_ret (v := .int .i64 3) (by simp [results, Tryz.results84, go_sem]) rfl ⟨by rw [HXL.out, HK.out], by rw [HXL.out, HK.out]; simpa using HR.out, HO.out⟩
      have d1 : (X.toList == (kindT 3).toList) = false := by rw [bt_eq]; simpa using c
      have HA' : Hid (∀ i : Nat, (i : Int) < 4 → 1 ≤ i → X ≠ kindT i) := fun i hi h1 => by
        by_cases e : i = 3
        · rw [e]; exact c
        exact HA.out i (by omega) h1
      clear c
      go_wp2_with fail
      go_roundw
      case rel => exact ⟨4, by omega, by omega, rfl, trivial, HA'⟩
      case measure => simp [intOf]
    · subst ek
      have ix : ∀ w, (Instr.index 58 (.agg #[.string (kindT 0), .string (kindT 1), .string (kindT 2), .string (kindT 3), .string (kindT 4), .string (kindT 5), .string (kindT 6)]) (.int .i64 4)).run Tryz.prog w = .ok (.string (kindT 4)) w := fun _ => by kernel_rfl
      by_cases c : X = kindT 4
      · have d1 : (X.toList == (kindT 4).toList) = true := by rw [bt_eq]; simpa using c
        have d2 : (X.toList == ([] : List UInt8)) = false := by rw [c, ByteArray.toList_eq]; rfl
        have HK : Hid (kdV X = 4) := kdV_at (k := 4) (fun i hi => HA.out i (by omega)) c (by omega) (by omega)
        clear c
        go_wp2_with fail
        exact bodyPost_ret (v := .int .i64 4) (by simp [results, Tryz.results84, go_sem]) rfl ⟨by rw [HXL.out, HK.out], by rw [HXL.out, HK.out]; simpa using HR.out, HO.out⟩
      have d1 : (X.toList == (kindT 4).toList) = false := by rw [bt_eq]; simpa using c
      have HA' : Hid (∀ i : Nat, (i : Int) < 5 → 1 ≤ i → X ≠ kindT i) := fun i hi h1 => by
        by_cases e : i = 4
        · rw [e]; exact c
        exact HA.out i (by omega) h1
      clear c
      go_wp2_with fail
      go_roundw
      case rel => exact ⟨5, by omega, by omega, rfl, trivial, HA'⟩
      case measure => simp [intOf]
    · subst ek
      have ix : ∀ w, (Instr.index 58 (.agg #[.string (kindT 0), .string (kindT 1), .string (kindT 2), .string (kindT 3), .string (kindT 4), .string (kindT 5), .string (kindT 6)]) (.int .i64 5)).run Tryz.prog w = .ok (.string (kindT 5)) w := fun _ => by kernel_rfl
      by_cases c : X = kindT 5
      · have d1 : (X.toList == (kindT 5).toList) = true := by rw [bt_eq]; simpa using c
        have d2 : (X.toList == ([] : List UInt8)) = false := by rw [c, ByteArray.toList_eq]; rfl
        have HK : Hid (kdV X = 5) := kdV_at (k := 5) (fun i hi => HA.out i (by omega)) c (by omega) (by omega)
        clear c
        go_wp2_with fail
        exact bodyPost_ret (v := .int .i64 5) (by simp [results, Tryz.results84, go_sem]) rfl ⟨by rw [HXL.out, HK.out], by rw [HXL.out, HK.out]; simpa using HR.out, HO.out⟩
      have d1 : (X.toList == (kindT 5).toList) = false := by rw [bt_eq]; simpa using c
      have HA' : Hid (∀ i : Nat, (i : Int) < 6 → 1 ≤ i → X ≠ kindT i) := fun i hi h1 => by
        by_cases e : i = 5
        · rw [e]; exact c
        exact HA.out i (by omega) h1
      clear c
      go_wp2_with fail
      go_roundw
      case rel => exact ⟨6, by omega, by omega, rfl, trivial, HA'⟩
      case measure => simp [intOf]
    · subst ek
      have ix : ∀ w, (Instr.index 58 (.agg #[.string (kindT 0), .string (kindT 1), .string (kindT 2), .string (kindT 3), .string (kindT 4), .string (kindT 5), .string (kindT 6)]) (.int .i64 6)).run Tryz.prog w = .ok (.string (kindT 6)) w := fun _ => by kernel_rfl
      by_cases c : X = kindT 6
      · have d1 : (X.toList == (kindT 6).toList) = true := by rw [bt_eq]; simpa using c
        have d2 : (X.toList == ([] : List UInt8)) = false := by rw [c, ByteArray.toList_eq]; rfl
        have HK : Hid (kdV X = 6) := kdV_at (k := 6) (fun i hi => HA.out i (by omega)) c (by omega) (by omega)
        clear c
        go_wp2_with fail
        exact bodyPost_ret (v := .int .i64 6) (by simp [results, Tryz.results84, go_sem]) rfl ⟨by rw [HXL.out, HK.out], by rw [HXL.out, HK.out]; simpa using HR.out, HO.out⟩
      have d1 : (X.toList == (kindT 6).toList) = false := by rw [bt_eq]; simpa using c
      have HA' : Hid (∀ i : Nat, (i : Int) < 7 → 1 ≤ i → X ≠ kindT i) := fun i hi h1 => by
        by_cases e : i = 6
        · rw [e]; exact c
        exact HA.out i (by omega) h1
      clear c
      go_wp2_with fail
      go_roundw
      case rel => exact ⟨7, by omega, by omega, rfl, trivial, HA'⟩
      case measure => simp [intOf]
    subst ek
    have HK : Hid (kdV X = 0) := kdV_no fun i hi => HA.out i (by omega)
    go_wp2_with fail
    exact bodyPost_ret (v := .int .i64 0) (by simp [results, Tryz.results84, go_sem]) rfl ⟨by rw [HXL.out, HK.out], by rw [HXL.out, HK.out]; simpa using HR.out.bad.1, HO.out.trans HR.out.bad.2⟩
def bareT (x : ByteArray) : ByteArray := ⟨(Lib.trimPrefix x.data.toList [45]).toArray⟩
def firstB (x : ByteArray) : Nat := (x.data.toList.headD 0).toNat
def nvV (x : ByteArray) : Option Int := match Lib.atoiAll x.data.toList with
  | .ok v => if firstB x = 43 ∨ (firstB (bareT x) = 48 ∧ 1 < (bareT x).size) then none else some v
  | _ => none
theorem first_at {x : ByteArray} (h : 0 < x.size) : (x[0]'h).toNat = firstB x := by
  cases x with
  | mk d =>
    have h' : 0 < d.size := h
    show (d[0]'h').toNat = (d.toList.headD 0).toNat
    congr 1
    rw [← Array.getElem_toList (h := by simpa using h')]
    have q : ∀ (l : List UInt8) (h : 0 < l.length), l[0]'h = l.headD 0 := fun l h => by
      cases l with
      | nil => simp at h
      | cons a l => rfl
    exact q _ _
theorem atoi_pos {x : ByteArray} {v : Int} (h : Lib.atoiAll x.data.toList = .ok v) : 0 < x.size ∧ 0 < (bareT x).size := by
  have e : x.size = x.data.toList.length := by rw [Array.length_toList]; rfl
  have e2 : (bareT x).size = (Lib.trimPrefix x.data.toList [45]).length := by
    show (Lib.trimPrefix x.data.toList [45]).toArray.size = _
    simp
  rw [e, e2]
  generalize x.data.toList = l at h
  match l, h with
  | [], h => cases h
  | [c], h =>
    refine ⟨by simp, ?_⟩
    by_cases q : c = 45
    · subst q
      have e3 : Lib.atoiAll [45] = .«syntax» := by rfl
      rw [e3] at h
      cases h
    simp [Lib.trimPrefix, Lib.hasPrefix]
    rw [if_neg (fun e => q e.symm)]
    simp
  | c :: d :: r, h =>
    refine ⟨by simp, ?_⟩
    unfold Lib.trimPrefix
    split <;> simp
structure EV (w : World) : Prop where
  s : ∃ ev, w.cell? ⟨5, 0, none⟩ = some ev ∧ (ev = .nilIface ∨ ∃ te pe, ev = .iface te pe)
  r : ∃ ev, w.cell? ⟨6, 0, none⟩ = some ev ∧ (ev = .nilIface ∨ ∃ te pe, ev = .iface te pe)
theorem EV.go {w W : World} (h : EV w) (hB : Below w.heap.size w W) : EV W := by
  obtain ⟨⟨e1, a1, b1⟩, ⟨e2, a2, b2⟩⟩ := h
  exact ⟨⟨e1, bc_cell hB a1, b1⟩, ⟨e2, bc_cell hB a2, b2⟩⟩
theorem Rd.ifc {lm : Nat} {W : World} {rb i g : Nat} {L : List ByteArray} {b : Bool} {ev : Value} (h : Rd lm W rb L b) (k : W.cell? ⟨g, i, none⟩ = some ev) (he : ev = .nilIface ∨ ∃ te pe, ev = .iface te pe) : g ≠ rb := by
  rintro rfl
  obtain ⟨v, h0, a, cap, e, h1, h2⟩ := h.is
  subst e
  simp only [World.cell?, h0] at k
  match i, k with
  | 0, k => rcases he with rfl | ⟨te, pe, rfl⟩ <;> simp at k
  | 1, k => rcases he with rfl | ⟨te, pe, rfl⟩ <;> simp at k
  | i + 2, k => simp at k
theorem EV.ob {lm : Nat} {w W : World} {rb : Nat} {L : List ByteArray} {b : Bool} (h : EV w) (hr : Rd lm w rb L b) (k : Ob rb w W) : EV W := by
  obtain ⟨⟨e1, a1, b1⟩, ⟨e2, a2, b2⟩⟩ := h
  exact ⟨⟨e1, k.cell a1 (hr.ifc a1 b1), b1⟩, ⟨e2, k.cell a2 (hr.ifc a2 b2), b2⟩⟩
set_option maxHeartbeats 1000000 in
theorem number_any {lm : Nat} (rb : Nat) (L : List ByteArray) (b : Bool) (w : World) (h : Rd lm w rb L b) (hs : (hdT L).size ≤ 4096) (he : EV w) :
    Calls Tryz.prog 86 #[.pointer (some ⟨rb, 0, none⟩)] w fun e w' => e = .returned (.int .i64 ((nvV (hdT L)).getD 0)) ∧ Rd lm w' rb L.tail (b || L.isEmpty || (nvV (hdT L)).isNone) ∧ Ob rb w w' := by
  go_enter Tryz.func86, Tryz.ntmps86
  go_wp2_with fail
  refine (word_any rb L b w h).mono ?_
  rintro e w1 ⟨rfl, hr, ho⟩
  have HR : Hid _ := hr
  have HO : Hid _ := ho
  have HE : Hid _ := he.ob h ho
  clear hr ho h he
  obtain ⟨X, hX⟩ : ∃ X, hdT L = X := ⟨_, rfl⟩
  rw [hX] at hs
  have HXL : Hid (∀ (q : Option Int) (w' : World), nvV X = q → (Rd lm w' rb L.tail (b || L.isEmpty || q.isNone) ∧ Ob rb w w') → ∀ z : Int, z = q.getD 0 → Ending.returned (.int .i64 z) = Ending.returned (.int .i64 ((nvV (hdT L)).getD 0)) ∧ Rd lm w' rb L.tail (b || L.isEmpty || (nvV (hdT L)).isNone) ∧ Ob rb w w') := fun q w' e1 e2 z hz => by
    rw [hX, e1, hz]
    exact ⟨rfl, e2⟩
  rw [hX]
  clear hX
  have HBAD : Hid (∀ w', Below w1.heap.size w1 w' → Rd lm (w'.setCell ⟨rb, 1, none⟩ (.bool true)) rb L.tail true ∧ Ob rb w (w'.setCell ⟨rb, 1, none⟩ (.bool true))) := fun w' hb => by
    have q := (HR.out.go hb).bad
    exact ⟨q.1, (HO.out.go hb).trans q.2⟩
  have HCEL : Hid (∀ w', Below w1.heap.size w1 w' → w'.cell? ⟨rb, 1, none⟩ = some (.bool (b || L.isEmpty)) ∧ w'.frozen? ⟨rb, 1, none⟩ = false) := fun w' hb => by
    obtain ⟨a, cap, x0, x1, f0, f1, _, _⟩ := (HR.out.go hb).cells
    exact ⟨x1, f1⟩
  cases hA : Lib.atoiAll X.data.toList with
  | ok v =>
    have HP : Hid _ := atoi_pos hA
    go_wp2_with fail
    refine (Tryz.strconv_Atoi_ok X (by omega) v hA _).mono ?_
    rintro e w2 ⟨rfl, hw2⟩
    have HB : Hid (Below w1.heap.size w1 w2) := by
      rcases hw2 with rfl | ⟨t, rfl⟩
      · exact bel_refl _
      exact ⟨rfl, rfl, rfl, by rw [Lib.bytesWorld_size]; omega, fun k hk => Lib.bytesWorld_at_old _ _ _ k (by omega)⟩
    have HN : Hid (nvV X = if firstB X = 43 ∨ (firstB (bareT X) = 48 ∧ 1 < (bareT X).size) then none else some v) := by
      show _ = _
      unfold nvV
      rw [hA]
    clear hw2 hA
    go_wp2_with fail
    refine (Tryz.strings_TrimPrefix X ⟨#[45]⟩ _).mono ?_
    rintro e w3 ⟨rfl, rfl⟩
    obtain ⟨y, hy⟩ : ∃ y, y = bareT X := ⟨_, rfl⟩
    rw [show (⟨(Lib.trimPrefix X.data.toList (⟨#[45]⟩ : ByteArray).data.toList).toArray⟩ : ByteArray) = y from hy.symm]
    have HY : Hid _ := hy
    have k3 := HP.out.1
    have k5 := HP.out.2
    rw [← hy] at k5
    rw [← hy] at HN
    clear hy
    have p1 := first_at k3
    have p2 := first_at k5
    obtain ⟨c1, c2⟩ := HCEL.out w3 HB.out
    by_cases d1 : firstB X = 43
    · have q1 : ((X[0]'k3).toNat : Int) = 43 := by omega
      have HN2 : Hid (nvV X = none) := by show _ = _; rw [HN.out, if_pos (.inl d1)]
      clear d1 HN p1 p2
      go_wp2_with fail
      exact bodyPost_ret (v := .int .i64 0) (by simp [results, Tryz.results86, go_sem]) rfl (HXL.out _ _ HN2.out (by simpa using HBAD.out _ HB.out) _ rfl)
    have q1 : ¬ ((X[0]'k3).toNat : Int) = 43 := by omega
    by_cases d2 : firstB y = 48
    · have q2 : ((y[0]'k5).toNat : Int) = 48 := by omega
      by_cases d3 : 1 < y.size
      · have q3 : (1 : Int) < (y.size : Int) := by omega
        have HN2 : Hid (nvV X = none) := by show _ = _; rw [HN.out, if_pos (.inr ⟨d2, d3⟩)]
        clear d1 d2 d3 HN p1 p2
        go_wp2_with fail
        exact bodyPost_ret (v := .int .i64 0) (by simp [results, Tryz.results86, go_sem]) rfl (HXL.out _ _ HN2.out (by simpa using HBAD.out _ HB.out) _ rfl)
      have q4 : y.size = 1 := by omega
      have q3 : ¬ (1 : Int) < (y.size : Int) := by omega
      have HN2 : Hid (nvV X = some v) := by show _ = _; rw [HN.out, if_neg (by rintro (q | ⟨q, q'⟩); exact d1 q; exact d3 q')]
      clear d1 d2 d3 HN p1 p2
      go_wp2_with fail
      exact bodyPost_ret (v := .int .i64 v) (by simp [results, Tryz.results86, go_sem]) rfl (HXL.out _ _ HN2.out ⟨by simpa using HR.out.go HB.out, HO.out.go HB.out⟩ _ rfl)
    have q2 : ¬ ((y[0]'k5).toNat : Int) = 48 := by omega
    have HN2 : Hid (nvV X = some v) := by show _ = _; rw [HN.out, if_neg (by rintro (q | ⟨q, q'⟩); exact d1 q; exact d2 q)]
    clear d1 d2 HN p1 p2
    go_wp2_with fail
    exact bodyPost_ret (v := .int .i64 v) (by simp [results, Tryz.results86, go_sem]) rfl (HXL.out _ _ HN2.out ⟨by simpa using HR.out.go HB.out, HO.out.go HB.out⟩ _ rfl)
  | «syntax» =>
    have HN2 : Hid (nvV X = none) := by show _ = _; unfold nvV; rw [hA]
    obtain ⟨ev, hv, hev⟩ := HE.out.s
    go_wp2_with fail
    refine (Tryz.strconv_Atoi_syntax X (by omega) hA ev _ hv hev).mono ?_
    rintro e w2 ⟨N, rfl, _, _, hb⟩
    have HB : Hid _ := hb
    clear hb hv hA
    go_wp2_with fail
    refine (Tryz.strings_TrimPrefix X ⟨#[45]⟩ _).mono ?_
    rintro e w3 ⟨rfl, rfl⟩
    obtain ⟨y, hy⟩ : ∃ y, y = bareT X := ⟨_, rfl⟩
    rw [show (⟨(Lib.trimPrefix X.data.toList (⟨#[45]⟩ : ByteArray).data.toList).toArray⟩ : ByteArray) = y from hy.symm]
    obtain ⟨c1, c2⟩ := HCEL.out w3 HB.out
    clear hy
    go_wp2_with fail
    exact bodyPost_ret (v := .int .i64 0) (by simp [results, Tryz.results86, go_sem]) rfl (HXL.out _ _ HN2.out (by simpa using HBAD.out _ HB.out) _ rfl)
  | range =>
    have HN2 : Hid (nvV X = none) := by show _ = _; unfold nvV; rw [hA]
    obtain ⟨ev, hv, hev⟩ := HE.out.r
    go_wp2_with fail
    refine (Tryz.strconv_Atoi_range X (by omega) hA ev _ hv hev).mono ?_
    rintro e w2 ⟨N, rfl, _, _, hb⟩
    have HB : Hid _ := hb
    clear hb hv hA
    go_wp2_with fail
    refine (Tryz.strings_TrimPrefix X ⟨#[45]⟩ _).mono ?_
    rintro e w3 ⟨rfl, rfl⟩
    obtain ⟨y, hy⟩ : ∃ y, y = bareT X := ⟨_, rfl⟩
    rw [show (⟨(Lib.trimPrefix X.data.toList (⟨#[45]⟩ : ByteArray).data.toList).toArray⟩ : ByteArray) = y from hy.symm]
    obtain ⟨c1, c2⟩ := HCEL.out w3 HB.out
    clear hy
    go_wp2_with fail
    exact bodyPost_ret (v := .int .i64 0) (by simp [results, Tryz.results86, go_sem]) rfl (HXL.out _ _ HN2.out (by simpa using HBAD.out _ HB.out) _ rfl)
def arr (O : List ByteArray) : Nat → List ByteArray → List ByteArray → Bool → List ByteArray × Bool
  | 0, V, L, b => (V ++ L, b)
  | k + 1, V, L, b =>
    if Lib.idxOfS O (hdT L) < 0 then (L.tail, true)
    else if V.getD (Lib.idxOfS O (hdT L)).toNat ⟨#[]⟩ ≠ ⟨#[]⟩ then (L.tail, true)
    else arr O k (V.set (Lib.idxOfS O (hdT L)).toNat (hdT L.tail)) L.tail.tail (b || L.isEmpty || L.tail.isEmpty)
theorem idx_le (x : ByteArray) : ∀ (zs : List ByteArray) (i : Nat), Lib.idxFromS zs x i = -1 ∨ ((i : Int) ≤ Lib.idxFromS zs x i ∧ Lib.idxFromS zs x i < (i : Int) + zs.length)
  | [], i => .inl rfl
  | z :: zs, i => by
    rw [Lib.idxFromS]
    by_cases h : z = x
    · rw [if_pos h]; refine .inr ⟨by omega, ?_⟩; simp; omega
    rw [if_neg h]
    rcases idx_le x zs (i + 1) with q | q
    · exact .inl q
    refine .inr ⟨by omega, ?_⟩
    simp only [List.length_cons]
    omega
theorem idx_in (zs : List ByteArray) (x : ByteArray) : Lib.idxOfS zs x = -1 ∨ (0 ≤ Lib.idxOfS zs x ∧ Lib.idxOfS zs x < zs.length) := by
  rcases idx_le x zs 0 with q | q
  · exact .inl q
  exact .inr ⟨by have := q.1; unfold Lib.idxOfS; omega, by have := q.2; unfold Lib.idxOfS; omega⟩
structure Vl (W : World) (vb : Nat) (V : List ByteArray) : Prop where
  is : W.heap[vb]? = some (.cells (V.map Value.string).toArray 9)
theorem Vl.cell {W : World} {vb : Nat} {V : List ByteArray} (h : Vl W vb V) (i : Nat) (hi : i < V.length) : W.cell? ⟨vb, i, none⟩ = some (.string (V.getD i ⟨#[]⟩)) := by
  have h := h.is
  simp [World.cell?, h, hi, List.getD]
theorem Vl.frozen {W : World} {vb : Nat} {V : List ByteArray} (h : Vl W vb V) (i : Nat) : W.frozen? ⟨vb, i, none⟩ = false := by
  have h := h.is
  simp [World.frozen?, h]
theorem Vl.set {W : World} {vb : Nat} {V : List ByteArray} (h : Vl W vb V) (i : Nat) (x : ByteArray) : Vl (W.setCell ⟨vb, i, none⟩ (.string x)) vb (V.set i x) := by
  have := heap_setCell_same W vb i _ _ (.string x) h.is
  refine ⟨this.trans ?_⟩
  simp
theorem Vl.ob {W W' : World} {rb vb : Nat} {V : List ByteArray} (h : Vl W vb V) (k : Ob rb W W') (hn : vb ≠ rb) : Vl W' vb V :=
  ⟨(k.block vb (Array.getElem?_eq_some_iff.1 h.is).1 hn).trans h.is⟩
theorem Vl.or {W : World} {vb base n : Nat} {V : List ByteArray} (h : Vl W vb V) (hb : base ≤ vb) (hn : V.length = n) (hl : n ≤ 1000) : OR W 9 base (.slice (some ⟨vb, 0, none⟩) n n) n (tx V) := by
  subst hn
  refine .inr ⟨vb, V.length, tx V, rfl, hb, Nat.le_refl _, by simp [maxLen]; omega, ?_, fun i hi => rfl⟩
  exact ⟨_, h.is, by simp, fun i hi => by simp [tx, List.getD, hi]⟩
theorem makeT_at (n : Nat) (hm : n ≤ 1000) (w : World) :
    (Instr.makeSlice 59 (.int .i64 (n : Int)) (.int .i64 (n : Int))).run Tryz.prog w = .ok (.slice (some ⟨w.heap.size, 0, none⟩) n n) (w.alloc (.cells (madeCells #[.string ⟨#[]⟩] n) 9)) := by
  obtain ⟨i, hi, hz, hs, hb⟩ := info_parts Tryz.infoStr
  rw [run_make w 59 9 i (.string ⟨#[]⟩) Tryz.underlying59 hi hz .i64 .i64 n n (by omega) (by omega) (by rw [hb]; omega) (by omega), hs]
  rw [Nat.mul_one]
  rfl
theorem al_at (w : World) (o : Obj) : (w.alloc o).heap[w.heap.size]? = some o := Array.getElem?_push_size
theorem vl_made (w : World) (n : Nat) : Vl (w.alloc (.cells (madeCells #[.string ⟨#[]⟩] n) 9)) w.heap.size (List.replicate n ⟨#[]⟩) := by
  refine ⟨?_⟩
  have e : madeCells #[Value.string ⟨#[]⟩] n = ((List.replicate n (⟨#[]⟩ : ByteArray)).map Value.string).toArray := by
    rw [← Array.toList_inj, toList_madeCells_one]
    simp
  rw [e]
  exact al_at _ _
theorem wpList_append_noth {w : World} {ops : Array Oper} {rest : List Oper} {o : Oper} {ac : Act} {Q : Exit → Act → World → Prop} (hgd : o.guard = none) (s x : Operand)
    (ho : o.op = .call { callee := .builtin .append, args := #[s, x], argTypes := #[59, 59] }) (ad : Addr) (n : Nat) (hs : ac.eval s = .slice (some ad) n n) (a : Option Addr) (c : Nat) (hx : ac.eval x = .slice a 0 c)
    (h : wpList Tryz.prog ops Q rest (ac.put o.dst (.slice (some ad) n n)) w) : wpList Tryz.prog ops Q (o :: rest) ac w := by
  obtain ⟨i, hi, hzz, hsz, hb⟩ := info_parts Tryz.infoStr
  refine wpList_plain hgd fun K hK => ?_
  have hrun : (Builtin.append_ #[59, 59] o.type #[.slice (some ad) n n, .slice a 0 c]).run Tryz.prog w = .ok (.slice (some ad) n n) w := by
    cases a <;> simp [Builtin.append_, run_underlying Tryz.underlying59, sizeOf, typeInfo, hi, storeCells, Builtin.lenOf, Builtin.firstCells, loadCells, loadCellsFrom]
  unfold Oper.wp
  simp [execOp, ho, resolve, invoke, builtin, hs, hx, hrun, Result.andThen]
  exact hK _ _ h
theorem Rd.keep {lm M : Nat} {W W' : World} {rb : Nat} {L : List ByteArray} {b : Bool} (h : Rd lm W rb L b) (hk : ∀ k, k < M → W'.heap[k]? = W.heap[k]?) (h1 : rb < M) (h2 : lm ≤ M) : Rd lm W' rb L b := by
  obtain ⟨v, h0, a, cap, e, k1, k2⟩ := h.is
  refine ⟨⟨v, (hk _ h1).trans h0, a, cap, e, k1, k2.imp id ?_⟩⟩
  rintro ⟨g, o, ha, hc⟩
  refine ⟨g, o, ha, fun i hi => ⟨(hc i hi).1, ?_⟩⟩
  have hg := (hc i hi).1
  exact (World.cell?_of_block (w := W) (hk g (by omega))).trans (hc i hi).2
structure Ars (w1 wr : World) (lm rb n : Nat) (O L : List ByteArray) (b : Bool) (k : Nat) (V Lk : List ByteArray) (bk : Bool) : Prop where
  len : V.length = n
  eq : arr O n (List.replicate n ⟨#[]⟩) L b = arr O (n - k) V Lk bk
  le : Lk.length ≤ 1000000000
  rd : Rd lm wr rb Lk bk
  vl : Vl wr w1.heap.size V
  ob : Ob rb w1 wr
set_option maxHeartbeats 1000000 in
theorem arrange_any {lm : Nat} (rb : Nat) (s : ByteArray) (L : List ByteArray) (b : Bool) (w : World) (h : Rd lm w rb L b) (hlm : lm ≤ w.heap.size) (hs : s.size ≤ 1000000000) (h0 : 0 < (wordsL s).length) (hn : (wordsL s).length ≤ 1000) (hL : L.length ≤ 1000000000) :
    Calls Tryz.prog 85 #[.pointer (some ⟨rb, 0, none⟩), .string s] w fun e w' => e = .returned (.tuple #[]) ∧ Rd w'.heap.size w' rb (arr (wordsL s) (wordsL s).length (List.replicate (wordsL s).length ⟨#[]⟩) L b).1 (arr (wordsL s) (wordsL s).length (List.replicate (wordsL s).length ⟨#[]⟩) L b).2 ∧ Ob rb w w' := by
  have HR : Hid _ := h
  clear h
  go_enter Tryz.func85, Tryz.ntmps85
  go_wp2_with fail
  refine (words_any s _ (by omega)).mono ?_
  rintro e w1 ⟨v1, rfl, hO, hb1⟩
  obtain ⟨O, hOe⟩ : ∃ O, wordsL s = O := ⟨_, rfl⟩
  rw [hOe] at hO h0 hn
  have HOE : Hid _ := hOe
  clear hOe
  obtain ⟨g, c1, rfl, hnc, hcN⟩ := OR.row hO (by omega)
  obtain ⟨n, hln⟩ : ∃ n, O.length = n := ⟨_, rfl⟩
  have HLN : Hid _ := hln
  rw [hln] at hcN hnc hn h0
  rw [hln]
  have HCN : Hid _ := hcN
  have HB1 : Hid _ := hb1
  have HR1 : Hid _ := HR.out.go hb1
  have hsz1 := hb1.size
  have lrb := HR1.out.lt
  have mk := makeT_at n hn w1
  have HE : Hid (∀ R : List ByteArray × Bool, arr O n (List.replicate n ⟨#[]⟩) L b = R → ∀ w' : World, Rd w'.heap.size w' rb R.1 R.2 ∧ Ob rb w1 w' → Rd w'.heap.size w' rb (arr (wordsL s) (wordsL s).length (List.replicate (wordsL s).length ⟨#[]⟩) L b).1 (arr (wordsL s) (wordsL s).length (List.replicate (wordsL s).length ⟨#[]⟩) L b).2 ∧ Ob rb w w') := fun R hR w' ⟨k1, k2⟩ => by
    rw [HOE.out, HLN.out, hR]
    exact ⟨k1, (Ob.of HB1.out).trans k2⟩
  clear hO hcN hb1 hln HR
  go_wp2_with fail
  go_loopw [14] (fun t wr => ∃ (k : Nat) (V Lk : List ByteArray) (bk : Bool), k ≤ n ∧ t = .int .i64 (k : Int) ∧ Hid (Ars w1 wr lm rb n O L b k V Lk bk)) (fun t _ => n - (intOf t).toNat)
  case atStart =>
    exact ⟨0, List.replicate n ⟨#[]⟩, L, b, by omega, rfl, ⟨by simp, rfl, hL, HR1.out.go (bc_al (bel_refl _)), vl_made _ _, Ob.of (bc_al (bel_refl _))⟩⟩
  case round =>
    obtain ⟨k, V, Lk, bk, hk, rfl, HH⟩ := hrel
    clear mk
    by_cases e : k = n
    · subst e
      have HEQ : Hid (arr O k (List.replicate k ⟨#[]⟩) L b = (V ++ Lk, bk)) := by
        show _ = _
        rw [HH.out.eq, Nat.sub_self]
        rfl
      obtain ⟨a, cap, x0, x1, f0, f1, hcap, hc⟩ := HH.out.rd.cells
      have hszr := HH.out.ob.size
      have lvb : w1.heap.size < wr.heap.size := (Array.getElem?_eq_some_iff.1 HH.out.vl.is).1
      cases Lk with
      | nil =>
        rw [List.length_nil] at x0
        go_wp2_with (refine (id ?_ : wpList Tryz.prog _ _ (⟨some 44, _, _, _, _, _⟩ :: _) _ _); refine wpList_append_noth rfl (.tmp 39) (.tmp 43) rfl ⟨w1.heap.size, 0, none⟩ k rfl a cap rfl ?_)
        go_wp2_with fail
        refine bodyPost_end (v := .tuple #[]) (by simp [results, Tryz.results85, go_sem]) rfl ⟨rfl, HE.out _ HEQ.out _ ?_⟩
        have q := HH.out.rd.rest (lm' := wr.heap.size) (L' := V ++ []) (Rst.of (g := w1.heap.size) (o := 0) (cap := k) (by simp [HH.out.len]) (Nat.le_refl _) fun i hi => ⟨lvb, by rw [List.append_nil, Nat.zero_add]; exact HH.out.vl.cell i (by simpa using hi)⟩)
        refine ⟨?_, HH.out.ob.trans q.2⟩
        rw [show (wr.setCell ⟨rb, 0, none⟩ (.slice (some ⟨w1.heap.size, 0, none⟩) k k)).heap.size = wr.heap.size by simp [World.setCell]]
        exact q.1
      | cons y l =>
        obtain ⟨LK, hLK⟩ : ∃ LK, LK = y :: l := ⟨_, rfl⟩
        rw [← hLK] at x0 hcap hc HEQ HH
        have hpos : 0 < LK.length := by rw [hLK]; simp
        have hlen := HH.out.le
        rcases hc with ⟨_, q, _⟩ | ⟨g2, o2, rfl, hc⟩
        · rw [hLK] at q; cases q
        have HC : Hid _ := hc
        clear hc hLK
        have HOR : Hid (OR wr 9 w1.heap.size (.slice (some ⟨w1.heap.size, 0, none⟩) k k) V.length (tx V)) := by
          have := HH.out.vl.or (base := w1.heap.size) (Nat.le_refl _) HH.out.len hn
          rw [HH.out.len]
          exact this
        have hvl := HH.out.len
        have A1 : Hid (∀ j, j < LK.length → wr.cell? ((⟨g2, o2, none⟩ : Addr).add j) = some (tx LK j)) := fun j hj => by
          rw [show (⟨g2, o2, none⟩ : Addr).add j = ⟨g2, o2 + j, none⟩ by unfold Addr.add; split <;> simp_all]
          exact (HC.out j hj).2
        go_wp2_with (refine (id ?_ : wpList Tryz.prog _ _ (⟨some 44, _, _, _, _, _⟩ :: _) _ _); refine wpList_append_tx rfl (.tmp 39) (.tmp 43) rfl w1.heap.size _ V LK rfl HOR.out ⟨g2, o2, none⟩ cap rfl A1.out hpos (by omega) hszr ?_)
        intro g5 cap5 w5 ho hg hor hlt5
        have B5 : Hid (Ob rb w1 w5) := by
          refine ⟨hg.os.trans HH.out.ob.os, hg.tape.trans HH.out.ob.tape, hg.output.trans HH.out.ob.output, Nat.le_trans hszr hg.size, fun k hk hne => ?_⟩
          exact (hg.block k (by omega) (by simp [Value.ownBlock]; omega)).trans (HH.out.ob.block k hk hne)
        have R5 : Hid (Rd lm w5 rb LK bk) := HH.out.rd.keep (M := w1.heap.size) (fun k hk => hg.block k (by omega) (by simp [Value.ownBlock]; omega)) lrb (by omega)
        obtain ⟨hc5, hv5⟩ := OR.sliced ho (by simp; omega)
        have I5 : Hid _ := hv5
        obtain ⟨a9, cap9, y0, y1, e0, e1, _, _⟩ := R5.out.cells
        clear ho hg hor hv5 x0 x1 f0 f1
        go_wp2_with fail
        refine bodyPost_end (v := .tuple #[]) (by simp [results, Tryz.results85, go_sem]) rfl ⟨rfl, HE.out _ HEQ.out _ ?_⟩
        have q := R5.out.rest (lm' := w5.heap.size) (L' := V ++ LK) (Rst.of (g := g5) (o := 0) (n := k + LK.length) (cap := cap5) (by simp [HH.out.len]) hc5 fun i hi => ⟨hlt5, by rw [Nat.zero_add]; exact I5.out i (by rw [List.length_append] at hi; omega)⟩)
        refine ⟨?_, B5.out.trans q.2⟩
        rw [show ∀ u, (w5.setCell ⟨rb, 0, none⟩ u).heap.size = w5.heap.size from fun u => by simp [World.setCell]]
        exact q.1
    have lk : k < n := by omega
    obtain ⟨m, hm⟩ : ∃ m, n - k = m + 1 := ⟨n - k - 1, by omega⟩
    have HM : Hid _ := hm
    have lvb : w1.heap.size < wr.heap.size := (Array.getElem?_eq_some_iff.1 HH.out.vl.is).1
    go_wp2_with fail
    refine (word_any rb Lk bk wr HH.out.rd).mono ?_
    rintro e2 w2 ⟨rfl, hr2, ho2⟩
    have HR2 : Hid _ := hr2
    have HO2 : Hid _ := HH.out.ob.trans ho2
    have HV2 : Hid _ := HH.out.vl.ob ho2 (by omega)
    have hsz2 := ho2.size
    clear hr2 ho2
    obtain ⟨X, hX⟩ : ∃ X, hdT Lk = X := ⟨_, rfl⟩
    have HX : Hid _ := hX
    rw [hX]
    clear hX
    go_wp2_with fail
    refine (Tryz.slices_Index_string g 0 n c1 O X w2 (by rw [HLN.out]; omega) (by omega) fun j hj => ?_).mono ?_
    · rw [Nat.zero_add]
      have q := HCN.out j (by rw [← HLN.out]; exact hj)
      exact HO2.out.cell q (HR1.out.str q)
    rintro e3 w3 ⟨rfl, rfl⟩
    rw [show O.take n = O by rw [← HLN.out, List.take_length]]
    obtain ⟨i, hi⟩ : ∃ i, Lib.idxOfS O X = i := ⟨_, rfl⟩
    have hin := idx_in O X
    rw [hi, HLN.out] at hin
    rw [hi]
    have HI : Hid _ := hi
    clear hi
    obtain ⟨a, cap, x0, x1, f0, f1, hcap, hc⟩ := HR2.out.cells
    clear hc
    rcases hin with hin | ⟨hi0, hi1⟩
    · subst hin
      have HEQ : Hid (arr O n (List.replicate n ⟨#[]⟩) L b = (Lk.tail, true)) := by
        show _ = _
        rw [HH.out.eq, HM.out, arr, HX.out, HI.out, if_pos (by omega)]
      go_wp2_with fail
      refine bodyPost_ret (v := .tuple #[]) (by simp [results, Tryz.results85, go_sem]) rfl ⟨rfl, HE.out _ HEQ.out _ ?_⟩
      have q := HR2.out.bad
      refine ⟨?_, HO2.out.trans q.2⟩
      rw [show ∀ u, (w3.setCell ⟨rb, 1, none⟩ u).heap.size = w3.heap.size from fun u => by simp [World.setCell]]
      exact q.1.mono (by omega)
    obtain ⟨j, rfl⟩ : ∃ j : Nat, i = (j : Int) := ⟨i.toNat, by omega⟩
    have lj : j < n := by omega
    have y0 := HV2.out.cell j (by rw [HH.out.len]; exact lj)
    have fy := HV2.out.frozen j
    obtain ⟨Y, hY⟩ : ∃ Y, V.getD j ⟨#[]⟩ = Y := ⟨_, rfl⟩
    rw [hY] at y0
    have HY : Hid _ := hY
    clear hY
    have hneg : ¬ (j : Int) < 0 := by omega
    by_cases cY : Y = ⟨#[]⟩
    · have d1 : (Y.toList == ([] : List UInt8)) = true := by rw [cY, ByteArray.toList_eq]; rfl
      have HEQ : Hid (arr O n (List.replicate n ⟨#[]⟩) L b = arr O m (V.set j (hdT Lk.tail)) Lk.tail.tail (bk || Lk.isEmpty || Lk.tail.isEmpty)) := by
        show _ = _
        rw [HH.out.eq, HM.out, arr, HX.out, HI.out, if_neg hneg, Int.toNat_natCast, HY.out, if_neg (by rw [cY]; exact fun h => h rfl)]
      clear cY
      go_wp2_with fail
      refine (word_any rb Lk.tail _ w3 HR2.out).mono ?_
      rintro e4 w4 ⟨rfl, hr4, ho4⟩
      have HR4 : Hid _ := hr4
      have HO4 : Hid _ := HO2.out.trans ho4
      have HV4 : Hid _ := HV2.out.ob ho4 (by omega)
      have hsz4 := ho4.size
      have z0 := HV4.out.cell j (by rw [HH.out.len]; exact lj)
      have fz := HV4.out.frozen j
      clear hr4 ho4 x0 x1 f0 f1 y0 fy
      go_wp2_with fail
      go_roundw
      case rel =>
        refine ⟨k + 1, V.set j (hdT Lk.tail), Lk.tail.tail, _, by omega, by go_num, ⟨by rw [List.length_set]; exact HH.out.len, by rw [HEQ.out, show n - (k + 1) = m by have := HM.out; omega], ?_, HR4.out.far (by show _ ≤ w1.heap.size; omega) (by show rb < w1.heap.size; omega), HV4.out.set _ _, ?_⟩⟩
        · have := HH.out.le
          simp only [List.length_tail]
          omega
        exact ⟨HO4.out.os, HO4.out.tape, HO4.out.output, by simpa [World.setCell] using HO4.out.size, fun q hq hne => (Below.heap_setCell _ _ _ _ (by show q ≠ w1.heap.size; omega)).trans (HO4.out.block q hq hne)⟩
      case measure => simp [intOf]; omega
    have d1 : (Y.toList == ([] : List UInt8)) = false := by
      have := bt_eq Y ⟨#[]⟩
      rw [ByteArray.toList_eq ⟨#[]⟩] at this
      exact this.trans (by simpa using cY)
    have HEQ : Hid (arr O n (List.replicate n ⟨#[]⟩) L b = (Lk.tail, true)) := by
      show _ = _
      rw [HH.out.eq, HM.out, arr, HX.out, HI.out, if_neg hneg, Int.toNat_natCast, HY.out, if_pos cY]
    clear cY
    go_wp2_with fail
    refine bodyPost_ret (v := .tuple #[]) (by simp [results, Tryz.results85, go_sem]) rfl ⟨rfl, HE.out _ HEQ.out _ ?_⟩
    have q := HR2.out.bad
    refine ⟨?_, HO2.out.trans q.2⟩
    rw [show ∀ u, (w3.setCell ⟨rb, 1, none⟩ u).heap.size = w3.heap.size from fun u => by simp [World.setCell]]
    exact q.1.mono (by omega)
end Go.Proofs.YtchomkadekikdaaGreatDoor
