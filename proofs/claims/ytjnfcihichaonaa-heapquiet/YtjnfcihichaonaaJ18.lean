/- Contracts of the program's functions, part 18: own work, joined in build order. -/
import Derived.Test.YtjnfcihichaonaaJ17
namespace Go.Proofs.Ytjnfcihichaonaa
open Go.RowKit
set_option maxRecDepth 100000
set_option linter.unusedVariables false
theorem HsI.drewN {w : World} {base hb ob : Nat} {a : Option Addr} {n cap mb nn : Nat} {pu : Int} {f : Nat → Nat} {it ke : Nat → Int} {va : Nat → Int} (h : HsI w base hb ob a n cap mb nn pu f it ke va) (m : Nat) : HsI (w.drewN m) base hb ob a n cap mb nn pu f it ke va :=
  { h with hd := h.hd, row := own_kept h.row fun _ _ => rfl, pl := h.pl, mp := by obtain ⟨g, h1, h2⟩ := h.mp; exact ⟨g, h1.kept rfl, h2⟩ }
theorem TakI.drewN {w w1 : World} {base hb ob : Nat} {a : Option Addr} {n cap mb : Nat} {pu : Int} {f : Nat → Nat} {it ke : Nat → Int} {va : Nat → Int} {lv : Value} {nx mod : Int} {tur : Bool} {lies : Int} {N x : Nat} (h : TakI w base hb ob a n cap mb pu f it ke va lv nx mod tur lies N x w1) (m : Nat) : TakI w base hb ob a n cap mb pu f it ke va lv nx mod tur lies N x (w1.drewN m) := by
  obtain ⟨a', cap', mb', nn', f', M, q1, q2, q3, q4, q5, q6, q7, q8⟩ := h
  exact ⟨a', cap', mb', nn', f', M, q1.drewN m, q2.kept rfl, q3, q4, q5, q6, { q7.toTn.drewN m with new := q7.new }, q8⟩
theorem takeI_none (hb : Nat) (w : World) : Calls Try.prog 40 #[.pointer (some ⟨hb, 0, none⟩), .pointer none] w fun e w' => e = .returned (.pointer none) ∧ w' = w := by
  go_enter Try.func40, Try.ntmps40
  go_wp2_with fail
  go_ret
  exact ⟨rfl, rfl⟩
set_option maxHeartbeats 1000000 in
theorem popMaxI_none {base hb ob : Nat} {a : Option Addr} {cap mb nn : Nat} {pu : Int} {f : Nat → Nat} {it ke : Nat → Int} {va : Nat → Int} (w : World) (h : HsI w base hb ob a 0 cap mb nn pu f it ke va) :
    Calls Try.prog 21 #[.pointer (some ⟨hb, 0, none⟩)] w fun e w' => e = .returned (.tuple #[.int .i64 0, .int .i64 0, .int .i64 (0 : Int), .bool false]) ∧ ∃ m, w' = w.drewN m := by
  have FI : Hid (Calls Try.prog 45 #[.pointer (some ⟨hb, 0, none⟩)] w fun e w' => e = .returned (.pointer none) ∧ w' = w) := lastI_any w h
  have TA : Hid (Calls Try.prog 40 #[.pointer (some ⟨hb, 0, none⟩), .pointer none] w fun e w' => e = .returned (.pointer none) ∧ w' = w) := takeI_none hb w
  have TE : Hid (Calls Try.prog 41 #[.pointer none] w fun e w' => e = .returned (.tuple #[.int .i64 0, .int .i64 0, .int .i64 (0 : Int), .bool false]) ∧ ∃ m, w' = w.drewN m) := tellI_any (it := it) (ke := ke) (va := va) none w (fun b e => by cases e)
  clear h
  go_enter Try.func21, Try.ntmps21
  go_wp2_with (first | (go_at_call 45; refine Calls.mono FI.out ?_; rintro e w8 ⟨rfl, rfl⟩) | (go_at_call 40; refine Calls.mono TA.out ?_; rintro e w9 ⟨rfl, rfl⟩) | (go_at_call 41; refine Calls.mono TE.out ?_; rintro e w7 ⟨rfl, m, rfl⟩))
  (try simp only [Exit.inBlock, Exit.then]); refine bodyPost_ret (results_tmp4I rfl _ _ _) rfl ?_
  exact ⟨rfl, _, rfl⟩
set_option maxHeartbeats 1000000 in
theorem popMaxI_any {base hb ob : Nat} {a : Option Addr} {n cap mb nn : Nat} {pu : Int} {f : Nat → Nat} {it ke : Nat → Int} {va : Nat → Int} {lv : Value} {nx mod : Int} {tur : Bool} {lies : Int} {N : Nat} (w : World) (h : HsI w base hb ob a (n + 1) cap mb nn pu f it ke va) (ho : Ordr w ob lv nx mod tur lies N) (hN : N < 999999999700) (hb0 : base ≤ w.heap.size) :
    Calls Try.prog 21 #[.pointer (some ⟨hb, 0, none⟩)] w fun e w' => e = .returned (.tuple #[.int .i64 (it (f (if n = 0 then 0 else 1))), .int .i64 (ke (f (if n = 0 then 0 else 1))), .int .i64 (va (f (if n = 0 then 0 else 1))), .bool true]) ∧ TakI w base hb ob a n cap mb pu f it ke va lv nx mod tur lies N (f (if n = 0 then 0 else 1)) w' := by
  obtain ⟨gp, rfl, _⟩ := h.some' (by omega)
  have FI : Hid (Calls Try.prog 45 #[.pointer (some ⟨hb, 0, none⟩)] w fun e w' => e = .returned (.pointer (some ⟨f (if n = 0 then 0 else 1), 0, none⟩)) ∧ w' = w) := by
    have := lastI_any w h
    rw [show lst? (n + 1) f = some (f (if n = 0 then 0 else 1)) by unfold lst?; rw [if_neg (by omega)]; split <;> split <;> first | rfl | omega] at this
    exact this
  have TA : Hid (Calls Try.prog 40 #[.pointer (some ⟨hb, 0, none⟩), .pointer (some ⟨f (if n = 0 then 0 else 1), 0, none⟩)] w fun e w' => e = .returned (.pointer (some ⟨f (if n = 0 then 0 else 1), 0, none⟩)) ∧ TakI w base hb ob (some ⟨gp, 0, none⟩) n cap mb pu f it ke va lv nx mod tur lies N (f (if n = 0 then 0 else 1)) w') := takeI_any (if n = 0 then 0 else 1) w h ho hN (by split <;> omega) hb0
  clear h ho
  generalize f (if n = 0 then 0 else 1) = x at *
  go_enter Try.func21, Try.ntmps21
  go_wp2_with (first | (go_at_call 45; refine Calls.mono FI.out ?_; rintro e w8 ⟨rfl, rfl⟩))
  refine Calls.mono TA.out ?_
  rintro e w9 ⟨rfl, hT⟩
  have TE : Hid (Calls Try.prog 41 #[.pointer (some ⟨x, 0, none⟩)] w9 fun e w' => e = .returned (.tuple #[.int .i64 (it x), .int .i64 (ke x), .int .i64 (va x), .bool true]) ∧ ∃ m, w' = w9.drewN m) := tellI_any (some x) w9 (fun b e => by
    cases e
    obtain ⟨a', cap', mb', nn', f', M, _, _, _, _, _, _, _, q8⟩ := hT
    exact q8)
  have HT : Hid _ := hT
  clear hT
  go_wp2_with (first | (go_at_call 41; refine Calls.mono TE.out ?_; rintro e w7 ⟨rfl, m, rfl⟩))
  (try simp only [Exit.inBlock, Exit.then]); refine bodyPost_ret (results_tmp4I rfl _ _ _) rfl ?_
  exact ⟨rfl, TakI.drewN HT.out _⟩
theorem updateI_none {base hb ob : Nat} {a : Option Addr} {n cap mb nn : Nat} {pu : Int} {f : Nat → Nat} {it ke : Nat → Int} {va : Nat → Int} (i k : Int) (w : World) (h : HsI w base hb ob a n cap mb nn pu f it ke va) (h1 : -9223372036854775808 ≤ i) (h2 : i ≤ 9223372036854775807) (hn : ∀ b, Img n f n b → it b ≠ i) :
    Calls Try.prog 16 #[.pointer (some ⟨hb, 0, none⟩), .int .i64 i, .int .i64 k] w fun e w' => e = .returned (.int .i64 50) ∧ w' = w := by
  obtain ⟨c1, c2, c3, c4⟩ := h.cells
  obtain ⟨g, hm, hg⟩ := h.map
  have hr := hm.look Try.underlying67 (by rfl) (i := i) h1 h2
  have e0 : g i = none := by
    cases e : g i with
    | none => rfl
    | some b => exact absurd ((hg i b).1 e).2 (hn b ((hg i b).1 e).1)
  rw [e0] at hr
  simp only [pV] at hr
  clear h hm hg
  go_enter Try.func16, Try.ntmps16
  go_wp2_with fail
  go_ret
  exact ⟨rfl, rfl⟩
theorem fn_nilI (ob : Nat) (w : World) : (binOp .eql 66 (.func (.func 28) #[.pointer (some ⟨ob, 0, none⟩)] #[]) .nilFunc).run Try.prog w = .ok (.bool false) w := by kernel_rfl
theorem newI_any (ob : Nat) (base : Nat) (w : World) (hb : base ≤ w.heap.size) (ho : base ≤ ob) :
    Calls Try.prog 10 #[.func (.func 28) #[.pointer (some ⟨ob, 0, none⟩)] #[]] w fun e w' => e = .returned (.pointer (some ⟨w.heap.size + 1, 0, none⟩)) ∧ HsI w' base (w.heap.size + 1) ob none 0 0 w.heap.size 0 0 (fun _ => 0) (fun _ => 0) (fun _ => 0) (fun _ => (0 : Int)) ∧ Below w.heap.size w w' := by
  have hmm := @run_makeMap Try.prog
  have hfn := fn_nilI ob w
  go_enter Try.func10, Try.ntmps10
  go_wp2_with fail
  go_ret
  have s1 : (w.alloc (.map #[] 0)).heap.size = w.heap.size + 1 := by simp
  refine ⟨rfl, ?_, ((Below.refl _ _).alloc (Nat.le_refl _) _).alloc (by simp) _⟩
  have e1 := (MapKept.heap_alloc (w.alloc (.map #[] 0)) (.cells #[.func (.func 28) #[.pointer (some ⟨ob, 0, none⟩)] #[], .slice none 0 0, .map (some w.heap.size), .int .i64 0] 70)).1
  rw [s1] at e1
  refine { hd := e1, row := World.ownsRow_nil _ _ _ _, lim := by omega, pl := fun i hi => by omega, wf := fun i hi => by omega, itr := fun i hi => by omega, iti := fun i j hi => by omega, pu0 := Int.le_refl _, pu1 := by omega, nn1 := by omega, mp := ⟨fun _ => none, (Mp.made w).kept (Below.heap_alloc _ _ _ (by simp)), fun i b => ⟨fun e => (by cases e), fun e => (by obtain ⟨j, hj, _⟩ := e; omega)⟩⟩, ge := ⟨by omega, ho, hb, fun i hi => by omega⟩ }
end Go.Proofs.Ytjnfcihichaonaa
