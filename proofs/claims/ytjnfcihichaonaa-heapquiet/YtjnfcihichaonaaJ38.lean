/- Contracts of the program's functions, part 38: own work, joined in build order. -/
import Derived.Test.YtjnfcihichaonaaJ37
namespace Go.Proofs.Ytjnfcihichaonaa
open Go.RowKit
set_option maxRecDepth 100000
set_option linter.unusedVariables false
theorem maxI_any {base hb ob : Nat} {a : Option Addr} {n cap mb nn : Nat} {pu : Int} {f : Nat → Nat} {it ke : Nat → Int} {va : Nat → Int} (w : World) (h : HsI w base hb ob a n cap mb nn pu f it ke va) :
    Calls Try.prog 47 #[.pointer (some ⟨hb, 0, none⟩)] w fun e w' => e = .returned (telI it ke va (lst? n f)) ∧ ∃ m, w' = w.drewN m := by
  have F : Hid (Calls Try.prog 45 #[.pointer (some ⟨hb, 0, none⟩)] w fun e w' => e = .returned (pV (lst? n f)) ∧ w' = w) := lastI_any w h
  have T : Hid (Calls Try.prog 41 #[pV (lst? n f)] w fun e w' => e = .returned (telI it ke va (lst? n f)) ∧ ∃ m, w' = w.drewN m) := tellI_any _ w (h.thing _ lst_in)
  clear h
  generalize lst? n f = o at *
  cases o <;> simp only [telI] at T ⊢ <;>
  · go_enter Try.func47, Try.ntmps47
    go_wp2_with (first | (go_at_call 45; refine Calls.mono F.out ?_; rintro e w8 ⟨rfl, rfl⟩) | (go_at_call 41; refine Calls.mono T.out ?_; rintro e w9 ⟨rfl, m, rfl⟩))
    (try simp only [Exit.inBlock, Exit.then]); refine bodyPost_ret (results_tmp4I rfl _ _ _) rfl ?_
    exact ⟨rfl, _, rfl⟩
/-- The thing of a number, if there is one. -/
theorem HsI.find {W : World} {base hb ob : Nat} {a : Option Addr} {n cap mb nn : Nat} {pu : Int} {f : Nat → Nat} {it ke : Nat → Int} {va : Nat → Int} (h : HsI W base hb ob a n cap mb nn pu f it ke va) {i : Int} (h1 : -9223372036854775808 ≤ i) (h2 : i ≤ 9223372036854775807) :
    ∃ o, (Instr.lookup 67 (.map (some mb)) (.int .i64 i) false).run Try.prog W = .ok (pV o) W ∧ ∀ b, o = some b ↔ Img n f n b ∧ it b = i := by
  obtain ⟨g, hm, hg⟩ := h.map
  exact ⟨g i, hm.look Try.underlying67 (by rfl) (i := i) h1 h2, fun b => hg i b⟩
set_option maxHeartbeats 1000000 in
theorem getI_any {base hb ob : Nat} {a : Option Addr} {n cap mb nn : Nat} {pu : Int} {f : Nat → Nat} {it ke : Nat → Int} {va : Nat → Int} (i : Int) (w : World) (h : HsI w base hb ob a n cap mb nn pu f it ke va) (h1 : -9223372036854775808 ≤ i) (h2 : i ≤ 9223372036854775807) :
    Calls Try.prog 27 #[.pointer (some ⟨hb, 0, none⟩), .int .i64 i] w fun e w' => ((∃ b, Img n f n b ∧ it b = i ∧ e = .returned (.tuple #[.int .i64 (ke b), .int .i64 (va b), .bool true])) ∨ ((∀ b, Img n f n b → it b ≠ i) ∧ e = .returned (.tuple #[.int .i64 0, .int .i64 (0 : Int), .bool false]))) ∧ ∃ m, w' = w.drewN m := by
  obtain ⟨c1, c2, c3, c4⟩ := h.cells
  obtain ⟨o, hr, ho⟩ := h.find h1 h2
  have T : Hid (Calls Try.prog 41 #[pV o] w fun e w' => e = .returned (telI it ke va o) ∧ ∃ m, w' = w.drewN m) := tellI_any _ w (h.thing _ fun b e => ((ho b).1 e).1)
  have HO : Hid (∀ b, o = some b ↔ Img n f n b ∧ it b = i) := ho
  clear h ho c4
  cases o with
  | none =>
    simp only [telI, pV] at T hr
    go_enter Try.func27, Try.ntmps27
    go_wp2_with (first | (go_at_call 41; refine Calls.mono T.out ?_; rintro e w9 ⟨rfl, m, rfl⟩))
    go_ret3
    exact ⟨.inr ⟨fun b hb e => (by have := (HO.out b).2 ⟨hb, e⟩; cases this), rfl⟩, _, rfl⟩
  | some b =>
    simp only [telI, pV] at T hr
    go_enter Try.func27, Try.ntmps27
    go_wp2_with (first | (go_at_call 41; refine Calls.mono T.out ?_; rintro e w9 ⟨rfl, m, rfl⟩))
    go_ret3
    exact ⟨.inl ⟨b, ((HO.out b).1 rfl).1, ((HO.out b).1 rfl).2, rfl⟩, _, rfl⟩
theorem removeI_none {base hb ob : Nat} {a : Option Addr} {n cap mb nn : Nat} {pu : Int} {f : Nat → Nat} {it ke : Nat → Int} {va : Nat → Int} (i : Int) (w : World) (h : HsI w base hb ob a n cap mb nn pu f it ke va) (h1 : -9223372036854775808 ≤ i) (h2 : i ≤ 9223372036854775807) (hn : ∀ b, Img n f n b → it b ≠ i) :
    Calls Try.prog 15 #[.pointer (some ⟨hb, 0, none⟩), .int .i64 i] w fun e w' => e = .returned (.tuple #[.int .i64 0, .int .i64 (0 : Int), .bool false]) ∧ ∃ m, w' = w.drewN m := by
  obtain ⟨c1, c2, c3, c4⟩ := h.cells
  obtain ⟨o, hr, ho⟩ := h.find h1 h2
  obtain rfl : o = none := by
    cases o with
    | none => rfl
    | some b => exact absurd ((ho b).1 rfl).2 (hn b ((ho b).1 rfl).1)
  have TA : Hid (Calls Try.prog 40 #[.pointer (some ⟨hb, 0, none⟩), .pointer none] w fun e w' => e = .returned (.pointer none) ∧ w' = w) := takeI_none hb w
  have TE : Hid (Calls Try.prog 41 #[.pointer none] w fun e w' => e = .returned (.tuple #[.int .i64 0, .int .i64 0, .int .i64 (0 : Int), .bool false]) ∧ ∃ m, w' = w.drewN m) := tellI_any (it := it) (ke := ke) (va := va) none w (fun b e => by cases e)
  simp only [pV] at hr
  clear h ho c4
  go_enter Try.func15, Try.ntmps15
  go_wp2_with (first | (go_at_call 40; refine Calls.mono TA.out ?_; rintro e w9 ⟨rfl, rfl⟩) | (go_at_call 41; refine Calls.mono TE.out ?_; rintro e w7 ⟨rfl, m, rfl⟩))
  go_ret3
  exact ⟨rfl, _, rfl⟩
set_option maxHeartbeats 1000000 in
theorem removeI_any {base hb ob : Nat} {a : Option Addr} {n cap mb nn : Nat} {pu : Int} {f : Nat → Nat} {it ke : Nat → Int} {va : Nat → Int} {lv : Value} {nx mod : Int} {tur : Bool} {lies : Int} {N : Nat} (x : Nat) (w : World) (h : HsI w base hb ob a (n + 1) cap mb nn pu f it ke va) (ho : Ordr w ob lv nx mod tur lies N) (hN : N < 999999999700) (hb0 : base ≤ w.heap.size) (hx : Img (n + 1) f (n + 1) x) :
    Calls Try.prog 15 #[.pointer (some ⟨hb, 0, none⟩), .int .i64 (it x)] w fun e w' => e = .returned (.tuple #[.int .i64 (ke x), .int .i64 (va x), .bool true]) ∧ TakI w base hb ob a n cap mb pu f it ke va lv nx mod tur lies N x w' := by
  obtain ⟨gp, rfl, _⟩ := h.some' (by omega)
  obtain ⟨c1, c2, c3, c4⟩ := h.cells
  obtain ⟨i0, hi0, _, e0⟩ := hx
  have hir := h.itr i0 hi0
  have hp1 := h.pu1
  rw [e0] at hir
  obtain ⟨o, hr, hq⟩ := h.find (i := it x) (by omega) (by omega)
  have eo := (hq x).2 ⟨⟨i0, hi0, by omega, e0⟩, rfl⟩
  subst eo
  have TA : Hid (Calls Try.prog 40 #[.pointer (some ⟨hb, 0, none⟩), .pointer (some ⟨x, 0, none⟩)] w fun e w' => e = .returned (.pointer (some ⟨x, 0, none⟩)) ∧ TakI w base hb ob (some ⟨gp, 0, none⟩) n cap mb pu f it ke va lv nx mod tur lies N x w') := by
    have := takeI_any i0 w h ho hN hi0 hb0
    rw [e0] at this
    exact this
  simp only [pV] at hr
  clear h ho hq c4 e0 hir
  go_enter Try.func15, Try.ntmps15
  go_wp2_with fail
  refine Calls.mono TA.out ?_
  rintro e w9 ⟨rfl, hT⟩
  have TE : Hid (Calls Try.prog 41 #[.pointer (some ⟨x, 0, none⟩)] w9 fun e w' => e = .returned (.tuple #[.int .i64 (it x), .int .i64 (ke x), .int .i64 (va x), .bool true]) ∧ ∃ m, w' = w9.drewN m) := tellI_any (some x) w9 (fun b e => by
    cases e
    obtain ⟨a', cap', mb', nn', f', M, _, _, _, _, _, _, _, q8⟩ := hT
    exact q8)
  have HT : Hid _ := hT
  clear hT
  go_wp2_with (first | (go_at_call 41; refine Calls.mono TE.out ?_; rintro e w7 ⟨rfl, m, rfl⟩))
  go_ret3
  exact ⟨rfl, TakI.drewN HT.out _⟩
end Go.Proofs.Ytjnfcihichaonaa
