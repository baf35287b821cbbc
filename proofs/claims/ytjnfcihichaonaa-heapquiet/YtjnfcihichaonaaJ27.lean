/- Contracts of the program's functions, part 27: own work, joined in build order. -/
import Derived.Test.YtjnfcihichaonaaJ26
namespace Go.Proofs.Ytjnfcihichaonaa
open Go.RowKit
set_option maxRecDepth 100000
set_option linter.unusedVariables false
theorem lenS_any {base hb ob : Nat} {a : Option Addr} {n cap mb nn : Nat} {pu : Int} {f : Nat → Nat} {it ke : Nat → Int} {va : Nat → ByteArray} (w : World) (h : HsS w base hb ob a n cap mb nn pu f it ke va) :
    Calls Try.prog 34 #[.pointer (some ⟨hb, 0, none⟩)] w fun e w' => e = .returned (.int .i64 (n : Int)) ∧ w' = w := by
  obtain ⟨c1, c2, c3, c4⟩ := h.cells
  clear h
  go_enter Try.func34, Try.ntmps34
  go_wp2_with fail
  go_ret
  exact ⟨rfl, rfl⟩
theorem firstS_any {base hb ob : Nat} {a : Option Addr} {n cap mb nn : Nat} {pu : Int} {f : Nat → Nat} {it ke : Nat → Int} {va : Nat → ByteArray} (w : World) (h : HsS w base hb ob a n cap mb nn pu f it ke va) :
    Calls Try.prog 56 #[.pointer (some ⟨hb, 0, none⟩)] w fun e w' => e = .returned (pV (fst? n f)) ∧ w' = w := by
  obtain ⟨c1, c2, c3, c4⟩ := h.cells
  by_cases c : n = 0
  · subst c
    clear h
    go_enter Try.func56, Try.ntmps56
    go_wp2_with fail
    go_ret
    exact ⟨rfl, rfl⟩
  · obtain ⟨gp, rfl, _, hle, _, cs, e1, e2, e3⟩ := h.some' (by omega)
    have c0 : w.cell? ⟨gp, 0, none⟩ = some (.pointer (some ⟨f 0, 0, none⟩)) := by simp [World.cell?, e1, e3 0 (by omega)]
    have hn : 0 < n := by omega
    have hl := h.lim
    rw [show fst? n f = some (f 0) by unfold fst?; rw [if_neg c]]
    clear h e1 e2 e3
    go_enter Try.func56, Try.ntmps56
    go_wp2_with fail
    go_ret
    exact ⟨rfl, rfl⟩
theorem lastS_any {base hb ob : Nat} {a : Option Addr} {n cap mb nn : Nat} {pu : Int} {f : Nat → Nat} {it ke : Nat → Int} {va : Nat → ByteArray} (w : World) (h : HsS w base hb ob a n cap mb nn pu f it ke va) :
    Calls Try.prog 54 #[.pointer (some ⟨hb, 0, none⟩)] w fun e w' => e = .returned (pV (lst? n f)) ∧ w' = w := by
  obtain ⟨c1, c2, c3, c4⟩ := h.cells
  have hl := h.lim
  by_cases c : n < 2
  · have F : Hid (Calls Try.prog 56 #[.pointer (some ⟨hb, 0, none⟩)] w fun e w' => e = .returned (pV (fst? n f)) ∧ w' = w) := firstS_any w h
    rw [show lst? n f = fst? n f by unfold lst? fst?; split; rfl; rw [if_pos (by omega)]]
    clear h
    go_enter Try.func54, Try.ntmps54
    go_wp2_with (first | (go_at_call 56; refine Calls.mono F.out ?_; rintro e w8 ⟨rfl, rfl⟩))
    go_ret
    exact ⟨rfl, rfl⟩
  · obtain ⟨gp, rfl, _, hle, _, cs, e1, e2, e3⟩ := h.some' (by omega)
    have c0 : w.cell? ⟨gp, 1, none⟩ = some (.pointer (some ⟨f 1, 0, none⟩)) := by simp [World.cell?, e1, e3 1 (by omega)]
    have hn : 1 < n := by omega
    rw [show lst? n f = some (f 1) by unfold lst?; rw [if_neg (by omega), if_neg (by omega)]]
    clear h e1 e2 e3
    go_enter Try.func54, Try.ntmps54
    go_wp2_with fail
    go_ret
    exact ⟨rfl, rfl⟩
theorem results_tmp4S {fn : Func} {t u v x : Tmp} (h : fn.results = #[.tmp t, .tmp u, .tmp v, .tmp x]) (tmps : Array Value) (P : Program) (w : World) :
    (results fn tmps).run P w = .ok (.tuple #[tmps.getD t undef, tmps.getD u undef, tmps.getD v undef, tmps.getD x undef]) w := by
  simp [results, h]
/-- What is told of a thing, or of none. -/
def telS (it ke : Nat → Int) (va : Nat → ByteArray) : Option Nat → Value
  | none => .tuple #[.int .i64 0, .int .i64 0, .string (⟨#[]⟩ : ByteArray), .bool false]
  | some b => .tuple #[.int .i64 (it b), .int .i64 (ke b), .string (va b), .bool true]
theorem tellS_any {it ke : Nat → Int} {va : Nat → ByteArray} (o : Option Nat) (w : World) (h : ∀ b, o = some b → ∃ q : Int, w.heap[b]? = some (.cells #[.int .i64 (it b), .int .i64 (ke b), .string (va b), .int .i64 q] 98)) :
    Calls Try.prog 55 #[pV o] w fun e w' => e = .returned (telS it ke va o) ∧ ∃ m, w' = w.drewN m := by
  cases o with
  | none =>
    clear h
    simp only [pV]
    go_enter Try.func55, Try.ntmps55
    go_wp2_with fail
    (try simp only [Exit.inBlock, Exit.then]); refine bodyPost_ret (results_tmp4S rfl _ _ _) rfl ?_
    exact ⟨rfl, 0, rfl⟩
  | some b =>
    obtain ⟨q, e⟩ := h b rfl
    have x0 : w.cell? ⟨b, 0, none⟩ = some (.int .i64 (it b)) := by simp [World.cell?, e]
    have x1 : w.cell? ⟨b, 1, none⟩ = some (.int .i64 (ke b)) := by simp [World.cell?, e]
    have x2 : w.cell? ⟨b, 2, none⟩ = some (.string (va b)) := by simp [World.cell?, e]
    clear h e
    simp only [pV]
    go_enter Try.func55, Try.ntmps55
    go_wp2_with fail
    go_quiet (fail)
    go_wp2_with fail
    (try simp only [Exit.inBlock, Exit.then]); refine bodyPost_ret (results_tmp4S rfl _ _ _) rfl ?_
    exact ⟨rfl, _, rfl⟩
theorem HsS.thing {W : World} {base hb ob : Nat} {a : Option Addr} {n cap mb nn : Nat} {pu : Int} {f : Nat → Nat} {it ke : Nat → Int} {va : Nat → ByteArray} (h : HsS W base hb ob a n cap mb nn pu f it ke va) (o : Option Nat) (ho : ∀ b, o = some b → Img n f n b) : ∀ b, o = some b → ∃ q : Int, W.heap[b]? = some (.cells #[.int .i64 (it b), .int .i64 (ke b), .string (va b), .int .i64 q] 98) := fun b e => by
  obtain ⟨i, hi, _, rfl⟩ := ho b e
  exact ⟨_, h.pl i hi⟩
theorem minS_any {base hb ob : Nat} {a : Option Addr} {n cap mb nn : Nat} {pu : Int} {f : Nat → Nat} {it ke : Nat → Int} {va : Nat → ByteArray} (w : World) (h : HsS w base hb ob a n cap mb nn pu f it ke va) :
    Calls Try.prog 33 #[.pointer (some ⟨hb, 0, none⟩)] w fun e w' => e = .returned (telS it ke va (fst? n f)) ∧ ∃ m, w' = w.drewN m := by
  have F : Hid (Calls Try.prog 56 #[.pointer (some ⟨hb, 0, none⟩)] w fun e w' => e = .returned (pV (fst? n f)) ∧ w' = w) := firstS_any w h
  have T : Hid (Calls Try.prog 55 #[pV (fst? n f)] w fun e w' => e = .returned (telS it ke va (fst? n f)) ∧ ∃ m, w' = w.drewN m) := tellS_any _ w (h.thing _ fst_in)
  clear h
  generalize fst? n f = o at *
  cases o <;> simp only [telS] at T ⊢ <;>
  · go_enter Try.func33, Try.ntmps33
    go_wp2_with (first | (go_at_call 56; refine Calls.mono F.out ?_; rintro e w8 ⟨rfl, rfl⟩) | (go_at_call 55; refine Calls.mono T.out ?_; rintro e w9 ⟨rfl, m, rfl⟩))
    (try simp only [Exit.inBlock, Exit.then]); refine bodyPost_ret (results_tmp4S rfl _ _ _) rfl ?_
    exact ⟨rfl, _, rfl⟩
end Go.Proofs.Ytjnfcihichaonaa
