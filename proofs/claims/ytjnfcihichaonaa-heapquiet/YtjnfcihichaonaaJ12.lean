/- Contracts of the program's functions, part 12: own work, joined in build order. -/
import Derived.Test.YtjnfcihichaonaaJ11
namespace Go.Proofs.Ytjnfcihichaonaa
open Go.RowKit
set_option maxRecDepth 100000
set_option linter.unusedVariables false
theorem lenI_any {base hb ob : Nat} {a : Option Addr} {n cap mb nn : Nat} {pu : Int} {f : Nat → Nat} {it ke : Nat → Int} {va : Nat → Int} (w : World) (h : HsI w base hb ob a n cap mb nn pu f it ke va) :
    Calls Try.prog 17 #[.pointer (some ⟨hb, 0, none⟩)] w fun e w' => e = .returned (.int .i64 (n : Int)) ∧ w' = w := by
  obtain ⟨c1, c2, c3, c4⟩ := h.cells
  clear h
  go_enter Try.func17, Try.ntmps17
  go_wp2_with fail
  go_ret
  exact ⟨rfl, rfl⟩
theorem firstI_any {base hb ob : Nat} {a : Option Addr} {n cap mb nn : Nat} {pu : Int} {f : Nat → Nat} {it ke : Nat → Int} {va : Nat → Int} (w : World) (h : HsI w base hb ob a n cap mb nn pu f it ke va) :
    Calls Try.prog 43 #[.pointer (some ⟨hb, 0, none⟩)] w fun e w' => e = .returned (pV (fst? n f)) ∧ w' = w := by
  obtain ⟨c1, c2, c3, c4⟩ := h.cells
  by_cases c : n = 0
  · subst c
    clear h
    go_enter Try.func43, Try.ntmps43
    go_wp2_with fail
    go_ret
    exact ⟨rfl, rfl⟩
  · obtain ⟨gp, rfl, _, hle, _, cs, e1, e2, e3⟩ := h.some' (by omega)
    have c0 : w.cell? ⟨gp, 0, none⟩ = some (.pointer (some ⟨f 0, 0, none⟩)) := by simp [World.cell?, e1, e3 0 (by omega)]
    have hn : 0 < n := by omega
    have hl := h.lim
    rw [show fst? n f = some (f 0) by unfold fst?; rw [if_neg c]]
    clear h e1 e2 e3
    go_enter Try.func43, Try.ntmps43
    go_wp2_with fail
    go_ret
    exact ⟨rfl, rfl⟩
theorem lastI_any {base hb ob : Nat} {a : Option Addr} {n cap mb nn : Nat} {pu : Int} {f : Nat → Nat} {it ke : Nat → Int} {va : Nat → Int} (w : World) (h : HsI w base hb ob a n cap mb nn pu f it ke va) :
    Calls Try.prog 45 #[.pointer (some ⟨hb, 0, none⟩)] w fun e w' => e = .returned (pV (lst? n f)) ∧ w' = w := by
  obtain ⟨c1, c2, c3, c4⟩ := h.cells
  have hl := h.lim
  by_cases c : n < 2
  · have F : Hid (Calls Try.prog 43 #[.pointer (some ⟨hb, 0, none⟩)] w fun e w' => e = .returned (pV (fst? n f)) ∧ w' = w) := firstI_any w h
    rw [show lst? n f = fst? n f by unfold lst? fst?; split; rfl; rw [if_pos (by omega)]]
    clear h
    go_enter Try.func45, Try.ntmps45
    go_wp2_with (first | (go_at_call 43; refine Calls.mono F.out ?_; rintro e w8 ⟨rfl, rfl⟩))
    go_ret
    exact ⟨rfl, rfl⟩
  · obtain ⟨gp, rfl, _, hle, _, cs, e1, e2, e3⟩ := h.some' (by omega)
    have c0 : w.cell? ⟨gp, 1, none⟩ = some (.pointer (some ⟨f 1, 0, none⟩)) := by simp [World.cell?, e1, e3 1 (by omega)]
    have hn : 1 < n := by omega
    rw [show lst? n f = some (f 1) by unfold lst?; rw [if_neg (by omega), if_neg (by omega)]]
    clear h e1 e2 e3
    go_enter Try.func45, Try.ntmps45
    go_wp2_with fail
    go_ret
    exact ⟨rfl, rfl⟩
theorem results_tmp4I {fn : Func} {t u v x : Tmp} (h : fn.results = #[.tmp t, .tmp u, .tmp v, .tmp x]) (tmps : Array Value) (P : Program) (w : World) :
    (results fn tmps).run P w = .ok (.tuple #[tmps.getD t undef, tmps.getD u undef, tmps.getD v undef, tmps.getD x undef]) w := by
  simp [results, h]
/-- What is told of a thing, or of none. -/
def telI (it ke : Nat → Int) (va : Nat → Int) : Option Nat → Value
  | none => .tuple #[.int .i64 0, .int .i64 0, .int .i64 (0 : Int), .bool false]
  | some b => .tuple #[.int .i64 (it b), .int .i64 (ke b), .int .i64 (va b), .bool true]
theorem tellI_any {it ke : Nat → Int} {va : Nat → Int} (o : Option Nat) (w : World) (h : ∀ b, o = some b → ∃ q : Int, w.heap[b]? = some (.cells #[.int .i64 (it b), .int .i64 (ke b), .int .i64 (va b), .int .i64 q] 81)) :
    Calls Try.prog 41 #[pV o] w fun e w' => e = .returned (telI it ke va o) ∧ ∃ m, w' = w.drewN m := by
  cases o with
  | none =>
    clear h
    simp only [pV]
    go_enter Try.func41, Try.ntmps41
    go_wp2_with fail
    (try simp only [Exit.inBlock, Exit.then]); refine bodyPost_ret (results_tmp4I rfl _ _ _) rfl ?_
    exact ⟨rfl, 0, rfl⟩
  | some b =>
    obtain ⟨q, e⟩ := h b rfl
    have x0 : w.cell? ⟨b, 0, none⟩ = some (.int .i64 (it b)) := by simp [World.cell?, e]
    have x1 : w.cell? ⟨b, 1, none⟩ = some (.int .i64 (ke b)) := by simp [World.cell?, e]
    have x2 : w.cell? ⟨b, 2, none⟩ = some (.int .i64 (va b)) := by simp [World.cell?, e]
    clear h e
    simp only [pV]
    go_enter Try.func41, Try.ntmps41
    go_wp2_with fail
    go_quiet (fail)
    go_wp2_with fail
    (try simp only [Exit.inBlock, Exit.then]); refine bodyPost_ret (results_tmp4I rfl _ _ _) rfl ?_
    exact ⟨rfl, _, rfl⟩
theorem HsI.thing {W : World} {base hb ob : Nat} {a : Option Addr} {n cap mb nn : Nat} {pu : Int} {f : Nat → Nat} {it ke : Nat → Int} {va : Nat → Int} (h : HsI W base hb ob a n cap mb nn pu f it ke va) (o : Option Nat) (ho : ∀ b, o = some b → Img n f n b) : ∀ b, o = some b → ∃ q : Int, W.heap[b]? = some (.cells #[.int .i64 (it b), .int .i64 (ke b), .int .i64 (va b), .int .i64 q] 81) := fun b e => by
  obtain ⟨i, hi, _, rfl⟩ := ho b e
  exact ⟨_, h.pl i hi⟩
theorem minI_any {base hb ob : Nat} {a : Option Addr} {n cap mb nn : Nat} {pu : Int} {f : Nat → Nat} {it ke : Nat → Int} {va : Nat → Int} (w : World) (h : HsI w base hb ob a n cap mb nn pu f it ke va) :
    Calls Try.prog 46 #[.pointer (some ⟨hb, 0, none⟩)] w fun e w' => e = .returned (telI it ke va (fst? n f)) ∧ ∃ m, w' = w.drewN m := by
  have F : Hid (Calls Try.prog 43 #[.pointer (some ⟨hb, 0, none⟩)] w fun e w' => e = .returned (pV (fst? n f)) ∧ w' = w) := firstI_any w h
  have T : Hid (Calls Try.prog 41 #[pV (fst? n f)] w fun e w' => e = .returned (telI it ke va (fst? n f)) ∧ ∃ m, w' = w.drewN m) := tellI_any _ w (h.thing _ fst_in)
  clear h
  generalize fst? n f = o at *
  cases o <;> simp only [telI] at T ⊢ <;>
  · go_enter Try.func46, Try.ntmps46
    go_wp2_with (first | (go_at_call 43; refine Calls.mono F.out ?_; rintro e w8 ⟨rfl, rfl⟩) | (go_at_call 41; refine Calls.mono T.out ?_; rintro e w9 ⟨rfl, m, rfl⟩))
    (try simp only [Exit.inBlock, Exit.then]); refine bodyPost_ret (results_tmp4I rfl _ _ _) rfl ?_
    exact ⟨rfl, _, rfl⟩
end Go.Proofs.Ytjnfcihichaonaa
