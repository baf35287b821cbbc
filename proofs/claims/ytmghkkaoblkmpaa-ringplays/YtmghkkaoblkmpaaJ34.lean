/- Contracts of the program's functions, part 34: own work, joined in build order. -/
import Derived.Test.YtmghkkaoblkmpaaJ33
namespace Go.Proofs.Ytmghkkaoblkmpaa
open Go.RowKit
set_option linter.unusedVariables false
/-- A slice of texts. -/
structure SSl (w : World) (a : Option Addr) (n cap : Nat) (ws : List ByteArray) : Prop where
  le : n ≤ cap
  lim : cap ≤ 9223372036854775807
  len : ws.length = n
  at' : n = 0 ∨ ∃ b o, a = some ⟨b, o, none⟩ ∧ ∀ i, i < n → w.cell? ⟨b, o + i, none⟩ = some (.string (ws.getD i ⟨#[]⟩))
theorem SSl.at {w : World} {a : Option Addr} {n cap : Nat} {ws : List ByteArray} (h : SSl w a n cap ws) (hn : 0 < n) : ∃ b o, a = some ⟨b, o, none⟩ ∧ ∀ i, i < n → w.cell? ⟨b, o + i, none⟩ = some (.string (ws.getD i ⟨#[]⟩)) := by
  rcases h.at' with e | e
  · omega
  · exact e
theorem SSl.mono {w w' : World} {a : Option Addr} {n cap : Nat} {ws : List ByteArray} (h : SSl w a n cap ws) (hb : Below w.heap.size w w') : SSl w' a n cap ws :=
  ⟨h.le, h.lim, h.len, h.at'.imp id fun ⟨b, o, e, hc⟩ => ⟨b, o, e, fun i hi => cell_later hb (hc i hi)⟩⟩
/-- A slice of steps: the four numbers of each. -/
structure StSl (w : World) (a : Option Addr) (n cap : Nat) (F : Nat → Nat → Int) : Prop where
  le : n ≤ cap
  lim : cap ≤ 9223372036854775807
  wf : ∀ i j, i < n → j < 4 → -9223372036854775808 ≤ F i j ∧ F i j ≤ 9223372036854775807
  at' : n = 0 ∨ ∃ b o, a = some ⟨b, o, none⟩ ∧ ∀ i j, i < n → j < 4 → w.cell? ⟨b, o + i * 4 + j, none⟩ = some (.int .i64 (F i j))
theorem StSl.at {w : World} {a : Option Addr} {n cap : Nat} {F : Nat → Nat → Int} (h : StSl w a n cap F) (hn : 0 < n) : ∃ b o, a = some ⟨b, o, none⟩ ∧ ∀ i j, i < n → j < 4 → w.cell? ⟨b, o + i * 4 + j, none⟩ = some (.int .i64 (F i j)) := by
  rcases h.at' with e | e
  · omega
  · exact e
theorem StSl.mono {w w' : World} {a : Option Addr} {n cap : Nat} {F : Nat → Nat → Int} (h : StSl w a n cap F) (hb : Below w.heap.size w w') : StSl w' a n cap F :=
  ⟨h.le, h.lim, h.wf, h.at'.imp id fun ⟨b, o, e, hc⟩ => ⟨b, o, e, fun i j hi hj => cell_later hb (hc i j hi hj)⟩⟩
end Go.Proofs.Ytmghkkaoblkmpaa
