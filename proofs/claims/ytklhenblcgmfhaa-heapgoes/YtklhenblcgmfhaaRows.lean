/-
  No cell of these rows narrows 'for every input' (looked for: loops, veiled, ifaces, maps, wideKeys, modest, calm, conditions, laid).
  DERIVED. THE GIVEN ROWS OF THIS SEAT. 6 by the template 'for every input the law returns true; each argument reads behind the call as it read before'; 0 by the template 'total and deterministic' (their statements: YtklhenblcgmfhaaTotals.lean).
  GIVEN WITH THE SEED: the statements are not yours to turn. If you find one false, say at which input.
  Laid BY PROGRAM, IN A SANDBOX (cutbox-rows.mjs): the forced cells as the released guide's own fill.sh prints them over the translation ccf81f4106bdfb11… (all of the seat's roots in one cut). By AI agents, Wed Nov 11 2026. No macro, syntax, notation, axiom, sorry.
-/
import Derived.Test.YtklhenblcgmfhaaChecked
import GoSem.Claim
import GoSem.ClaimJoined
import GoSem.ClaimMapViews
import Derived.JoinedTies
import Derived.KernelRfl
namespace Go.Proofs.Ytklhenblcgmfhaa
/- THE CELL 'sum', in the pinned program and in every row, IS THE sha256 OF THE DUMP (.gsa) THAT YtklhenblcgmfhaaProg.lean LOADS. Nothing in Lean hashes anything: it is a label: what it is worth is what the hold of that sum in a sandbox is worth. -/
noncomputable def Try.pinned : Pinned := { name := "ytklhenblcgmfhaa", sum := "ccf81f4106bdfb1164d85f44a777cfdecbf57bb3fa80a1d91762101cf44cf4ad", checked := Try.checked }
namespace Rows
def none {H : Type} : Left H := { results := [], args := [] }

/-- 'millracelaw5.HeapPlays': WHATEVER THE INPUT: true; the input reads as it did. -/
def heapPlaysSpec : ChangeSpec := { name := "heapPlays", fn := fun _ => fun
  | [d1, d2, d3] => { results := [.lit (.bool true)], args := [d1, d2, d3] }
  | _ => none }
def heapPlaysRow : OpenClaim := { program := "ytklhenblcgmfhaa", sum := "ccf81f4106bdfb1164d85f44a777cfdecbf57bb3fa80a1d91762101cf44cf4ad", func := "millrace/millracelaw5.HeapPlays", spec := "heapPlays", unfollowed := true, recurses := true, apart := false }
def HeapPlaysSaid : Prop := heapPlaysRow.holds Try.pinned (OpenSpec.ofChange heapPlaysSpec)

/-- ITS FALSE NEIGHBOUR: 'it returns false'. Refute it at one input. -/
def heapPlaysWrong : ChangeSpec := { name := "heapPlays", fn := fun _ => fun
  | [d1, d2, d3] => { results := [.lit (.bool false)], args := [d1, d2, d3] }
  | _ => none }
def HeapPlaysWrongFalsely : Prop := heapPlaysRow.holds Try.pinned (OpenSpec.ofChange heapPlaysWrong)

/-- 'millracelaw5.HeapGoes': WHATEVER THE INPUT: true; the input reads as it did. -/
def heapGoesSpec : ChangeSpec := { name := "heapGoes", fn := fun _ => fun
  | [d1, d2, d3] => { results := [.lit (.bool true)], args := [d1, d2, d3] }
  | _ => none }
def heapGoesRow : OpenClaim := { program := "ytklhenblcgmfhaa", sum := "ccf81f4106bdfb1164d85f44a777cfdecbf57bb3fa80a1d91762101cf44cf4ad", func := "millrace/millracelaw5.HeapGoes", spec := "heapGoes", unfollowed := true, recurses := true, apart := false }
def HeapGoesSaid : Prop := heapGoesRow.holds Try.pinned (OpenSpec.ofChange heapGoesSpec)

/-- ITS FALSE NEIGHBOUR: 'it returns false'. Refute it at one input. -/
def heapGoesWrong : ChangeSpec := { name := "heapGoes", fn := fun _ => fun
  | [d1, d2, d3] => { results := [.lit (.bool false)], args := [d1, d2, d3] }
  | _ => none }
def HeapGoesWrongFalsely : Prop := heapGoesRow.holds Try.pinned (OpenSpec.ofChange heapGoesWrong)

/-- 'millracelaw5.HeapSorts': WHATEVER THE INPUT: true; the input reads as it did. -/
def heapSortsSpec : ChangeSpec := { name := "heapSorts", fn := fun _ => fun
  | [d1, d2, d3, d4] => { results := [.lit (.bool true)], args := [d1, d2, d3, d4] }
  | _ => none }
def heapSortsRow : OpenClaim := { program := "ytklhenblcgmfhaa", sum := "ccf81f4106bdfb1164d85f44a777cfdecbf57bb3fa80a1d91762101cf44cf4ad", func := "millrace/millracelaw5.HeapSorts", spec := "heapSorts", unfollowed := true, recurses := true, apart := false }
def HeapSortsSaid : Prop := heapSortsRow.holds Try.pinned (OpenSpec.ofChange heapSortsSpec)

/-- ITS FALSE NEIGHBOUR: 'it returns false'. Refute it at one input. -/
def heapSortsWrong : ChangeSpec := { name := "heapSorts", fn := fun _ => fun
  | [d1, d2, d3, d4] => { results := [.lit (.bool false)], args := [d1, d2, d3, d4] }
  | _ => none }
def HeapSortsWrongFalsely : Prop := heapSortsRow.holds Try.pinned (OpenSpec.ofChange heapSortsWrong)

/-- 'millracelaw5.HeapLies': WHATEVER THE INPUT: true; the input reads as it did. -/
def heapLiesSpec : ChangeSpec := { name := "heapLies", fn := fun _ => fun
  | [d1, d2] => { results := [.lit (.bool true)], args := [d1, d2] }
  | _ => none }
def heapLiesRow : OpenClaim := { program := "ytklhenblcgmfhaa", sum := "ccf81f4106bdfb1164d85f44a777cfdecbf57bb3fa80a1d91762101cf44cf4ad", func := "millrace/millracelaw5.HeapLies", spec := "heapLies", unfollowed := true, recurses := true, apart := false }
def HeapLiesSaid : Prop := heapLiesRow.holds Try.pinned (OpenSpec.ofChange heapLiesSpec)

/-- ITS FALSE NEIGHBOUR: 'it returns false'. Refute it at one input. -/
def heapLiesWrong : ChangeSpec := { name := "heapLies", fn := fun _ => fun
  | [d1, d2] => { results := [.lit (.bool false)], args := [d1, d2] }
  | _ => none }
def HeapLiesWrongFalsely : Prop := heapLiesRow.holds Try.pinned (OpenSpec.ofChange heapLiesWrong)

/-- 'millracelaw5.HeapQuiet': WHATEVER THE INPUT: true; the input reads as it did. -/
def heapQuietSpec : ChangeSpec := { name := "heapQuiet", fn := fun _ => fun
  | [d1, d2] => { results := [.lit (.bool true)], args := [d1, d2] }
  | _ => none }
def heapQuietRow : OpenClaim := { program := "ytklhenblcgmfhaa", sum := "ccf81f4106bdfb1164d85f44a777cfdecbf57bb3fa80a1d91762101cf44cf4ad", func := "millrace/millracelaw5.HeapQuiet", spec := "heapQuiet", unfollowed := true, recurses := true, apart := false }
def HeapQuietSaid : Prop := heapQuietRow.holds Try.pinned (OpenSpec.ofChange heapQuietSpec)

/-- ITS FALSE NEIGHBOUR: 'it returns false'. Refute it at one input. -/
def heapQuietWrong : ChangeSpec := { name := "heapQuiet", fn := fun _ => fun
  | [d1, d2] => { results := [.lit (.bool false)], args := [d1, d2] }
  | _ => none }
def HeapQuietWrongFalsely : Prop := heapQuietRow.holds Try.pinned (OpenSpec.ofChange heapQuietWrong)

/-- 'millracelaw5.HeapMany': WHATEVER THE INPUT: true; the input reads as it did. -/
def heapManySpec : ChangeSpec := { name := "heapMany", fn := fun _ => fun
  | [d1, d2, d3] => { results := [.lit (.bool true)], args := [d1, d2, d3] }
  | _ => none }
def heapManyRow : OpenClaim := { program := "ytklhenblcgmfhaa", sum := "ccf81f4106bdfb1164d85f44a777cfdecbf57bb3fa80a1d91762101cf44cf4ad", func := "millrace/millracelaw5.HeapMany", spec := "heapMany", unfollowed := true, recurses := true, apart := false }
def HeapManySaid : Prop := heapManyRow.holds Try.pinned (OpenSpec.ofChange heapManySpec)

/-- ITS FALSE NEIGHBOUR: 'it returns false'. Refute it at one input. -/
def heapManyWrong : ChangeSpec := { name := "heapMany", fn := fun _ => fun
  | [d1, d2, d3] => { results := [.lit (.bool false)], args := [d1, d2, d3] }
  | _ => none }
def HeapManyWrongFalsely : Prop := heapManyRow.holds Try.pinned (OpenSpec.ofChange heapManyWrong)

/- THE SECOND FORM. 'bulk': how many values and letters a reading holds, each counted each time it is reached (what is shared counts as often as it is met; a slice's spare places count too). A statement '..UptoSaid' is the law's where the arguments, and the package variables that the reading takes, are together of bulk at most 1048576: NARROWER than '..Said'. Prove '..Said' where nothing that the law and all that it calls make is longer than what came in: it says more and counts as full. Else prove '..UptoSaid'. A law counts once. -/
mutual
def uptoBulk {H : Type} : DataW H → Nat
  | .lit (.string bytes) => bytes.length + 1
  | .lit _ => 1
  | .nil => 1
  | .ptr d => uptoBulk d + 1
  | .slice elems spare => uptoBulkAll elems + uptoBulkAll spare + 1
  | .agg parts => uptoBulkAll parts + 1
  | .iface _ d => uptoBulk d + 1
  | .map entries => uptoBulkEntries entries + 1
  | .held _ => 1
def uptoBulkAll {H : Type} : List (DataW H) → Nat
  | [] => 0
  | d :: r => uptoBulk d + uptoBulkAll r
def uptoBulkEntries {H : Type} : List (Lit × DataW H) → Nat
  | [] => 0
  | x :: r => uptoBulkEntry x + uptoBulkEntries r
def uptoBulkEntry {H : Type} : Lit × DataW H → Nat
  | (.string bytes, d) => bytes.length + uptoBulk d + 1
  | (_, d) => uptoBulk d + 1
 end
def uptoSmall : (H : Type) → List (DataW H) → Bool := fun _ ds => decide (uptoBulkAll ds ≤ 1048576)
def OpenSpec.upto (s : _root_.Go.ChangeSpec) : _root_.Go.OpenSpec := { _root_.Go.OpenSpec.ofChange s with cond := some uptoSmall }

/-- 'millracelaw5.HeapPlays', WHERE WHAT IT READS IS OF BULK AT MOST 1048576: true; the input reads as it did. -/
def heapPlaysUptoRow : OpenClaim := { program := "ytklhenblcgmfhaa", sum := "ccf81f4106bdfb1164d85f44a777cfdecbf57bb3fa80a1d91762101cf44cf4ad", func := "millrace/millracelaw5.HeapPlays", spec := "heapPlays", unfollowed := true, recurses := true, apart := false, narrowed := true }
def HeapPlaysUptoSaid : Prop := heapPlaysUptoRow.holds Try.pinned (OpenSpec.upto heapPlaysSpec)

/-- 'millracelaw5.HeapGoes', WHERE WHAT IT READS IS OF BULK AT MOST 1048576: true; the input reads as it did. -/
def heapGoesUptoRow : OpenClaim := { program := "ytklhenblcgmfhaa", sum := "ccf81f4106bdfb1164d85f44a777cfdecbf57bb3fa80a1d91762101cf44cf4ad", func := "millrace/millracelaw5.HeapGoes", spec := "heapGoes", unfollowed := true, recurses := true, apart := false, narrowed := true }
def HeapGoesUptoSaid : Prop := heapGoesUptoRow.holds Try.pinned (OpenSpec.upto heapGoesSpec)

/-- 'millracelaw5.HeapSorts', WHERE WHAT IT READS IS OF BULK AT MOST 1048576: true; the input reads as it did. -/
def heapSortsUptoRow : OpenClaim := { program := "ytklhenblcgmfhaa", sum := "ccf81f4106bdfb1164d85f44a777cfdecbf57bb3fa80a1d91762101cf44cf4ad", func := "millrace/millracelaw5.HeapSorts", spec := "heapSorts", unfollowed := true, recurses := true, apart := false, narrowed := true }
def HeapSortsUptoSaid : Prop := heapSortsUptoRow.holds Try.pinned (OpenSpec.upto heapSortsSpec)

/-- 'millracelaw5.HeapLies', WHERE WHAT IT READS IS OF BULK AT MOST 1048576: true; the input reads as it did. -/
def heapLiesUptoRow : OpenClaim := { program := "ytklhenblcgmfhaa", sum := "ccf81f4106bdfb1164d85f44a777cfdecbf57bb3fa80a1d91762101cf44cf4ad", func := "millrace/millracelaw5.HeapLies", spec := "heapLies", unfollowed := true, recurses := true, apart := false, narrowed := true }
def HeapLiesUptoSaid : Prop := heapLiesUptoRow.holds Try.pinned (OpenSpec.upto heapLiesSpec)

/-- 'millracelaw5.HeapQuiet', WHERE WHAT IT READS IS OF BULK AT MOST 1048576: true; the input reads as it did. -/
def heapQuietUptoRow : OpenClaim := { program := "ytklhenblcgmfhaa", sum := "ccf81f4106bdfb1164d85f44a777cfdecbf57bb3fa80a1d91762101cf44cf4ad", func := "millrace/millracelaw5.HeapQuiet", spec := "heapQuiet", unfollowed := true, recurses := true, apart := false, narrowed := true }
def HeapQuietUptoSaid : Prop := heapQuietUptoRow.holds Try.pinned (OpenSpec.upto heapQuietSpec)

/-- 'millracelaw5.HeapMany', WHERE WHAT IT READS IS OF BULK AT MOST 1048576: true; the input reads as it did. -/
def heapManyUptoRow : OpenClaim := { program := "ytklhenblcgmfhaa", sum := "ccf81f4106bdfb1164d85f44a777cfdecbf57bb3fa80a1d91762101cf44cf4ad", func := "millrace/millracelaw5.HeapMany", spec := "heapMany", unfollowed := true, recurses := true, apart := false, narrowed := true }
def HeapManyUptoSaid : Prop := heapManyUptoRow.holds Try.pinned (OpenSpec.upto heapManySpec)

end Rows
end Go.Proofs.Ytklhenblcgmfhaa
