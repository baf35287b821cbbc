/- Contracts of the program's functions, part 26: own work, joined in build order. -/
import Derived.Test.YtchomkadekikdaaGreatDoorR25
import Derived.OpenShut
import Derived.LaidMore
import Derived.WalkKit
import Derived.ChangeOld
import Derived.Deep.Slices
import Derived.Test.YtchomkadekikdaaGreatDoorRows
import Derived.Lib.LaidTab
import Derived.Lib.LaidU8
import Derived.Stop.LaidErr
namespace Go.Proofs.YtchomkadekikdaaGreatDoor
open Go.RowKit Go.ChangeShapes Go.WideShapes Go.ChangeAt
set_option linter.unusedVariables false
set_option maxRecDepth 100000
theorem ownD : ownKnob Tryz.prog.godebug = none := by kernel_rfl
theorem laidOutD : laidOutB Tryz.prog = true := by kernel_rfl
theorem wf9 {x : Int} (h : (Lit.int .i64 x).wf = true) : -9223372036854775808 ≤ x ∧ x ≤ 9223372036854775807 := bounds_i64 h
theorem addr_plus (b off i : Nat) : (⟨b, off, none⟩ : Addr).add i = ⟨b, off + i, none⟩ := by
  unfold Addr.add
  rcases Nat.eq_zero_or_pos i with e | e
  · subst e; simp
  rw [if_neg (by omega)]
theorem plus_more (a : Addr) (m j : Nat) : (a.add m).add j = a.add (m + j) := by
  unfold Addr.add
  rcases Nat.eq_zero_or_pos m with e | e
  · subst e; simp
  rcases Nat.eq_zero_or_pos j with e2 | e2
  · subst e2; simp
  rw [if_neg (by omega), if_neg (by omega), if_neg (by omega)]
  simp [Nat.add_assoc]
theorem stepsK_of {K : Nat} {H : Type} {enc : TypeId × Value → H} {P : Program} {w : World} {base : Nat} {spare : Nat → Bool} {held : Bool} {t e : TypeId} {fuel : Nat} {cs : List Value} {x : DataW H × List MemPlace} {fs : Array Field}
    (ht : P.underlying t = some (.slice e)) (he : P.underlying e = some (.struct fs)) (ce : P.cellsOf e = K) (hsz : fs.size = K)
    (hf : ∀ j, j < K → ∃ f, fs[j]? = some f ∧ f.offset = j ∧ P.cellsOf f.type = 1 ∧ P.underlying f.type = some (.int .i64)) (h : DataW.trod enc P w base spare held fuel t cs = some x) :
    cs = [.slice none 0 0] ∨ ∃ (a : Addr) (len cap : Nat), cs = [.slice (some a) len cap] ∧ len ≤ cap ∧ cap ≤ maxLen ∧ ∀ i j, i < len → j < K → ∃ v, w.cell? (a.add (i * K + j)) = some (.int .i64 v) ∧ (Lit.int .i64 v).wf = true := by
  rcases Deep.open_slice ht h with ⟨h0, _⟩ | ⟨a, len, cap, m, n, D, Pl, rfl, hb, hl, hm, hmm, _, hx⟩
  · exact .inl h0
  refine .inr ⟨a, len, cap, rfl, hl, hm, fun i j hi hj => ?_⟩
  have hlm : len ≤ m := by rw [hmm]; split <;> omega
  obtain ⟨cs', h1, h2⟩ := hx i (by omega)
  rw [ce] at h1
  obtain ⟨_, hlen, hcell⟩ := World.cells?_some h1
  obtain ⟨xs, k, _, _, _, hxl, hff⟩ := DataW.trod_struct he h2
  obtain ⟨f, f1, f2, f3, f4⟩ := hf j hj
  have g := hff j f f1
  rw [f2, f3] at g
  have hxj : ∃ y, xs[j]? = some y := ⟨_, List.getElem?_eq_getElem (by omega)⟩
  obtain ⟨y, hy⟩ := hxj
  rw [hy] at g
  obtain ⟨v, hv, _, hw⟩ := DataW.trod_int f4 g
  refine ⟨v, ?_, hw⟩
  have e1 := hcell j hj
  rw [plus_more] at e1
  rw [e1]
  have e2 := congrArg (fun l => l[0]?) hv
  simpa using e2
theorem nsl_of {w : World} {a : Addr} {len cap : Nat} (hl : len ≤ cap) (hm : cap ≤ maxLen) (h : ∀ i j, i < len → j < 4 → ∃ v, w.cell? (a.add (i * 4 + j)) = some (.int .i64 v) ∧ (Lit.int .i64 v).wf = true) :
    ∃ F, NSl w (some a) len cap F := by
  refine ⟨fun i j => intOf ((w.cell? (a.add (i * 4 + j))).getD undef), hl, by simp only [maxLen] at hm; omega, fun i j hi hj => ?_, ?_⟩
  · obtain ⟨v, hv, hw⟩ := h i j hi hj
    show -9223372036854775808 ≤ intOf ((w.cell? (a.add (i * 4 + j))).getD undef) ∧ _
    rw [hv]
    exact wf9 hw
  rcases Nat.eq_zero_or_pos len with e | e
  · exact .inl e
  obtain ⟨b, off, spot⟩ := a
  obtain ⟨v, hc, _⟩ := h 0 0 e (by omega)
  have hspot : spot = none := by simpa [Addr.add] using World.cell?_spot hc
  subst hspot
  refine .inr ⟨b, off, rfl, fun i j hi hj => ?_⟩
  obtain ⟨v, hv, _⟩ := h i j hi hj
  rw [addr_plus] at hv
  have e3 : off + i * 4 + j = off + (i * 4 + j) := by omega
  rw [e3, hv, addr_plus, hv]
  rfl
theorem cell_of {cs : List Value} {i : Nat} {v : Value} (h : (cs.drop i).take 1 = [v]) : cs[i]? = some v := by
  have e := congrArg (fun l => l[0]?) h
  simpa using e
theorem trod_flt2 {H : Type} {enc : TypeId × Value → H} {P : Program} {w : World} {base : Nat} {spare : Nat → Bool} {held : Bool} {t : TypeId} {fuel : Nat} {cs : List Value} {x : DataW H × List MemPlace} {k : FloatKind} (ht : P.underlying t = some (.float k)) (h : DataW.trod enc P w base spare held fuel t cs = some x) : ∃ n, cs = [.float k n] ∧ (Lit.float k n).wf = true := by
  cases fuel with
  | zero => simp [DataW.trod] at h
  | succ n =>
    unfold DataW.trod at h
    rw [ht] at h
    split at h <;> simp_all
theorem open_params2 {H : Type} {enc : TypeId × Value → H} {w : World} {base0 base : Nat} {held : Bool} {v : Value} {d : DataW H} {ps : List MemPlace} (hv : Value.okWide Tryz.prog w .any base0 27 v) (h : DataW.Trod enc Tryz.prog w base (fun _ => true) held 27 v d ps) : ∃ (pw pq pc ps pb : Int) (pr : Nat) (pp pn : Int), v = .agg #[.int .i64 pw, .int .i64 pq, .int .i64 pc, .int .i64 ps, .int .i64 pb, .float .f64 pr, .int .i64 pp, .int .i64 pn] ∧ PIn pw pq pc ps pb pr pp pn := by
  obtain ⟨cs, rfl, hsz⟩ := okWide_struct Tryz.underlying27 hv
  obtain ⟨fuel, hf⟩ := h
  obtain ⟨xs, k, _, _, hlen, hxl, hff⟩ := DataW.trod_struct Tryz.underlying27 hf
  have hl : cs.toList.length = 8 := by
    have e : Tryz.prog.cellsOf 27 = 8 := by kernel_rfl
    rw [e] at hlen
    exact hlen
  have hl2 : cs.size = 8 := by simpa using hl
  have hcl : (Value.agg cs).cells.toList = cs.toList := rfl
  rw [hcl] at hff
  have g0 : DataW.trod enc Tryz.prog w base (fun _ => true) held k 3 ((cs.toList.drop 0).take (Tryz.prog.cellsOf 3)) = xs[0]? := hff 0 _ rfl
  rw [show Tryz.prog.cellsOf 3 = 1 by kernel_rfl] at g0
  obtain ⟨y0, hy0⟩ : ∃ y, xs[0]? = some y := ⟨_, List.getElem?_eq_getElem (by rw [hxl]; decide)⟩
  rw [hy0] at g0
  obtain ⟨a0, e0, _, w0⟩ := DataW.trod_int Tryz.underlying3 g0
  have z0 := cell_of e0
  have g1 : DataW.trod enc Tryz.prog w base (fun _ => true) held k 3 ((cs.toList.drop 1).take (Tryz.prog.cellsOf 3)) = xs[1]? := hff 1 _ rfl
  rw [show Tryz.prog.cellsOf 3 = 1 by kernel_rfl] at g1
  obtain ⟨y1, hy1⟩ : ∃ y, xs[1]? = some y := ⟨_, List.getElem?_eq_getElem (by rw [hxl]; decide)⟩
  rw [hy1] at g1
  obtain ⟨a1, e1, _, w1⟩ := DataW.trod_int Tryz.underlying3 g1
  have z1 := cell_of e1
  have g2 : DataW.trod enc Tryz.prog w base (fun _ => true) held k 3 ((cs.toList.drop 2).take (Tryz.prog.cellsOf 3)) = xs[2]? := hff 2 _ rfl
  rw [show Tryz.prog.cellsOf 3 = 1 by kernel_rfl] at g2
  obtain ⟨y2, hy2⟩ : ∃ y, xs[2]? = some y := ⟨_, List.getElem?_eq_getElem (by rw [hxl]; decide)⟩
  rw [hy2] at g2
  obtain ⟨a2, e2, _, w2⟩ := DataW.trod_int Tryz.underlying3 g2
  have z2 := cell_of e2
  have g3 : DataW.trod enc Tryz.prog w base (fun _ => true) held k 3 ((cs.toList.drop 3).take (Tryz.prog.cellsOf 3)) = xs[3]? := hff 3 _ rfl
  rw [show Tryz.prog.cellsOf 3 = 1 by kernel_rfl] at g3
  obtain ⟨y3, hy3⟩ : ∃ y, xs[3]? = some y := ⟨_, List.getElem?_eq_getElem (by rw [hxl]; decide)⟩
  rw [hy3] at g3
  obtain ⟨a3, e3, _, w3⟩ := DataW.trod_int Tryz.underlying3 g3
  have z3 := cell_of e3
  have g4 : DataW.trod enc Tryz.prog w base (fun _ => true) held k 3 ((cs.toList.drop 4).take (Tryz.prog.cellsOf 3)) = xs[4]? := hff 4 _ rfl
  rw [show Tryz.prog.cellsOf 3 = 1 by kernel_rfl] at g4
  obtain ⟨y4, hy4⟩ : ∃ y, xs[4]? = some y := ⟨_, List.getElem?_eq_getElem (by rw [hxl]; decide)⟩
  rw [hy4] at g4
  obtain ⟨a4, e4, _, w4⟩ := DataW.trod_int Tryz.underlying3 g4
  have z4 := cell_of e4
  have g5 : DataW.trod enc Tryz.prog w base (fun _ => true) held k 25 ((cs.toList.drop 5).take (Tryz.prog.cellsOf 25)) = xs[5]? := hff 5 _ rfl
  rw [show Tryz.prog.cellsOf 25 = 1 by kernel_rfl] at g5
  obtain ⟨y5, hy5⟩ : ∃ y, xs[5]? = some y := ⟨_, List.getElem?_eq_getElem (by rw [hxl]; decide)⟩
  rw [hy5] at g5
  obtain ⟨a5, e5, w5⟩ := trod_flt2 Tryz.underlying25 g5
  have z5 := cell_of e5
  have g6 : DataW.trod enc Tryz.prog w base (fun _ => true) held k 3 ((cs.toList.drop 6).take (Tryz.prog.cellsOf 3)) = xs[6]? := hff 6 _ rfl
  rw [show Tryz.prog.cellsOf 3 = 1 by kernel_rfl] at g6
  obtain ⟨y6, hy6⟩ : ∃ y, xs[6]? = some y := ⟨_, List.getElem?_eq_getElem (by rw [hxl]; decide)⟩
  rw [hy6] at g6
  obtain ⟨a6, e6, _, w6⟩ := DataW.trod_int Tryz.underlying3 g6
  have z6 := cell_of e6
  have g7 : DataW.trod enc Tryz.prog w base (fun _ => true) held k 3 ((cs.toList.drop 7).take (Tryz.prog.cellsOf 3)) = xs[7]? := hff 7 _ rfl
  rw [show Tryz.prog.cellsOf 3 = 1 by kernel_rfl] at g7
  obtain ⟨y7, hy7⟩ : ∃ y, xs[7]? = some y := ⟨_, List.getElem?_eq_getElem (by rw [hxl]; decide)⟩
  rw [hy7] at g7
  obtain ⟨a7, e7, _, w7⟩ := DataW.trod_int Tryz.underlying3 g7
  have z7 := cell_of e7
  have hcs : cs = #[.int .i64 a0, .int .i64 a1, .int .i64 a2, .int .i64 a3, .int .i64 a4, .float .f64 a5, .int .i64 a6, .int .i64 a7] := by
    apply Array.ext_getElem?
    intro i
    rw [← Array.getElem?_toList]
    by_cases hi : i < 8
    · match i, hi with
      | 0, _ => rw [z0]; rfl
      | 1, _ => rw [z1]; rfl
      | 2, _ => rw [z2]; rfl
      | 3, _ => rw [z3]; rfl
      | 4, _ => rw [z4]; rfl
      | 5, _ => rw [z5]; rfl
      | 6, _ => rw [z6]; rfl
      | 7, _ => rw [z7]; rfl
    rw [List.getElem?_eq_none (by omega), Array.getElem?_eq_none (by simp; omega)]
  subst hcs
  exact ⟨a0, a1, a2, a3, a4, a5, a6, a7, rfl, ⟨wf9 w0, wf9 w1, wf9 w2, wf9 w3, wf9 w4, by simpa [Lit.wf] using w5, wf9 w6, wf9 w7⟩⟩
theorem nodes_of2 {H : Type} {enc : TypeId × Value → H} {w : World} {base : Nat} {held : Bool} {fuel : Nat} {cs : List Value} {x : DataW H × List MemPlace} (h : DataW.trod enc Tryz.prog w base (fun _ => true) held fuel 22 cs = some x) : ∃ a n c F, cs = [.slice a n c] ∧ NSl w a n c F ∧ (a = none → c = 0) := by
  rcases stepsK_of (K := 4) Tryz.underlying22 Tryz.underlying57 (by kernel_rfl) rfl (fun j hj => match j, hj with
    | 0, _ => ⟨_, rfl, rfl, by kernel_rfl, by kernel_rfl⟩
    | 1, _ => ⟨_, rfl, rfl, by kernel_rfl, by kernel_rfl⟩
    | 2, _ => ⟨_, rfl, rfl, by kernel_rfl, by kernel_rfl⟩
    | 3, _ => ⟨_, rfl, rfl, by kernel_rfl, by kernel_rfl⟩) h with hcs | ⟨y, l, c, hcs, hl, hm, hcell⟩
  · exact ⟨none, 0, 0, fun _ _ => 0, hcs, nsl_nil w, fun _ => rfl⟩
  obtain ⟨F, hF⟩ := nsl_of hl hm hcell
  exact ⟨_, _, _, F, hcs, hF, fun e => by cases e⟩
theorem open_conf2 {H : Type} {enc : TypeId × Value → H} {w : World} {base0 base : Nat} {held : Bool} {v : Value} {d : DataW H} {ps : List MemPlace} (hv : Value.okWide Tryz.prog w .any base0 24 v) (h : DataW.Trod enc Tryz.prog w base (fun _ => true) held 24 v d ps) : ∃ K R M C Fl A a n c F, v = .agg #[.int .i64 K, .int .i64 R, .int .i64 M, .int .i64 C, .int .i64 Fl, .int .i64 A, .slice a n c] ∧ NSl w a n c F ∧ (a = none → c = 0) := by
  obtain ⟨cs, rfl, hsz⟩ := okWide_struct Tryz.underlying24 hv
  obtain ⟨fuel, hf⟩ := h
  obtain ⟨xs, k, _, _, hlen, hxl, hff⟩ := DataW.trod_struct Tryz.underlying24 hf
  have hl : cs.toList.length = 7 := by
    have e : Tryz.prog.cellsOf 24 = 7 := by kernel_rfl
    rw [e] at hlen
    exact hlen
  have hl2 : cs.size = 7 := by simpa using hl
  have hcl : (Value.agg cs).cells.toList = cs.toList := rfl
  rw [hcl] at hff
  have g0 : DataW.trod enc Tryz.prog w base (fun _ => true) held k 3 ((cs.toList.drop 0).take (Tryz.prog.cellsOf 3)) = xs[0]? := hff 0 _ rfl
  rw [show Tryz.prog.cellsOf 3 = 1 by kernel_rfl] at g0
  obtain ⟨y0, hy0⟩ : ∃ y, xs[0]? = some y := ⟨_, List.getElem?_eq_getElem (by rw [hxl]; decide)⟩
  rw [hy0] at g0
  obtain ⟨a0, e0, _, w0⟩ := DataW.trod_int Tryz.underlying3 g0
  have z0 := cell_of e0
  have g1 : DataW.trod enc Tryz.prog w base (fun _ => true) held k 3 ((cs.toList.drop 1).take (Tryz.prog.cellsOf 3)) = xs[1]? := hff 1 _ rfl
  rw [show Tryz.prog.cellsOf 3 = 1 by kernel_rfl] at g1
  obtain ⟨y1, hy1⟩ : ∃ y, xs[1]? = some y := ⟨_, List.getElem?_eq_getElem (by rw [hxl]; decide)⟩
  rw [hy1] at g1
  obtain ⟨a1, e1, _, w1⟩ := DataW.trod_int Tryz.underlying3 g1
  have z1 := cell_of e1
  have g2 : DataW.trod enc Tryz.prog w base (fun _ => true) held k 3 ((cs.toList.drop 2).take (Tryz.prog.cellsOf 3)) = xs[2]? := hff 2 _ rfl
  rw [show Tryz.prog.cellsOf 3 = 1 by kernel_rfl] at g2
  obtain ⟨y2, hy2⟩ : ∃ y, xs[2]? = some y := ⟨_, List.getElem?_eq_getElem (by rw [hxl]; decide)⟩
  rw [hy2] at g2
  obtain ⟨a2, e2, _, w2⟩ := DataW.trod_int Tryz.underlying3 g2
  have z2 := cell_of e2
  have g3 : DataW.trod enc Tryz.prog w base (fun _ => true) held k 3 ((cs.toList.drop 3).take (Tryz.prog.cellsOf 3)) = xs[3]? := hff 3 _ rfl
  rw [show Tryz.prog.cellsOf 3 = 1 by kernel_rfl] at g3
  obtain ⟨y3, hy3⟩ : ∃ y, xs[3]? = some y := ⟨_, List.getElem?_eq_getElem (by rw [hxl]; decide)⟩
  rw [hy3] at g3
  obtain ⟨a3, e3, _, w3⟩ := DataW.trod_int Tryz.underlying3 g3
  have z3 := cell_of e3
  have g4 : DataW.trod enc Tryz.prog w base (fun _ => true) held k 3 ((cs.toList.drop 4).take (Tryz.prog.cellsOf 3)) = xs[4]? := hff 4 _ rfl
  rw [show Tryz.prog.cellsOf 3 = 1 by kernel_rfl] at g4
  obtain ⟨y4, hy4⟩ : ∃ y, xs[4]? = some y := ⟨_, List.getElem?_eq_getElem (by rw [hxl]; decide)⟩
  rw [hy4] at g4
  obtain ⟨a4, e4, _, w4⟩ := DataW.trod_int Tryz.underlying3 g4
  have z4 := cell_of e4
  have g5 : DataW.trod enc Tryz.prog w base (fun _ => true) held k 3 ((cs.toList.drop 5).take (Tryz.prog.cellsOf 3)) = xs[5]? := hff 5 _ rfl
  rw [show Tryz.prog.cellsOf 3 = 1 by kernel_rfl] at g5
  obtain ⟨y5, hy5⟩ : ∃ y, xs[5]? = some y := ⟨_, List.getElem?_eq_getElem (by rw [hxl]; decide)⟩
  rw [hy5] at g5
  obtain ⟨a5, e5, _, w5⟩ := DataW.trod_int Tryz.underlying3 g5
  have z5 := cell_of e5
  have g6 : DataW.trod enc Tryz.prog w base (fun _ => true) held k 22 ((cs.toList.drop 6).take (Tryz.prog.cellsOf 22)) = xs[6]? := hff 6 _ rfl
  rw [show Tryz.prog.cellsOf 22 = 1 by kernel_rfl] at g6
  obtain ⟨y6, hy6⟩ : ∃ y, xs[6]? = some y := ⟨_, List.getElem?_eq_getElem (by rw [hxl]; decide)⟩
  rw [hy6] at g6
  obtain ⟨a6, m6, c6, F6, e6, w6⟩ := nodes_of2 g6
  have z6 := cell_of e6
  have hcs : cs = #[.int .i64 a0, .int .i64 a1, .int .i64 a2, .int .i64 a3, .int .i64 a4, .int .i64 a5, .slice a6 m6 c6] := by
    apply Array.ext_getElem?
    intro i
    rw [← Array.getElem?_toList]
    by_cases hi : i < 7
    · match i, hi with
      | 0, _ => rw [z0]; rfl
      | 1, _ => rw [z1]; rfl
      | 2, _ => rw [z2]; rfl
      | 3, _ => rw [z3]; rfl
      | 4, _ => rw [z4]; rfl
      | 5, _ => rw [z5]; rfl
      | 6, _ => rw [z6]; rfl
    rw [List.getElem?_eq_none (by omega), Array.getElem?_eq_none (by simp; omega)]
  subst hcs
  exact ⟨a0, a1, a2, a3, a4, a5, a6, m6, c6, F6, rfl, w6⟩
end Go.Proofs.YtchomkadekikdaaGreatDoor
namespace Go.Proofs.YtchomkadekikdaaGreatDoor
open Go.RowKit Go.ChangeShapes
set_option maxRecDepth 100000
set_option linter.unusedVariables false
def tabZ9 : List Int := [0, 1, 56, 2, 57, 49, 28, 3, 61, 58, 42, 50, 38, 29, 17, 4, 62, 47, 59, 36, 45, 43, 51, 22, 53, 39, 33, 30, 24, 18, 12, 5, 63, 55, 48, 27, 60, 41, 37, 16, 46, 35, 44, 21, 52, 32, 23, 11, 54, 26, 40, 15, 34, 20, 31, 10, 25, 14, 19, 9, 13, 8, 7, 6]
theorem tabZ9_at : ∀ j, j < 64 → tabZ9.getD j 0 = ((Lib.deBruijn64tab.getD j 0 : Nat) : Int) := by decide +kernel
theorem kind_str (i : Nat) (s : ByteArray) (h : s.data.toList = (kindT i).data.toList) : s = kindT i := by
  cases s
  generalize kindT i = k at h
  cases k
  congr
  exact Array.toList_inj.1 h
theorem trod_ifc {H : Type} {enc : TypeId × Value → H} {P : Program} {w : World} {base : Nat} {spare : Nat → Bool} {held : Bool} {t : TypeId} {fuel : Nat} {cs : List Value} {x : DataW H × List MemPlace} {ms : Array (String × TypeId)} (ht : P.underlying t = some (.interface ms)) (h : DataW.trod enc P w base spare held fuel t cs = some x) : ∃ ev, cs = [ev] ∧ (ev = .nilIface ∨ ∃ te pe, ev = .iface te pe) := by
  cases fuel with
  | zero => simp [DataW.trod] at h
  | succ n =>
    unfold DataW.trod at h
    rw [ht] at h
    split at h <;> simp_all
theorem vs_of {W : World} (h : laidMet Tryz.prog [("math/bits.deBruijn32tab", Rows.laid_math_bits_deBruijn32tab), ("math/bits.deBruijn64tab", Rows.laid_math_bits_deBruijn64tab), ("internal/strconv.uint64pow10", Rows.laid_internal_strconv_uint64pow10), ("strconv.ErrRange", Rows.laid_strconv_ErrRange), ("strconv.ErrSyntax", Rows.laid_strconv_ErrSyntax), ("millrace/conf.kindNames", Rows.laid_millrace_conf_kindNames)] W) : Vs9 W := by
  have h1 := laidMet.tail h
  have h2 := laidMet.tail h1
  have h3 := laidMet.tail h2
  have h4 := laidMet.tail h3
  have h5 := laidMet.tail h4
  have gT : Tryz.prog.globalNamed "math/bits.deBruijn64tab" = some 4 := by kernel_rfl
  have hT := Lib.tabIs_of_head (k := .u8) (zs := tabZ9) gT (by kernel_rfl) Tryz.underlying248 Tryz.underlying5 (by kernel_rfl) (by kernel_rfl) h1
  have hP := Lib.tabIs_of_head (k := .u64) (zs := Lib.pow10Tab) (show Tryz.prog.globalNamed "internal/strconv.uint64pow10" = some 3 by kernel_rfl) (by kernel_rfl) Tryz.underlying244 Tryz.underlying78 (by kernel_rfl) (by kernel_rfl) h2
  have gS : Tryz.prog.globalNamed "strconv.ErrSyntax" = some 5 := by kernel_rfl
  have gR : Tryz.prog.globalNamed "strconv.ErrRange" = some 6 := by kernel_rfl
  have gK : Tryz.prog.globalNamed "millrace/conf.kindNames" = some 0 := by kernel_rfl
  have one : ∀ (n : String) (d : DataW Unit) (r : List (String × DataW Unit)) (g : Nat), laidMet Tryz.prog ((n, d) :: r) W → Tryz.prog.globalNamed n = some g → (Tryz.prog.globals[g]?).map (·.type) = some 128 → ∃ ev, W.cell? ⟨g, 0, none⟩ = some ev ∧ (ev = .nilIface ∨ ∃ te pe, ev = .iface te pe) := by
    intro n d r g hl hg ht
    obtain ⟨ps, ⟨g0, t0, cs, fuel, p, q, hg0, ht0, hv, hd, _, _⟩, _⟩ := hl
    obtain rfl := Option.some.inj (hg.symm.trans hg0)
    obtain rfl := Option.some.inj (ht.symm.trans ht0)
    obtain ⟨ev, he, hk⟩ := trod_ifc Tryz.underlying128 hd
    refine ⟨ev, ?_, hk⟩
    have c := World.var?_cell hg hv 0
    have e : cs[0]? = some ev := by
      rw [← Array.getElem?_toList, he]
      rfl
    exact (c.trans e)
  have tS : (Tryz.prog.globals[5]?).map (·.type) = some 128 := by kernel_rfl
  have tR : (Tryz.prog.globals[6]?).map (·.type) = some 128 := by kernel_rfl
  refine ⟨?_, ⟨one _ _ _ _ h4 gS tS, one _ _ _ _ h3 gR tR⟩, ?_, hP⟩
  · obtain ⟨ps, ⟨g0, t0, cs, fuel, p, q, hg0, ht0, hv, hd, _, _⟩, _⟩ := h5
    obtain rfl := Option.some.inj (gK.symm.trans hg0)
    obtain rfl := Option.some.inj ((show (Tryz.prog.globals[0]?).map (·.type) = some 58 by kernel_rfl).symm.trans ht0)
    intro i hi
    obtain ⟨fuel', d, q', hd1, hd2⟩ := Lib.array_elem Tryz.underlying58 hd i hi
    rw [show Tryz.prog.cellsOf 9 = 1 by kernel_rfl, Nat.mul_one] at hd2
    obtain ⟨s, hs1, hs2, _⟩ := DataW.trod_string Tryz.underlying9 hd2
    have c := World.var?_cell gK hv i
    have e := cell_of hs1
    rw [Array.getElem?_toList] at e
    rw [c.trans e]
    have hd3 : d = .lit (.string s.data.toList) := congrArg Prod.fst hs2
    rw [hd3] at hd1
    congr 2
    refine kind_str i s ?_
    match i, hi, hd1 with
    | 0, _, hd1 => injection hd1 with hd1; injection hd1 with hd1; injection hd1 with hd1; exact hd1.symm
    | 1, _, hd1 => injection hd1 with hd1; injection hd1 with hd1; injection hd1 with hd1; exact hd1.symm
    | 2, _, hd1 => injection hd1 with hd1; injection hd1 with hd1; injection hd1 with hd1; exact hd1.symm
    | 3, _, hd1 => injection hd1 with hd1; injection hd1 with hd1; injection hd1 with hd1; exact hd1.symm
    | 4, _, hd1 => injection hd1 with hd1; injection hd1 with hd1; injection hd1 with hd1; exact hd1.symm
    | 5, _, hd1 => injection hd1 with hd1; injection hd1 with hd1; injection hd1 with hd1; exact hd1.symm
    | 6, _, hd1 => injection hd1 with hd1; injection hd1 with hd1; injection hd1 with hd1; exact hd1.symm
  intro j hj
  have hj2 : j < 64 := hj
  have hc := hT.cell gT j (show j < tabZ9.length from hj2)
  rw [← tabZ9_at j hj2]
  exact hc
end Go.Proofs.YtchomkadekikdaaGreatDoor
