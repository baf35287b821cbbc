/- Contracts of the program's functions, part 15: own work, joined in build order. -/
import Derived.Test.YtcndbmccediknaaJ14
import Derived.OrdersIn
import Derived.Deep.LoopGhost
import Derived.WalkKit
import Derived.Test.YtcndbmccediknaaRows
import Derived.RangeFuncNested
import Derived.RangeFuncCalls
import Derived.Maps.AppendAt
import Derived.Deep.Cut
import Derived.Deep.CutRange
import Derived.BigQuiet
import Derived.Deep.Slices
import Derived.Deep.Grids
import Derived.ChangeSlices
import Derived.ProofKit
import Derived.SizedLaws
import Derived.OpenShut
import Derived.Laws.IdiomArrays
namespace Go.Proofs.Ytcndbmccediknaa
open Go.RowKit
set_option maxRecDepth 100000
set_option linter.unusedVariables false
structure Good (ops : Array Oper) (a0 : Act) : Prop where
  once : ∀ (i j : Nat) oi oj t, ops[i]? = some oi → ops[j]? = some oj → oi.dst = some t → oj.dst = some t → i = j
  lt : ∀ (i : Nat) oi t, ops[i]? = some oi → oi.dst = some t → t < a0.tmps.size
def left (n : Nat) (L : Nat → Bool) : Nat := ((List.range n).filter fun i => !L i).length
end Go.Proofs.Ytcndbmccediknaa
namespace Go.Proofs.Ytcndbmccediknaa
open Go.RowKit
set_option maxRecDepth 100000
set_option linter.unusedVariables false
section
variable {W : World} {cs : List Value} {m : Nat} {dps : List (Nat × Nat)} {D : Bool → World → Prop} {L : Nat → Bool} {vs : Nat → Value} {w' : World}
end
end Go.Proofs.Ytcndbmccediknaa
namespace Go.Proofs.Ytcndbmccediknaa
open Go.RowKit Go.Shelf
set_option maxRecDepth 100000
set_option linter.unusedVariables false
attribute [local go_sem] Oper.semAt_some
section
variable {cs : List Value} {W5 W6 W7 W8 : World} {L : Nat → Bool} {vs : Nat → Value} {w' : World}
end
end Go.Proofs.Ytcndbmccediknaa
namespace Go.Proofs.Ytcndbmccediknaa
open Go.RowKit
set_option maxRecDepth 100000
set_option linter.unusedVariables false
structure Lx (w0 : World) (b : Nat) (x : Wv) (s : Sd) (P : Nat → List Pk) (wr : World) : Prop where
  ws : WS wr b x s P
  bel : Below w0.heap.size w0 wr
  mn : ∀ k, Mine x.d s k → w0.heap.size ≤ k
  bb : w0.heap.size ≤ b
section
variable {w0 : World} {b : Nat} {x : Wv} {s : Sd} {P : Nat → List Pk} {wr : World}
theorem Lx.mv (h : Lx w0 b x s P wr) {x' : Wv} {s' : Sd} {P' : Nat → List Pk} {w' : World} (k : WF b x.d s wr x' s' P' w') : Lx w0 b x' s' P' w' := by
  have hs := h.bel.size
  refine ⟨k.ws, ⟨k.fb.os.trans h.bel.os, k.fb.tape.trans h.bel.tape, k.fb.output.trans h.bel.output, Nat.le_trans hs k.fb.size, fun i hi => (k.fb.block i (by omega) (fun e => by have := h.bb; omega) (fun e => by have := h.mn i e; omega)).trans (h.bel.block i hi)⟩, fun j hj => ?_, h.bb⟩
  rw [k.dd] at hj
  rcases k.fb.mine j hj with e | e
  · exact h.mn j e
  omega
theorem Lx.below (h : Lx w0 b x s P wr) {w' : World} (k : Below wr.heap.size wr w') : Lx w0 b x s P w' := h.mv (h.ws.wf.below k)
end
end Go.Proofs.Ytcndbmccediknaa
namespace Go.Proofs.Ytcndbmccediknaa
open Go.RowKit
set_option maxRecDepth 100000
set_option linter.unusedVariables false
structure Ly (w0 : World) (b pb fb : Nat) (pc fc : Array Value) (x : Wv) (s : Sd) (P : Nat → List Pk) (wr : World) : Prop where
  lx : Lx w0 b x s P wr
  hp : wr.heap[pb]? = some (.cells pc 49)
  np : ¬ Mine x.d s pb
  bp : pb ≠ b
  hf : wr.heap[fb]? = some (.cells fc 22)
  nf : ¬ Mine x.d s fb
  bf : fb ≠ b
section
variable {w0 : World} {b pb fb : Nat} {pc fc : Array Value} {x : Wv} {s : Sd} {P : Nat → List Pk} {wr : World}
theorem Ly.mv (h : Ly w0 b pb fb pc fc x s P wr) {x' : Wv} {s' : Sd} {P' : Nat → List Pk} {w' : World} (k : WF b x.d s wr x' s' P' w') : Ly w0 b pb fb pc fc x' s' P' w' := by
  have l1 := (Array.getElem?_eq_some_iff.1 h.hp).1
  have l2 := (Array.getElem?_eq_some_iff.1 h.hf).1
  refine ⟨h.lx.mv k, (k.fb.block pb l1 h.bp h.np).trans h.hp, fun e => ?_, h.bp, (k.fb.block fb l2 h.bf h.nf).trans h.hf, fun e => ?_, h.bf⟩
  · rw [k.dd] at e
    rcases k.fb.mine pb e with e | e
    · exact h.np e
    omega
  rw [k.dd] at e
  rcases k.fb.mine fb e with e | e
  · exact h.nf e
  omega
theorem Ly.below (h : Ly w0 b pb fb pc fc x s P wr) {w' : World} (k : Below wr.heap.size wr w') : Ly w0 b pb fb pc fc x s P w' := h.mv (h.lx.ws.wf.below k)
theorem Ly.of (h : Lx w0 b x s P wr) (pc fc : Array Value) : Ly w0 b wr.heap.size (wr.heap.size + 1) pc fc x s P ((wr.alloc (.cells pc 49)).alloc (.cells fc 22)) := by
  obtain ⟨W1, e1⟩ : ∃ W1, W1 = wr.alloc (.cells pc 49) := ⟨_, rfl⟩
  have hp : W1.heap[wr.heap.size]? = some (.cells pc 49) := by rw [e1]; exact (MapKept.heap_alloc _ _).1
  have hs1 : W1.heap.size = wr.heap.size + 1 := by rw [e1]; exact Array.size_push _
  have B1 : Below wr.heap.size wr W1 := by rw [e1]; exact (Below.refl _ _).alloc (Nat.le_refl _) _
  rw [← e1, ← hs1]
  obtain ⟨W2, e2⟩ : ∃ W2, W2 = W1.alloc (.cells fc 22) := ⟨_, rfl⟩
  have hf : W2.heap[W1.heap.size]? = some (.cells fc 22) := by rw [e2]; exact (MapKept.heap_alloc _ _).1
  have B2 : Below W1.heap.size W1 W2 := by rw [e2]; exact (Below.refl _ _).alloc (Nat.le_refl _) _
  rw [← e2]
  have hb := World.rowIs.lt h.ws.wr
  have L1 := h.below B1
  exact ⟨L1.below B2, (B2.block _ (by omega)).trans hp, h.ws.ds.fresh (Nat.le_refl _), by omega, hf, L1.ws.ds.fresh (Nat.le_refl _), by omega⟩
end
structure Wst (w : World) (b pb fb : Nat) (pc fc : Array Value) (f : Nat) (p : Pk) (xs : List Pk) (k : Int) (x1 : Wv) (n : Nat) (x : Wv) (s : Sd) (P : Nat → List Pk) (c : Nat → Nat) (wr : World) : Prop where
  ly : Ly w b pb fb pc fc x s P wr
  iv : Iv 1024 n x s P c
  q : x.Q = x1.Q
  wi : Wi f p xs k x1.Sent x s P c
section
variable {w : World} {b pb fb : Nat} {pc fc : Array Value} {f : Nat} {p : Pk} {xs : List Pk} {k : Int} {x1 : Wv} {n : Nat} {x : Wv} {s : Sd} {P : Nat → List Pk} {c : Nat → Nat} {wr w' : World} {M : Int}
theorem Wst.below (h : Wst w b pb fb pc fc f p xs k x1 n x s P c wr) (hb : Below wr.heap.size wr w') : Wst w b pb fb pc fc f p xs k x1 n x s P c w' := ⟨h.ly.below hb, h.iv, h.q, h.wi⟩
theorem Wst.admit (h : Wst w b pb fb pc fc f p xs k x1 n x s P c wr) (hf : f < 4) {g : Nat} (hg : g < 4) (hgf : g ≠ f) (hm : Mvd b 1024 n x s P c M (Ev0 g x P) wr w') :
    ∃ x' s' P' c', Wst w b pb fb pc fc f p xs k x1 (n + 1) x' s' P' c' w' ∧ (P' g).length = (P g).length + 1 ∧ ∀ h, h ≠ g → P' h = P h := by
  obtain ⟨x', s', P', c', hQ, _, hE, hI', hS, hwf⟩ := hm
  refine ⟨x', s', P', c', ⟨h.ly.mv hwf, hI', hQ.trans h.q, h.wi.admit hI' (by omega) hS hQ hf hg hgf hE⟩, ?_, fun i hi => ?_⟩
  · obtain ⟨_, _, pk, _, e⟩ := hE
    rw [e, updN_eq, List.length_append, List.length_singleton]
  obtain ⟨_, _, pk, _, e⟩ := hE
  rw [e, updN_ne _ _ hi]
theorem Wst.next (h : Wst w b pb fb pc fc f p xs k x1 n x s P c wr) (hf : f < 4) (hk : p.size ≤ k * x1.Q f) (h2 : ∀ g, g < 4 → g ≠ f → 2 ≤ (P g).length) (hm : Mvd b 1024 n x s P c M (Ev1 x P) wr w') :
    ∃ x' s' P' c', Ly w b pb fb pc fc x' s' P' w' ∧ Iv 1024 (n + 1) x' s' P' c' ∧ x'.Q = x1.Q ∧ (∀ g, g < 4 → g ≠ f → x'.Sent g - x1.Sent g < k * x'.Q g + 65536) ∧ (Wi f p xs k x1.Sent x' s' P' c' ∨ P' f = xs) := by
  obtain ⟨x', s', P', c', hQ, _, hE, hI', hS, hwf⟩ := hm
  obtain ⟨e1, e2⟩ := h.wi.next hI' hS hQ hf (by rw [h.q]; exact hk) h2 hE
  exact ⟨x', s', P', c', h.ly.mv hwf, hI', hQ.trans h.q, e1, e2⟩
theorem mv_adm (g : Nat) (hg : g < 4) (z : Int) (hl : Lx w b x s P wr) (h : Iv 1024 n x s P c) (hn : n ≤ 100000) :
    Calls Try.prog 9 #[.pointer (some ⟨b, 0, none⟩), .agg #[.int .i64 0, .int .i64 (g : Int), .int .i64 z]] wr fun e w' => e = .returned (.bool true) ∧ ∃ M, Mvd b 1024 n x s P c M (Ev0 g x P) wr w' := by
  refine (mv_any b 0 (g : Int) z wr h hl.ws (by omega) hn (fun _ _ _ => (szOf_le z).2)).mono ?_
  rintro e w' ⟨rfl, hm⟩
  rw [show (((g : Int) % 4).toNat) = g by omega, show Ev 0 g x P = Ev0 g x P from (if_neg (by decide)).trans (if_neg (by decide))] at hm
  exact ⟨rfl, _, hm⟩
theorem mv_nxt (hl : Lx w b x s P wr) (h : Iv 1024 n x s P c) (hn : n ≤ 100000) :
    Calls Try.prog 9 #[.pointer (some ⟨b, 0, none⟩), .agg #[.int .i64 1, .int .i64 0, .int .i64 0]] wr fun e w' => e = .returned (.bool true) ∧ ∃ M, Mvd b 1024 n x s P c M (Ev1 x P) wr w' := by
  refine (mv_any b 1 0 0 wr h hl.ws (by omega) hn (fun h1 => absurd rfl h1)).mono ?_
  rintro e w' ⟨rfl, hm⟩
  rw [show Ev 1 (((0 : Int) % 4).toNat) x P = Ev1 x P from if_pos rfl] at hm
  exact ⟨rfl, _, hm⟩
end
def slen (w : World) (a : Addr) : Nat := match w.cell? a with
  | some (.slice _ n _) => n
  | _ => 0
theorem slen_eq {w : World} {a : Addr} {p : Option Addr} {n c : Nat} (h : w.cell? a = some (.slice p n c)) : slen w a = n := by
  unfold slen
  rw [h]
theorem ceil_ok {L q : Int} (h1 : 1 ≤ L) (h2 : L ≤ 1024) (h3 : 1 ≤ q) (h4 : q ≤ 1000) : (L + q - 1).tdiv q = (L + q - 1) / q ∧ L ≤ (L + q - 1) / q * q ∧ 0 ≤ (L + q - 1) / q ∧ (L + q - 1) / q ≤ 2024 := by
  refine ⟨Int.tdiv_eq_ediv_of_nonneg (by omega), ?_, Int.ediv_nonneg (by omega) (by omega), ?_⟩
  · have e := Int.mul_ediv_add_emod (L + q - 1) q
    have r := Int.emod_lt_of_pos (L + q - 1) (show 0 < q by omega)
    rw [Int.mul_comm] at e
    omega
  have : (L + q - 1) / q ≤ L + q - 1 := Int.ediv_le_self _ (by omega)
  omega
end Go.Proofs.Ytcndbmccediknaa
namespace Go.Proofs.Ytcndbmccediknaa
open Go.RowKit
set_option maxRecDepth 100000
set_option linter.unusedVariables false
set_option linter.unusedSimpArgs false
set_option maxHeartbeats 16000000 in
theorem waits_any (Q : Nat → Int) (a : Option Addr) (n cap : Nat) (F : Nat → Nat → Int) (f0 sz : Int) (w : World) (hF : MvIn w a n F) :
    Calls Try.prog 5 #[.agg #[.int .i64 (Q 0), .int .i64 (Q 1), .int .i64 (Q 2), .int .i64 (Q 3)], .slice a n cap, .int .i64 f0, .int .i64 sz] w fun e w' => e = .returned (.bool true) ∧ Below w.heap.size w w' := by
  have HF : Hid (MvIn w a n F) := hF
  clear hF
  go_enter Try.func5, Try.ntmps5
  go_wp2_with fail
  refine (open_any Q _).mono ?_
  rintro e w1 ⟨b, x0, s0, c0, rfl, hOn, hWS, hB1, hbb, hmn⟩
  have B0 : Below w.heap.size w (w.alloc (.cells #[.int .i64 (Q 0), .int .i64 (Q 1), .int .i64 (Q 2), .int .i64 (Q 3)] 22)) := (Below.refl _ _).alloc (Nat.le_refl _) _
  have HA : Hid (Opn 4 x0 s0 c0 ∧ WS w1 b x0 s0 (fun _ => []) ∧ Below w.heap.size w w1 ∧ w.heap.size ≤ b ∧ ∀ k, Mine x0.d s0 k → w.heap.size ≤ k) :=
    ⟨hOn, hWS, B0.trans (hB1.mono B0.size), Nat.le_trans B0.size hbb, fun k hk => Nat.le_trans B0.size (hmn k hk)⟩
  clear hOn hWS hB1 hbb hmn B0
  go_wp2_with fail
  refine (told15_any _).mono ?_
  rintro e w2 ⟨rfl, hb2⟩
  have HB : Hid (Opn 4 x0 s0 c0 ∧ WS w2 b x0 s0 (fun _ => []) ∧ Below w.heap.size w w2 ∧ w.heap.size ≤ b ∧ ∀ k, Mine x0.d s0 k → w.heap.size ≤ k) :=
    ⟨HA.out.1, HA.out.2.1.below hb2, HA.out.2.2.1.trans (hb2.mono HA.out.2.2.1.size), HA.out.2.2.2⟩
  clear hb2 HA
  go_wp2_with fail
  have HL0 : Hid (Lx w b x0 s0 (fun _ => []) w2 ∧ Iv 1024 0 x0 s0 (fun _ => []) c0 ∧ SQ x0 (fun _ => [])) :=
    ⟨⟨HB.out.2.1, HB.out.2.2.1, HB.out.2.2.2.2, HB.out.2.2.2.1⟩, HB.out.1.iv _ _ (fun _ _ => rfl), fun f _ => ⟨List.Pairwise.nil, fun p hp => by cases hp⟩⟩
  clear HB
  obtain ⟨f, ef⟩ : ∃ f, f = (f0 % 4).toNat := ⟨_, rfl⟩
  have hf : f < 4 := by omega
  have hff : bits .and .i64 f0 3 = (f : Int) := by rw [i64_and3]; omega
  clear ef
  go_loopw [10] (fun q10 wr => ∃ (k : Nat) (x : Wv) (s : Sd) (P : Nat → List Pk) (c : Nat → Nat), q10 = .int .i64 (k : Int) ∧ k ≤ n ∧ k ≤ 60 ∧ Hid (Lx w b x s P wr ∧ Iv 1024 k x s P c ∧ SQ x P)) (fun q10 _ => 60 - (intOf q10).toNat)
  case atStart => exact ⟨0, x0, s0, _, c0, rfl, by omega, by omega, HL0.out⟩
  case round =>
    clear HL0
    obtain ⟨k, x, s, P, c, rfl, hk, hk2, hI⟩ := hrel
    go_upto_region 5 with fail
    go_cut [32] from 25 to 32 (fun s32 wx => wx = wr ∧ s32 = .bool (decide (k < n ∧ k < 60)))
    case first =>
      by_cases h1 : k < n
      · by_cases h2 : k < 60
        · have d2 : decide ((k : Int) < 60) = true := decide_eq_true (by omega)
          have e9 : decide (k < n ∧ k < 60) = true := decide_eq_true ⟨h1, h2⟩
          go_wp2_with fail
          go_meet
          exact ⟨rfl, by first | rw [e9] | rfl⟩
        have d2 : decide ((k : Int) < 60) = false := decide_eq_false (by omega)
        have e9 : decide (k < n ∧ k < 60) = false := decide_eq_false (fun h => h2 h.2)
        go_wp2_with fail
        go_meet
        exact ⟨rfl, by first | rw [e9] | rfl⟩
      have e9 : decide (k < n ∧ k < 60) = false := decide_eq_false (fun h => h1 h.1)
      go_wp2_with fail
      go_meet
      exact ⟨rfl, by first | rw [e9] | rfl⟩
    case rest =>
      obtain ⟨hw, rfl⟩ := hcut
      rw [hw]
      clear hw wc
      by_cases hkk : k < n ∧ k < 60
      · rw [decide_eq_true hkk]
        obtain ⟨g, o, rfl, t0, t1, t2⟩ := HF.out.at hI.out.1.bel hkk.1
        obtain ⟨kd, ekd⟩ : ∃ z, z = F k 0 := ⟨_, rfl⟩
        obtain ⟨fl, efl⟩ : ∃ z, z = F k 1 := ⟨_, rfl⟩
        obtain ⟨sz2, esz⟩ : ∃ z, z = F k 2 := ⟨_, rfl⟩
        rw [← ekd] at t0
        rw [← efl] at t1
        rw [← esz] at t2
        have hin : (k : Int) < (n : Int) := by omega
        have MV := mv_any b kd fl sz2 wr hI.out.2.1 hI.out.1.ws (by omega) (by omega) (fun _ _ _ => (szOf_le sz2).2)
        obtain ⟨m, em⟩ : ∃ m, m = mostOf x.most kd sz2 := ⟨_, rfl⟩
        rw [← em] at MV
        replace MV : Hid (Calls Try.prog 9 #[.pointer (some ⟨b, 0, none⟩), .agg #[.int .i64 kd, .int .i64 fl, .int .i64 sz2]] wr fun e w' => e = .returned (.bool true) ∧ Mvd b 1024 k x s P c m (Ev kd (fl % 4).toNat x P) wr w') := MV
        have HKK : Hid (k < n ∧ k < 60) := hkk
        clear ekd efl esz hkk em
        have wk : IntKind.i64.wrap ((k : Int) + 1) = (k : Int) + 1 := by rw [IntKind.wrap_i64]; omega
        go_wp2_with fail
        refine MV.out.mono ?_
        rintro e w3 ⟨rfl, hmv⟩
        clear MV
        obtain ⟨x', s', P', c', hQ, hm, hE, hI', hS, hwf⟩ := hmv
        have HI : Hid (Lx w b x' s' P' w3 ∧ Iv 1024 (k + 1) x' s' P' c' ∧ SQ x' P') := ⟨hI.out.1.mv hwf, hI', hI.out.2.2.ev hE⟩
        clear hI hI' hS hwf hQ t0 t1 t2 hm hE
        go_wp2_with fail
        go_roundw
        case rel => exact ⟨k + 1, x', s', P', c', by go_num, by have := HKK.out; omega, by have := HKK.out; omega, HI.out⟩
        case measure => have := HKK.out.2; simp [intOf]; omega
      rw [decide_eq_false hkk]
      clear hkk hk
      have LX := hI.out.1
      obtain ⟨la, lc, e5, e6, e7⟩ := LX.ws.ls f hf
      have c5 := LX.ws.wr.cL hf
      rw [e5] at c5
      have hfl : (f : Int) < 4 := by omega
      have hfm : ((f : Int) % 4).toNat = f := by omega
      go_upto_region 10 with fail
      go_cut [59] from 44 to 59 (fun s59 wx => s59 = .bool false ∧ Hid (∃ (n1 : Nat) (x : Wv) (s : Sd) (P : Nat → List Pk) (c : Nat → Nat), n1 ≤ 61 ∧ Lx w b x s P wx ∧ Iv 1024 n1 x s P c ∧ SQ x P ∧ P f ≠ []))
      case first =>
        by_cases hP : P f = []
        · rw [hP] at c5
          simp only [List.length_nil] at c5
          have MV := mv_any b 0 (f : Int) sz wr hI.out.2.1 LX.ws (by omega) (by omega) (fun _ _ _ => (szOf_le sz).2)
          obtain ⟨m, em⟩ : ∃ m, m = mostOf x.most 0 sz := ⟨_, rfl⟩
          rw [← em, hfm] at MV
          replace MV : Hid (Calls Try.prog 9 #[.pointer (some ⟨b, 0, none⟩), .agg #[.int .i64 0, .int .i64 (f : Int), .int .i64 sz]] wr fun e w' => e = .returned (.bool true) ∧ Mvd b 1024 k x s P c m (Ev 0 f x P) wr w') := MV
          clear em e5 e6 e7 LX
          go_wp2_with fail
          refine MV.out.mono ?_
          rintro e w3 ⟨rfl, hmv⟩
          clear MV
          obtain ⟨x', s', P', c', hQ, hm, hE, hI', hS, hwf⟩ := hmv
          have HI : Hid (Lx w b x' s' P' w3 ∧ Iv 1024 (k + 1) x' s' P' c' ∧ SQ x' P' ∧ P' f ≠ []) := ⟨hI.out.1.mv hwf, hI', hI.out.2.2.ev hE, by
            obtain ⟨_, _, pk, _, e4⟩ : Ev0 f x P x' s' P' c' := by
              have : Ev 0 f x P = Ev0 f x P := (if_neg (by decide)).trans (if_neg (by decide))
              rw [← this]
              exact hE
            rw [e4, updN_eq]
            simp⟩
          clear hI hI' hS hwf hQ hm hE
          go_wp2_with fail
          go_meet
          exact ⟨rfl, k + 1, x', s', P', c', by omega, HI.out⟩
        have hlp : 0 < (P f).length := List.length_pos_iff.2 hP
        obtain ⟨nl, enl⟩ : ∃ nl, nl = (P f).length := ⟨_, rfl⟩
        rw [← enl] at c5 hlp
        have n0 : ((nl : Int) == 0) = false := beq_eq_false_iff_ne.2 (by omega)
        have n1 : ¬ (nl : Int) = 0 := by omega
        clear e5 e6 e7 LX enl
        go_wp2_with fail
        go_meet
        exact ⟨rfl, k, x, s, P, c, by omega, hI.out.1, hI.out.2.1, hI.out.2.2, hP⟩
      case rest =>
        obtain ⟨rfl, HC⟩ := hcut
        clear hI LX e5 e6 e7 c5 hk2
        obtain ⟨n1, x1, s1, P1, c1, hn1, hC⟩ := HC.out
        clear HC
        obtain ⟨wd, ewd⟩ : ∃ wd, wd = wc := ⟨_, rfl⟩
        rw [← ewd] at hC ⊢
        clear ewd wc
        have HC : Hid (Lx w b x1 s1 P1 wd ∧ Iv 1024 n1 x1 s1 P1 c1 ∧ SQ x1 P1 ∧ P1 f ≠ []) := hC
        clear hC
        obtain ⟨p, xs, hpx⟩ : ∃ p xs, P1 f = p :: xs := by
          have := HC.out.2.2.2
          cases e : P1 f with
          | nil => exact absurd e this
          | cons p xs => exact ⟨p, xs, rfl⟩
        have LX := HC.out.1
        obtain ⟨la, lc, e5, e6, e7⟩ := LX.ws.ls f hf
        have hlp : 0 < (P1 f).length := by rw [hpx]; simp
        obtain ⟨gl, ol, rfl, _, _, e8⟩ := e7 hlp
        have c5 := LX.ws.wr.cL hf
        rw [e5] at c5
        have hg0 : (P1 f).getD 0 Pk.zero = p := by rw [hpx]; rfl
        have hcc := fun j hj => e8 0 hlp j hj
        rw [hg0] at hcc
        obtain ⟨p0, p1, p2, p3, p4, p5⟩ := p
        have k0 : wd.cell? ⟨gl, ol, none⟩ = some (.int .i64 p0) := by simpa [encPk] using hcc 0 (by omega)
        have k1 : wd.cell? ⟨gl, ol + 1, none⟩ = some (.int .i64 p1) := by simpa [encPk] using hcc 1 (by omega)
        have k2 : wd.cell? ⟨gl, ol + 2, none⟩ = some (.int .i64 p2) := by simpa [encPk] using hcc 2 (by omega)
        have k3 : wd.cell? ⟨gl, ol + 3, none⟩ = some (.int .i64 p3) := by simpa [encPk] using hcc 3 (by omega)
        have k4 : wd.cell? ⟨gl, ol + 4, none⟩ = some (.int .i64 p4) := by simpa [encPk] using hcc 4 (by omega)
        have k5 : wd.cell? ⟨gl, ol + 5, none⟩ = some (.int .i64 p5) := by simpa [encPk] using hcc 5 (by omega)
        obtain ⟨nl, enl⟩ : ∃ nl, nl = (P1 f).length := ⟨_, rfl⟩
        rw [← enl] at c5 hlp
        have nl1 : (0 : Int) < (nl : Int) := by omega
        have HPX : Hid (P1 f = (⟨p0, p1, p2, p3, p4, p5⟩ : Pk) :: xs) := hpx
        clear e5 e6 e7 e8 hg0 hcc hpx enl LX
        go_wp2_with fail
        obtain ⟨W1, eW1⟩ : ∃ W1, W1 = wd.alloc (.cells #[.int .i64 p0, .int .i64 p1, .int .i64 p2, .int .i64 p3, .int .i64 p4, .int .i64 p5] 49) := ⟨_, rfl⟩
        obtain ⟨pb, epb⟩ : ∃ pb, pb = wd.heap.size := ⟨_, rfl⟩
        have B1 : Below wd.heap.size wd W1 := by rw [eW1]; exact (Below.refl _ _).alloc (Nat.le_refl _) _
        have hp1 : W1.heap[pb]? = some (.cells #[.int .i64 p0, .int .i64 p1, .int .i64 p2, .int .i64 p3, .int .i64 p4, .int .i64 p5] 49) := by rw [eW1, epb]; exact (MapKept.heap_alloc _ _).1
        have LX1 := HC.out.1.below B1
        have k3 : W1.cell? ⟨pb, 3, none⟩ = some (.int .i64 p3) := by simp [World.cell?, hp1]
        obtain ⟨qf, eqf⟩ : ∃ qf, qf = x1.Q f := ⟨_, rfl⟩
        have cq1 : W1.cell? ⟨b, 1 + f, none⟩ = some (.int .i64 qf) := by rw [eqf]; exact LX1.ws.wr.cQ hf
        have hq := (HC.out.2.1.qn f hf).2
        rw [← eqf] at hq
        have hps : 1 ≤ p3 ∧ p3 ≤ 1024 := HC.out.2.1.size hf (⟨p0, p1, p2, p3, p4, p5⟩ : Pk) (by rw [HPX.out]; simp)
        obtain ⟨u1, u2, u3, u4⟩ := ceil_ok hps.1 hps.2 hq.1 hq.2
        obtain ⟨kk, ekk⟩ : ∃ kk, kk = (p3 + qf - 1) / qf := ⟨_, rfl⟩
        rw [← ekk] at u1 u2 u3 u4
        have v1 : IntKind.i64.wrap (p3 + qf) = p3 + qf := by rw [IntKind.wrap_i64]; omega
        have v2 : IntKind.i64.wrap (p3 + qf - 1) = p3 + qf - 1 := by rw [IntKind.wrap_i64]; omega
        have v3 : IntKind.i64.wrap kk = kk := by rw [IntKind.wrap_i64]; omega
        have v4 : ¬ qf = 0 := by omega
        have v5 : (qf == 0) = false := beq_eq_false_iff_ne.2 v4
        have HKQ : Hid (qf = x1.Q f ∧ p3 ≤ kk * qf ∧ 0 ≤ kk ∧ kk ≤ 2024 ∧ 1 ≤ p3 ∧ p3 ≤ 1024) := ⟨eqf, u2, u3, u4, hps⟩
        obtain ⟨s0', es0⟩ : ∃ z, z = x1.Sent 0 := ⟨_, rfl⟩
        obtain ⟨s1', es1⟩ : ∃ z, z = x1.Sent 1 := ⟨_, rfl⟩
        obtain ⟨s2', es2⟩ : ∃ z, z = x1.Sent 2 := ⟨_, rfl⟩
        obtain ⟨s3', es3⟩ : ∃ z, z = x1.Sent 3 := ⟨_, rfl⟩
        have d0 : W1.cell? ⟨b, 13, none⟩ = some (.int .i64 s0') := by rw [es0]; exact LX1.ws.wr.cS (f := 0) (by omega)
        have d1 : W1.cell? ⟨b, 14, none⟩ = some (.int .i64 s1') := by rw [es1]; exact LX1.ws.wr.cS (f := 1) (by omega)
        have d2 : W1.cell? ⟨b, 15, none⟩ = some (.int .i64 s2') := by rw [es2]; exact LX1.ws.wr.cS (f := 2) (by omega)
        have d3 : W1.cell? ⟨b, 16, none⟩ = some (.int .i64 s3') := by rw [es3]; exact LX1.ws.wr.cS (f := 3) (by omega)
        have LY := Ly.of HC.out.1 #[.int .i64 p0, .int .i64 p1, .int .i64 p2, .int .i64 p3, .int .i64 p4, .int .i64 p5] #[.int .i64 s0', .int .i64 s1', .int .i64 s2', .int .i64 s3']
        have hfb : W1.heap.size = pb + 1 := by rw [eW1, epb]; exact Array.size_push _
        rw [← eW1, ← epb] at LY
        rw [← eW1, ← epb]
        have HES : Hid (s0' = x1.Sent 0 ∧ s1' = x1.Sent 1 ∧ s2' = x1.Sent 2 ∧ s3' = x1.Sent 3) := ⟨es0, es1, es2, es3⟩
        clear eqf hq hps u2 u3 u4 ekk B1 hp1 LX1 es0 es1 es2 es3 eW1 epb k0 k1 k2 k4 k5 c5 hlp nl1
        go_region
        go_wp2_with fail
        obtain ⟨W2, eW2⟩ : ∃ W2, W2 = (W1.alloc (.cells #[.int .i64 s0', .int .i64 s1', .int .i64 s2', .int .i64 s3'] 22)).drew := ⟨_, rfl⟩
        rw [← eW2]
        have LY2 := LY.below (w' := W2) (by rw [eW2]; exact bel_drew (Below.refl _ _))
        obtain ⟨fb, efb⟩ : ∃ fb, fb = pb + 1 := ⟨_, rfl⟩
        rw [← efb] at LY2 ⊢
        have hseq : ∀ y, y ∈ xs → p4 < y.seq := by
          have := (HC.out.2.2.1 f hf).1
          rw [HPX.out] at this
          exact fun y hy => (List.pairwise_cons.1 this).1 y hy
        have hfr : ∀ h, h < 4 → 0 ≤ x1.Sent h ∧ x1.Sent h ≤ 62464 := fun h hh => by
          have := HC.out.2.1.sb h hh
          omega
        have HK : Hid ((∀ y, y ∈ xs → p4 < y.seq) ∧ (∀ h, h < 4 → 0 ≤ x1.Sent h ∧ x1.Sent h ≤ 62464) ∧ p3 ≤ kk * x1.Q f ∧ 0 ≤ kk ∧ kk ≤ 2024) := ⟨hseq, hfr, by rw [← HKQ.out.1]; exact HKQ.out.2.1, HKQ.out.2.2.1, HKQ.out.2.2.2.1⟩
        have HS2 : Hid (Ly w b pb fb #[.int .i64 p0, .int .i64 p1, .int .i64 p2, .int .i64 p3, .int .i64 p4, .int .i64 p5] #[.int .i64 s0', .int .i64 s1', .int .i64 s2', .int .i64 s3'] x1 s1 P1 W2 ∧ Iv 1024 n1 x1 s1 P1 c1 ∧ x1.Q = x1.Q ∧ (Wi f ⟨p0, p1, p2, p3, p4, p5⟩ xs kk x1.Sent x1 s1 P1 c1 ∨ P1 f = xs)) :=
          ⟨LY2, HC.out.2.1, rfl, .inl (Wi.start HC.out.2.1 (by omega) hf HPX.out HKQ.out.2.2.1)⟩
        clear LY LY2 eW2 efb hseq hfr k3 cq1 d0 d1 d2 d3 u1 v1 v2 v3 v4 v5 hfb HKQ HPX HC
        go_loopw [14] (fun q14 wr => ∃ (i n2 : Nat) (x : Wv) (s : Sd) (P : Nat → List Pk) (c : Nat → Nat), q14 = .int .i64 (i : Int) ∧ i ≤ 3000 ∧ n2 ≤ 61 + 9 * i ∧ Hid (Ly w b pb fb #[.int .i64 p0, .int .i64 p1, .int .i64 p2, .int .i64 p3, .int .i64 p4, .int .i64 p5] #[.int .i64 s0', .int .i64 s1', .int .i64 s2', .int .i64 s3'] x s P wr ∧ Iv 1024 n2 x s P c ∧ x.Q = x1.Q ∧ (Wi f ⟨p0, p1, p2, p3, p4, p5⟩ xs kk x1.Sent x s P c ∨ P f = xs))) (fun q14 _ => 3000 - (intOf q14).toNat)
        case atStart => exact ⟨0, n1, x1, s1, P1, c1, rfl, by omega, by omega, HS2.out⟩
        case round =>
          clear HS2
          obtain ⟨i, n2, x, s, P, c, rfl, hi, hn2, HI⟩ := hrel
          go_upto_region 16 with fail
          go_cut [112] from 89 to 112 (fun s112 wx => (∃ nd, wx = wr.drewN nd) ∧ ((s112 = .bool true ∧ Hid (i < 3000 ∧ Wi f ⟨p0, p1, p2, p3, p4, p5⟩ xs kk x1.Sent x s P c)) ∨ s112 = .bool false))
          case first =>
            have t0 : wr.cell? ⟨pb, 0, none⟩ = some (.int .i64 p0) := by simp [World.cell?, HI.out.1.hp]
            have t1 : wr.cell? ⟨pb, 1, none⟩ = some (.int .i64 p1) := by simp [World.cell?, HI.out.1.hp]
            have t2 : wr.cell? ⟨pb, 2, none⟩ = some (.int .i64 p2) := by simp [World.cell?, HI.out.1.hp]
            have t3 : wr.cell? ⟨pb, 3, none⟩ = some (.int .i64 p3) := by simp [World.cell?, HI.out.1.hp]
            have t4 : wr.cell? ⟨pb, 4, none⟩ = some (.int .i64 p4) := by simp [World.cell?, HI.out.1.hp]
            have t5 : wr.cell? ⟨pb, 5, none⟩ = some (.int .i64 p5) := by simp [World.cell?, HI.out.1.hp]
            have LS := HI.out.1.lx.ws
            obtain ⟨la, lc, e5, e6, e7⟩ := LS.ls f hf
            have c5 := LS.wr.cL hf
            rw [e5] at c5
            by_cases hi3 : i < 3000
            · have d2 : decide ((i : Int) < 3000) = true := decide_eq_true (by omega)
              rcases HI.out.2.2.2 with hW | hT
              · have hlp : 0 < (P f).length := by rw [hW.hd]; simp
                obtain ⟨gl, ol, rfl, _, _, e8⟩ := e7 hlp
                have hg0 : (P f).getD 0 Pk.zero = ⟨p0, p1, p2, p3, p4, p5⟩ := by rw [hW.hd]; rfl
                have hcc := fun j hj => e8 0 hlp j hj
                rw [hg0] at hcc
                have k0 : wr.cell? ⟨gl, ol, none⟩ = some (.int .i64 p0) := by simpa [encPk] using hcc 0 (by omega)
                have k1 : wr.cell? ⟨gl, ol + 1, none⟩ = some (.int .i64 p1) := by simpa [encPk] using hcc 1 (by omega)
                have k2 : wr.cell? ⟨gl, ol + 2, none⟩ = some (.int .i64 p2) := by simpa [encPk] using hcc 2 (by omega)
                have k3 : wr.cell? ⟨gl, ol + 3, none⟩ = some (.int .i64 p3) := by simpa [encPk] using hcc 3 (by omega)
                have k4 : wr.cell? ⟨gl, ol + 4, none⟩ = some (.int .i64 p4) := by simpa [encPk] using hcc 4 (by omega)
                have k5 : wr.cell? ⟨gl, ol + 5, none⟩ = some (.int .i64 p5) := by simpa [encPk] using hcc 5 (by omega)
                obtain ⟨nl, enl⟩ : ∃ nl, nl = (P f).length := ⟨_, rfl⟩
                rw [← enl] at c5 hlp
                have nl1 : (0 : Int) < (nl : Int) := by omega
                have nl2 : decide ((0 : Int) < (nl : Int)) = true := decide_eq_true nl1
                have HW : Hid (i < 3000 ∧ Wi f ⟨p0, p1, p2, p3, p4, p5⟩ xs kk x1.Sent x s P c) := ⟨hi3, hW⟩
                clear e5 e6 e7 e8 hg0 hcc enl LS hW
                go_region
                go_wp2_with fail
                go_meet
                exact ⟨⟨1, rfl⟩, .inl ⟨rfl, HW⟩⟩
              rcases xs with _ | ⟨y, ys⟩
              · rw [hT] at c5
                simp only [List.length_nil] at c5
                clear e5 e6 e7 LS hT
                go_region
                go_wp2_with fail
                go_meet
                exact ⟨⟨1, rfl⟩, .inr rfl⟩
              have hlp : 0 < (P f).length := by rw [hT]; simp
              obtain ⟨gl, ol, rfl, _, _, e8⟩ := e7 hlp
              have hg0 : (P f).getD 0 Pk.zero = y := by rw [hT]; rfl
              have hcc := fun j hj => e8 0 hlp j hj
              rw [hg0] at hcc
              have hys := HK.out.1 y (by simp)
              obtain ⟨y0, y1, y2, y3, y4, y5⟩ := y
              have k0 : wr.cell? ⟨gl, ol, none⟩ = some (.int .i64 y0) := by simpa [encPk] using hcc 0 (by omega)
              have k1 : wr.cell? ⟨gl, ol + 1, none⟩ = some (.int .i64 y1) := by simpa [encPk] using hcc 1 (by omega)
              have k2 : wr.cell? ⟨gl, ol + 2, none⟩ = some (.int .i64 y2) := by simpa [encPk] using hcc 2 (by omega)
              have k3 : wr.cell? ⟨gl, ol + 3, none⟩ = some (.int .i64 y3) := by simpa [encPk] using hcc 3 (by omega)
              have k4 : wr.cell? ⟨gl, ol + 4, none⟩ = some (.int .i64 y4) := by simpa [encPk] using hcc 4 (by omega)
              have k5 : wr.cell? ⟨gl, ol + 5, none⟩ = some (.int .i64 y5) := by simpa [encPk] using hcc 5 (by omega)
              obtain ⟨nl, enl⟩ : ∃ nl, nl = (P f).length := ⟨_, rfl⟩
              rw [← enl] at c5 hlp
              have nl1 : (0 : Int) < (nl : Int) := by omega
              have nl2 : decide ((0 : Int) < (nl : Int)) = true := decide_eq_true nl1
              have hys2 : p4 < y4 := hys
              have ny : (y4 == p4) = false := beq_eq_false_iff_ne.2 (by omega)
              clear e5 e6 e7 e8 hg0 hcc enl LS hT hys hys2
              go_region
              go_wp2_with fail
              go_meet
              exact ⟨⟨1, rfl⟩, .inr (by simp [ny])⟩
            have d2 : decide ((i : Int) < 3000) = false := decide_eq_false (by omega)
            clear e5 e6 e7 LS
            go_region
            go_wp2_with fail
            go_meet
            exact ⟨⟨1, rfl⟩, .inr rfl⟩
          case rest =>
            obtain ⟨⟨nd, hw⟩, hcut⟩ := hcut
            rw [hw]
            clear hw wc
            rcases hcut with ⟨rfl, HW⟩ | rfl
            · have LY := HI.out.1.below (bel_drewN (Below.refl _ _) nd)
              obtain ⟨W3, eW3⟩ : ∃ W3, W3 = wr.drewN nd := ⟨_, rfl⟩
              rw [← eW3] at LY ⊢
              have HI3 : Hid (Wst w b pb fb #[.int .i64 p0, .int .i64 p1, .int .i64 p2, .int .i64 p3, .int .i64 p4, .int .i64 p5] #[.int .i64 s0', .int .i64 s1', .int .i64 s2', .int .i64 s3'] f ⟨p0, p1, p2, p3, p4, p5⟩ xs kk x1 n2 x s P c W3) := ⟨LY, HI.out.2.1, HI.out.2.2.1, HW.out.2⟩
              have hi3 := HW.out.1
              have wi : IntKind.i64.wrap ((i : Int) + 1) = (i : Int) + 1 := by rw [IntKind.wrap_i64]; omega
              clear LY eW3 HI HW
              go_wp2_with fail
              go_loopw [15] (fun q15 wr => ∃ (g n3 : Nat) (x : Wv) (s : Sd) (P : Nat → List Pk) (c : Nat → Nat), q15 = .int .i64 (g : Int) ∧ g ≤ 4 ∧ n3 ≤ 61 + 9 * i + 2 * g ∧ Hid (Wst w b pb fb #[.int .i64 p0, .int .i64 p1, .int .i64 p2, .int .i64 p3, .int .i64 p4, .int .i64 p5] #[.int .i64 s0', .int .i64 s1', .int .i64 s2', .int .i64 s3'] f ⟨p0, p1, p2, p3, p4, p5⟩ xs kk x1 n3 x s P c wr ∧ ∀ h, h < g → h ≠ f → 2 ≤ (P h).length)) (fun q15 _ => 4 - (intOf q15).toNat)
              case atStart => exact ⟨0, n2, x, s, P, c, rfl, by omega, by omega, HI3.out, fun h hh => by omega⟩
              case round =>
                clear HI3
                obtain ⟨g, n3, x, s, P, c, rfl, hg4, hn3, HG⟩ := hrel
                by_cases hg : g < 4
                · have hgl : (g : Int) < 4 := by omega
                  have wg : IntKind.i64.wrap ((g : Int) + 1) = (g : Int) + 1 := by rw [IntKind.wrap_i64]; omega
                  go_wp2_with fail
                  go_loopw [131] (fun _ wr => ∃ (n4 : Nat) (x : Wv) (s : Sd) (P : Nat → List Pk) (c : Nat → Nat), n4 ≤ 61 + 9 * i + 2 * g + (P g).length ∧ n4 ≤ 61 + 9 * i + 2 * g + 2 ∧ Hid (Wst w b pb fb #[.int .i64 p0, .int .i64 p1, .int .i64 p2, .int .i64 p3, .int .i64 p4, .int .i64 p5] #[.int .i64 s0', .int .i64 s1', .int .i64 s2', .int .i64 s3'] f ⟨p0, p1, p2, p3, p4, p5⟩ xs kk x1 n4 x s P c wr ∧ ∀ h, h < g → h ≠ f → 2 ≤ (P h).length)) (fun _ wr => 2 - slen wr ⟨b, 5 + g, none⟩)
                  case atStart => exact ⟨n3, x, s, P, c, by omega, by omega, HG.out⟩
                  case round =>
                    clear HG
                    obtain ⟨n4, x, s, P, c, hn4, hn5, HG⟩ := hrel
                    have LS := HG.out.1.ly.lx.ws
                    obtain ⟨la, lc, e5, e6, e7⟩ := LS.ls g hg
                    have c5 := LS.wr.cL hg
                    rw [e5] at c5
                    have hsl := slen_eq c5
                    obtain ⟨nl, enl⟩ : ∃ nl, nl = (P g).length := ⟨_, rfl⟩
                    rw [← enl] at c5 hsl hn4
                    have HNL : Hid (nl = (P g).length) := enl
                    clear e5 e6 e7 LS enl
                    by_cases hgf : g = f
                    · subst hgf
                      go_wp2_with fail
                      go_roundw
                      case rel => exact ⟨g + 1, n4, x, s, P, c, by go_num, by omega, by omega, HG.out.1, fun h hh hhf => HG.out.2 h (by omega) hhf⟩
                      case measure => simp [intOf]; omega
                    have e9 : ((g : Int) == (f : Int)) = false := beq_eq_false_iff_ne.2 (by omega)
                    have e8 : decide ((g : Int) = (f : Int)) = false := decide_eq_false (by omega)
                    have e10 : ¬ (g : Int) = (f : Int) := by omega
                    have e11 : ((g : Int) != (f : Int)) = true := by rw [bne, e9]; rfl
                    by_cases hl2 : nl < 2
                    · have d2 : decide ((nl : Int) < 2) = true := decide_eq_true (by omega)
                      have d3 : (nl : Int) < 2 := by omega
                      have b1 : bits .and .i64 (i : Int) 3 = (i : Int) % 4 := i64_and3 _
                      have b2 : IntKind.i64.wrap (3 * ((i : Int) % 4)) = 3 * ((i : Int) % 4) := by rw [IntKind.wrap_i64]; omega
                      have b3 : ¬ 3 * ((i : Int) % 4) < 0 := by omega
                      have MV : Hid (∀ z, Calls Try.prog 9 #[.pointer (some ⟨b, 0, none⟩), .agg #[.int .i64 0, .int .i64 (g : Int), .int .i64 z]] wr fun e w' => e = .returned (.bool true) ∧ ∃ M, Mvd b 1024 n4 x s P c M (Ev0 g x P) wr w') := fun z => mv_adm g hg z HG.out.1.ly.lx HG.out.1.iv (by omega)
                      go_wp2_with fail
                      refine (MV.out _).mono ?_
                      rintro e w4 ⟨rfl, M, hm⟩
                      clear MV
                      obtain ⟨x', s', P', c', hW, h1, h2⟩ := HG.out.1.admit hf hg hgf hm
                      have HG' : Hid (Wst w b pb fb #[.int .i64 p0, .int .i64 p1, .int .i64 p2, .int .i64 p3, .int .i64 p4, .int .i64 p5] #[.int .i64 s0', .int .i64 s1', .int .i64 s2', .int .i64 s3'] f ⟨p0, p1, p2, p3, p4, p5⟩ xs kk x1 (n4 + 1) x' s' P' c' w4 ∧ ∀ h, h < g → h ≠ f → 2 ≤ (P' h).length) := ⟨hW, fun h hh hhf => by rw [h2 h (by omega)]; exact HG.out.2 h hh hhf⟩
                      have hs4 : slen w4 ⟨b, 5 + g, none⟩ = nl + 1 := by
                        obtain ⟨la2, lc2, e5, _, _⟩ := hW.ly.lx.ws.ls g hg
                        have c52 := hW.ly.lx.ws.wr.cL hg
                        rw [e5] at c52
                        rw [slen_eq c52, h1, HNL.out]
                      clear hm hW h2 HG c5
                      go_wp2_with fail
                      go_roundw
                      case rel => exact ⟨n4 + 1, x', s', P', c', by rw [h1, ← HNL.out]; omega, by omega, HG'.out⟩
                      case measure => rw [hs4, hsl]; omega
                    have d2 : decide ((nl : Int) < 2) = false := decide_eq_false (by omega)
                    have d3 : ¬ (nl : Int) < 2 := by omega
                    go_wp2_with fail
                    go_roundw
                    case rel =>
                      refine ⟨g + 1, n4, x, s, P, c, by go_num, by omega, by omega, HG.out.1, fun h hh hhf => ?_⟩
                      by_cases eh : h = g
                      · rw [eh, ← HNL.out]; omega
                      exact HG.out.2 h (by omega) hhf
                    case measure => simp [intOf]; omega
                have eg : g = 4 := by omega
                subst eg
                have MV : Hid (Calls Try.prog 9 #[.pointer (some ⟨b, 0, none⟩), .agg #[.int .i64 1, .int .i64 0, .int .i64 0]] wr fun e w' => e = .returned (.bool true) ∧ ∃ M, Mvd b 1024 n3 x s P c M (Ev1 x P) wr w') := mv_nxt HG.out.1.ly.lx HG.out.1.iv (by omega)
                go_wp2_with fail
                refine MV.out.mono ?_
                rintro e w4 ⟨rfl, M, hm⟩
                clear MV
                obtain ⟨x', s', P', c', h1, h2, h3, h4, h5⟩ := HG.out.1.next hf HK.out.2.2.1 HG.out.2 hm
                have HN : Hid (Ly w b pb fb #[.int .i64 p0, .int .i64 p1, .int .i64 p2, .int .i64 p3, .int .i64 p4, .int .i64 p5] #[.int .i64 s0', .int .i64 s1', .int .i64 s2', .int .i64 s3'] x' s' P' w4 ∧ Iv 1024 (n3 + 1) x' s' P' c' ∧ x'.Q = x1.Q ∧ (∀ g, g < 4 → g ≠ f → x'.Sent g - x1.Sent g < kk * x'.Q g + 65536) ∧ (Wi f ⟨p0, p1, p2, p3, p4, p5⟩ xs kk x1.Sent x' s' P' c' ∨ P' f = xs)) := ⟨h1, h2, h3, h4, h5⟩
                clear hm h1 h2 h3 h4 h5 HG
                go_wp2_with fail
                go_loopw [16] (fun q16 wr => ∃ (h nd : Nat), q16 = .int .i64 (h : Int) ∧ h ≤ 4 ∧ wr = w4.drewN nd) (fun q16 _ => 4 - (intOf q16).toNat)
                case atStart => exact ⟨0, 0, rfl, by omega, rfl⟩
                case round =>
                  obtain ⟨h, nd, rfl, hh4, rfl⟩ := hrel
                  by_cases hh : h < 4
                  · have hhl : (h : Int) < 4 := by omega
                    have wh : IntKind.i64.wrap ((h : Int) + 1) = (h : Int) + 1 := by rw [IntKind.wrap_i64]; omega
                    by_cases hhf : h = f
                    · subst hhf
                      go_wp2_with fail
                      go_region
                      go_wp2_with fail
                      go_roundw
                      case rel => exact ⟨h + 1, _, by go_num, by omega, rfl⟩
                      case measure => simp [intOf]; omega
                    have e9 : ((h : Int) == (f : Int)) = false := beq_eq_false_iff_ne.2 (by omega)
                    have e10 : ¬ (h : Int) = (f : Int) := by omega
                    have hbd := HN.out.2.2.2.1 h hh hhf
                    have hsb := HN.out.2.1.sb h hh
                    have hqb := (HN.out.2.1.qn h hh).2
                    have hfr := HK.out.2.1 h hh
                    have cS := HN.out.1.lx.ws.wr.cS hh
                    have cQ := HN.out.1.lx.ws.wr.cQ hh
                    obtain ⟨sh, esh⟩ : ∃ z, z = x'.Sent h := ⟨_, rfl⟩
                    obtain ⟨qh, eqh⟩ : ∃ z, z = x'.Q h := ⟨_, rfl⟩
                    obtain ⟨fh, efh⟩ : ∃ z, z = x1.Sent h := ⟨_, rfl⟩
                    rw [← esh] at hbd hsb cS
                    rw [← eqh] at hbd hqb cQ
                    rw [← efh] at hbd hfr
                    have cf : w4.cell? ⟨fb, h, none⟩ = some (.int .i64 fh) := by
                      rw [efh]
                      have hq4 : h = 0 ∨ h = 1 ∨ h = 2 ∨ h = 3 := by omega
                      obtain ⟨g0, g1, g2, g3⟩ := HES.out
                      rcases hq4 with rfl | rfl | rfl | rfl
                      · rw [← g0]; simp [World.cell?, HN.out.1.hf]
                      · rw [← g1]; simp [World.cell?, HN.out.1.hf]
                      · rw [← g2]; simp [World.cell?, HN.out.1.hf]
                      rw [← g3]; simp [World.cell?, HN.out.1.hf]
                    have hkk : 0 ≤ kk * qh ∧ kk * qh ≤ 2024000 := by
                      have h1 := HK.out.2.2.2
                      refine ⟨Int.mul_nonneg (by omega) (by omega), ?_⟩
                      have : kk * qh ≤ 2024 * 1000 := Int.mul_le_mul (by omega) (by omega) (by omega) (by omega)
                      omega
                    obtain ⟨kq, ekq⟩ : ∃ z, z = kk * qh := ⟨_, rfl⟩
                    rw [← ekq] at hkk hbd
                    have v1 : IntKind.i64.wrap (kk * qh) = kq := by rw [IntKind.wrap_i64, ← ekq]; omega
                    have v2 : IntKind.i64.wrap (kq + 65536) = kq + 65536 := by rw [IntKind.wrap_i64]; omega
                    have v3 : IntKind.i64.wrap (sh - fh) = sh - fh := by rw [IntKind.wrap_i64]; omega
                    have v4 : decide (kq + 65536 ≤ sh - fh) = false := decide_eq_false (by omega)
                    have v5 : ¬ kq + 65536 ≤ sh - fh := by omega
                    clear hbd hsb hqb hfr esh eqh efh ekq hkk
                    go_wp2_with fail
                    go_quiet (fail)
                    go_wp2_with fail
                    go_roundw
                    case rel => exact ⟨h + 1, _, by go_num, by omega, rfl⟩
                    case measure => simp [intOf]; omega
                  have eh : h = 4 := by omega
                  subst eh
                  go_wp2_with fail
                  go_roundw
                  case rel => exact ⟨i + 1, n3 + 1, x', s', P', c', by go_num, by omega, by omega, HN.out.1.below (bel_drewN (Below.refl _ _) _), HN.out.2.1, HN.out.2.2.1, HN.out.2.2.2.2⟩
                  case measure => simp [intOf]; omega
            go_wp2_with fail
            exact bodyPost_ret (v := .bool true) (by simp [results, Try.results5, go_sem]) rfl ⟨rfl, HI.out.1.lx.bel.trans (bel_drewN (Below.refl _ _) nd |>.mono HI.out.1.lx.bel.size)⟩
end Go.Proofs.Ytcndbmccediknaa
namespace Go.Proofs.Ytcndbmccediknaa
open Go.RowKit Go.ChangeShapes
set_option maxRecDepth 100000
set_option linter.unusedVariables false
theorem mv_add_more (a : Addr) (m j : Nat) : (a.add m).add j = a.add (m + j) := by
  unfold Addr.add
  rcases Nat.eq_zero_or_pos m with e | e
  · subst e; simp
  rcases Nat.eq_zero_or_pos j with e2 | e2
  · subst e2; simp
  rw [if_neg (by omega), if_neg (by omega), if_neg (by omega)]
  simp [Nat.add_assoc]
theorem mv_steps {K : Nat} {H : Type} {enc : TypeId × Value → H} {P : Program} {w : World} {base : Nat} {spare : Nat → Bool} {held : Bool} {t e : TypeId} {fuel : Nat} {cs : List Value} {x : DataW H × List MemPlace} {fs : Array Field}
    (ht : P.underlying t = some (.slice e)) (he : P.underlying e = some (.struct fs)) (ce : P.cellsOf e = K) (hsz : fs.size = K)
    (hf : ∀ j, j < K → ∃ f, fs[j]? = some f ∧ f.offset = j ∧ P.cellsOf f.type = 1 ∧ P.underlying f.type = some (.int .i64)) (h : DataW.trod enc P w base spare held fuel t cs = some x) :
    cs = [.slice none 0 0] ∨ ∃ (a : Addr) (len cap : Nat), cs = [.slice (some a) len cap] ∧ len ≤ cap ∧ cap ≤ maxLen ∧ ∀ i j, i < len → j < K → ∃ v, w.cell? (a.add (i * K + j)) = some (.int .i64 v) ∧ (Lit.int .i64 v).wf = true := by
  rcases Deep.open_slice ht h with ⟨h0, _⟩ | ⟨a, len, cap, m, n, D, Pl, rfl, hb, hl, hm, hmm, _, hx⟩
  · exact .inl h0
  refine .inr ⟨a, len, cap, rfl, hl, hm, fun i j hi hj => ?_⟩
  have hlm : len ≤ m := by rw [hmm]; split <;> omega
  obtain ⟨cs', h1, h2⟩ := hx i (by omega)
  rw [ce] at h1
  obtain ⟨_, hlen, hcell⟩ := World.cells?_some h1
  obtain ⟨xs, k, _, _, _, hxl, hff⟩ := DataW.trod_struct he h2
  obtain ⟨f, f1, f2, f3, f4⟩ := hf j hj
  have g := hff j f f1
  rw [f2, f3] at g
  have hxj : ∃ y, xs[j]? = some y := ⟨_, List.getElem?_eq_getElem (by omega)⟩
  obtain ⟨y, hy⟩ := hxj
  rw [hy] at g
  obtain ⟨v, hv, _, hw⟩ := DataW.trod_int f4 g
  refine ⟨v, ?_, hw⟩
  have e1 := hcell j hj
  rw [mv_add_more] at e1
  rw [e1]
  have e2 := congrArg (fun l => l[0]?) hv
  simpa using e2
theorem mv_of {w : World} {a : Addr} {len : Nat} (h : ∀ i j, i < len → j < 3 → ∃ v, w.cell? (a.add (i * 3 + j)) = some (.int .i64 v) ∧ (Lit.int .i64 v).wf = true) :
    ∃ F, MvIn w (some a) len F := by
  refine ⟨fun i j => intOf ((w.cell? (a.add (i * 3 + j))).getD undef), ?_⟩
  rcases Nat.eq_zero_or_pos len with e | e
  · exact .inl e
  obtain ⟨b, off, spot⟩ := a
  obtain ⟨v, hc, _⟩ := h 0 0 e (by omega)
  have hspot : spot = none := by simpa [Addr.add] using World.cell?_spot hc
  subst hspot
  refine .inr ⟨b, off, rfl, fun i hi j hj => ?_⟩
  obtain ⟨v, hv, _⟩ := h i j hi hj
  rw [addr_add] at hv
  have e3 : off + i * 3 + j = off + (i * 3 + j) := by omega
  rw [e3, hv]
  show some (Value.int IntKind.i64 v) = some (Value.int IntKind.i64 (intOf ((w.cell? (Addr.add ⟨b, off, none⟩ (i * 3 + j))).getD undef)))
  rw [addr_add, hv]
  rfl
theorem moves_of {H : Type} {enc : TypeId × Value → H} {w : World} {base : Nat} {spare : Nat → Bool} {held : Bool} {fuel : Nat} {a : Option Addr} {len cap : Nat} {x : DataW H × List MemPlace} (h : DataW.trod enc Try.prog w base spare held fuel 23 (Value.slice a len cap).cells.toList = some x) : ∃ F, MvIn w a len F := by
  rcases mv_steps (K := 3) Try.underlying23 Try.underlying28 (by kernel_rfl) rfl (fun j hj => match j, hj with
    | 0, _ => ⟨_, rfl, rfl, by kernel_rfl, by kernel_rfl⟩
    | 1, _ => ⟨_, rfl, rfl, by kernel_rfl, by kernel_rfl⟩
    | 2, _ => ⟨_, rfl, rfl, by kernel_rfl, by kernel_rfl⟩) h with hcs | ⟨y, l, c, hcs, hl, hm, hcell⟩
  · simp [Value.cells] at hcs
    obtain ⟨rfl, rfl, rfl⟩ := hcs
    exact ⟨fun _ _ => 0, .inl rfl⟩
  simp [Value.cells] at hcs
  obtain ⟨rfl, rfl, rfl⟩ := hcs
  exact mv_of hcell
theorem quanta_of {W : World} {H : Type} {enc : TypeId × Value → H} {base : Nat} {v : Value} {d : DataW H} {ps : List MemPlace} (hval : Value.okWide Try.prog W .any base 22 v) (h : DataW.Trod enc Try.prog W 0 (fun _ => true) true 22 v d ps) :
    ∃ Q : Nat → Int, v = .agg #[.int .i64 (Q 0), .int .i64 (Q 1), .int .i64 (Q 2), .int .i64 (Q 3)] := by
  obtain ⟨cs, rfl, hsz, _⟩ : ∃ cs, v = .agg cs ∧ cs.size = Try.prog.cellsOf 22 ∧ Row.okWide Try.prog W .any base 22 cs := by
    simpa [Value.okWide, Try.underlying22] using hval
  have c4 : Try.prog.cellsOf 22 = 4 := by kernel_rfl
  have c1 : Try.prog.cellsOf 3 = 1 := by kernel_rfl
  rw [c4] at hsz
  obtain ⟨l⟩ := cs
  obtain ⟨x0, x1, x2, x3, rfl⟩ : ∃ x0 x1 x2 x3, l = [x0, x1, x2, x3] := by
    match l, hsz with
    | [x0, x1, x2, x3], _ => exact ⟨x0, x1, x2, x3, rfl⟩
  obtain ⟨fuel, hf⟩ := h
  obtain ⟨y0, y1, y2, y3, m, hx, hy0, hy1, hy2, hy3⟩ := trod_array4 Try.underlying22 c1 hf
  obtain ⟨z0, e0, rfl, _⟩ := DataW.trod_int Try.underlying3 hy0
  obtain ⟨z1, e1, rfl, _⟩ := DataW.trod_int Try.underlying3 hy1
  obtain ⟨z2, e2, rfl, _⟩ := DataW.trod_int Try.underlying3 hy2
  obtain ⟨z3, e3, rfl, _⟩ := DataW.trod_int Try.underlying3 hy3
  simp at e0 e1 e2 e3
  subst e0 e1 e2 e3
  exact ⟨fun k => if k = 0 then z0 else if k = 1 then z1 else if k = 2 then z2 else z3, rfl⟩
end Go.Proofs.Ytcndbmccediknaa
