/- Contracts of the program's functions, part 10: own work, joined in build order. -/
import Derived.Test.YtcndbmccediknaaJ9
namespace Go.Proofs.Ytcndbmccediknaa
open Go.RowKit
set_option maxRecDepth 100000
set_option linter.unusedVariables false
def qOf (q : Int) : Int := min (max q 1) 1073741824
def Sd.joined (s : Sd) (i : Int) (b : Nat) (y : Fw) : Sd := { s with nn := s.nn + 1, F := updI s.F i (some b), Y := updN s.Y b y, Q := updN s.Q b [], G := updN s.G b y.queue }
theorem DSM.putM {w w1 w2 : World} {d : Nat} {s : Sd} (h : DS w d s) {i : Int} {b : Nat} {y : Fw} (hb : Below w.heap.size w w1) (hF : s.F i = none) (hf : Fl w1 b y) (hq : RP w1 y.queue y.queue 0 0 0 []) (b1 : w.heap.size ≤ b) (q1 : w.heap.size ≤ y.queue) (hs : y.slot = i)
    (hm : Mp w2 s.x.flows (s.nn + 1) (updI s.F i (some b))) (hg : w1.grownBy w2 (some s.x.flows)) : DF d s (s.joined i b y) w w2 := by
  have h1 : DS w1 d s := h.same fun k hk _ => hb.block k hk
  have k1 : ∀ k n, k < w1.heap.size → cls w1 k = n → n ≠ 1 → w2.heap[k]? = w1.heap[k]? := fun k n hk hn h4 => hg.block k hk (fun e => ne_cls hn h1.cm h4 (by injection e))
  have ne : ∀ j c, s.F j = some c → c ≠ b := fun j c hj e => by
    have := h.bl hj
    omega
  have cq : cls w1 y.queue = 4 := (cls_row hq.hd).trans (by decide)
  have old : ∀ j c, updI s.F i (some b) j = some c → (j = i ∧ c = b) ∨ (s.F j = some c ∧ c ≠ b) := by
    intro j c hj
    unfold updI at hj
    split at hj
    · rename_i e
      injection hj with hj
      exact .inl ⟨e, hj.symm⟩
    exact .inr ⟨hj, ne j c hj⟩
  refine ⟨⟨World.rowIs.of_block h1.dr (k1 _ 0 h1.dl h1.cd (by decide)), hm, ?_, fun j c hj => ?_, fun j c hj => ?_, fun j c hj => ?_, fun j k c e hj hk hn => ?_, fun c hc => ?_⟩, ⟨hg.os.trans hb.os, hg.tape.trans hb.tape, hg.output.trans hb.output, Nat.le_trans hb.size hg.size, fun k hk hm => (hg.block k (Nat.lt_of_lt_of_le hk hb.size) (fun e => hm (.inr (.inl (by injection e))))).trans (hb.block k hk), fun k hm => ?_⟩⟩
  · obtain ⟨N, f, hr⟩ := h1.rg
    exact ⟨N, f, hr.of_blocks (k1 _ 2 h1.rl h1.cr (by decide)) (k1 _ 2 h1.gl h1.cg (by decide))⟩
  · show Fl w2 c (updN s.Y b y c)
    rcases old j c hj with ⟨_, rfl⟩ | ⟨e1, e2⟩
    · rw [updN_eq]
      exact World.rowIs.of_block hf (k1 _ 3 (World.rowIs.lt hf) ((cls_row hf).trans (by decide)) (by decide))
    rw [updN_ne _ _ e2]
    exact World.rowIs.of_block (h1.fl j c e1) (k1 _ 3 (h1.bl e1) (h1.cb e1) (by decide))
  · show (updN s.Y b y c).slot = j
    rcases old j c hj with ⟨e0, rfl⟩ | ⟨e1, e2⟩
    · rw [updN_eq, hs, e0]
    rw [updN_ne _ _ e2]
    exact h.sl j c e1
  · show ∃ N f, RP w2 (updN s.Y b y c).queue (updN s.G b y.queue c) N f (updN s.Q b [] c).length (updN s.Q b [] c)
    rcases old j c hj with ⟨_, rfl⟩ | ⟨e1, e2⟩
    · rw [updN_eq, updN_eq, updN_eq]
      exact ⟨0, 0, hq.of_blocks (k1 _ 4 hq.rlt cq (by decide)) (k1 _ 4 hq.rlt cq (by decide))⟩
    rw [updN_ne _ _ e2, updN_ne _ _ e2, updN_ne _ _ e2]
    obtain ⟨N, f, hr⟩ := h1.qu j c e1
    exact ⟨N, f, hr.of_blocks (k1 _ 4 (h1.ql e1) (h1.cq e1) (by decide)) (k1 _ 4 (h1.Gl e1) (h1.cG e1) (by decide))⟩
  · show (updN s.Y b y c).queue ≠ (updN s.Y b y e).queue ∧ updN s.G b y.queue c ≠ updN s.G b y.queue e
    rcases old j c hj with ⟨_, rfl⟩ | ⟨e1, e2⟩
    · rcases old k e hk with ⟨_, e3⟩ | ⟨e3, e4⟩
      · exact absurd e3.symm hn
      rw [updN_eq, updN_eq, updN_ne _ _ e4, updN_ne _ _ e4]
      have := h.ql e3
      have := h.Gl e3
      exact ⟨by omega, by omega⟩
    rw [updN_ne _ _ e2, updN_ne _ _ e2]
    rcases old k e hk with ⟨_, rfl⟩ | ⟨e3, e4⟩
    · rw [updN_eq, updN_eq]
      have := h.ql e1
      have := h.Gl e1
      exact ⟨by omega, by omega⟩
    rw [updN_ne _ _ e4, updN_ne _ _ e4]
    exact h.ap j k c e e1 e3 hn
  · obtain ⟨j, hj⟩ := h.inr c hc
    refine ⟨j, ?_⟩
    show updI s.F i (some b) j = some c
    unfold updI
    rw [if_neg]
    · exact hj
    rintro rfl
    rw [hF] at hj
    cases hj
  rcases hm with e | e | e | e | ⟨j, c, hj, e⟩
  · exact .inl (.inl e)
  · exact .inl (.inr (.inl e))
  · exact .inl (.inr (.inr (.inl e)))
  · exact .inl (.inr (.inr (.inr (.inl e))))
  have e' : k = c ∨ k = (updN s.Y b y c).queue ∨ k = updN s.G b y.queue c := e
  rcases old j c hj with ⟨_, rfl⟩ | ⟨e1, e2⟩
  · rw [updN_eq, updN_eq] at e'
    right
    omega
  rw [updN_ne _ _ e2, updN_ne _ _ e2] at e'
  exact .inl (.inr (.inr (.inr (.inr ⟨j, c, e1, e'⟩))))
theorem newP_exact (w : World) : Calls Try.prog 26 #[] w fun e w' => e = .returned (.pointer (some ⟨w.heap.size, 0, none⟩)) ∧ w' = w.alloc (.cells #[.slice none 0 0, .int .i64 0, .int .i64 0] 95) := by
  go_enter Try.func26, Try.ntmps26
  go_wp2_with fail
  go_ret
  exact ⟨rfl, rfl⟩
theorem newP_rp (w : World) : RP (w.alloc (.cells #[.slice none 0 0, .int .i64 0, .int .i64 0] 95)) w.heap.size w.heap.size 0 0 0 [] := by
  refine ⟨?_, fun h => by omega, fun h => by omega, fun _ => ⟨rfl, rfl⟩, fun h => by omega, Nat.le_refl _, Nat.le_refl _, fun h => by omega, by omega⟩
  refine World.rowIs_alloc w #[.slice none 0 0, .int .i64 0, .int .i64 0] 95 _ fun i hi => ?_
  rcases i with _ | _ | _ | i
  · rfl
  · rfl
  · rfl
  simp at hi
  omega
set_option maxHeartbeats 4000000 in
theorem joinD_low (d : Nat) (s : Sd) (sl gn wt qm p2 p3 p4 p6 p7 t : Int) (pr : Nat) (w : World) (h : DS w d s) (h1 : -9223372036854775808 ≤ sl) (h2 : sl ≤ 9223372036854775807) (hF : s.F sl = none) (hn : s.nn < 1000000000) (hw1 : -4611686018427387904 ≤ s.x.weight + wt) (hw2 : s.x.weight + wt ≤ 4611686018427387904) (hq : qm < 1) :
    Calls Try.prog 15 #[.pointer (some ⟨d, 0, none⟩), .agg #[.int .i64 sl, .int .i64 gn], .agg #[.int .i64 wt, .int .i64 qm, .int .i64 p2, .int .i64 p3, .int .i64 p4, .float .f64 pr, .int .i64 p6, .int .i64 p7], .int .i64 t] w fun e w' => e = .returned (.int .i64 0) ∧ ∃ b q, w.heap.size ≤ b ∧ w.heap.size ≤ q ∧ DF d s { s.joined sl b ⟨sl, gn, wt, qOf qm, q, 0, 0⟩ with x := { s.x with weight := s.x.weight + wt } } w w' := by
  obtain ⟨W, hW⟩ : ∃ W, W = (w.alloc (.cells #[.int .i64 sl, .int .i64 gn] 41)).alloc (.cells #[.int .i64 wt, .int .i64 qm, .int .i64 p2, .int .i64 p3, .int .i64 p4, .float .f64 pr, .int .i64 p6, .int .i64 p7] 55) := ⟨_, rfl⟩
  obtain ⟨v, ev⟩ : ∃ v, v = w.heap.size := ⟨_, rfl⟩
  have B1 : Below w.heap.size w (w.alloc (.cells #[.int .i64 sl, .int .i64 gn] 41)) := (Below.refl _ _).alloc (Nat.le_refl _) _
  have B0 : Below w.heap.size w W := by rw [hW]; exact B1.alloc B1.size _
  have hB1 : W.heap[v + 1]? = some (.cells #[.int .i64 wt, .int .i64 qm, .int .i64 p2, .int .i64 p3, .int .i64 p4, .float .f64 pr, .int .i64 p6, .int .i64 p7] 55) := by
    rw [hW, ev]
    have := (MapKept.heap_alloc (w.alloc (.cells #[.int .i64 sl, .int .i64 gn] 41)) (.cells #[.int .i64 wt, .int .i64 qm, .int .i64 p2, .int .i64 p3, .int .i64 p4, .float .f64 pr, .int .i64 p6, .int .i64 p7] 55)).1
    simpa using this
  have hB : W.heap[v]? = some (.cells #[.int .i64 sl, .int .i64 gn] 41) := by
    rw [hW, ev]
    exact (Below.heap_alloc _ _ _ (by simp)).trans (MapKept.heap_alloc _ _).1
  have v0 : W.cell? ⟨v, 0, none⟩ = some (.int .i64 sl) := by simp [World.cell?, hB]
  have v1 : W.cell? ⟨v, 1, none⟩ = some (.int .i64 gn) := by simp [World.cell?, hB]
  have u0 : W.cell? ⟨v + 1, 0, none⟩ = some (.int .i64 wt) := by simp [World.cell?, hB1]
  have u1 : W.cell? ⟨v + 1, 1, none⟩ = some (.int .i64 qm) := by simp [World.cell?, hB1]
  have D0 : DF d s s w W := h.df.below B0
  obtain ⟨m, em⟩ : ∃ m, m = s.x.flows := ⟨_, rfl⟩
  have c0 : W.cell? ⟨d, 0, none⟩ = some (.map (some m)) := by rw [em]; exact World.rowIs.cell D0.1.dr (i := 0) (by omega)
  have lk : ∀ k, (Instr.lookup 66 (.map (some m)) (.int .i64 sl) false).run Try.prog (W.drewN k) = .ok (.pointer none) (W.drewN k) := fun k => by
    have := (D0.1.mp.kept (W' := W.drewN k) rfl).look Try.underlying66 (by rfl) (i := sl) h1 h2
    rw [hF, ← em] at this
    exact this
  have EX : ∀ nd, ∃ W', (Instr.mapUpdate 66 (.map (some m)) (.int .i64 sl) (.pointer (some ⟨W.heap.size + 1, 0, none⟩))).run Try.prog (((W.drewN nd).alloc (.cells #[.slice none 0 0, .int .i64 0, .int .i64 0] 95)).alloc (.cells #[.int .i64 sl, .int .i64 gn, .int .i64 wt, .int .i64 1, .pointer (some ⟨W.heap.size, 0, none⟩), .int .i64 0, .int .i64 0] 74)) = .ok () W' ∧ Mp W' m (s.nn + 1) (updI s.F sl (some (W.heap.size + 1))) ∧ (((W.drewN nd).alloc (.cells #[.slice none 0 0, .int .i64 0, .int .i64 0] 95)).alloc (.cells #[.int .i64 sl, .int .i64 gn, .int .i64 wt, .int .i64 1, .pointer (some ⟨W.heap.size, 0, none⟩), .int .i64 0, .int .i64 0] 74)).grownBy W' (some m) := fun nd => by
    have bl : Below W.heap.size W (((W.drewN nd).alloc (.cells #[.slice none 0 0, .int .i64 0, .int .i64 0] 95)).alloc (.cells #[.int .i64 sl, .int .i64 gn, .int .i64 wt, .int .i64 1, .pointer (some ⟨W.heap.size, 0, none⟩), .int .i64 0, .int .i64 0] 74)) := by
      have e1 : Below W.heap.size W (W.drewN nd) := bel_drewN (Below.refl _ _) nd
      have e2 := e1.alloc e1.size (.cells #[.slice none 0 0, .int .i64 0, .int .i64 0] 95)
      exact e2.alloc e2.size _
    have mp' : Mp (((W.drewN nd).alloc (.cells #[.slice none 0 0, .int .i64 0, .int .i64 0] 95)).alloc (.cells #[.int .i64 sl, .int .i64 gn, .int .i64 wt, .int .i64 1, .pointer (some ⟨W.heap.size, 0, none⟩), .int .i64 0, .int .i64 0] 74)) m s.nn s.F := by rw [em]; exact D0.1.mp.kept (bl.block _ D0.1.ml)
    exact mp'.store (by omega) Try.underlying66 h1 h2 (W.heap.size + 1)
  obtain ⟨W3, hW3⟩ : ∃ W3 : Nat → World, ∀ nd, (Instr.mapUpdate 66 (.map (some m)) (.int .i64 sl) (.pointer (some ⟨W.heap.size + 1, 0, none⟩))).run Try.prog (((W.drewN nd).alloc (.cells #[.slice none 0 0, .int .i64 0, .int .i64 0] 95)).alloc (.cells #[.int .i64 sl, .int .i64 gn, .int .i64 wt, .int .i64 1, .pointer (some ⟨W.heap.size, 0, none⟩), .int .i64 0, .int .i64 0] 74)) = .ok () (W3 nd) ∧ Mp (W3 nd) m (s.nn + 1) (updI s.F sl (some (W.heap.size + 1))) ∧ (((W.drewN nd).alloc (.cells #[.slice none 0 0, .int .i64 0, .int .i64 0] 95)).alloc (.cells #[.int .i64 sl, .int .i64 gn, .int .i64 wt, .int .i64 1, .pointer (some ⟨W.heap.size, 0, none⟩), .int .i64 0, .int .i64 0] 74)).grownBy (W3 nd) (some m) := ⟨fun nd => Classical.choose (EX nd), fun nd => Classical.choose_spec (EX nd)⟩
  have HM := fun nd => (hW3 nd).1
  have HP : Hid (∀ nd, DF d s (s.joined sl (W.heap.size + 1) ⟨sl, gn, wt, 1, W.heap.size, 0, 0⟩) w (W3 nd)) := fun nd => by
    have e1 : Below W.heap.size W (W.drewN nd) := bel_drewN (Below.refl _ _) nd
    have e2 := e1.alloc e1.size (.cells #[.slice none 0 0, .int .i64 0, .int .i64 0] 95)
    have rp : RP ((W.drewN nd).alloc (.cells #[.slice none 0 0, .int .i64 0, .int .i64 0] 95)) W.heap.size W.heap.size 0 0 0 [] := newP_rp (W.drewN nd)
    refine D0.trans (D0.1.putM (e2.alloc e2.size _) hF (?_ : Fl _ _ _) (rp.mono ((Below.refl _ _).alloc (Nat.le_refl _) _)) (Nat.le_succ _) (Nat.le_refl _) rfl (by rw [← em]; exact (hW3 nd).2.1) (by rw [← em]; exact (hW3 nd).2.2))
    have := World.rowIs_alloc ((W.drewN nd).alloc (.cells #[.slice none 0 0, .int .i64 0, .int .i64 0] 95)) #[.int .i64 sl, .int .i64 gn, .int .i64 wt, .int .i64 1, .pointer (some ⟨W.heap.size, 0, none⟩), .int .i64 0, .int .i64 0] 74 (Fw.cell ⟨sl, gn, wt, 1, W.heap.size, 0, 0⟩) (fun i hi => by
      rcases i with _ | _ | _ | _ | _ | _ | _ | i
      · rfl
      · rfl
      · rfl
      · rfl
      · rfl
      · rfl
      · rfl
      simp at hi
      omega)
    have es : ((W.drewN nd).alloc (.cells #[.slice none 0 0, .int .i64 0, .int .i64 0] 95)).heap.size = W.heap.size + 1 := by simp
    rw [es] at this
    exact this
  have HW : Hid ((w.alloc (.cells #[.int .i64 sl, .int .i64 gn] 41)).alloc (.cells #[.int .i64 wt, .int .i64 qm, .int .i64 p2, .int .i64 p3, .int .i64 p4, .float .f64 pr, .int .i64 p6, .int .i64 p7] 55) = W ∧ w.heap.size = v) := ⟨hW.symm, ev.symm⟩
  obtain ⟨sz, esz⟩ : ∃ sz, sz = W.heap.size := ⟨_, rfl⟩
  obtain ⟨sw, esw⟩ : ∃ sw, sw = s.x.weight := ⟨_, rfl⟩
  have HH : Hid (m = s.x.flows ∧ sw = s.x.weight ∧ w.heap.size ≤ W.heap.size ∧ v + 1 < W.heap.size ∧ W.heap[v + 1]? = some (.cells #[.int .i64 wt, .int .i64 qm, .int .i64 p2, .int .i64 p3, .int .i64 p4, .float .f64 pr, .int .i64 p6, .int .i64 p7] 55) ∧ s.F sl = none ∧ W.heap.size ≠ v + 1) := ⟨em, esw, B0.size, (Array.getElem?_eq_some_iff.1 hB1).1, hB1, hF, by have := (Array.getElem?_eq_some_iff.1 hB1).1; omega⟩
  have hww : IntKind.i64.wrap (sw + wt) = sw + wt := by rw [IntKind.wrap_i64, esw]; omega
  have HS : ∀ (w9 : World), (∀ k, k < W.heap.size → k ≠ m → w9.heap[k]? = W.heap[k]?) → w9.cell? ⟨d, 0, none⟩ = some (.map (some m)) ∧ w9.cell? ⟨v, 0, none⟩ = some (.int .i64 sl) ∧ w9.cell? ⟨v, 1, none⟩ = some (.int .i64 gn) ∧ w9.cell? ⟨v + 1, 0, none⟩ = some (.int .i64 wt) ∧ w9.cell? ⟨v + 1, 1, none⟩ = some (.int .i64 qm) ∧ w9.cell? ⟨d, 3, none⟩ = some (.int .i64 s.x.weight) ∧ w9.frozen? ⟨d, 3, none⟩ = false := fun w9 hk => by
    have nd' : d ≠ m := by rw [em]; exact ne_cls D0.1.cd D0.1.cm (by decide)
    have nv : v ≠ m := by have := h.ml; omega
    have nv1 : v + 1 ≠ m := by have := h.ml; omega
    have lv1 := (Array.getElem?_eq_some_iff.1 hB1).1
    have ld := D0.1.dl
    have e1 := hk d ld nd'
    have e2 := hk v (by omega) nv
    have e3 := hk (v + 1) lv1 nv1
    refine ⟨(World.cell?_of_block e1).trans c0, (World.cell?_of_block e2).trans v0, (World.cell?_of_block e2).trans v1, (World.cell?_of_block e3).trans u0, (World.cell?_of_block e3).trans u1, (World.cell?_of_block e1).trans (World.rowIs.cell D0.1.dr (i := 3) (by omega)), (World.frozen?_of_block e1).trans (World.rowIs.frozen D0.1.dr 3)⟩
  have HS1 : ∀ nd, ((W.drewN nd).alloc (.cells #[.slice none 0 0, .int .i64 0, .int .i64 0] 95)).cell? ⟨d, 0, none⟩ = some (.map (some m)) ∧ ((W.drewN nd).alloc (.cells #[.slice none 0 0, .int .i64 0, .int .i64 0] 95)).cell? ⟨v, 0, none⟩ = some (.int .i64 sl) ∧ ((W.drewN nd).alloc (.cells #[.slice none 0 0, .int .i64 0, .int .i64 0] 95)).cell? ⟨v, 1, none⟩ = some (.int .i64 gn) ∧ ((W.drewN nd).alloc (.cells #[.slice none 0 0, .int .i64 0, .int .i64 0] 95)).cell? ⟨v + 1, 0, none⟩ = some (.int .i64 wt) ∧ ((W.drewN nd).alloc (.cells #[.slice none 0 0, .int .i64 0, .int .i64 0] 95)).cell? ⟨v + 1, 1, none⟩ = some (.int .i64 qm) := fun nd => by
    have e1 : Below W.heap.size W (W.drewN nd) := bel_drewN (Below.refl _ _) nd
    have e2 := e1.alloc e1.size (.cells #[.slice none 0 0, .int .i64 0, .int .i64 0] 95)
    obtain ⟨a1, a2, a3, a4, a5, _⟩ := HS _ fun k hk _ => e2.block k hk
    exact ⟨a1, a2, a3, a4, a5⟩
  have HS2 : ∀ nd, (((W.drewN nd).alloc (.cells #[.slice none 0 0, .int .i64 0, .int .i64 0] 95)).alloc (.cells #[.int .i64 sl, .int .i64 gn, .int .i64 wt, .int .i64 1, .pointer (some ⟨W.heap.size, 0, none⟩), .int .i64 0, .int .i64 0] 74)).cell? ⟨d, 0, none⟩ = some (.map (some m)) ∧ (((W.drewN nd).alloc (.cells #[.slice none 0 0, .int .i64 0, .int .i64 0] 95)).alloc (.cells #[.int .i64 sl, .int .i64 gn, .int .i64 wt, .int .i64 1, .pointer (some ⟨W.heap.size, 0, none⟩), .int .i64 0, .int .i64 0] 74)).cell? ⟨v, 0, none⟩ = some (.int .i64 sl) ∧ (((W.drewN nd).alloc (.cells #[.slice none 0 0, .int .i64 0, .int .i64 0] 95)).alloc (.cells #[.int .i64 sl, .int .i64 gn, .int .i64 wt, .int .i64 1, .pointer (some ⟨W.heap.size, 0, none⟩), .int .i64 0, .int .i64 0] 74)).cell? ⟨v, 1, none⟩ = some (.int .i64 gn) ∧ (((W.drewN nd).alloc (.cells #[.slice none 0 0, .int .i64 0, .int .i64 0] 95)).alloc (.cells #[.int .i64 sl, .int .i64 gn, .int .i64 wt, .int .i64 1, .pointer (some ⟨W.heap.size, 0, none⟩), .int .i64 0, .int .i64 0] 74)).cell? ⟨v + 1, 0, none⟩ = some (.int .i64 wt) ∧ (((W.drewN nd).alloc (.cells #[.slice none 0 0, .int .i64 0, .int .i64 0] 95)).alloc (.cells #[.int .i64 sl, .int .i64 gn, .int .i64 wt, .int .i64 1, .pointer (some ⟨W.heap.size, 0, none⟩), .int .i64 0, .int .i64 0] 74)).cell? ⟨v + 1, 1, none⟩ = some (.int .i64 qm) := fun nd => by
    have e1 : Below W.heap.size W (W.drewN nd) := bel_drewN (Below.refl _ _) nd
    have e2 := e1.alloc e1.size (.cells #[.slice none 0 0, .int .i64 0, .int .i64 0] 95)
    have e3 := e2.alloc e2.size (.cells #[.int .i64 sl, .int .i64 gn, .int .i64 wt, .int .i64 1, .pointer (some ⟨W.heap.size, 0, none⟩), .int .i64 0, .int .i64 0] 74)
    obtain ⟨a1, a2, a3, a4, a5, _⟩ := HS _ fun k hk _ => e3.block k hk
    exact ⟨a1, a2, a3, a4, a5⟩
  have HS3 : ∀ nd, (W3 nd).cell? ⟨d, 0, none⟩ = some (.map (some m)) ∧ (W3 nd).cell? ⟨v, 0, none⟩ = some (.int .i64 sl) ∧ (W3 nd).cell? ⟨v, 1, none⟩ = some (.int .i64 gn) ∧ (W3 nd).cell? ⟨v + 1, 0, none⟩ = some (.int .i64 wt) ∧ (W3 nd).cell? ⟨v + 1, 1, none⟩ = some (.int .i64 qm) ∧ (W3 nd).cell? ⟨d, 3, none⟩ = some (.int .i64 sw) ∧ (W3 nd).frozen? ⟨d, 3, none⟩ = false := fun nd => by
    have e1 : Below W.heap.size W (W.drewN nd) := bel_drewN (Below.refl _ _) nd
    have e2 := e1.alloc e1.size (.cells #[.slice none 0 0, .int .i64 0, .int .i64 0] 95)
    have e3 := e2.alloc e2.size (.cells #[.int .i64 sl, .int .i64 gn, .int .i64 wt, .int .i64 1, .pointer (some ⟨W.heap.size, 0, none⟩), .int .i64 0, .int .i64 0] 74)
    rw [esw]
    exact HS _ fun k hk hn => ((hW3 nd).2.2.block k (Nat.lt_of_lt_of_le hk e3.size) (fun e => hn (by injection e))).trans (e3.block k hk)
  have d1 : ¬ 1 ≤ qm := by omega
  have n1 : ¬ d = v + 1 := by have := h.dl; omega
  have n2 : ¬ v + 1 = d := fun e => n1 e.symm
  have hqq : Hid (1 = qOf qm) := by show _ = _; unfold qOf; omega
  clear h D0 em hF hn h1 h2 hw1 hw2 hB hB1 hW ev B0 B1 EX hW3 esz esw HS
  go_enter Try.func15, Try.ntmps15
  go_wp2_with fail
  rename_i hz
  rw [HW.out.1, HW.out.2]
  go_quiet (fail)
  refine hz _ _ ?_
  clear hz
  go_wp2_with fail
  rename_i hz
  go_region_held3 (fun w9 => w9.cell? ⟨d, 0, none⟩ = some (.map (some m)) ∧ w9.cell? ⟨v, 0, none⟩ = some (.int .i64 sl) ∧ w9.cell? ⟨v, 1, none⟩ = some (.int .i64 gn) ∧ w9.cell? ⟨v + 1, 0, none⟩ = some (.int .i64 wt) ∧ w9.cell? ⟨v + 1, 1, none⟩ = some (.int .i64 qm)) (first | (simp [go_sem, *]; done) | (trace_state; fail))
    (first
      | (go_at_call 26; refine Calls.mono (newP_exact _) ?_; rintro e w1 ⟨rfl, rfl⟩))
  all_goals
    refine hz _ _ ?_
    clear hz HM HS1 HS2 lk c0 v0 v1 u0 u1
    obtain ⟨t0, t1, t2, t3, t4, t5, t6⟩ := HS3 (nq + 1)
    have HL := HP.out (nq + 1)
    have HQ : Hid (DF d s (s.joined sl (W.heap.size + 1) ⟨sl, gn, wt, 1, W.heap.size, 0, 0⟩) w (W3 (nq + 1))) := HL
    obtain ⟨w4, ew4⟩ : ∃ w4, w4 = W3 (nq + 1) := ⟨_, rfl⟩
    rw [← ew4] at t0 t1 t2 t3 t4 t5 t6 HQ ⊢
    clear HS3 HP HL ew4
    go_wp2_with fail
    go_region
    go_wp2_with fail
    refine bodyPost_ret (v := .int .i64 0) (by simp [results, Try.results15, go_sem]) rfl ⟨rfl, W.heap.size + 1, W.heap.size, by have := HH.out.2.2.1; omega, HH.out.2.2.1, ?_⟩
    have e9 := HH.out.2.1
    rw [← hqq.out]
    exact (HQ.out.drewN _).setD 3 _ _ (by
      intro j hj
      rcases j with _ | _ | _ | _ | _ | _ | _ | j
      · rfl
      · rfl
      · rfl
      · simp [Dv.cell, e9]
      · rfl
      · rfl
      · rfl
      omega) rfl rfl
set_option maxHeartbeats 4000000 in
theorem joinD_mid (d : Nat) (s : Sd) (sl gn wt qm p2 p3 p4 p6 p7 t : Int) (pr : Nat) (w : World) (h : DS w d s) (h1 : -9223372036854775808 ≤ sl) (h2 : sl ≤ 9223372036854775807) (hF : s.F sl = none) (hn : s.nn < 1000000000) (hw1 : -4611686018427387904 ≤ s.x.weight + wt) (hw2 : s.x.weight + wt ≤ 4611686018427387904) (hq : 1 ≤ qm) (hq2 : qm ≤ 1073741824) :
    Calls Try.prog 15 #[.pointer (some ⟨d, 0, none⟩), .agg #[.int .i64 sl, .int .i64 gn], .agg #[.int .i64 wt, .int .i64 qm, .int .i64 p2, .int .i64 p3, .int .i64 p4, .float .f64 pr, .int .i64 p6, .int .i64 p7], .int .i64 t] w fun e w' => e = .returned (.int .i64 0) ∧ ∃ b q, w.heap.size ≤ b ∧ w.heap.size ≤ q ∧ DF d s { s.joined sl b ⟨sl, gn, wt, qOf qm, q, 0, 0⟩ with x := { s.x with weight := s.x.weight + wt } } w w' := by
  obtain ⟨W, hW⟩ : ∃ W, W = (w.alloc (.cells #[.int .i64 sl, .int .i64 gn] 41)).alloc (.cells #[.int .i64 wt, .int .i64 qm, .int .i64 p2, .int .i64 p3, .int .i64 p4, .float .f64 pr, .int .i64 p6, .int .i64 p7] 55) := ⟨_, rfl⟩
  obtain ⟨v, ev⟩ : ∃ v, v = w.heap.size := ⟨_, rfl⟩
  have B1 : Below w.heap.size w (w.alloc (.cells #[.int .i64 sl, .int .i64 gn] 41)) := (Below.refl _ _).alloc (Nat.le_refl _) _
  have B0 : Below w.heap.size w W := by rw [hW]; exact B1.alloc B1.size _
  have hB1 : W.heap[v + 1]? = some (.cells #[.int .i64 wt, .int .i64 qm, .int .i64 p2, .int .i64 p3, .int .i64 p4, .float .f64 pr, .int .i64 p6, .int .i64 p7] 55) := by
    rw [hW, ev]
    have := (MapKept.heap_alloc (w.alloc (.cells #[.int .i64 sl, .int .i64 gn] 41)) (.cells #[.int .i64 wt, .int .i64 qm, .int .i64 p2, .int .i64 p3, .int .i64 p4, .float .f64 pr, .int .i64 p6, .int .i64 p7] 55)).1
    simpa using this
  have hB : W.heap[v]? = some (.cells #[.int .i64 sl, .int .i64 gn] 41) := by
    rw [hW, ev]
    exact (Below.heap_alloc _ _ _ (by simp)).trans (MapKept.heap_alloc _ _).1
  have v0 : W.cell? ⟨v, 0, none⟩ = some (.int .i64 sl) := by simp [World.cell?, hB]
  have v1 : W.cell? ⟨v, 1, none⟩ = some (.int .i64 gn) := by simp [World.cell?, hB]
  have u0 : W.cell? ⟨v + 1, 0, none⟩ = some (.int .i64 wt) := by simp [World.cell?, hB1]
  have u1 : W.cell? ⟨v + 1, 1, none⟩ = some (.int .i64 qm) := by simp [World.cell?, hB1]
  have D0 : DF d s s w W := h.df.below B0
  obtain ⟨m, em⟩ : ∃ m, m = s.x.flows := ⟨_, rfl⟩
  have c0 : W.cell? ⟨d, 0, none⟩ = some (.map (some m)) := by rw [em]; exact World.rowIs.cell D0.1.dr (i := 0) (by omega)
  have lk : ∀ k, (Instr.lookup 66 (.map (some m)) (.int .i64 sl) false).run Try.prog (W.drewN k) = .ok (.pointer none) (W.drewN k) := fun k => by
    have := (D0.1.mp.kept (W' := W.drewN k) rfl).look Try.underlying66 (by rfl) (i := sl) h1 h2
    rw [hF, ← em] at this
    exact this
  have EX : ∀ nd, ∃ W', (Instr.mapUpdate 66 (.map (some m)) (.int .i64 sl) (.pointer (some ⟨W.heap.size + 1, 0, none⟩))).run Try.prog (((W.drewN nd).alloc (.cells #[.slice none 0 0, .int .i64 0, .int .i64 0] 95)).alloc (.cells #[.int .i64 sl, .int .i64 gn, .int .i64 wt, .int .i64 qm, .pointer (some ⟨W.heap.size, 0, none⟩), .int .i64 0, .int .i64 0] 74)) = .ok () W' ∧ Mp W' m (s.nn + 1) (updI s.F sl (some (W.heap.size + 1))) ∧ (((W.drewN nd).alloc (.cells #[.slice none 0 0, .int .i64 0, .int .i64 0] 95)).alloc (.cells #[.int .i64 sl, .int .i64 gn, .int .i64 wt, .int .i64 qm, .pointer (some ⟨W.heap.size, 0, none⟩), .int .i64 0, .int .i64 0] 74)).grownBy W' (some m) := fun nd => by
    have bl : Below W.heap.size W (((W.drewN nd).alloc (.cells #[.slice none 0 0, .int .i64 0, .int .i64 0] 95)).alloc (.cells #[.int .i64 sl, .int .i64 gn, .int .i64 wt, .int .i64 qm, .pointer (some ⟨W.heap.size, 0, none⟩), .int .i64 0, .int .i64 0] 74)) := by
      have e1 : Below W.heap.size W (W.drewN nd) := bel_drewN (Below.refl _ _) nd
      have e2 := e1.alloc e1.size (.cells #[.slice none 0 0, .int .i64 0, .int .i64 0] 95)
      exact e2.alloc e2.size _
    have mp' : Mp (((W.drewN nd).alloc (.cells #[.slice none 0 0, .int .i64 0, .int .i64 0] 95)).alloc (.cells #[.int .i64 sl, .int .i64 gn, .int .i64 wt, .int .i64 qm, .pointer (some ⟨W.heap.size, 0, none⟩), .int .i64 0, .int .i64 0] 74)) m s.nn s.F := by rw [em]; exact D0.1.mp.kept (bl.block _ D0.1.ml)
    exact mp'.store (by omega) Try.underlying66 h1 h2 (W.heap.size + 1)
  obtain ⟨W3, hW3⟩ : ∃ W3 : Nat → World, ∀ nd, (Instr.mapUpdate 66 (.map (some m)) (.int .i64 sl) (.pointer (some ⟨W.heap.size + 1, 0, none⟩))).run Try.prog (((W.drewN nd).alloc (.cells #[.slice none 0 0, .int .i64 0, .int .i64 0] 95)).alloc (.cells #[.int .i64 sl, .int .i64 gn, .int .i64 wt, .int .i64 qm, .pointer (some ⟨W.heap.size, 0, none⟩), .int .i64 0, .int .i64 0] 74)) = .ok () (W3 nd) ∧ Mp (W3 nd) m (s.nn + 1) (updI s.F sl (some (W.heap.size + 1))) ∧ (((W.drewN nd).alloc (.cells #[.slice none 0 0, .int .i64 0, .int .i64 0] 95)).alloc (.cells #[.int .i64 sl, .int .i64 gn, .int .i64 wt, .int .i64 qm, .pointer (some ⟨W.heap.size, 0, none⟩), .int .i64 0, .int .i64 0] 74)).grownBy (W3 nd) (some m) := ⟨fun nd => Classical.choose (EX nd), fun nd => Classical.choose_spec (EX nd)⟩
  have HM := fun nd => (hW3 nd).1
  have HP : Hid (∀ nd, DF d s (s.joined sl (W.heap.size + 1) ⟨sl, gn, wt, qm, W.heap.size, 0, 0⟩) w (W3 nd)) := fun nd => by
    have e1 : Below W.heap.size W (W.drewN nd) := bel_drewN (Below.refl _ _) nd
    have e2 := e1.alloc e1.size (.cells #[.slice none 0 0, .int .i64 0, .int .i64 0] 95)
    have rp : RP ((W.drewN nd).alloc (.cells #[.slice none 0 0, .int .i64 0, .int .i64 0] 95)) W.heap.size W.heap.size 0 0 0 [] := newP_rp (W.drewN nd)
    refine D0.trans (D0.1.putM (e2.alloc e2.size _) hF (?_ : Fl _ _ _) (rp.mono ((Below.refl _ _).alloc (Nat.le_refl _) _)) (Nat.le_succ _) (Nat.le_refl _) rfl (by rw [← em]; exact (hW3 nd).2.1) (by rw [← em]; exact (hW3 nd).2.2))
    have := World.rowIs_alloc ((W.drewN nd).alloc (.cells #[.slice none 0 0, .int .i64 0, .int .i64 0] 95)) #[.int .i64 sl, .int .i64 gn, .int .i64 wt, .int .i64 qm, .pointer (some ⟨W.heap.size, 0, none⟩), .int .i64 0, .int .i64 0] 74 (Fw.cell ⟨sl, gn, wt, qm, W.heap.size, 0, 0⟩) (fun i hi => by
      rcases i with _ | _ | _ | _ | _ | _ | _ | i
      · rfl
      · rfl
      · rfl
      · rfl
      · rfl
      · rfl
      · rfl
      simp at hi
      omega)
    have es : ((W.drewN nd).alloc (.cells #[.slice none 0 0, .int .i64 0, .int .i64 0] 95)).heap.size = W.heap.size + 1 := by simp
    rw [es] at this
    exact this
  have HW : Hid ((w.alloc (.cells #[.int .i64 sl, .int .i64 gn] 41)).alloc (.cells #[.int .i64 wt, .int .i64 qm, .int .i64 p2, .int .i64 p3, .int .i64 p4, .float .f64 pr, .int .i64 p6, .int .i64 p7] 55) = W ∧ w.heap.size = v) := ⟨hW.symm, ev.symm⟩
  obtain ⟨sz, esz⟩ : ∃ sz, sz = W.heap.size := ⟨_, rfl⟩
  obtain ⟨sw, esw⟩ : ∃ sw, sw = s.x.weight := ⟨_, rfl⟩
  have HH : Hid (m = s.x.flows ∧ sw = s.x.weight ∧ w.heap.size ≤ W.heap.size ∧ v + 1 < W.heap.size ∧ W.heap[v + 1]? = some (.cells #[.int .i64 wt, .int .i64 qm, .int .i64 p2, .int .i64 p3, .int .i64 p4, .float .f64 pr, .int .i64 p6, .int .i64 p7] 55) ∧ s.F sl = none ∧ W.heap.size ≠ v + 1) := ⟨em, esw, B0.size, (Array.getElem?_eq_some_iff.1 hB1).1, hB1, hF, by have := (Array.getElem?_eq_some_iff.1 hB1).1; omega⟩
  have hww : IntKind.i64.wrap (sw + wt) = sw + wt := by rw [IntKind.wrap_i64, esw]; omega
  have HS : ∀ (w9 : World), (∀ k, k < W.heap.size → k ≠ m → w9.heap[k]? = W.heap[k]?) → w9.cell? ⟨d, 0, none⟩ = some (.map (some m)) ∧ w9.cell? ⟨v, 0, none⟩ = some (.int .i64 sl) ∧ w9.cell? ⟨v, 1, none⟩ = some (.int .i64 gn) ∧ w9.cell? ⟨v + 1, 0, none⟩ = some (.int .i64 wt) ∧ w9.cell? ⟨v + 1, 1, none⟩ = some (.int .i64 qm) ∧ w9.cell? ⟨d, 3, none⟩ = some (.int .i64 s.x.weight) ∧ w9.frozen? ⟨d, 3, none⟩ = false := fun w9 hk => by
    have nd' : d ≠ m := by rw [em]; exact ne_cls D0.1.cd D0.1.cm (by decide)
    have nv : v ≠ m := by have := h.ml; omega
    have nv1 : v + 1 ≠ m := by have := h.ml; omega
    have lv1 := (Array.getElem?_eq_some_iff.1 hB1).1
    have ld := D0.1.dl
    have e1 := hk d ld nd'
    have e2 := hk v (by omega) nv
    have e3 := hk (v + 1) lv1 nv1
    refine ⟨(World.cell?_of_block e1).trans c0, (World.cell?_of_block e2).trans v0, (World.cell?_of_block e2).trans v1, (World.cell?_of_block e3).trans u0, (World.cell?_of_block e3).trans u1, (World.cell?_of_block e1).trans (World.rowIs.cell D0.1.dr (i := 3) (by omega)), (World.frozen?_of_block e1).trans (World.rowIs.frozen D0.1.dr 3)⟩
  have HS1 : ∀ nd, ((W.drewN nd).alloc (.cells #[.slice none 0 0, .int .i64 0, .int .i64 0] 95)).cell? ⟨d, 0, none⟩ = some (.map (some m)) ∧ ((W.drewN nd).alloc (.cells #[.slice none 0 0, .int .i64 0, .int .i64 0] 95)).cell? ⟨v, 0, none⟩ = some (.int .i64 sl) ∧ ((W.drewN nd).alloc (.cells #[.slice none 0 0, .int .i64 0, .int .i64 0] 95)).cell? ⟨v, 1, none⟩ = some (.int .i64 gn) ∧ ((W.drewN nd).alloc (.cells #[.slice none 0 0, .int .i64 0, .int .i64 0] 95)).cell? ⟨v + 1, 0, none⟩ = some (.int .i64 wt) ∧ ((W.drewN nd).alloc (.cells #[.slice none 0 0, .int .i64 0, .int .i64 0] 95)).cell? ⟨v + 1, 1, none⟩ = some (.int .i64 qm) := fun nd => by
    have e1 : Below W.heap.size W (W.drewN nd) := bel_drewN (Below.refl _ _) nd
    have e2 := e1.alloc e1.size (.cells #[.slice none 0 0, .int .i64 0, .int .i64 0] 95)
    obtain ⟨a1, a2, a3, a4, a5, _⟩ := HS _ fun k hk _ => e2.block k hk
    exact ⟨a1, a2, a3, a4, a5⟩
  have HS2 : ∀ nd, (((W.drewN nd).alloc (.cells #[.slice none 0 0, .int .i64 0, .int .i64 0] 95)).alloc (.cells #[.int .i64 sl, .int .i64 gn, .int .i64 wt, .int .i64 qm, .pointer (some ⟨W.heap.size, 0, none⟩), .int .i64 0, .int .i64 0] 74)).cell? ⟨d, 0, none⟩ = some (.map (some m)) ∧ (((W.drewN nd).alloc (.cells #[.slice none 0 0, .int .i64 0, .int .i64 0] 95)).alloc (.cells #[.int .i64 sl, .int .i64 gn, .int .i64 wt, .int .i64 qm, .pointer (some ⟨W.heap.size, 0, none⟩), .int .i64 0, .int .i64 0] 74)).cell? ⟨v, 0, none⟩ = some (.int .i64 sl) ∧ (((W.drewN nd).alloc (.cells #[.slice none 0 0, .int .i64 0, .int .i64 0] 95)).alloc (.cells #[.int .i64 sl, .int .i64 gn, .int .i64 wt, .int .i64 qm, .pointer (some ⟨W.heap.size, 0, none⟩), .int .i64 0, .int .i64 0] 74)).cell? ⟨v, 1, none⟩ = some (.int .i64 gn) ∧ (((W.drewN nd).alloc (.cells #[.slice none 0 0, .int .i64 0, .int .i64 0] 95)).alloc (.cells #[.int .i64 sl, .int .i64 gn, .int .i64 wt, .int .i64 qm, .pointer (some ⟨W.heap.size, 0, none⟩), .int .i64 0, .int .i64 0] 74)).cell? ⟨v + 1, 0, none⟩ = some (.int .i64 wt) ∧ (((W.drewN nd).alloc (.cells #[.slice none 0 0, .int .i64 0, .int .i64 0] 95)).alloc (.cells #[.int .i64 sl, .int .i64 gn, .int .i64 wt, .int .i64 qm, .pointer (some ⟨W.heap.size, 0, none⟩), .int .i64 0, .int .i64 0] 74)).cell? ⟨v + 1, 1, none⟩ = some (.int .i64 qm) := fun nd => by
    have e1 : Below W.heap.size W (W.drewN nd) := bel_drewN (Below.refl _ _) nd
    have e2 := e1.alloc e1.size (.cells #[.slice none 0 0, .int .i64 0, .int .i64 0] 95)
    have e3 := e2.alloc e2.size (.cells #[.int .i64 sl, .int .i64 gn, .int .i64 wt, .int .i64 qm, .pointer (some ⟨W.heap.size, 0, none⟩), .int .i64 0, .int .i64 0] 74)
    obtain ⟨a1, a2, a3, a4, a5, _⟩ := HS _ fun k hk _ => e3.block k hk
    exact ⟨a1, a2, a3, a4, a5⟩
  have HS3 : ∀ nd, (W3 nd).cell? ⟨d, 0, none⟩ = some (.map (some m)) ∧ (W3 nd).cell? ⟨v, 0, none⟩ = some (.int .i64 sl) ∧ (W3 nd).cell? ⟨v, 1, none⟩ = some (.int .i64 gn) ∧ (W3 nd).cell? ⟨v + 1, 0, none⟩ = some (.int .i64 wt) ∧ (W3 nd).cell? ⟨v + 1, 1, none⟩ = some (.int .i64 qm) ∧ (W3 nd).cell? ⟨d, 3, none⟩ = some (.int .i64 sw) ∧ (W3 nd).frozen? ⟨d, 3, none⟩ = false := fun nd => by
    have e1 : Below W.heap.size W (W.drewN nd) := bel_drewN (Below.refl _ _) nd
    have e2 := e1.alloc e1.size (.cells #[.slice none 0 0, .int .i64 0, .int .i64 0] 95)
    have e3 := e2.alloc e2.size (.cells #[.int .i64 sl, .int .i64 gn, .int .i64 wt, .int .i64 qm, .pointer (some ⟨W.heap.size, 0, none⟩), .int .i64 0, .int .i64 0] 74)
    rw [esw]
    exact HS _ fun k hk hn => ((hW3 nd).2.2.block k (Nat.lt_of_lt_of_le hk e3.size) (fun e => hn (by injection e))).trans (e3.block k hk)
  have d1 : ¬ qm < 1 := by omega
  have d2 : ¬ 1073741824 < qm := by omega
  have d3 : (if 1073741824 < qm then 1073741824 else qm) = qm := if_neg d2
  have d4 : (if qm < 1 then 1 else qm) = qm := if_neg d1
  have n1 : ¬ d = v + 1 := by have := h.dl; omega
  have n2 : ¬ v + 1 = d := fun e => n1 e.symm
  have hqq : Hid (qm = qOf qm) := by show _ = _; unfold qOf; omega
  clear h D0 em hF hn h1 h2 hw1 hw2 hB hB1 hW ev B0 B1 EX hW3 esz esw HS
  go_enter Try.func15, Try.ntmps15
  go_wp2_with fail
  rename_i hz
  rw [HW.out.1, HW.out.2]
  go_quiet (fail)
  refine hz _ _ ?_
  clear hz
  go_wp2_with fail
  rename_i hz
  go_region_held3 (fun w9 => w9.cell? ⟨d, 0, none⟩ = some (.map (some m)) ∧ w9.cell? ⟨v, 0, none⟩ = some (.int .i64 sl) ∧ w9.cell? ⟨v, 1, none⟩ = some (.int .i64 gn) ∧ w9.cell? ⟨v + 1, 0, none⟩ = some (.int .i64 wt) ∧ w9.cell? ⟨v + 1, 1, none⟩ = some (.int .i64 qm)) (first | (simp [go_sem, *]; done) | (trace_state; fail))
    (first
      | (go_at_call 26; refine Calls.mono (newP_exact _) ?_; rintro e w1 ⟨rfl, rfl⟩))
  all_goals
    refine hz _ _ ?_
    clear hz HM HS1 HS2 lk c0 v0 v1 u0 u1
    obtain ⟨t0, t1, t2, t3, t4, t5, t6⟩ := HS3 (nq + 1)
    have HL := HP.out (nq + 1)
    have HQ : Hid (DF d s (s.joined sl (W.heap.size + 1) ⟨sl, gn, wt, qm, W.heap.size, 0, 0⟩) w (W3 (nq + 1))) := HL
    obtain ⟨w4, ew4⟩ : ∃ w4, w4 = W3 (nq + 1) := ⟨_, rfl⟩
    rw [← ew4] at t0 t1 t2 t3 t4 t5 t6 HQ ⊢
    clear HS3 HP HL ew4
    go_wp2_with fail
    go_region
    go_wp2_with fail
    refine bodyPost_ret (v := .int .i64 0) (by simp [results, Try.results15, go_sem]) rfl ⟨rfl, W.heap.size + 1, W.heap.size, by have := HH.out.2.2.1; omega, HH.out.2.2.1, ?_⟩
    have e9 := HH.out.2.1
    rw [← hqq.out]
    exact (HQ.out.drewN _).setD 3 _ _ (by
      intro j hj
      rcases j with _ | _ | _ | _ | _ | _ | _ | j
      · rfl
      · rfl
      · rfl
      · simp [Dv.cell, e9]
      · rfl
      · rfl
      · rfl
      omega) rfl rfl
set_option maxHeartbeats 4000000 in
theorem joinD_high (d : Nat) (s : Sd) (sl gn wt qm p2 p3 p4 p6 p7 t : Int) (pr : Nat) (w : World) (h : DS w d s) (h1 : -9223372036854775808 ≤ sl) (h2 : sl ≤ 9223372036854775807) (hF : s.F sl = none) (hn : s.nn < 1000000000) (hw1 : -4611686018427387904 ≤ s.x.weight + wt) (hw2 : s.x.weight + wt ≤ 4611686018427387904) (hq : 1073741824 < qm) :
    Calls Try.prog 15 #[.pointer (some ⟨d, 0, none⟩), .agg #[.int .i64 sl, .int .i64 gn], .agg #[.int .i64 wt, .int .i64 qm, .int .i64 p2, .int .i64 p3, .int .i64 p4, .float .f64 pr, .int .i64 p6, .int .i64 p7], .int .i64 t] w fun e w' => e = .returned (.int .i64 0) ∧ ∃ b q, w.heap.size ≤ b ∧ w.heap.size ≤ q ∧ DF d s { s.joined sl b ⟨sl, gn, wt, qOf qm, q, 0, 0⟩ with x := { s.x with weight := s.x.weight + wt } } w w' := by
  obtain ⟨W, hW⟩ : ∃ W, W = (w.alloc (.cells #[.int .i64 sl, .int .i64 gn] 41)).alloc (.cells #[.int .i64 wt, .int .i64 qm, .int .i64 p2, .int .i64 p3, .int .i64 p4, .float .f64 pr, .int .i64 p6, .int .i64 p7] 55) := ⟨_, rfl⟩
  obtain ⟨v, ev⟩ : ∃ v, v = w.heap.size := ⟨_, rfl⟩
  have B1 : Below w.heap.size w (w.alloc (.cells #[.int .i64 sl, .int .i64 gn] 41)) := (Below.refl _ _).alloc (Nat.le_refl _) _
  have B0 : Below w.heap.size w W := by rw [hW]; exact B1.alloc B1.size _
  have hB1 : W.heap[v + 1]? = some (.cells #[.int .i64 wt, .int .i64 qm, .int .i64 p2, .int .i64 p3, .int .i64 p4, .float .f64 pr, .int .i64 p6, .int .i64 p7] 55) := by
    rw [hW, ev]
    have := (MapKept.heap_alloc (w.alloc (.cells #[.int .i64 sl, .int .i64 gn] 41)) (.cells #[.int .i64 wt, .int .i64 qm, .int .i64 p2, .int .i64 p3, .int .i64 p4, .float .f64 pr, .int .i64 p6, .int .i64 p7] 55)).1
    simpa using this
  have hB : W.heap[v]? = some (.cells #[.int .i64 sl, .int .i64 gn] 41) := by
    rw [hW, ev]
    exact (Below.heap_alloc _ _ _ (by simp)).trans (MapKept.heap_alloc _ _).1
  have v0 : W.cell? ⟨v, 0, none⟩ = some (.int .i64 sl) := by simp [World.cell?, hB]
  have v1 : W.cell? ⟨v, 1, none⟩ = some (.int .i64 gn) := by simp [World.cell?, hB]
  have u0 : W.cell? ⟨v + 1, 0, none⟩ = some (.int .i64 wt) := by simp [World.cell?, hB1]
  have u1 : W.cell? ⟨v + 1, 1, none⟩ = some (.int .i64 qm) := by simp [World.cell?, hB1]
  have D0 : DF d s s w W := h.df.below B0
  obtain ⟨m, em⟩ : ∃ m, m = s.x.flows := ⟨_, rfl⟩
  have c0 : W.cell? ⟨d, 0, none⟩ = some (.map (some m)) := by rw [em]; exact World.rowIs.cell D0.1.dr (i := 0) (by omega)
  have lk : ∀ k, (Instr.lookup 66 (.map (some m)) (.int .i64 sl) false).run Try.prog (W.drewN k) = .ok (.pointer none) (W.drewN k) := fun k => by
    have := (D0.1.mp.kept (W' := W.drewN k) rfl).look Try.underlying66 (by rfl) (i := sl) h1 h2
    rw [hF, ← em] at this
    exact this
  have EX : ∀ nd, ∃ W', (Instr.mapUpdate 66 (.map (some m)) (.int .i64 sl) (.pointer (some ⟨W.heap.size + 1, 0, none⟩))).run Try.prog (((W.drewN nd).alloc (.cells #[.slice none 0 0, .int .i64 0, .int .i64 0] 95)).alloc (.cells #[.int .i64 sl, .int .i64 gn, .int .i64 wt, .int .i64 1073741824, .pointer (some ⟨W.heap.size, 0, none⟩), .int .i64 0, .int .i64 0] 74)) = .ok () W' ∧ Mp W' m (s.nn + 1) (updI s.F sl (some (W.heap.size + 1))) ∧ (((W.drewN nd).alloc (.cells #[.slice none 0 0, .int .i64 0, .int .i64 0] 95)).alloc (.cells #[.int .i64 sl, .int .i64 gn, .int .i64 wt, .int .i64 1073741824, .pointer (some ⟨W.heap.size, 0, none⟩), .int .i64 0, .int .i64 0] 74)).grownBy W' (some m) := fun nd => by
    have bl : Below W.heap.size W (((W.drewN nd).alloc (.cells #[.slice none 0 0, .int .i64 0, .int .i64 0] 95)).alloc (.cells #[.int .i64 sl, .int .i64 gn, .int .i64 wt, .int .i64 1073741824, .pointer (some ⟨W.heap.size, 0, none⟩), .int .i64 0, .int .i64 0] 74)) := by
      have e1 : Below W.heap.size W (W.drewN nd) := bel_drewN (Below.refl _ _) nd
      have e2 := e1.alloc e1.size (.cells #[.slice none 0 0, .int .i64 0, .int .i64 0] 95)
      exact e2.alloc e2.size _
    have mp' : Mp (((W.drewN nd).alloc (.cells #[.slice none 0 0, .int .i64 0, .int .i64 0] 95)).alloc (.cells #[.int .i64 sl, .int .i64 gn, .int .i64 wt, .int .i64 1073741824, .pointer (some ⟨W.heap.size, 0, none⟩), .int .i64 0, .int .i64 0] 74)) m s.nn s.F := by rw [em]; exact D0.1.mp.kept (bl.block _ D0.1.ml)
    exact mp'.store (by omega) Try.underlying66 h1 h2 (W.heap.size + 1)
  obtain ⟨W3, hW3⟩ : ∃ W3 : Nat → World, ∀ nd, (Instr.mapUpdate 66 (.map (some m)) (.int .i64 sl) (.pointer (some ⟨W.heap.size + 1, 0, none⟩))).run Try.prog (((W.drewN nd).alloc (.cells #[.slice none 0 0, .int .i64 0, .int .i64 0] 95)).alloc (.cells #[.int .i64 sl, .int .i64 gn, .int .i64 wt, .int .i64 1073741824, .pointer (some ⟨W.heap.size, 0, none⟩), .int .i64 0, .int .i64 0] 74)) = .ok () (W3 nd) ∧ Mp (W3 nd) m (s.nn + 1) (updI s.F sl (some (W.heap.size + 1))) ∧ (((W.drewN nd).alloc (.cells #[.slice none 0 0, .int .i64 0, .int .i64 0] 95)).alloc (.cells #[.int .i64 sl, .int .i64 gn, .int .i64 wt, .int .i64 1073741824, .pointer (some ⟨W.heap.size, 0, none⟩), .int .i64 0, .int .i64 0] 74)).grownBy (W3 nd) (some m) := ⟨fun nd => Classical.choose (EX nd), fun nd => Classical.choose_spec (EX nd)⟩
  have HM := fun nd => (hW3 nd).1
  have HP : Hid (∀ nd, DF d s (s.joined sl (W.heap.size + 1) ⟨sl, gn, wt, 1073741824, W.heap.size, 0, 0⟩) w (W3 nd)) := fun nd => by
    have e1 : Below W.heap.size W (W.drewN nd) := bel_drewN (Below.refl _ _) nd
    have e2 := e1.alloc e1.size (.cells #[.slice none 0 0, .int .i64 0, .int .i64 0] 95)
    have rp : RP ((W.drewN nd).alloc (.cells #[.slice none 0 0, .int .i64 0, .int .i64 0] 95)) W.heap.size W.heap.size 0 0 0 [] := newP_rp (W.drewN nd)
    refine D0.trans (D0.1.putM (e2.alloc e2.size _) hF (?_ : Fl _ _ _) (rp.mono ((Below.refl _ _).alloc (Nat.le_refl _) _)) (Nat.le_succ _) (Nat.le_refl _) rfl (by rw [← em]; exact (hW3 nd).2.1) (by rw [← em]; exact (hW3 nd).2.2))
    have := World.rowIs_alloc ((W.drewN nd).alloc (.cells #[.slice none 0 0, .int .i64 0, .int .i64 0] 95)) #[.int .i64 sl, .int .i64 gn, .int .i64 wt, .int .i64 1073741824, .pointer (some ⟨W.heap.size, 0, none⟩), .int .i64 0, .int .i64 0] 74 (Fw.cell ⟨sl, gn, wt, 1073741824, W.heap.size, 0, 0⟩) (fun i hi => by
      rcases i with _ | _ | _ | _ | _ | _ | _ | i
      · rfl
      · rfl
      · rfl
      · rfl
      · rfl
      · rfl
      · rfl
      simp at hi
      omega)
    have es : ((W.drewN nd).alloc (.cells #[.slice none 0 0, .int .i64 0, .int .i64 0] 95)).heap.size = W.heap.size + 1 := by simp
    rw [es] at this
    exact this
  have HW : Hid ((w.alloc (.cells #[.int .i64 sl, .int .i64 gn] 41)).alloc (.cells #[.int .i64 wt, .int .i64 qm, .int .i64 p2, .int .i64 p3, .int .i64 p4, .float .f64 pr, .int .i64 p6, .int .i64 p7] 55) = W ∧ w.heap.size = v) := ⟨hW.symm, ev.symm⟩
  obtain ⟨sz, esz⟩ : ∃ sz, sz = W.heap.size := ⟨_, rfl⟩
  obtain ⟨sw, esw⟩ : ∃ sw, sw = s.x.weight := ⟨_, rfl⟩
  have HH : Hid (m = s.x.flows ∧ sw = s.x.weight ∧ w.heap.size ≤ W.heap.size ∧ v + 1 < W.heap.size ∧ W.heap[v + 1]? = some (.cells #[.int .i64 wt, .int .i64 qm, .int .i64 p2, .int .i64 p3, .int .i64 p4, .float .f64 pr, .int .i64 p6, .int .i64 p7] 55) ∧ s.F sl = none ∧ W.heap.size ≠ v + 1) := ⟨em, esw, B0.size, (Array.getElem?_eq_some_iff.1 hB1).1, hB1, hF, by have := (Array.getElem?_eq_some_iff.1 hB1).1; omega⟩
  have hww : IntKind.i64.wrap (sw + wt) = sw + wt := by rw [IntKind.wrap_i64, esw]; omega
  have HS : ∀ (w9 : World), (∀ k, k < W.heap.size → k ≠ m → w9.heap[k]? = W.heap[k]?) → w9.cell? ⟨d, 0, none⟩ = some (.map (some m)) ∧ w9.cell? ⟨v, 0, none⟩ = some (.int .i64 sl) ∧ w9.cell? ⟨v, 1, none⟩ = some (.int .i64 gn) ∧ w9.cell? ⟨v + 1, 0, none⟩ = some (.int .i64 wt) ∧ w9.cell? ⟨v + 1, 1, none⟩ = some (.int .i64 qm) ∧ w9.cell? ⟨d, 3, none⟩ = some (.int .i64 s.x.weight) ∧ w9.frozen? ⟨d, 3, none⟩ = false := fun w9 hk => by
    have nd' : d ≠ m := by rw [em]; exact ne_cls D0.1.cd D0.1.cm (by decide)
    have nv : v ≠ m := by have := h.ml; omega
    have nv1 : v + 1 ≠ m := by have := h.ml; omega
    have lv1 := (Array.getElem?_eq_some_iff.1 hB1).1
    have ld := D0.1.dl
    have e1 := hk d ld nd'
    have e2 := hk v (by omega) nv
    have e3 := hk (v + 1) lv1 nv1
    refine ⟨(World.cell?_of_block e1).trans c0, (World.cell?_of_block e2).trans v0, (World.cell?_of_block e2).trans v1, (World.cell?_of_block e3).trans u0, (World.cell?_of_block e3).trans u1, (World.cell?_of_block e1).trans (World.rowIs.cell D0.1.dr (i := 3) (by omega)), (World.frozen?_of_block e1).trans (World.rowIs.frozen D0.1.dr 3)⟩
  have HS1 : ∀ nd, ((W.drewN nd).alloc (.cells #[.slice none 0 0, .int .i64 0, .int .i64 0] 95)).cell? ⟨d, 0, none⟩ = some (.map (some m)) ∧ ((W.drewN nd).alloc (.cells #[.slice none 0 0, .int .i64 0, .int .i64 0] 95)).cell? ⟨v, 0, none⟩ = some (.int .i64 sl) ∧ ((W.drewN nd).alloc (.cells #[.slice none 0 0, .int .i64 0, .int .i64 0] 95)).cell? ⟨v, 1, none⟩ = some (.int .i64 gn) ∧ ((W.drewN nd).alloc (.cells #[.slice none 0 0, .int .i64 0, .int .i64 0] 95)).cell? ⟨v + 1, 0, none⟩ = some (.int .i64 wt) ∧ ((W.drewN nd).alloc (.cells #[.slice none 0 0, .int .i64 0, .int .i64 0] 95)).cell? ⟨v + 1, 1, none⟩ = some (.int .i64 qm) := fun nd => by
    have e1 : Below W.heap.size W (W.drewN nd) := bel_drewN (Below.refl _ _) nd
    have e2 := e1.alloc e1.size (.cells #[.slice none 0 0, .int .i64 0, .int .i64 0] 95)
    obtain ⟨a1, a2, a3, a4, a5, _⟩ := HS _ fun k hk _ => e2.block k hk
    exact ⟨a1, a2, a3, a4, a5⟩
  have HS2 : ∀ nd, (((W.drewN nd).alloc (.cells #[.slice none 0 0, .int .i64 0, .int .i64 0] 95)).alloc (.cells #[.int .i64 sl, .int .i64 gn, .int .i64 wt, .int .i64 1073741824, .pointer (some ⟨W.heap.size, 0, none⟩), .int .i64 0, .int .i64 0] 74)).cell? ⟨d, 0, none⟩ = some (.map (some m)) ∧ (((W.drewN nd).alloc (.cells #[.slice none 0 0, .int .i64 0, .int .i64 0] 95)).alloc (.cells #[.int .i64 sl, .int .i64 gn, .int .i64 wt, .int .i64 1073741824, .pointer (some ⟨W.heap.size, 0, none⟩), .int .i64 0, .int .i64 0] 74)).cell? ⟨v, 0, none⟩ = some (.int .i64 sl) ∧ (((W.drewN nd).alloc (.cells #[.slice none 0 0, .int .i64 0, .int .i64 0] 95)).alloc (.cells #[.int .i64 sl, .int .i64 gn, .int .i64 wt, .int .i64 1073741824, .pointer (some ⟨W.heap.size, 0, none⟩), .int .i64 0, .int .i64 0] 74)).cell? ⟨v, 1, none⟩ = some (.int .i64 gn) ∧ (((W.drewN nd).alloc (.cells #[.slice none 0 0, .int .i64 0, .int .i64 0] 95)).alloc (.cells #[.int .i64 sl, .int .i64 gn, .int .i64 wt, .int .i64 1073741824, .pointer (some ⟨W.heap.size, 0, none⟩), .int .i64 0, .int .i64 0] 74)).cell? ⟨v + 1, 0, none⟩ = some (.int .i64 wt) ∧ (((W.drewN nd).alloc (.cells #[.slice none 0 0, .int .i64 0, .int .i64 0] 95)).alloc (.cells #[.int .i64 sl, .int .i64 gn, .int .i64 wt, .int .i64 1073741824, .pointer (some ⟨W.heap.size, 0, none⟩), .int .i64 0, .int .i64 0] 74)).cell? ⟨v + 1, 1, none⟩ = some (.int .i64 qm) := fun nd => by
    have e1 : Below W.heap.size W (W.drewN nd) := bel_drewN (Below.refl _ _) nd
    have e2 := e1.alloc e1.size (.cells #[.slice none 0 0, .int .i64 0, .int .i64 0] 95)
    have e3 := e2.alloc e2.size (.cells #[.int .i64 sl, .int .i64 gn, .int .i64 wt, .int .i64 1073741824, .pointer (some ⟨W.heap.size, 0, none⟩), .int .i64 0, .int .i64 0] 74)
    obtain ⟨a1, a2, a3, a4, a5, _⟩ := HS _ fun k hk _ => e3.block k hk
    exact ⟨a1, a2, a3, a4, a5⟩
  have HS3 : ∀ nd, (W3 nd).cell? ⟨d, 0, none⟩ = some (.map (some m)) ∧ (W3 nd).cell? ⟨v, 0, none⟩ = some (.int .i64 sl) ∧ (W3 nd).cell? ⟨v, 1, none⟩ = some (.int .i64 gn) ∧ (W3 nd).cell? ⟨v + 1, 0, none⟩ = some (.int .i64 wt) ∧ (W3 nd).cell? ⟨v + 1, 1, none⟩ = some (.int .i64 qm) ∧ (W3 nd).cell? ⟨d, 3, none⟩ = some (.int .i64 sw) ∧ (W3 nd).frozen? ⟨d, 3, none⟩ = false := fun nd => by
    have e1 : Below W.heap.size W (W.drewN nd) := bel_drewN (Below.refl _ _) nd
    have e2 := e1.alloc e1.size (.cells #[.slice none 0 0, .int .i64 0, .int .i64 0] 95)
    have e3 := e2.alloc e2.size (.cells #[.int .i64 sl, .int .i64 gn, .int .i64 wt, .int .i64 1073741824, .pointer (some ⟨W.heap.size, 0, none⟩), .int .i64 0, .int .i64 0] 74)
    rw [esw]
    exact HS _ fun k hk hn => ((hW3 nd).2.2.block k (Nat.lt_of_lt_of_le hk e3.size) (fun e => hn (by injection e))).trans (e3.block k hk)
  have d1 : ¬ qm < 1 := by omega
  have d2 : ¬ qm ≤ 1073741824 := by omega
  have d3 : (if 1073741824 < qm then 1073741824 else qm) = 1073741824 := if_pos (by omega)
  have d4 : (if qm < 1 then 1 else qm) = qm := if_neg d1
  have n1 : ¬ d = v + 1 := by have := h.dl; omega
  have n2 : ¬ v + 1 = d := fun e => n1 e.symm
  have hqq : Hid (1073741824 = qOf qm) := by show _ = _; unfold qOf; omega
  clear h D0 em hF hn h1 h2 hw1 hw2 hB hB1 hW ev B0 B1 EX hW3 esz esw HS
  go_enter Try.func15, Try.ntmps15
  go_wp2_with fail
  rename_i hz
  rw [HW.out.1, HW.out.2]
  go_quiet (fail)
  refine hz _ _ ?_
  clear hz
  go_wp2_with fail
  rename_i hz
  go_region_held3 (fun w9 => w9.cell? ⟨d, 0, none⟩ = some (.map (some m)) ∧ w9.cell? ⟨v, 0, none⟩ = some (.int .i64 sl) ∧ w9.cell? ⟨v, 1, none⟩ = some (.int .i64 gn) ∧ w9.cell? ⟨v + 1, 0, none⟩ = some (.int .i64 wt) ∧ w9.cell? ⟨v + 1, 1, none⟩ = some (.int .i64 qm)) (first | (simp [go_sem, *]; done) | (trace_state; fail))
    (first
      | (go_at_call 26; refine Calls.mono (newP_exact _) ?_; rintro e w1 ⟨rfl, rfl⟩))
  all_goals
    refine hz _ _ ?_
    clear hz HM HS1 HS2 lk c0 v0 v1 u0 u1
    obtain ⟨t0, t1, t2, t3, t4, t5, t6⟩ := HS3 (nq + 1)
    have HL := HP.out (nq + 1)
    have HQ : Hid (DF d s (s.joined sl (W.heap.size + 1) ⟨sl, gn, wt, 1073741824, W.heap.size, 0, 0⟩) w (W3 (nq + 1))) := HL
    obtain ⟨w4, ew4⟩ : ∃ w4, w4 = W3 (nq + 1) := ⟨_, rfl⟩
    rw [← ew4] at t0 t1 t2 t3 t4 t5 t6 HQ ⊢
    clear HS3 HP HL ew4
    go_wp2_with fail
    go_region
    go_wp2_with fail
    refine bodyPost_ret (v := .int .i64 0) (by simp [results, Try.results15, go_sem]) rfl ⟨rfl, W.heap.size + 1, W.heap.size, by have := HH.out.2.2.1; omega, HH.out.2.2.1, ?_⟩
    have e9 := HH.out.2.1
    rw [← hqq.out]
    exact (HQ.out.drewN _).setD 3 _ _ (by
      intro j hj
      rcases j with _ | _ | _ | _ | _ | _ | _ | j
      · rfl
      · rfl
      · rfl
      · simp [Dv.cell, e9]
      · rfl
      · rfl
      · rfl
      omega) rfl rfl
theorem joinD_any (d : Nat) (s : Sd) (sl gn wt qm p2 p3 p4 p6 p7 t : Int) (pr : Nat) (w : World) (h : DS w d s) (h1 : -9223372036854775808 ≤ sl) (h2 : sl ≤ 9223372036854775807) (hF : s.F sl = none) (hn : s.nn < 1000000000) (hw1 : -4611686018427387904 ≤ s.x.weight + wt) (hw2 : s.x.weight + wt ≤ 4611686018427387904) :
    Calls Try.prog 15 #[.pointer (some ⟨d, 0, none⟩), .agg #[.int .i64 sl, .int .i64 gn], .agg #[.int .i64 wt, .int .i64 qm, .int .i64 p2, .int .i64 p3, .int .i64 p4, .float .f64 pr, .int .i64 p6, .int .i64 p7], .int .i64 t] w fun e w' => e = .returned (.int .i64 0) ∧ ∃ b q, w.heap.size ≤ b ∧ w.heap.size ≤ q ∧ DF d s { s.joined sl b ⟨sl, gn, wt, qOf qm, q, 0, 0⟩ with x := { s.x with weight := s.x.weight + wt } } w w' := by
  by_cases c1 : qm < 1
  · exact joinD_low d s sl gn wt qm p2 p3 p4 p6 p7 t pr w h h1 h2 hF hn hw1 hw2 c1
  by_cases c2 : 1073741824 < qm
  · exact joinD_high d s sl gn wt qm p2 p3 p4 p6 p7 t pr w h h1 h2 hF hn hw1 hw2 c2
  exact joinD_mid d s sl gn wt qm p2 p3 p4 p6 p7 t pr w h h1 h2 hF hn hw1 hw2 (by omega) (by omega)
structure New0 (s : Sd) : Prop where
  R : s.R = []
  F : s.F = fun _ => none
  nn : s.nn = 0
  tn : s.x.turn = false
  wt : s.x.weight = 0
  ct : s.x.count = 0
  sq : s.x.seq = 0
  cm : s.x.came = 0
theorem newD_ds (w : World) : Calls Try.prog 14 #[] w fun e w' => ∃ d s, e = .returned (.pointer (some ⟨d, 0, none⟩)) ∧ DS w' d s ∧ New0 s ∧ Below w.heap.size w w' ∧ ∀ k, Mine d s k → w.heap.size ≤ k := by
  refine (newD_any w).mono ?_
  rintro e w1 ⟨rg, d, rfl, h1, h2, h3, hb, l1, l2⟩
  refine ⟨d, ⟨⟨w.heap.size, rg, false, 0, 0, 0, 0⟩, 0, rg, [], fun _ => none, fun _ => ⟨0, 0, 0, 0, 0, 0, 0⟩, fun _ => [], fun _ => 0⟩, rfl, ⟨h1, h2, ⟨0, 0, h3⟩, fun _ _ h => (by cases h), fun _ _ h => (by cases h), fun _ _ h => (by cases h), fun _ _ _ _ h => (by cases h), fun _ h => (by cases h)⟩, ⟨rfl, rfl, rfl, rfl, rfl, rfl, rfl, rfl⟩, hb, ?_⟩
  rintro k (e | e | e | e | ⟨i, b, e, _⟩)
  · omega
  · have e : k = w.heap.size := e
    omega
  · have e : k = rg := e
    omega
  · have e : k = rg := e
    omega
  cases e
structure J2 (s : Sd) (ba bb : Nat) (qa qb : Int) : Prop where
  R : s.R = []
  ne : ba ≠ bb
  fa : s.F 0 = some ba
  fb : s.F 1 = some bb
  ya : ∃ q w, s.Y ba = ⟨0, 1, w, qa, q, 0, 0⟩
  yb : ∃ q w, s.Y bb = ⟨1, 1, w, qb, q, 0, 0⟩
  Qa : s.Q ba = []
  Qb : s.Q bb = []
  tn : s.x.turn = false
  ct : s.x.count = 0
  sq : s.x.seq = 0
  cm : s.x.came = 0
structure J1 (s : Sd) (ba : Nat) (qa : Int) : Prop where
  R : s.R = []
  fa : s.F 0 = some ba
  fb : s.F 1 = none
  nn : s.nn = 1
  wt : s.x.weight = 0
  ya : ∃ q w, s.Y ba = ⟨0, 1, w, qa, q, 0, 0⟩
  Qa : s.Q ba = []
  tn : s.x.turn = false
  ct : s.x.count = 0
  sq : s.x.seq = 0
  cm : s.x.came = 0
theorem J1.of {s : Sd} (h : New0 s) (b q : Nat) (qa : Int) : J1 { s.joined 0 b ⟨0, 1, 0, qa, q, 0, 0⟩ with x := { s.x with weight := s.x.weight + 0 } } b qa :=
  ⟨h.R, by simp [Sd.joined, updI], by simp [Sd.joined, updI, h.F], by simp [Sd.joined, h.nn], by simp [h.wt], ⟨q, 0, updN_eq _ _ _⟩, updN_eq _ _ _, h.tn, h.ct, h.sq, h.cm⟩
theorem J2.of {s : Sd} {ba : Nat} {qa : Int} (h : J1 s ba qa) (b q : Nat) (qb : Int) (hne : ba ≠ b) : J2 { s.joined 1 b ⟨1, 1, 0, qb, q, 0, 0⟩ with x := { s.x with weight := s.x.weight + 0 } } ba b qa qb :=
  ⟨h.R, hne, by simp [Sd.joined, updI, h.fa], by simp [Sd.joined, updI], by
    obtain ⟨q, w, e⟩ := h.ya
    exact ⟨q, w, by simp [Sd.joined, updN, hne, e]⟩, ⟨q, 0, updN_eq _ _ _⟩, by simp [Sd.joined, updN, hne, h.Qa], updN_eq _ _ _, h.tn, h.ct, h.sq, h.cm⟩
structure A1 (s : Sd) (ba bb : Nat) (qa qb n : Int) : Prop where
  R : s.R = [ba]
  ne : ba ≠ bb
  fa : s.F 0 = some ba
  fb : s.F 1 = some bb
  ya : ∃ q w, s.Y ba = ⟨0, 1, w, qa, q, n, 0⟩
  yb : ∃ q w, s.Y bb = ⟨1, 1, w, qb, q, 0, 0⟩
  Qa : s.Q ba = [⟨0, 1, 0, n, 1, 0⟩]
  Qb : s.Q bb = []
  tn : s.x.turn = false
  ct : s.x.count = 1
  sq : s.x.seq = 1
  cm : s.x.came = 0
theorem A1.of {s : Sd} {ba bb : Nat} {qa qb : Int} (h : J2 s ba bb qa qb) (n : Int) (g1 g2 : Nat) : A1 (s.admitted ba ⟨0, 1, 0, n, 1, 0⟩ (s.R ++ [ba]) g1 g2) ba bb qa qb n :=
  ⟨by show s.R ++ [ba] = _; rw [h.R]; rfl, h.ne, h.fa, h.fb, by
    obtain ⟨q, w, e⟩ := h.ya
    exact ⟨q, w, by simp [Sd.admitted, updN, e]⟩, by
    obtain ⟨q, w, e⟩ := h.yb
    exact ⟨q, w, by simp [Sd.admitted, updN, h.ne.symm, e]⟩, by simp [Sd.admitted, updN, h.Qa], by simp [Sd.admitted, updN, h.ne.symm, h.Qb], h.tn, by simp [Sd.admitted, h.ct], rfl, rfl⟩
structure Two (s : Sd) (ba bb : Nat) (qa qb n m : Int) : Prop where
  R : s.R = [ba, bb]
  ne : ba ≠ bb
  fa : s.F 0 = some ba
  fb : s.F 1 = some bb
  ya : ∃ q w, s.Y ba = ⟨0, 1, w, qa, q, n, 0⟩
  yb : ∃ q w, s.Y bb = ⟨1, 1, w, qb, q, m, 0⟩
  Qa : s.Q ba = [⟨0, 1, 0, n, 1, 0⟩]
  Qb : s.Q bb = [⟨1, 1, 0, m, 2, 0⟩]
  tn : s.x.turn = false
  ct : s.x.count = 2
theorem Two.of {s : Sd} {ba bb : Nat} {qa qb n : Int} (h : A1 s ba bb qa qb n) (m : Int) (g1 g2 : Nat) : Two (s.admitted bb ⟨1, 1, 0, m, 2, 0⟩ (s.R ++ [bb]) g1 g2) ba bb qa qb n m :=
  ⟨by show s.R ++ [bb] = _; rw [h.R]; rfl, h.ne, h.fa, h.fb, by
    obtain ⟨q, w, e⟩ := h.ya
    exact ⟨q, w, by simp [Sd.admitted, updN, h.ne, e]⟩, by
    obtain ⟨q, w, e⟩ := h.yb
    exact ⟨q, w, by simp [Sd.admitted, updN, e]⟩, by simp [Sd.admitted, updN, h.ne, h.Qa], by simp [Sd.admitted, updN, h.Qb], h.tn, by simp [Sd.admitted, h.ct]⟩
theorem Two.good {s : Sd} {ba bb : Nat} {qa qb n m : Int} (h : Two s ba bb qa qb n m) (a1 : 1 ≤ qa) (a2 : qa ≤ 1073741824) (b1 : 1 ≤ qb) (b2 : qb ≤ 1073741824) (n1 : 1 ≤ n) (n2 : n ≤ 65536) (m1 : 1 ≤ m) (m2 : m ≤ 65536) : s.Good := by
  intro b hb
  rw [h.R] at hb
  obtain ⟨q, w, ea⟩ := h.ya
  obtain ⟨q', w', eb⟩ := h.yb
  simp at hb
  rcases hb with rfl | rfl
  · unfold hdP
    rw [h.Qa, ea]
    exact ⟨by simp, a1, a2, by show 0 ≤ n; omega, n2, by show (-1073741824 : Int) ≤ 0; omega, by show (0 : Int) ≤ 1073741824; omega⟩
  unfold hdP
  rw [h.Qb, eb]
  exact ⟨by simp, b1, b2, by show 0 ≤ m; omega, m2, by show (-1073741824 : Int) ≤ 0; omega, by show (0 : Int) ≤ 1073741824; omega⟩
structure Left (s' s : Sd) (c o : Nat) (K : Int) : Prop where
  R : s'.R = [o]
  F : s'.F = s.F
  Qo : s'.Q o = s.Q o
  kc : (s'.Y c).kept = 0
  ko : (s'.Y o).kept = K
  gc : (s'.Y c).gen = (s.Y c).gen
  go : (s'.Y o).gen = (s.Y o).gen
  qc : (s'.Y c).quantum = (s.Y c).quantum
  qo : (s'.Y o).quantum = (s.Y o).quantum
  bo : (s'.Y o).bytes = (s.Y o).bytes
  tn : s'.x.turn = false
  ct : s'.x.count = 1
theorem Two.next {d : Nat} {s : Sd} {w w' : World} {ba bb : Nat} {qa qb n m r : Int} {k : Nat} {x : Pk} {xs : List Pk} {Y1 : Nat → Fw} {s' : Sd} (h : Two s ba bb qa qb n m) (a1 : 1 ≤ qa) (b1 : 1 ≤ qb) (n1 : 1 ≤ n) (m1 : 1 ≤ m) (hx : Nxt d s w w' r k x xs Y1 s') :
    ((n - 1).tdiv qa ≤ (m - 1).tdiv qb ∧ x = ⟨0, 1, 0, n, 1, 0⟩ ∧ Left s' s ba bb ((n - 1).tdiv qa * qb)) ∨ ((m - 1).tdiv qb < (n - 1).tdiv qa ∧ x = ⟨1, 1, 0, m, 2, 0⟩ ∧ Left s' s bb ba (((m - 1).tdiv qb + 1) * qa)) := by
  obtain ⟨q, w0, ea⟩ := h.ya
  obtain ⟨q', w0', eb⟩ := h.yb
  have e0 : s.nth 0 = ba := by simp [Sd.nth, h.R]
  have e1 : s.nth 1 = bb := by simp [Sd.nth, h.R]
  have v0 : va s 0 = (n - 1).tdiv qa := by
    unfold va hdP
    rw [e0, h.Qa, ea]
    show Int.tdiv (n - 0 - 1) qa = _
    rw [Int.sub_zero]
  have v1 : va s 1 = (m - 1).tdiv qb := by
    unfold va hdP
    rw [e1, h.Qb, eb]
    show Int.tdiv (m - 0 - 1) qb = _
    rw [Int.sub_zero]
  have p0 : 0 ≤ (n - 1).tdiv qa := Int.tdiv_nonneg (by omega) (by omega)
  have p1 : 0 ≤ (m - 1).tdiv qb := Int.tdiv_nonneg (by omega) (by omega)
  have hl : s.R.length = 2 := by rw [h.R]; rfl
  have hp := hx.pas
  have hk := hp.kn
  rw [hl] at hk
  have u0 := hx.up.inn 0 (by omega)
  have u1 := hx.up.inn 1 (by omega)
  rw [if_pos (by omega), e0] at u0
  rw [if_pos (by omega), e1] at u1
  unfold upd at u0 u1
  rw [e0, ea] at u0
  rw [e1, eb] at u1
  have hne := h.ne
  have hne' := h.ne.symm
  rcases Nat.lt_or_ge k 1 with hk0 | hk0
  · obtain rfl : k = 0 := by omega
    have hy := hp.yes
    rw [v0] at hy
    have hr : r = (n - 1).tdiv qa ∧ (n - 1).tdiv qa ≤ (m - 1).tdiv qb := by
      rcases hp.least with e | e
      · omega
      have h0 := e 0 (by omega)
      have h1 := e 1 (by omega)
      rw [v0] at h0
      rw [v1] at h1
      omega
    have hq := hx.que
    rw [e0, h.Qa] at hq
    injection hq with hq1 hq2
    obtain ⟨g1, g2, hs⟩ := hx.st
    rcases hs with ⟨hc, _⟩ | ⟨_, g3, hs⟩
    · exact absurd hq2.symm hc
    left
    refine ⟨hr.2, hq1.symm, ?_⟩
    rw [e0, ← hq1, ← hq2] at hs
    subst hs
    refine ⟨?_, rfl, ?_, ?_, ?_, ?_, ?_, ?_, ?_, ?_, ?_, ?_⟩
    · show (rl 0 s.R).eraseIdx 0 = _
      rw [h.R]
      rfl
    · simp [Sd.outOf, Sd.lessOf, Sd.mid, updN, hne']
    · simp [Sd.outOf, Sd.lessOf, Sd.mid, updN]
    · simp [Sd.outOf, Sd.lessOf, Sd.mid, updN, hne', u1, ow, hr.1]
    · simp [Sd.outOf, Sd.lessOf, Sd.mid, updN, u0, ea]
    · simp [Sd.outOf, Sd.lessOf, Sd.mid, updN, hne', u1, eb]
    · simp [Sd.outOf, Sd.lessOf, Sd.mid, updN, u0, ea]
    · simp [Sd.outOf, Sd.lessOf, Sd.mid, updN, hne', u1, eb]
    · simp [Sd.outOf, Sd.lessOf, Sd.mid, updN, hne', u1, eb]
    · simp [Sd.outOf, Sd.lessOf, Sd.mid]
    simp [Sd.outOf, Sd.lessOf, Sd.mid, h.ct]
  obtain rfl : k = 1 := by omega
  have hy := hp.yes
  have hno := hp.no 0 (by omega)
  rw [v1] at hy
  rw [v0] at hno
  have hr : r = (m - 1).tdiv qb := by
    rcases hp.least with e | e
    · omega
    have h1 := e 1 (by omega)
    rw [v1] at h1
    omega
  have hq := hx.que
  rw [e1, h.Qb] at hq
  injection hq with hq1 hq2
  obtain ⟨g1, g2, hs⟩ := hx.st
  rcases hs with ⟨hc, _⟩ | ⟨_, g3, hs⟩
  · exact absurd hq2.symm hc
  right
  refine ⟨by omega, hq1.symm, ?_⟩
  rw [e1, ← hq1, ← hq2] at hs
  subst hs
  refine ⟨?_, rfl, ?_, ?_, ?_, ?_, ?_, ?_, ?_, ?_, ?_, ?_⟩
  · show (rl 1 s.R).eraseIdx 0 = _
    rw [h.R]
    rfl
  · simp [Sd.outOf, Sd.lessOf, Sd.mid, updN, hne]
  · simp [Sd.outOf, Sd.lessOf, Sd.mid, updN]
  · simp [Sd.outOf, Sd.lessOf, Sd.mid, updN, hne, u0, ow, hr]
  · simp [Sd.outOf, Sd.lessOf, Sd.mid, updN, u1, eb]
  · simp [Sd.outOf, Sd.lessOf, Sd.mid, updN, hne, u0, ea]
  · simp [Sd.outOf, Sd.lessOf, Sd.mid, updN, u1, eb]
  · simp [Sd.outOf, Sd.lessOf, Sd.mid, updN, hne, u0, ea]
  · simp [Sd.outOf, Sd.lessOf, Sd.mid, updN, hne, u0, ea]
  · simp [Sd.outOf, Sd.lessOf, Sd.mid]
  simp [Sd.outOf, Sd.lessOf, Sd.mid, h.ct]
end Go.Proofs.Ytcndbmccediknaa
