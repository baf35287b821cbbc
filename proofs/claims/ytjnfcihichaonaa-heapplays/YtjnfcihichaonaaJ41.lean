/- Contracts of the program's functions, part 41: own work, joined in build order. -/
import Derived.Test.YtjnfcihichaonaaJ40
import Derived.Deep.CutRange
namespace Go.Proofs.Ytjnfcihichaonaa
open Go.RowKit
set_option maxRecDepth 100000
set_option linter.unusedVariables false
/-- A slice of calls that came in. -/
structure OSl (w : World) (a : Option Addr) (n cap : Nat) (F : Nat → Nat → Int) : Prop where
  le : n ≤ cap
  lim : cap ≤ 9223372036854775807
  wf : ∀ i j, i < n → j < 5 → -9223372036854775808 ≤ F i j ∧ F i j ≤ 9223372036854775807
  at' : n = 0 ∨ ∃ b o, a = some ⟨b, o, none⟩ ∧ ∀ i j, i < n → j < 5 → w.cell? ⟨b, o + i * 5 + j, none⟩ = some (.int .i64 (F i j))
theorem OSl.at {w W : World} {a : Option Addr} {n cap : Nat} {F : Nat → Nat → Int} (h : OSl w a n cap F) (hB : Below w.heap.size w W) {i : Nat} (hi : i < n) : ∃ b o, a = some ⟨b, o, none⟩ ∧ W.cell? ⟨b, o + i * 5, none⟩ = some (.int .i64 (F i 0)) ∧ W.cell? ⟨b, o + i * 5 + 1, none⟩ = some (.int .i64 (F i 1)) ∧ W.cell? ⟨b, o + i * 5 + 2, none⟩ = some (.int .i64 (F i 2)) ∧ W.cell? ⟨b, o + i * 5 + 3, none⟩ = some (.int .i64 (F i 3)) ∧ W.cell? ⟨b, o + i * 5 + 4, none⟩ = some (.int .i64 (F i 4)) := by
  rcases h.at' with e | ⟨b, o, e, hc⟩
  · omega
  · exact ⟨b, o, e, cell_later hB (hc i 0 hi (by omega)), cell_later hB (hc i 1 hi (by omega)), cell_later hB (hc i 2 hi (by omega)), cell_later hB (hc i 3 hi (by omega)), cell_later hB (hc i 4 hi (by omega))⟩
theorem mask7 (x : Int) : ∃ q : Nat, bits .and .i64 x 7 = (q : Int) ∧ q < 8 := by
  have h := i64_mask x 3 (by omega) 7 (by rfl)
  have e : ((2 ^ 3 : Nat) : Int) = 8 := rfl
  rw [e] at h
  exact ⟨(x % 8).toNat, by rw [h]; omega, by omega⟩
theorem mask7' (q : Nat) (hq : q < 8) : bits .and .i64 (q : Int) 7 = (q : Int) := by
  have h := i64_mask (q : Int) 3 (by omega) 7 (by rfl)
  have e : ((2 ^ 3 : Nat) : Int) = 8 := rfl
  rw [e] at h
  rw [h]
  omega
/-- Between two calls. -/
def Lq (W0 W : World) (xb hb ob : Nat) (md : Int) (tur : Bool) (lies : Int) (c : Nat) : Prop :=
  ∃ N n nx T lv L, Pr W xb hb ob ∧ Lz W0 W hb ob md tur lies N n nx T nx lv L ∧ Syn T L n ∧ n ≤ c ∧ nx ≤ (c : Int)
/-- .. behind one: so often was the order asked. -/
def Lr (W0 W : World) (xb hb ob : Nat) (md : Int) (tur : Bool) (lies : Int) (c n0 N n : Nat) (la : Option Addr) (lc : Nat) : Prop :=
  ∃ nx T L, Pr W xb hb ob ∧ Lz W0 W hb ob md tur lies N n nx T nx (.slice la n lc) L ∧ Syn T L n ∧ n ≤ c ∧ nx ≤ (c : Int) ∧ N ≤ 12 * digs n0 + 12
theorem Lr.mono {W0 W W' : World} {xb hb ob : Nat} {md : Int} {tur : Bool} {lies : Int} {c n0 N n : Nat} {la : Option Addr} {lc : Nat} (h : Lr W0 W xb hb ob md tur lies c n0 N n la lc) (hB : Below W.heap.size W W') : Lq W0 W' xb hb ob md tur lies c := by
  obtain ⟨nx, T, L, h1, h2, h3, h4, h5, h6⟩ := h
  exact ⟨N, n, nx, T, _, L, h1.below hB, h2.mono hB, h3, h4, h5⟩
theorem aft_lr {W0 W w' : World} {xb hb ob : Nat} {md : Int} {tur : Bool} {lies : Int} {c n : Nat} {nx : Int} (hp : Pr W xb hb ob) (hn : n ≤ c) (hx : nx ≤ (c : Int)) (h : Aft W0 W hb ob md tur lies 0 n nx nx w') : ∃ N' n' la lc, Lr W0 w' xb hb ob md tur lies (c + 1) n N' n' la lc := by
  obtain ⟨N', n', T', lv', L', h1, h2, h3, h4, h5, h6⟩ := h
  obtain ⟨la, lc, e⟩ := h1.slice
  rw [h2.len] at e
  subst e
  have := h5 (digs n) (digs_lt n)
  exact ⟨N', n', la, lc, nx, T', L', hp.fr h6, h1, h2, by omega, by omega, by omega⟩
theorem Lr.cells {W0 W : World} {xb hb ob : Nat} {md : Int} {tur : Bool} {lies : Int} {c n0 N n : Nat} {la : Option Addr} {lc : Nat} (h : Lr W0 W xb hb ob md tur lies c n0 N n la lc) : W.cell? ⟨xb, 0, none⟩ = some (.pointer (some ⟨hb, 0, none⟩)) ∧ W.cell? ⟨xb, 1, none⟩ = some (.pointer (some ⟨ob, 0, none⟩)) ∧ W.cell? ⟨ob, 0, none⟩ = some (.slice la n lc) ∧ W.cell? ⟨ob, 5, none⟩ = some (.int .i64 (N : Int)) ∧ (∀ m, Calls Try.prog 17 #[.pointer (some ⟨hb, 0, none⟩)] (W.drewN m) fun e w' => e = .returned (.int .i64 (n : Int)) ∧ ∃ q, w' = (W.drewN m).drewN q) ∧ N ≤ 12 * digs n0 + 12 := by
  obtain ⟨nx, T, L, h1, h2, h3, h4, h5, h6⟩ := h
  obtain ⟨c0, c1⟩ := h1.cells
  obtain ⟨o0, _, _, _, o5, _⟩ := h2.order
  refine ⟨c0, c1, o0, o5, fun m => ?_, h6⟩
  exact ((h2.hp.keep (W' := W.drewN m) (bel_drewN (Below.refl _ _) _)).len).mono fun e w' ⟨e1, e2⟩ => ⟨e1, 0, by rw [e2]; rfl⟩
set_option maxHeartbeats 8000000 in
theorem lies_any (W0 : World) (li : Int) (a : Option Addr) (L0 c0 : Nat) (F : Nat → Nat → Int) (hs : OSl W0 a L0 c0 F) :
    Calls Try.prog 6 #[.int .i64 li, .slice a L0 c0] W0 fun e w' => e = .returned (.bool true) ∧ Below W0.heap.size W0 w' := by
  obtain ⟨s, es, hs15⟩ : ∃ s : Nat, bits .and .i64 li 15 = (s : Int) ∧ s ≤ 15 := by
    have h := i64_mask li 4 (by omega) 15 (by rfl)
    have e : ((2 ^ 4 : Nat) : Int) = 16 := rfl
    rw [e] at h
    exact ⟨(li % 16).toNat, by rw [h]; omega, by omega⟩
  have ws : IntKind.i64.wrap (1 + (s : Int)) = 1 + (s : Int) := by rw [IntKind.wrap_i64]; omega
  have HS : Hid (OSl W0 a L0 c0 F) := hs
  have hl1 := hs.le
  have hl2 := hs.lim
  have MD : Hid _ := made_hp 0 false (1 + (s : Int)) W0 (by omega) (by omega) (by omega) (by omega)
  have ST : Hid (∀ W, Calls Try.prog 12 #[] W fun e w' => e = .returned (.bool true) ∧ Below W.heap.size W w') := fun W => started_any W
  clear hs
  go_enter Try.func6, Try.ntmps6
  go_wp2_with fail
  refine Calls.mono MD.out ?_
  rintro e w1 ⟨hb, ob, md, rfl, hp1, hmd, B1⟩
  obtain ⟨lies, elies⟩ : ∃ lies : Int, lies = 1 + (s : Int) := ⟨_, rfl⟩
  rw [← elies] at hp1
  obtain ⟨W2, hW2⟩ : ∃ W2, W2 = w1.alloc (.cells #[.pointer (some ⟨hb, 0, none⟩), .pointer (some ⟨ob, 0, none⟩)] 26) := ⟨_, rfl⟩
  obtain ⟨xb, exb⟩ : ∃ xb, xb = w1.heap.size := ⟨_, rfl⟩
  have M0 : Hid (Lq W0 W2 xb hb ob md false lies 0 ∧ Pr W2 xb hb ob) := by
    have hob : W0.heap.size ≤ ob := by
      obtain ⟨_, _, _, _, _, _, _, _, h9, _⟩ := hp1.ex
      exact h9.ge.2.1
    have B2 : Below w1.heap.size w1 W2 := by rw [hW2]; exact (Below.refl _ _).alloc (Nat.le_refl _) _
    have P2 : Pr W2 xb hb ob := by rw [hW2, exb]; exact (MapKept.heap_alloc _ _).1
    exact ⟨⟨0, 0, 0, _, _, [], P2, ⟨hp1.keep B2, Tr.nil _ _, B1.trans (B2.mono B1.size), hob⟩, ⟨rfl, fun i k v => ⟨fun e => (by cases e), fun e => (by cases e)⟩, fun p q hp => (by simp at hp)⟩, Nat.le_refl _, by omega⟩, P2⟩
  have HW2 : Hid (w1.alloc (.cells #[.pointer (some ⟨hb, 0, none⟩), .pointer (some ⟨ob, 0, none⟩)] 26) = W2 ∧ w1.heap.size = xb) := ⟨hW2.symm, exb.symm⟩
  obtain ⟨d0, d1⟩ := M0.out.2.cells
  clear hp1 hmd B1 MD hW2 exb elies ws es hs15
  go_upto_region 2 with fail
  rw [HW2.out.1, HW2.out.2]
  go_wp2_with fail
  go_loopw [6] (fun t wr => ∃ (i : Nat), i ≤ L0 ∧ i ≤ 300 ∧ t = .int .i64 (i : Int) ∧ Hid (Lq W0 wr xb hb ob md false lies i)) (fun t _ => L0 + 300 - (intOf t).toNat)
  case atStart => exact ⟨0, by omega, by omega, rfl, M0.out.1⟩
  case round =>
    clear M0 HW2 d0 d1
    obtain ⟨i, hi1, hi2, rfl, hS⟩ := hrel
    have bel : Below W0.heap.size W0 wr := by obtain ⟨_, _, _, _, _, _, _, h9, _⟩ := hS.out; exact h9.bel
    by_cases hi : i < L0 ∧ i < 300
    · obtain ⟨hi3, hi4⟩ := hi
      obtain ⟨b, o, rfl, k0, k1, k2, k3, k4⟩ := HS.out.at bel hi3
      obtain ⟨N, n, nx, T, lv, L, hP, hZ, hSy, hnc, hxc⟩ := hS.out
      obtain ⟨la, lc, e9⟩ := hZ.slice
      rw [hSy.len] at e9
      subst e9
      obtain ⟨oj, eoj⟩ : ∃ x, x = F i 0 := ⟨_, rfl⟩
      rw [← eoj] at k0
      obtain ⟨kd, ekd⟩ : ∃ x, x = F i 1 := ⟨_, rfl⟩
      rw [← ekd] at k1
      obtain ⟨K, eK⟩ : ∃ x, x = F i 2 := ⟨_, rfl⟩
      rw [← eK] at k2
      obtain ⟨V, eV⟩ : ∃ x, x = F i 3 := ⟨_, rfl⟩
      rw [← eV] at k3
      obtain ⟨It, eIt⟩ : ∃ x, x = F i 4 := ⟨_, rfl⟩
      rw [← eIt] at k4
      have rK := HS.out.wf i 2 hi3 (by omega)
      have rI := HS.out.wf i 4 hi3 (by omega)
      rw [← eK] at rK
      rw [← eIt] at rI
      clear eoj ekd eK eV eIt
      obtain ⟨q, eq, hq⟩ := mask7 kd
      have w5 : IntKind.i64.wrap ((i : Int) + 1) = (i : Int) + 1 := by rw [IntKind.wrap_i64]; omega
      have HB0 : Hid (W0.heap.size ≤ wr.heap.size) := bel.size
      obtain ⟨W1, hW1⟩ : ∃ W1, W1 = wr.alloc (.cells #[.int .i64 oj, .int .i64 kd, .int .i64 K, .int .i64 V, .int .i64 It] 32) := ⟨_, rfl⟩
      obtain ⟨pb, epb⟩ : ∃ pb, pb = wr.heap.size := ⟨_, rfl⟩
      have B1 : Below wr.heap.size wr W1 := by rw [hW1]; exact (Below.refl _ _).alloc (Nat.le_refl _) _
      have O1 : W1.rowIs pb 32 5 (opF oj kd K V It) := by rw [hW1, epb]; exact op_box wr oj kd K V It
      have P1 := hP.below B1
      have Z1 := hZ.mono B1
      obtain ⟨c0, c1⟩ := P1.cells
      obtain ⟨p0, p1, p2, p3, p4⟩ := op_cells O1
      obtain ⟨o0, o1, o2, o3, o5, olt, ofr⟩ := Z1.order
      obtain ⟨W2, hW2⟩ : ∃ W2, W2 = W1.setCell ⟨ob, 5, none⟩ (.int .i64 0) := ⟨_, rfl⟩
      have npo : pb ≠ ob := by have := hZ.hp.od.lt; omega
      have Z2 : Lz W0 W2 hb ob md false lies 0 n nx T nx (.slice la n lc) L := by
        have h9 := Z1.hp.zero 0
        have e0 : (((0 : Nat) : Int)) = 0 := rfl
        rw [e0, ← hW2] at h9
        refine ⟨h9, Z1.tr.kept fun k hk => ?_, by rw [hW2]; exact Z1.bel.setCell Z1.ge _, Z1.ge⟩
        obtain ⟨_, cs, e⟩ := Z1.tr.own hk
        rw [hW2]
        exact Below.heap_setCell _ _ _ k (ne_of_type e Z1.hp.od.at' (by decide))
      have P2 : Pr W2 xb hb ob := by rw [hW2]; exact (Below.heap_setCell _ _ _ xb (ne_of_type P1 Z1.hp.od.at' (by decide))).trans P1
      have O2 : W2.rowIs pb 32 5 (opF oj kd K V It) := by rw [hW2]; exact O1.setOther npo _
      have HW : Hid (wr.alloc (.cells #[.int .i64 oj, .int .i64 kd, .int .i64 K, .int .i64 V, .int .i64 It] 32) = W1 ∧ wr.heap.size = pb ∧ W1.setCell ⟨ob, 5, none⟩ (.int .i64 0) = W2) := ⟨hW1.symm, epb.symm, hW2.symm⟩
      have H2 : Hid (Lz W0 W2 hb ob md false lies 0 n nx T nx (.slice la n lc) L ∧ Pr W2 xb hb ob ∧ W2.rowIs pb 32 5 (opF oj kd K V It) ∧ Syn T L n) := ⟨Z2, P2, O2, hSy⟩
      obtain ⟨e0, e1⟩ := P2.cells
      obtain ⟨s0, s1, s2, s3, s4⟩ := op_cells O2
      obtain ⟨y0, y1, y2, y3, y5, ylt, yfr⟩ := Z2.order
      have f1 := O2.frozen 1
      clear hW1 epb hW2 B1 O1 P1 Z1 Z2 P2 O2 hP hZ hSy hS bel npo
      have hd1 : decide ((i : Int) < (L0 : Int)) = true := decide_eq_true (by omega)
      have hd2 : decide ((i : Int) < 300) = true := decide_eq_true (by omega)
      go_upto_region 8 with fail
      rw [HW.out.1, HW.out.2.1]
      clear k0 k1 k2 k3 k4 hd1 hd2
      go_upto_region 10 with fail
      rw [HW.out.2.2]
      clear c0 c1 p0 p1 p2 p3 p4 o0 o1 o2 o3 o5 olt ofr
      have hpb : W0.heap.size ≤ pb := by have h1 := H2.out.2.2.1.lt; have h2 := HW.out.2.1; have h3 := HB0.out; omega
      have hcase : q = 0 ∨ q = 1 ∨ q = 2 ∨ q = 3 ∨ q = 4 ∨ q = 5 ∨ q = 6 ∨ q = 7 := by omega
      rcases hcase with rfl | rfl | rfl | rfl | rfl | rfl | rfl | rfl
      · have eq' : bits .and .i64 kd 7 = 0 := eq
        clear eq hq
        have hx0 := H2.out.1.hp.pus.1
        have RP : Hid (∀ W', (W' = W2 ∨ W' = W2.drew) → Calls Try.prog 23 #[.agg #[.slice la n lc, .int .i64 nx, .int .i64 md, .bool false], .int .i64 K, .int .i64 V] W' fun e w' => ∃ a' m' c', e = .returned (.agg #[.slice a' m' c', .int .i64 (nx + 1), .int .i64 md, .bool false]) ∧ Hid (Tr W0.heap.size w' (.slice a' m' c') (L ++ [(nx + 1, K, V)]) ∧ Lz W0 w' hb ob md false lies 0 n nx T nx (.slice la n lc) L ∧ Pr w' xb hb ob ∧ w'.rowIs pb 32 5 (opF oj kd K V It)) ∧ w'.cell? ⟨xb, 1, none⟩ = some (.pointer (some ⟨ob, 0, none⟩)) ∧ w'.cell? ⟨ob, 0, none⟩ = some (.slice la n lc) ∧ w'.cell? ⟨ob, 1, none⟩ = some (.int .i64 nx) ∧ w'.cell? ⟨ob, 2, none⟩ = some (.int .i64 md) ∧ w'.cell? ⟨ob, 3, none⟩ = some (.bool false) ∧ (∀ i, w'.frozen? ⟨ob, i, none⟩ = false) ∧ w'.cell? ⟨pb, 2, none⟩ = some (.int .i64 K) ∧ w'.cell? ⟨pb, 3, none⟩ = some (.int .i64 V)) := fun W' hW' => by
          have B9 : Below W2.heap.size W2 W' := by rcases hW' with rfl | rfl; exact Below.refl _ _; exact bel_drew (Below.refl _ _)
          have Z9 := H2.out.1.mono B9
          refine (refPush_any nx md false K V W' Z9.tr (by rw [H2.out.2.2.2.len]; omega) hx0 (by omega)).mono ?_
          rintro e w' ⟨lv', rfl, t1, t2⟩
          obtain ⟨a', c', e', _⟩ := t1.sl
          subst e'
          have Z10 := Z9.mono t2
          have P10 := (H2.out.2.1.below B9).below t2
          have F10 := (Fr.of_below B9 H2.out.1.hp).trans (Fr.of_below t2 Z9.hp)
          obtain ⟨r0, r1, r2, r3, r5, rlt, rfr⟩ := Z10.order
          exact ⟨_, _, _, rfl, ⟨t1.weak Z9.hp.le, Z10, P10, op_fr H2.out.2.2.1 F10⟩, P10.cells.2, r0, r1, r2, r3, rfr, (op_cells (op_fr H2.out.2.2.1 F10)).2.2.1, (op_cells (op_fr H2.out.2.2.1 F10)).2.2.2.1⟩
        have FIN : Hid (∀ (w8 : World) (a' : Option Addr) (m' c' : Nat), (Tr W0.heap.size w8 (.slice a' m' c') (L ++ [(nx + 1, K, V)]) ∧ Lz W0 w8 hb ob md false lies 0 n nx T nx (.slice la n lc) L ∧ Pr w8 xb hb ob ∧ w8.rowIs pb 32 5 (opF oj kd K V It)) → ∀ wx, Below ((((w8.setCell ⟨ob, 0, none⟩ (.slice a' m' c')).setCell ⟨ob, 1, none⟩ (.int .i64 (nx + 1))).setCell ⟨ob, 2, none⟩ (.int .i64 md)).setCell ⟨ob, 3, none⟩ (.bool false)).heap.size ((((w8.setCell ⟨ob, 0, none⟩ (.slice a' m' c')).setCell ⟨ob, 1, none⟩ (.int .i64 (nx + 1))).setCell ⟨ob, 2, none⟩ (.int .i64 md)).setCell ⟨ob, 3, none⟩ (.bool false)) wx → ∃ lv', Lz W0 wx hb ob md false lies 0 n nx T (nx + 1) lv' (L ++ [(nx + 1, K, V)]) ∧ Pr wx xb hb ob ∧ wx.rowIs pb 32 5 (opF oj kd K V It)) := by
          rintro w8 a' m' c' ⟨t1, Z8, P8, Q8⟩ wx hB9
          obtain ⟨Z9, F9⟩ := Z8.store (W' := _) ⟨_, _, _, rfl⟩ t1 rfl
          have F10 := F9.trans (Fr.of_below hB9 Z9.hp)
          exact ⟨_, Z9.mono hB9, P8.fr F10, op_fr Q8 F10⟩
        have nxo : ¬ xb = ob := fun e => by
          have e1 := H2.out.2.1
          unfold Pr at e1
          rw [e, H2.out.1.hp.od.at'] at e1
          cases e1
        have nxo' : ¬ ob = xb := fun e => nxo e.symm
        have npo : ¬ pb = ob := by
          obtain ⟨cs, e, _⟩ := H2.out.2.2.1
          exact ne_of_type e H2.out.1.hp.od.at' (by decide)
        have npo' : ¬ ob = pb := fun e => npo e.symm
        go_upto_region 15 with fail
        go_cut [] from 17 to 116 (fun wx => Hid (∃ lv', Lz W0 wx hb ob md false lies 0 n nx T (nx + 1) lv' (L ++ [(nx + 1, K, V)]) ∧ Pr wx xb hb ob ∧ wx.rowIs pb 32 5 (opF oj kd K V It)))
        case first =>
          refine wp_region_held_drew (S := (fun w9 => w9.cell? ⟨xb, 1, none⟩ = some (.pointer (some ⟨ob, 0, none⟩)) ∧ w9.cell? ⟨pb, 2, none⟩ = some (.int .i64 K) ∧ w9.cell? ⟨pb, 3, none⟩ = some (.int .i64 V))) (by kernel_rfl) ⟨e1, s2, s3⟩ (fun hHeld => ?_)
          refine wpAnyH_take (i := 0) (v := .pointer (some ⟨xb, 1, none⟩)) rfl (by kernel_rfl) (by kernel_rfl) (by kernel_rfl) (fun _ _ _ h => h) (Or.inl ⟨by rfl, ?_⟩) (by assumption) ?_
          · intro w hSw
            obtain ⟨g1, g2, g3⟩ := hSw
            go_simp
          refine wpAnyH_take (i := 1) (v := .pointer (some ⟨ob, 0, none⟩)) rfl (by kernel_rfl) (by kernel_rfl) (by kernel_rfl) (fun _ _ _ h => h) (Or.inl ⟨by rfl, ?_⟩) (by assumption) ?_
          · intro w hSw
            obtain ⟨g1, g2, g3⟩ := hSw
            go_simp
          refine wpAnyH_take (i := 2) (v := .pointer (some ⟨xb, 1, none⟩)) rfl (by kernel_rfl) (by kernel_rfl) (by kernel_rfl) (fun _ _ _ h => h) (Or.inl ⟨by rfl, ?_⟩) (by assumption) ?_
          · intro w hSw
            obtain ⟨g1, g2, g3⟩ := hSw
            go_simp
          refine wpAnyH_take (i := 3) (v := .pointer (some ⟨ob, 0, none⟩)) rfl (by kernel_rfl) (by kernel_rfl) (by kernel_rfl) (fun _ _ _ h => h) (Or.inl ⟨by rfl, ?_⟩) (by assumption) ?_
          · intro w hSw
            obtain ⟨g1, g2, g3⟩ := hSw
            go_simp
          refine wpAnyH_take (i := 4) (v := .pointer (some ⟨ob, 0, none⟩)) rfl (by kernel_rfl) (by kernel_rfl) (by kernel_rfl) (fun _ _ _ h => h) (Or.inl ⟨by rfl, ?_⟩) (by assumption) ?_
          · intro w hSw
            obtain ⟨g1, g2, g3⟩ := hSw
            go_simp
          refine wpAnyH_take (i := 5) (v := .pointer (some ⟨ob, 0, none⟩)) rfl (by kernel_rfl) (by kernel_rfl) (by kernel_rfl) (fun _ _ _ h => h) (Or.inl ⟨by rfl, ?_⟩) (by assumption) ?_
          · intro w hSw
            obtain ⟨g1, g2, g3⟩ := hSw
            go_simp
          refine wpAnyH_take (i := 7) (v := .pointer (some ⟨pb, 2, none⟩)) rfl (by kernel_rfl) (by kernel_rfl) (by kernel_rfl) (fun _ _ _ h => h) (Or.inl ⟨by rfl, ?_⟩) (by assumption) ?_
          · intro w hSw
            obtain ⟨g1, g2, g3⟩ := hSw
            go_simp
          refine wpAnyH_take (i := 8) (v := .int .i64 K) rfl (by kernel_rfl) (by kernel_rfl) (by kernel_rfl) (fun _ _ _ h => h) (Or.inl ⟨by rfl, ?_⟩) (by assumption) ?_
          · intro w hSw
            obtain ⟨g1, g2, g3⟩ := hSw
            go_simp
          refine wpAnyH_take (i := 9) (v := .pointer (some ⟨pb, 3, none⟩)) rfl (by kernel_rfl) (by kernel_rfl) (by kernel_rfl) (fun _ _ _ h => h) (Or.inl ⟨by rfl, ?_⟩) (by assumption) ?_
          · intro w hSw
            obtain ⟨g1, g2, g3⟩ := hSw
            go_simp
          refine wpAnyH_take (i := 10) (v := .int .i64 V) rfl (by kernel_rfl) (by kernel_rfl) (by kernel_rfl) (fun _ _ _ h => h) (Or.inl ⟨by rfl, ?_⟩) (by assumption) ?_
          · intro w hSw
            obtain ⟨g1, g2, g3⟩ := hSw
            go_simp
          refine wpAnyH_ready (rs := [6]) (by kernel_rfl) (by simp) ?_
          refine AllReadyH.cons rfl (fun K9 hK9 => ?_) AllReadyH.nil
          go_simp
          refine hK9.out _ _ hHeld (fun _ => ?_)
          clear hK9 K9
          refine wpAnyH_ready (rs := [11]) (by kernel_rfl) (by simp) ?_
          refine AllReadyH.cons rfl (fun K9 hK9 => ?_) AllReadyH.nil
          go_simp
          refine Calls.mono (RP.out _ (.inr rfl)) ?_
          rintro e w8 ⟨a', m', c', rfl, HM, u1, r0, r1, r2, r3, rfr, v2, v3⟩
          refine hK9.out _ _ ⟨u1, v2, v3⟩ (fun hHeld2 => ?_)
          clear hK9 K9 hHeld
          refine wpAnyH_take (i := 12) (v := .pointer (some ⟨ob, 0, none⟩)) rfl (by kernel_rfl) (by kernel_rfl) (by kernel_rfl) (fun _ _ _ h => h) (Or.inl ⟨by rfl, ?_⟩) (by assumption) ?_
          · intro w hSw
            obtain ⟨g1, g2, g3⟩ := hSw
            go_simp
          refine wpAnyH_take (i := 13) (v := .pointer (some ⟨ob, 0, none⟩)) rfl (by kernel_rfl) (by kernel_rfl) (by kernel_rfl) (fun _ _ _ h => h) (Or.inl ⟨by rfl, ?_⟩) (by assumption) ?_
          · intro w hSw
            obtain ⟨g1, g2, g3⟩ := hSw
            go_simp
          refine wpAnyH_ready (rs := [14]) (by kernel_rfl) (by simp) ?_
          refine AllReadyH.cons rfl (fun K9 hK9 => ?_) AllReadyH.nil
          go_simp
          refine hK9.out _ _ (by simp [go_sem, *]) (fun _ => ?_)
          clear hK9 K9
          refine wpAnyH_done (by kernel_rfl) ?_ _
          go_wp2_with fail
          go_meet
          case rel => exact FIN.out _ _ _ _ HM.out _ (Below.refl _ _)
        case rest =>
          obtain ⟨lv', Z3, P3, O3⟩ := hcut.out
          obtain ⟨la3, lc3, e3⟩ := Z3.slice
          subst e3
          have hT : T (nx + 1) = none := Z3.nobody (by omega)
          have PU : Hid (∀ W', (W' = wc ∨ W' = wc.drew) → Calls Try.prog 13 #[.pointer (some ⟨hb, 0, none⟩), .int .i64 K, .int .i64 V] W' fun e w' => e = .returned (.int .i64 (nx + 1)) ∧ Hid (∃ N' n' la lc, Lr W0 w' xb hb ob md false lies (i + 1) n N' n' la lc) ∧ w'.cell? ⟨xb, 0, none⟩ = some (.pointer (some ⟨hb, 0, none⟩)) ∧ w'.cell? ⟨xb, 1, none⟩ = some (.pointer (some ⟨ob, 0, none⟩)) ∧ w'.cell? ⟨ob, 1, none⟩ = some (.int .i64 (nx + 1)) ∧ w'.cell? ⟨pb, 2, none⟩ = some (.int .i64 K) ∧ w'.cell? ⟨pb, 3, none⟩ = some (.int .i64 V)) := fun W' hW' => by
            have B9 : Below wc.heap.size wc W' := by rcases hW' with rfl | rfl; exact Below.refl _ _; exact bel_drew (Below.refl _ _)
            have Z9 := Z3.mono B9
            refine (Z9.hp.push K V (by omega) (by omega) (by omega) rK.1 rK.2).mono ?_
            rintro e w' ⟨rfl, M, q1, q2, q3, q4⟩
            have Z10 := Z9.step q4 q1
            have F10 := (Fr.of_below B9 Z3.hp).trans q4
            have P10 := P3.fr F10
            have O10 := op_cells (op_fr O3 F10)
            have hl := (H2.out.2.2.2.push K V hT).len
            have hM := few_pushed (M := M) (n := n) (by simpa using q3) (digs_lt n)
            refine ⟨rfl, ⟨M, n + 1, la3, lc3, nx + 1, _, _, P10, ?_, H2.out.2.2.2.push K V hT, by omega, by omega, by omega⟩, P10.cells.1, P10.cells.2, Z10.order.2.1, O10.2.2.1, O10.2.2.2.1⟩
            rw [hl] at Z10
            exact Z10
          obtain ⟨z0, z1⟩ := P3.cells
          obtain ⟨x0, x1, x2, x3, x4⟩ := op_cells O3
          have zz := Z3.order.2.1
          clear Z3 P3 O3 hcut hT RP FIN H2 e0 e1 s0 s1 s2 s3 s4 y0 y1 y2 y3 y5 ylt yfr f1
          go_wp2_with fail
          rename_i hz
          go_region_held3 (fun w9 => w9.cell? ⟨xb, 0, none⟩ = some (.pointer (some ⟨hb, 0, none⟩)) ∧ w9.cell? ⟨xb, 1, none⟩ = some (.pointer (some ⟨ob, 0, none⟩)) ∧ w9.cell? ⟨ob, 1, none⟩ = some (.int .i64 (nx + 1)) ∧ w9.cell? ⟨pb, 2, none⟩ = some (.int .i64 K) ∧ w9.cell? ⟨pb, 3, none⟩ = some (.int .i64 V)) (first | (simp [go_sem, *]; done) | (trace_state; fail))
            (first
              | (go_at_call 13; refine Calls.mono (PU.out _ ?hb) ?_; (case hb => first | exact .inl rfl | exact .inr rfl); rintro e W5 ⟨rfl, hR', v0, v1, v2, v3, v4⟩))
          refine hz _ _ ?_
          have hR := hR'.out
          clear hR' v0 v1 v2 v3 v4 z0 z1 x0 x1 x2 x3 x4 zz PU
          obtain ⟨N', n', la', lc', hL⟩ := hR
          obtain ⟨t0, t1, t2, t3, LQ', hfew⟩ := hL.cells
          have LQ : Hid _ := LQ'
          obtain ⟨A, eA⟩ : ∃ A : Int, A = ((12 * digs n + 12 : Nat) : Int) := ⟨_, rfl⟩
          have hle : decide (A < (N' : Int)) = false := decide_eq_false (by omega)
          have AQ : Hid (∀ m, Calls Try.prog 26 #[.int .i64 (n : Int)] (W5.drewN m) fun e w' => e = .returned (.int .i64 A) ∧ ∃ q, w' = (W5.drewN m).drewN q) := fun m => by
            rw [eA]
            exact (asked_is n (by omega) _).mono fun e w' ⟨e1, e2⟩ => ⟨e1, 0, by rw [e2]; rfl⟩
          have HL : Hid (Lr W0 W5 xb hb ob md false lies (i + 1) n N' n' la' lc') := hL
          clear hL LQ' hfew eA
          go_wp2_with fail
          go_quiet (first | (go_at_call_of 26 (Value.int IntKind.i64 (n : Int)); exact Calls.quiet_of (AQ.out _)) | (go_at_call 17; exact Calls.quiet_of (LQ.out _)))
          have MX : Hid (Lq W0 (W5.drewN nq) xb hb ob md false lies (i + 1)) := HL.out.mono (bel_drewN (Below.refl _ _) _)
          clear HL LQ AQ t0 t1 t2 t3
          go_wp2_with fail
          go_roundw
          case rel => exact ⟨i + 1, by omega, by omega, by go_num, MX⟩
          case measure => simp [intOf]; omega
      · have eq' : bits .and .i64 kd 7 = 1 := eq
        clear eq hq
        have SO : Hid _ := some1_any H2.out.1 H2.out.2.2.2 (by omega) (by omega)
        have h0N : nx ≤ (i : Int) := hxc
        go_wp2_with fail
        refine Calls.mono SO.out ?_
        rintro e W5 ⟨rfl, hA⟩
        have hR := aft_lr H2.out.2.1 hnc hxc hA
        clear hA SO H2 e0 e1 s0 s1 s2 s3 s4 y0 y1 y2 y3 y5 ylt yfr f1
        obtain ⟨N', n', la', lc', hL⟩ := hR
        obtain ⟨t0, t1, t2, t3, LQ', hfew⟩ := hL.cells
        have LQ : Hid _ := LQ'
        obtain ⟨A, eA⟩ : ∃ A : Int, A = ((12 * digs n + 12 : Nat) : Int) := ⟨_, rfl⟩
        have hle : decide (A < (N' : Int)) = false := decide_eq_false (by omega)
        have AQ : Hid (∀ m, Calls Try.prog 26 #[.int .i64 (n : Int)] (W5.drewN m) fun e w' => e = .returned (.int .i64 A) ∧ ∃ q, w' = (W5.drewN m).drewN q) := fun m => by
          rw [eA]
          exact (asked_is n (by omega) _).mono fun e w' ⟨e1, e2⟩ => ⟨e1, 0, by rw [e2]; rfl⟩
        have HL : Hid (Lr W0 W5 xb hb ob md false lies (i + 1) n N' n' la' lc') := hL
        clear hL LQ' hfew eA
        go_wp2_with fail
        go_quiet (first | (go_at_call_of 26 (Value.int IntKind.i64 (n : Int)); exact Calls.quiet_of (AQ.out _)) | (go_at_call 17; exact Calls.quiet_of (LQ.out _)))
        have MX : Hid (Lq W0 (W5.drewN nq) xb hb ob md false lies (i + 1)) := HL.out.mono (bel_drewN (Below.refl _ _) _)
        clear HL LQ AQ t0 t1 t2 t3
        go_wp2_with fail
        go_roundw
        case rel => exact ⟨i + 1, by omega, by omega, by go_num, MX⟩
        case measure => simp [intOf]; omega
      · have eq' : bits .and .i64 kd 7 = 2 := eq
        clear eq hq
        have SO : Hid _ := some2_any H2.out.1 H2.out.2.2.2 (by omega) (by omega)
        have h0N : nx ≤ (i : Int) := hxc
        go_wp2_with fail
        refine Calls.mono SO.out ?_
        rintro e W5 ⟨rfl, hA⟩
        have hR := aft_lr H2.out.2.1 hnc hxc hA
        clear hA SO H2 e0 e1 s0 s1 s2 s3 s4 y0 y1 y2 y3 y5 ylt yfr f1
        obtain ⟨N', n', la', lc', hL⟩ := hR
        obtain ⟨t0, t1, t2, t3, LQ', hfew⟩ := hL.cells
        have LQ : Hid _ := LQ'
        obtain ⟨A, eA⟩ : ∃ A : Int, A = ((12 * digs n + 12 : Nat) : Int) := ⟨_, rfl⟩
        have hle : decide (A < (N' : Int)) = false := decide_eq_false (by omega)
        have AQ : Hid (∀ m, Calls Try.prog 26 #[.int .i64 (n : Int)] (W5.drewN m) fun e w' => e = .returned (.int .i64 A) ∧ ∃ q, w' = (W5.drewN m).drewN q) := fun m => by
          rw [eA]
          exact (asked_is n (by omega) _).mono fun e w' ⟨e1, e2⟩ => ⟨e1, 0, by rw [e2]; rfl⟩
        have HL : Hid (Lr W0 W5 xb hb ob md false lies (i + 1) n N' n' la' lc') := hL
        clear hL LQ' hfew eA
        go_wp2_with fail
        go_quiet (first | (go_at_call_of 26 (Value.int IntKind.i64 (n : Int)); exact Calls.quiet_of (AQ.out _)) | (go_at_call 17; exact Calls.quiet_of (LQ.out _)))
        have MX : Hid (Lq W0 (W5.drewN nq) xb hb ob md false lies (i + 1)) := HL.out.mono (bel_drewN (Below.refl _ _) _)
        clear HL LQ AQ t0 t1 t2 t3
        go_wp2_with fail
        go_roundw
        case rel => exact ⟨i + 1, by omega, by omega, by go_num, MX⟩
        case measure => simp [intOf]; omega
      · have eq' : bits .and .i64 kd 7 = 3 := eq
        clear eq hq
        have SO : Hid _ := some3_any H2.out.1 H2.out.2.2.2 (by omega) (by omega)
        have h0N : nx ≤ (i : Int) := hxc
        go_wp2_with fail
        refine Calls.mono SO.out ?_
        rintro e W5 ⟨rfl, hA⟩
        have hR := aft_lr H2.out.2.1 hnc hxc hA
        clear hA SO H2 e0 e1 s0 s1 s2 s3 s4 y0 y1 y2 y3 y5 ylt yfr f1
        obtain ⟨N', n', la', lc', hL⟩ := hR
        obtain ⟨t0, t1, t2, t3, LQ', hfew⟩ := hL.cells
        have LQ : Hid _ := LQ'
        obtain ⟨A, eA⟩ : ∃ A : Int, A = ((12 * digs n + 12 : Nat) : Int) := ⟨_, rfl⟩
        have hle : decide (A < (N' : Int)) = false := decide_eq_false (by omega)
        have AQ : Hid (∀ m, Calls Try.prog 26 #[.int .i64 (n : Int)] (W5.drewN m) fun e w' => e = .returned (.int .i64 A) ∧ ∃ q, w' = (W5.drewN m).drewN q) := fun m => by
          rw [eA]
          exact (asked_is n (by omega) _).mono fun e w' ⟨e1, e2⟩ => ⟨e1, 0, by rw [e2]; rfl⟩
        have HL : Hid (Lr W0 W5 xb hb ob md false lies (i + 1) n N' n' la' lc') := hL
        clear hL LQ' hfew eA
        go_wp2_with fail
        go_quiet (first | (go_at_call_of 26 (Value.int IntKind.i64 (n : Int)); exact Calls.quiet_of (AQ.out _)) | (go_at_call 17; exact Calls.quiet_of (LQ.out _)))
        have MX : Hid (Lq W0 (W5.drewN nq) xb hb ob md false lies (i + 1)) := HL.out.mono (bel_drewN (Below.refl _ _) _)
        clear HL LQ AQ t0 t1 t2 t3
        go_wp2_with fail
        go_roundw
        case rel => exact ⟨i + 1, by omega, by omega, by go_num, MX⟩
        case measure => simp [intOf]; omega
      · have eq' : bits .and .i64 kd 7 = 4 := eq
        clear eq hq
        have SO : Hid _ := some4_any H2.out.1 H2.out.2.2.2 (by omega) (by omega)
        have h0N : nx ≤ (i : Int) := hxc
        go_wp2_with fail
        refine Calls.mono SO.out ?_
        rintro e W5 ⟨rfl, hA⟩
        have hR := aft_lr H2.out.2.1 hnc hxc hA
        clear hA SO H2 e0 e1 s0 s1 s2 s3 s4 y0 y1 y2 y3 y5 ylt yfr f1
        obtain ⟨N', n', la', lc', hL⟩ := hR
        obtain ⟨t0, t1, t2, t3, LQ', hfew⟩ := hL.cells
        have LQ : Hid _ := LQ'
        obtain ⟨A, eA⟩ : ∃ A : Int, A = ((12 * digs n + 12 : Nat) : Int) := ⟨_, rfl⟩
        have hle : decide (A < (N' : Int)) = false := decide_eq_false (by omega)
        have AQ : Hid (∀ m, Calls Try.prog 26 #[.int .i64 (n : Int)] (W5.drewN m) fun e w' => e = .returned (.int .i64 A) ∧ ∃ q, w' = (W5.drewN m).drewN q) := fun m => by
          rw [eA]
          exact (asked_is n (by omega) _).mono fun e w' ⟨e1, e2⟩ => ⟨e1, 0, by rw [e2]; rfl⟩
        have HL : Hid (Lr W0 W5 xb hb ob md false lies (i + 1) n N' n' la' lc') := hL
        clear hL LQ' hfew eA
        go_wp2_with fail
        go_quiet (first | (go_at_call_of 26 (Value.int IntKind.i64 (n : Int)); exact Calls.quiet_of (AQ.out _)) | (go_at_call 17; exact Calls.quiet_of (LQ.out _)))
        have MX : Hid (Lq W0 (W5.drewN nq) xb hb ob md false lies (i + 1)) := HL.out.mono (bel_drewN (Below.refl _ _) _)
        clear HL LQ AQ t0 t1 t2 t3
        go_wp2_with fail
        go_roundw
        case rel => exact ⟨i + 1, by omega, by omega, by go_num, MX⟩
        case measure => simp [intOf]; omega
      · have eq' : bits .and .i64 kd 7 = 5 := eq
        clear eq hq
        obtain ⟨W3, hW3⟩ : ∃ W3, W3 = W2.setCell ⟨pb, 1, none⟩ (.int .i64 5) := ⟨_, rfl⟩
        have Z3 : Lz W0 W3 hb ob md false lies 0 n nx T nx (.slice la n lc) L := by
          obtain ⟨cs, e, _⟩ := H2.out.2.2.1
          refine ⟨H2.out.1.hp.other (fun k o e2 ho => ?_) (by rw [hW3]; simpa using H2.out.1.hp.le), H2.out.1.tr.kept fun k hk => ?_, by rw [hW3]; exact H2.out.1.bel.setCell hpb _, H2.out.1.ge⟩
          · rw [hW3]
            refine (Below.heap_setCell _ _ _ k fun e3 => ?_).trans e2
            have e4 : k = pb := e3
            rw [e4, e] at e2
            cases e2
            exact ho (oth_op _)
          · obtain ⟨_, cs2, e2⟩ := H2.out.1.tr.own hk
            rw [hW3]
            exact Below.heap_setCell _ _ _ k (ne_of_type e2 e (by decide))
        have P3 : Pr W3 xb hb ob := by
          obtain ⟨cs, e, _⟩ := H2.out.2.2.1
          rw [hW3]
          exact (Below.heap_setCell _ _ _ xb (ne_of_type H2.out.2.1 e (by decide))).trans H2.out.2.1
        have O3 : W3.rowIs pb 32 5 (opF oj 5 K V It) := by
          rw [hW3]
          refine (H2.out.2.2.1.set 1 _).congr fun j hj => ?_
          match j, hj with
          | 0, _ => rfl
          | 1, _ => rfl
          | 2, _ => rfl
          | 3, _ => rfl
          | 4, _ => rfl
        have SO : Hid _ := one5_any oj K V It Z3 H2.out.2.2.2 (by omega) (by omega) (by omega) rK rI.1 rI.2
        have H3 : Hid (Pr W3 xb hb ob) := P3
        have HW3 : Hid (W2.setCell ⟨pb, 1, none⟩ (.int .i64 5) = W3) := hW3.symm
        obtain ⟨z0, z1⟩ := P3.cells
        obtain ⟨x0, x1, x2, x3, x4⟩ := op_cells O3
        clear hW3 Z3 P3 O3
        go_upto_region 13 with fail
        rw [HW3.out]
        go_wp2_with fail
        refine Calls.mono SO.out ?_
        rintro e W5 ⟨rfl, hA⟩
        have hR := aft_lr H3.out hnc hxc hA
        clear hA SO H2 H3 e0 e1 s0 s1 s2 s3 s4 y0 y1 y2 y3 y5 ylt yfr f1 z0 z1 x0 x1 x2 x3 x4
        obtain ⟨N', n', la', lc', hL⟩ := hR
        obtain ⟨t0, t1, t2, t3, LQ', hfew⟩ := hL.cells
        have LQ : Hid _ := LQ'
        obtain ⟨A, eA⟩ : ∃ A : Int, A = ((12 * digs n + 12 : Nat) : Int) := ⟨_, rfl⟩
        have hle : decide (A < (N' : Int)) = false := decide_eq_false (by omega)
        have AQ : Hid (∀ m, Calls Try.prog 26 #[.int .i64 (n : Int)] (W5.drewN m) fun e w' => e = .returned (.int .i64 A) ∧ ∃ q, w' = (W5.drewN m).drewN q) := fun m => by
          rw [eA]
          exact (asked_is n (by omega) _).mono fun e w' ⟨e1, e2⟩ => ⟨e1, 0, by rw [e2]; rfl⟩
        have HL : Hid (Lr W0 W5 xb hb ob md false lies (i + 1) n N' n' la' lc') := hL
        clear hL LQ' hfew eA
        go_wp2_with fail
        go_quiet (first | (go_at_call_of 26 (Value.int IntKind.i64 (n : Int)); exact Calls.quiet_of (AQ.out _)) | (go_at_call 17; exact Calls.quiet_of (LQ.out _)))
        have MX : Hid (Lq W0 (W5.drewN nq) xb hb ob md false lies (i + 1)) := HL.out.mono (bel_drewN (Below.refl _ _) _)
        clear HL LQ AQ t0 t1 t2 t3
        go_wp2_with fail
        go_roundw
        case rel => exact ⟨i + 1, by omega, by omega, by go_num, MX⟩
        case measure => simp [intOf]; omega
      · have eq' : bits .and .i64 kd 7 = 6 := eq
        clear eq hq
        obtain ⟨W3, hW3⟩ : ∃ W3, W3 = W2.setCell ⟨pb, 1, none⟩ (.int .i64 6) := ⟨_, rfl⟩
        have Z3 : Lz W0 W3 hb ob md false lies 0 n nx T nx (.slice la n lc) L := by
          obtain ⟨cs, e, _⟩ := H2.out.2.2.1
          refine ⟨H2.out.1.hp.other (fun k o e2 ho => ?_) (by rw [hW3]; simpa using H2.out.1.hp.le), H2.out.1.tr.kept fun k hk => ?_, by rw [hW3]; exact H2.out.1.bel.setCell hpb _, H2.out.1.ge⟩
          · rw [hW3]
            refine (Below.heap_setCell _ _ _ k fun e3 => ?_).trans e2
            have e4 : k = pb := e3
            rw [e4, e] at e2
            cases e2
            exact ho (oth_op _)
          · obtain ⟨_, cs2, e2⟩ := H2.out.1.tr.own hk
            rw [hW3]
            exact Below.heap_setCell _ _ _ k (ne_of_type e2 e (by decide))
        have P3 : Pr W3 xb hb ob := by
          obtain ⟨cs, e, _⟩ := H2.out.2.2.1
          rw [hW3]
          exact (Below.heap_setCell _ _ _ xb (ne_of_type H2.out.2.1 e (by decide))).trans H2.out.2.1
        have O3 : W3.rowIs pb 32 5 (opF oj 6 K V It) := by
          rw [hW3]
          refine (H2.out.2.2.1.set 1 _).congr fun j hj => ?_
          match j, hj with
          | 0, _ => rfl
          | 1, _ => rfl
          | 2, _ => rfl
          | 3, _ => rfl
          | 4, _ => rfl
        have SO : Hid _ := one6_any oj K V It Z3 H2.out.2.2.2 (by omega) (by omega) (by omega) rK rI.1 rI.2
        have H3 : Hid (Pr W3 xb hb ob) := P3
        have HW3 : Hid (W2.setCell ⟨pb, 1, none⟩ (.int .i64 6) = W3) := hW3.symm
        obtain ⟨z0, z1⟩ := P3.cells
        obtain ⟨x0, x1, x2, x3, x4⟩ := op_cells O3
        clear hW3 Z3 P3 O3
        go_upto_region 13 with fail
        rw [HW3.out]
        go_wp2_with fail
        refine Calls.mono SO.out ?_
        rintro e W5 ⟨rfl, hA⟩
        have hR := aft_lr H3.out hnc hxc hA
        clear hA SO H2 H3 e0 e1 s0 s1 s2 s3 s4 y0 y1 y2 y3 y5 ylt yfr f1 z0 z1 x0 x1 x2 x3 x4
        obtain ⟨N', n', la', lc', hL⟩ := hR
        obtain ⟨t0, t1, t2, t3, LQ', hfew⟩ := hL.cells
        have LQ : Hid _ := LQ'
        obtain ⟨A, eA⟩ : ∃ A : Int, A = ((12 * digs n + 12 : Nat) : Int) := ⟨_, rfl⟩
        have hle : decide (A < (N' : Int)) = false := decide_eq_false (by omega)
        have AQ : Hid (∀ m, Calls Try.prog 26 #[.int .i64 (n : Int)] (W5.drewN m) fun e w' => e = .returned (.int .i64 A) ∧ ∃ q, w' = (W5.drewN m).drewN q) := fun m => by
          rw [eA]
          exact (asked_is n (by omega) _).mono fun e w' ⟨e1, e2⟩ => ⟨e1, 0, by rw [e2]; rfl⟩
        have HL : Hid (Lr W0 W5 xb hb ob md false lies (i + 1) n N' n' la' lc') := hL
        clear hL LQ' hfew eA
        go_wp2_with fail
        go_quiet (first | (go_at_call_of 26 (Value.int IntKind.i64 (n : Int)); exact Calls.quiet_of (AQ.out _)) | (go_at_call 17; exact Calls.quiet_of (LQ.out _)))
        have MX : Hid (Lq W0 (W5.drewN nq) xb hb ob md false lies (i + 1)) := HL.out.mono (bel_drewN (Below.refl _ _) _)
        clear HL LQ AQ t0 t1 t2 t3
        go_wp2_with fail
        go_roundw
        case rel => exact ⟨i + 1, by omega, by omega, by go_num, MX⟩
        case measure => simp [intOf]; omega
      · have eq' : bits .and .i64 kd 7 = 7 := eq
        clear eq hq
        obtain ⟨W3, hW3⟩ : ∃ W3, W3 = W2.setCell ⟨pb, 1, none⟩ (.int .i64 7) := ⟨_, rfl⟩
        have Z3 : Lz W0 W3 hb ob md false lies 0 n nx T nx (.slice la n lc) L := by
          obtain ⟨cs, e, _⟩ := H2.out.2.2.1
          refine ⟨H2.out.1.hp.other (fun k o e2 ho => ?_) (by rw [hW3]; simpa using H2.out.1.hp.le), H2.out.1.tr.kept fun k hk => ?_, by rw [hW3]; exact H2.out.1.bel.setCell hpb _, H2.out.1.ge⟩
          · rw [hW3]
            refine (Below.heap_setCell _ _ _ k fun e3 => ?_).trans e2
            have e4 : k = pb := e3
            rw [e4, e] at e2
            cases e2
            exact ho (oth_op _)
          · obtain ⟨_, cs2, e2⟩ := H2.out.1.tr.own hk
            rw [hW3]
            exact Below.heap_setCell _ _ _ k (ne_of_type e2 e (by decide))
        have P3 : Pr W3 xb hb ob := by
          obtain ⟨cs, e, _⟩ := H2.out.2.2.1
          rw [hW3]
          exact (Below.heap_setCell _ _ _ xb (ne_of_type H2.out.2.1 e (by decide))).trans H2.out.2.1
        have O3 : W3.rowIs pb 32 5 (opF oj 7 K V It) := by
          rw [hW3]
          refine (H2.out.2.2.1.set 1 _).congr fun j hj => ?_
          match j, hj with
          | 0, _ => rfl
          | 1, _ => rfl
          | 2, _ => rfl
          | 3, _ => rfl
          | 4, _ => rfl
        have SO : Hid _ := one7_any oj K V It Z3 H2.out.2.2.2 (by omega) (by omega) (by omega) rK rI.1 rI.2
        have H3 : Hid (Pr W3 xb hb ob) := P3
        have HW3 : Hid (W2.setCell ⟨pb, 1, none⟩ (.int .i64 7) = W3) := hW3.symm
        obtain ⟨z0, z1⟩ := P3.cells
        obtain ⟨x0, x1, x2, x3, x4⟩ := op_cells O3
        clear hW3 Z3 P3 O3
        go_upto_region 13 with fail
        rw [HW3.out]
        go_wp2_with fail
        refine Calls.mono SO.out ?_
        rintro e W5 ⟨rfl, hA⟩
        have hR := aft_lr H3.out hnc hxc hA
        clear hA SO H2 H3 e0 e1 s0 s1 s2 s3 s4 y0 y1 y2 y3 y5 ylt yfr f1 z0 z1 x0 x1 x2 x3 x4
        obtain ⟨N', n', la', lc', hL⟩ := hR
        obtain ⟨t0, t1, t2, t3, LQ', hfew⟩ := hL.cells
        have LQ : Hid _ := LQ'
        obtain ⟨A, eA⟩ : ∃ A : Int, A = ((12 * digs n + 12 : Nat) : Int) := ⟨_, rfl⟩
        have hle : decide (A < (N' : Int)) = false := decide_eq_false (by omega)
        have AQ : Hid (∀ m, Calls Try.prog 26 #[.int .i64 (n : Int)] (W5.drewN m) fun e w' => e = .returned (.int .i64 A) ∧ ∃ q, w' = (W5.drewN m).drewN q) := fun m => by
          rw [eA]
          exact (asked_is n (by omega) _).mono fun e w' ⟨e1, e2⟩ => ⟨e1, 0, by rw [e2]; rfl⟩
        have HL : Hid (Lr W0 W5 xb hb ob md false lies (i + 1) n N' n' la' lc') := hL
        clear hL LQ' hfew eA
        go_wp2_with fail
        go_quiet (first | (go_at_call_of 26 (Value.int IntKind.i64 (n : Int)); exact Calls.quiet_of (AQ.out _)) | (go_at_call 17; exact Calls.quiet_of (LQ.out _)))
        have MX : Hid (Lq W0 (W5.drewN nq) xb hb ob md false lies (i + 1)) := HL.out.mono (bel_drewN (Below.refl _ _) _)
        clear HL LQ AQ t0 t1 t2 t3
        go_wp2_with fail
        go_roundw
        case rel => exact ⟨i + 1, by omega, by omega, by go_num, MX⟩
        case measure => simp [intOf]; omega
    · have HB : Hid (Below W0.heap.size W0 wr) := bel
      clear hS bel
      by_cases h1 : i < L0
      · have hd1 : decide ((i : Int) < (L0 : Int)) = true := decide_eq_true (by omega)
        have hd2 : decide ((i : Int) < 300) = false := decide_eq_false (by omega)
        go_wp2_with (first | (go_at_call 12; refine Calls.mono (ST.out _) ?_; rintro e w9 ⟨rfl, hB9⟩))
        go_ret
        exact ⟨rfl, HB.out.trans (hB9.mono HB.out.size)⟩
      · have hd1 : decide ((i : Int) < (L0 : Int)) = false := decide_eq_false (by omega)
        go_wp2_with (first | (go_at_call 12; refine Calls.mono (ST.out _) ?_; rintro e w9 ⟨rfl, hB9⟩))
        go_ret
        exact ⟨rfl, HB.out.trans (hB9.mono HB.out.size)⟩
end Go.Proofs.Ytjnfcihichaonaa
