/- Contracts of the program's functions, part 15: own work, joined in build order. -/
import Derived.Test.YtcndbmccediknaaJ14
import Derived.Deep.Cut
import Derived.Deep.CutRange
import Derived.BigQuiet
import Derived.Deep.Slices
import Derived.Deep.Grids
import Derived.ChangeSlices
import Derived.ProofKit
import Derived.SizedLaws
import Derived.OpenShut
import Derived.Laws.IdiomArrays
namespace Go.Proofs.Ytcndbmccediknaa
open Go.RowKit
set_option maxRecDepth 100000
set_option linter.unusedVariables false
set_option maxHeartbeats 16000000 in
theorem fair_any (Q : Nat → Int) (a : Option Addr) (n cap : Nat) (F : Nat → Nat → Int) (w : World) (hF : MvIn w a n F) :
    Calls Try.prog 3 #[.agg #[.int .i64 (Q 0), .int .i64 (Q 1), .int .i64 (Q 2), .int .i64 (Q 3)], .slice a n cap] w fun e w' => e = .returned (.bool true) ∧ Below w.heap.size w w' := by
  have HF : Hid (MvIn w a n F) := hF
  clear hF
  go_enter Try.func3, Try.ntmps3
  go_wp2_with fail
  refine (open_any Q _).mono ?_
  rintro e w1 ⟨b, x0, s0, c0, rfl, hOn, hWS, hB1, hbb, hmn⟩
  have B0 : Below w.heap.size w (w.alloc (.cells #[.int .i64 (Q 0), .int .i64 (Q 1), .int .i64 (Q 2), .int .i64 (Q 3)] 22)) := (Below.refl _ _).alloc (Nat.le_refl _) _
  have HA : Hid (Opn 4 x0 s0 c0 ∧ WS w1 b x0 s0 (fun _ => []) ∧ Below w.heap.size w w1 ∧ w.heap.size ≤ b ∧ ∀ k, Mine x0.d s0 k → w.heap.size ≤ k) :=
    ⟨hOn, hWS, B0.trans (hB1.mono B0.size), Nat.le_trans B0.size hbb, fun k hk => Nat.le_trans B0.size (hmn k hk)⟩
  clear hOn hWS hB1 hbb hmn B0
  go_wp2_with fail
  refine (told15_any _).mono ?_
  rintro e w2 ⟨rfl, hb2⟩
  have HB : Hid (Opn 4 x0 s0 c0 ∧ WS w2 b x0 s0 (fun _ => []) ∧ Below w.heap.size w w2 ∧ w.heap.size ≤ b ∧ ∀ k, Mine x0.d s0 k → w.heap.size ≤ k) :=
    ⟨HA.out.1, HA.out.2.1.below hb2, HA.out.2.2.1.trans (hb2.mono HA.out.2.2.1.size), HA.out.2.2.2⟩
  clear hb2 HA
  go_wp2_with fail
  go_loopw [6, 7] (fun q6 q7 wr => ∃ (i : Nat) (mo : Int), q6 = .int .i64 mo ∧ q7 = .int .i64 (i : Int) ∧ i ≤ n ∧ i ≤ 200 ∧ wr = w2 ∧ Hid (1 ≤ mo ∧ mo ≤ 1024 ∧ ∀ j, j < i → szOf (F j 2) ≤ mo)) (fun _ q7 _ => 200 - (intOf q7).toNat)
  case atStart => exact ⟨0, 1, rfl, rfl, by omega, by omega, rfl, by omega, by omega, fun j hj => by omega⟩
  case round =>
    obtain ⟨i, mo, rfl, rfl, hi, hi2, rfl, hmo⟩ := hrel
    go_upto_region 6 with fail
    go_cut [30] from 23 to 30 (fun s30 wx => wx = wr ∧ s30 = .bool (decide (i < n ∧ i < 200)))
    case first =>
      by_cases h1 : i < n
      · by_cases h2 : i < 200
        · have d2 : decide ((i : Int) < 200) = true := decide_eq_true (by omega)
          have e9 : decide (i < n ∧ i < 200) = true := decide_eq_true ⟨h1, h2⟩
          go_wp2_with fail
          go_meet
          exact ⟨rfl, by first | rw [e9] | rfl⟩
        have d2 : decide ((i : Int) < 200) = false := decide_eq_false (by omega)
        have e9 : decide (i < n ∧ i < 200) = false := decide_eq_false (fun h => h2 h.2)
        go_wp2_with fail
        go_meet
        exact ⟨rfl, by first | rw [e9] | rfl⟩
      have e9 : decide (i < n ∧ i < 200) = false := decide_eq_false (fun h => h1 h.1)
      go_wp2_with fail
      go_meet
      exact ⟨rfl, by first | rw [e9] | rfl⟩
    case rest =>
      obtain ⟨hw, rfl⟩ := hcut
      rw [hw]
      clear hw wc
      by_cases hkk : i < n ∧ i < 200
      · rw [decide_eq_true hkk]
        obtain ⟨g, o, rfl, _, _, c2⟩ := HF.out.at HB.out.2.2.1 hkk.1
        obtain ⟨z, ez⟩ : ∃ z, z = F i 2 := ⟨_, rfl⟩
        rw [← ez] at c2
        have hss : bits .and .i64 z 1023 = z % 1024 := i64_and1023 z
        have wz : IntKind.i64.wrap (z % 1024 + 1) = z % 1024 + 1 := by rw [IntKind.wrap_i64]; omega
        have hin : (i : Int) < (n : Int) := by omega
        have wi : IntKind.i64.wrap ((i : Int) + 1) = (i : Int) + 1 := by rw [IntKind.wrap_i64]; omega
        have hz1 : Hid (z = F i 2 ∧ i < n ∧ i < 200) := ⟨ez, hkk⟩
        clear ez hkk
        go_wp2_with fail
        go_roundw
        case rel =>
          obtain ⟨e1, e2, e3⟩ := hz1.out
          obtain ⟨m1, m2, m3⟩ := hmo.out
          refine ⟨i + 1, _, rfl, by go_num, by omega, by omega, by first | trivial | rfl, ?_, ?_, fun j hj => ?_⟩
          · split <;> omega
          · split <;> omega
          by_cases ej : j = i
          · subst ej
            unfold szOf
            rw [← e1]
            split <;> omega
          have := m3 j (by omega)
          split <;> omega
        case measure => have := hz1.out.2.2; simp [intOf]; omega
      rw [decide_eq_false hkk]
      have HM : Hid (1 ≤ mo ∧ mo ≤ 1024 ∧ ∀ j, j < n → j < 200 → szOf (F j 2) ≤ mo) := ⟨hmo.out.1, hmo.out.2.1, fun j h1 h2 => hmo.out.2.2 j (by omega)⟩
      clear hmo
      go_wp2_with fail
      have L0 := lw_new HB.out.2.1 HB.out.2.2.1 HB.out.2.2.2.1 HB.out.2.2.2.2
      obtain ⟨W, eW⟩ : ∃ W, W = ((wr.alloc (.cells #[.int .i64 0, .int .i64 0, .int .i64 0, .int .i64 0, .int .i64 0, .int .i64 0, .int .i64 0, .int .i64 0, .int .i64 0, .int .i64 0, .int .i64 0, .int .i64 0, .int .i64 0, .int .i64 0, .int .i64 0, .int .i64 0] 29)).alloc (.cells #[.bool false, .bool false, .bool false, .bool false, .bool false, .bool false, .bool false, .bool false, .bool false, .bool false, .bool false, .bool false, .bool false, .bool false, .bool false, .bool false] 30)) := ⟨_, rfl⟩
      rw [← eW] at L0 ⊢
      obtain ⟨og, eog⟩ : ∃ og, og = wr.heap.size + 1 := ⟨_, rfl⟩
      rw [← eog] at L0 ⊢
      obtain ⟨lg, elg⟩ : ∃ lg, lg = wr.heap.size := ⟨_, rfl⟩
      rw [← elg] at L0 ⊢
      have HL0 : Hid (Lw w b lg og x0 s0 (fun _ => []) (fun _ => 0) (fun _ => false) W ∧ Iv mo 0 x0 s0 (fun _ => []) c0) := ⟨L0, HB.out.1.iv mo _ (fun _ _ => rfl)⟩
      clear L0 eW eog elg hkk hi hi2
      go_loopw [10] (fun q10 wr => ∃ (k : Nat) (x : Wv) (s : Sd) (P : Nat → List Pk) (c : Nat → Nat) (le : Nat → Int) (on : Nat → Bool), q10 = .int .i64 (k : Int) ∧ k ≤ n ∧ k ≤ 200 ∧ Hid (Lw w b lg og x s P le on wr ∧ Iv mo k x s P c ∧ Fol mo x s P c le on)) (fun q10 _ => 200 - (intOf q10).toNat)
      case atStart => exact ⟨0, x0, s0, _, c0, _, _, rfl, by omega, by omega, HL0.out.1, HL0.out.2, fun f g _ _ ho => by cases ho⟩
      case round =>
        clear HL0
        obtain ⟨k, x, s, P, c, le, on, rfl, hk, hk2, hI⟩ := hrel
        go_upto_region 12 with fail
        go_cut [49] from 42 to 49 (fun s49 wx => wx = wr ∧ s49 = .bool (decide (k < n ∧ k < 200)))
        case first =>
          by_cases h1 : k < n
          · by_cases h2 : k < 200
            · have d2 : decide ((k : Int) < 200) = true := decide_eq_true (by omega)
              have e9 : decide (k < n ∧ k < 200) = true := decide_eq_true ⟨h1, h2⟩
              go_wp2_with fail
              go_meet
              exact ⟨rfl, by first | rw [e9] | rfl⟩
            have d2 : decide ((k : Int) < 200) = false := decide_eq_false (by omega)
            have e9 : decide (k < n ∧ k < 200) = false := decide_eq_false (fun h => h2 h.2)
            go_wp2_with fail
            go_meet
            exact ⟨rfl, by first | rw [e9] | rfl⟩
          have e9 : decide (k < n ∧ k < 200) = false := decide_eq_false (fun h => h1 h.1)
          go_wp2_with fail
          go_meet
          exact ⟨rfl, by first | rw [e9] | rfl⟩
        case rest =>
          obtain ⟨hw, rfl⟩ := hcut
          rw [hw]
          clear hw wc
          by_cases hkk : k < n ∧ k < 200
          · rw [decide_eq_true hkk]
            obtain ⟨g, o, rfl, t0, t1, t2⟩ := HF.out.at hI.out.1.bel hkk.1
            obtain ⟨kd, ekd⟩ : ∃ z, z = F k 0 := ⟨_, rfl⟩
            obtain ⟨fl, efl⟩ : ∃ z, z = F k 1 := ⟨_, rfl⟩
            obtain ⟨sz, esz⟩ : ∃ z, z = F k 2 := ⟨_, rfl⟩
            rw [← ekd] at t0
            rw [← efl] at t1
            rw [← esz] at t2
            have hin : (k : Int) < (n : Int) := by omega
            have MV := mv_any b kd fl sz wr hI.out.2.1 hI.out.1.ws HM.out.2.1 (by omega) (by rw [esz]; exact HM.out.2.2 k hkk.1 hkk.2)
            replace MV : Hid (Calls Try.prog 9 #[.pointer (some ⟨b, 0, none⟩), .agg #[.int .i64 kd, .int .i64 fl, .int .i64 sz]] wr fun e w' => e = .returned (.bool true) ∧ Mvd b mo k x s P c wr w') := MV
            have HKK : Hid (k < n ∧ k < 200) := hkk
            clear ekd efl esz hkk
            go_wp2_with fail
            refine MV.out.mono ?_
            rintro e w3 ⟨rfl, hmv⟩
            clear MV
            obtain ⟨x', s', P', c', hQ, hI', hS, hwf⟩ := hmv
            have HI : Hid (Lw w b lg og x' s' P' le on w3 ∧ Fwd 0 mo x' s' P' c' le on ∧ Iv mo (k + 1) x' s' P' c') := ⟨hI.out.1.mv hwf, hI.out.2.2.fw hS hQ, hI'⟩
            clear hI hI' hS hwf hQ t0 t1 t2
            have wk : IntKind.i64.wrap ((k : Int) + 1) = (k : Int) + 1 := by rw [IntKind.wrap_i64]; omega
            clear hin
            go_wp2_with fail
            go_loopw [11] (fun q11 wz => ∃ (f : Nat) (le : Nat → Int) (on : Nat → Bool), q11 = .int .i64 (f : Int) ∧ f ≤ 4 ∧ Hid (Lw w b lg og x' s' P' le on wz ∧ Fwd (4 * f) mo x' s' P' c' le on ∧ Iv mo (k + 1) x' s' P' c')) (fun q11 _ => 4 - (intOf q11).toNat)
            case atStart => exact ⟨0, le, on, rfl, by omega, HI.out⟩
            case round =>
              clear HI
              obtain ⟨f, le3, on3, rfl, hf4, HI⟩ := hrel
              by_cases hf : f < 4
              · have hfl : (f : Int) < 4 := by omega
                have wf : IntKind.i64.wrap ((f : Int) + 1) = (f : Int) + 1 := by rw [IntKind.wrap_i64]; omega
                obtain ⟨f4, ef4⟩ : ∃ f4 : Nat, f4 = 4 * f := ⟨_, rfl⟩
                have w4 : IntKind.i64.wrap (4 * (f : Int)) = (f4 : Int) := by rw [IntKind.wrap_i64]; omega
                have HF4 : Hid (f4 = 4 * f) := ef4
                clear ef4
                go_wp2_with fail
                go_loopw [12] (fun q12 wy => ∃ (g' : Nat) (le : Nat → Int) (on : Nat → Bool), q12 = .int .i64 (g' : Int) ∧ g' ≤ 4 ∧ Hid (Lw w b lg og x' s' P' le on wy ∧ Fwd (4 * f + g') mo x' s' P' c' le on ∧ Iv mo (k + 1) x' s' P' c')) (fun q12 _ => 4 - (intOf q12).toNat)
                case atStart => exact ⟨0, le3, on3, rfl, by omega, HI.out⟩
                case round =>
                  clear HI
                  obtain ⟨h, le4, on4, rfl, hh4, HI⟩ := hrel
                  by_cases hh : h < 4
                  · have hhl : (h : Int) < 4 := by omega
                    have wh : IntKind.i64.wrap ((h : Int) + 1) = (h : Int) + 1 := by rw [IntKind.wrap_i64]; omega
                    obtain ⟨kk, ekk⟩ : ∃ kk : Nat, kk = 4 * f + h := ⟨_, rfl⟩
                    have hk16 : (kk : Int) < 16 := by omega
                    have w5 : IntKind.i64.wrap ((f4 : Int) + (h : Int)) = (kk : Int) := by have := HF4.out; rw [IntKind.wrap_i64]; omega
                    have s1 := HI.out.2.2.small (by omega) hf hh
                    have s2 := HI.out.2.2.small (by omega) hh hf
                    have q1 := (HI.out.2.2.qn f hf).2
                    have q2 := (HI.out.2.2.qn h hh).2
                    have WR := HI.out.1.ws.wr
                    obtain ⟨sf, esf⟩ : ∃ z, z = x'.Sent f := ⟨_, rfl⟩
                    obtain ⟨sh, esh⟩ : ∃ z, z = x'.Sent h := ⟨_, rfl⟩
                    obtain ⟨qf, eqf⟩ : ∃ z, z = x'.Q f := ⟨_, rfl⟩
                    obtain ⟨qh, eqh⟩ : ∃ z, z = x'.Q h := ⟨_, rfl⟩
                    have c1 := WR.cS hf
                    have c2 := WR.cS hh
                    have c3 := WR.cQ hf
                    have c4 := WR.cQ hh
                    rw [← esf] at c1 s1
                    rw [← esh] at c2 s2
                    rw [← eqf] at c3 s2 q1
                    rw [← eqh] at c4 s1 q2
                    obtain ⟨X, eX⟩ : ∃ X, X = sf * qh - sh * qf := ⟨_, rfl⟩
                    have m1 : IntKind.i64.wrap (sf * qh) = sf * qh := by rw [IntKind.wrap_i64]; omega
                    have m2 : IntKind.i64.wrap (sh * qf) = sh * qf := by rw [IntKind.wrap_i64]; omega
                    have m3 : IntKind.i64.wrap (sf * qh - sh * qf) = X := by rw [IntKind.wrap_i64, eX]; omega
                    obtain ⟨la, lc, e5, _, _⟩ := HI.out.1.ws.ls f hf
                    obtain ⟨ra, rc, e6, _, _⟩ := HI.out.1.ws.ls h hh
                    have c5 := WR.cL hf
                    have c6 := WR.cL hh
                    rw [e5] at c5
                    rw [e6] at c6
                    obtain ⟨nf, enf⟩ : ∃ z, z = (P' f).length := ⟨_, rfl⟩
                    obtain ⟨nh, enh⟩ : ∃ z, z = (P' h).length := ⟨_, rfl⟩
                    rw [← enf] at c5
                    rw [← enh] at c6
                    have HE : Hid (kk = 4 * f + h ∧ sf = x'.Sent f ∧ sh = x'.Sent h ∧ qf = x'.Q f ∧ qh = x'.Q h ∧ X = sf * qh - sh * qf ∧ nf = (P' f).length ∧ nh = (P' h).length ∧ 1 ≤ qf ∧ qf ≤ 1000 ∧ 1 ≤ qh ∧ qh ≤ 1000 ∧ (0 ≤ sf * qh ∧ sf * qh ≤ 1024000000) ∧ (0 ≤ sh * qf ∧ sh * qf ≤ 1024000000)) := ⟨ekk, esf, esh, eqf, eqh, eX, enf, enh, q1.1, q1.2, q2.1, q2.2, s1, s2⟩
                    have ze := World.rowIs.frozen HI.out.1.ro kk
                    have ce : wr.cell? ⟨og, kk, none⟩ = some (.bool (on4 kk)) := World.rowIs.cell HI.out.1.ro (i := kk) (by omega)
                    have zl := World.rowIs.frozen HI.out.1.rl kk
                    have cl : wr.cell? ⟨lg, kk, none⟩ = some (.int .i64 (le4 kk)) := World.rowIs.cell HI.out.1.rl (i := kk) (by omega)
                    clear ekk esf esh eqf eqh eX enf enh q1 q2 s1 s2 e5 e6 WR
                    go_wp2_with fail
                    go_region
                    go_upto_region 24 with fail
                    go_cut [120] from 98 to 120 (fun s120 wx => wx = wr.drew ∧ s120 = .bool (decide (P' f = [] ∨ P' h = [] ∨ f = h)))
                    case first =>
                      clear c1 c2 c3 c4 ce cl
                      have hnf := HE.out.2.2.2.2.2.2.1
                      have hnh := HE.out.2.2.2.2.2.2.2.1
                      by_cases p1 : P' f = []
                      · have e9 : decide (P' f = [] ∨ P' h = [] ∨ f = h) = true := decide_eq_true (.inl p1)
                        have n0 : (nf : Int) = 0 := by rw [hnf, p1]; rfl
                        clear hnf hnh
                        go_wp2_with fail
                        go_meet
                        exact ⟨rfl, by first | rw [e9] | rfl⟩
                      have n0 : ¬ (nf : Int) = 0 := by
                        have := List.length_pos_iff.2 p1
                        omega
                      by_cases p2 : P' h = []
                      · have e9 : decide (P' f = [] ∨ P' h = [] ∨ f = h) = true := decide_eq_true (.inr (.inl p2))
                        have n1 : (nh : Int) = 0 := by rw [hnh, p2]; rfl
                        clear hnf hnh
                        go_wp2_with fail
                        go_meet
                        exact ⟨rfl, by first | rw [e9] | rfl⟩
                      have n1 : ¬ (nh : Int) = 0 := by
                        have := List.length_pos_iff.2 p2
                        omega
                      clear hnf hnh
                      go_wp2_with fail
                      go_meet
                      exact ⟨rfl, by
                        have a1 : ((nf : Int) == 0) = false := beq_eq_false_iff_ne.2 n0
                        have a2 : ((nh : Int) == 0) = false := beq_eq_false_iff_ne.2 n1
                        by_cases p3 : f = h
                        · have a3 : ((f : Int) == (h : Int)) = true := beq_iff_eq.2 (by omega)
                          rw [decide_eq_true (Or.inr (Or.inr p3) : P' f = [] ∨ P' h = [] ∨ f = h), a1, a2, a3]
                          rfl
                        have a3 : ((f : Int) == (h : Int)) = false := beq_eq_false_iff_ne.2 (by omega)
                        rw [decide_eq_false (by rintro (e | e | e) <;> contradiction : ¬ (P' f = [] ∨ P' h = [] ∨ f = h)), a1, a2, a3]
                        rfl⟩
                    case rest =>
                      obtain ⟨hw, rfl⟩ := hcut
                      rw [hw]
                      clear hw wc
                      by_cases hoff : P' f = [] ∨ P' h = [] ∨ f = h
                      · rw [decide_eq_true hoff]
                        go_wp2_with fail
                        go_roundw
                        case rel =>
                          have hkk := HE.out.1
                          refine ⟨h + 1, le4, updN on4 kk false, by go_num, by omega, (HI.out.1.below (bel_drew (Below.refl _ _))).seto (by omega) false, ?_, HI.out.2.2⟩
                          have := HI.out.2.1.off hf hh
                          rw [← hkk] at this
                          rw [show 4 * f + (h + 1) = kk + 1 by omega]
                          exact this
                        case measure => simp [intOf]; omega
                      rw [decide_eq_false hoff]
                      have nlo : ¬ lg = og := HI.out.1.ne.2.2
                      have nol : ¬ og = lg := fun e => nlo e.symm
                      obtain ⟨l4, el4⟩ : ∃ l4, l4 = le4 kk := ⟨_, rfl⟩
                      rw [← el4] at cl
                      have HEL : Hid (l4 = le4 kk) := el4
                      have hkl : kk < 16 := by omega
                      have pa : P' f ≠ [] := fun e => hoff (.inl e)
                      have pb : P' h ≠ [] := fun e => hoff (.inr (.inl e))
                      have hab : f ≠ h := fun e => hoff (.inr (.inr e))
                      clear el4
                      rcases (by by_cases ho : on4 kk = true
                                 · by_cases hX : X < l4
                                   · exact .inl ⟨ho, hX⟩
                                   exact .inr (.inl ⟨ho, hX⟩)
                                 exact .inr (.inr ho) : (on4 kk = true ∧ X < l4) ∨ (on4 kk = true ∧ ¬ X < l4) ∨ ¬ on4 kk = true) with ⟨ho, hX⟩ | ⟨ho, hX⟩ | ho
                      rw [ho] at ce
                      have hX2 : ¬ l4 < X := by omega
                      have hX3 : ¬ l4 ≤ X := by omega
                      have hX4 : X ≤ l4 := by omega
                      go_upto_region 30 with fail
                      obtain ⟨W5, eW5⟩ : ∃ W5, W5 = (wr.setCell ⟨lg, kk, none⟩ (.int .i64 X)).drew := ⟨_, rfl⟩
                      rw [← eW5]
                      obtain ⟨M, eM⟩ : ∃ M, M = X := ⟨_, rfl⟩
                      have HL5 : Hid (Lw w b lg og x' s' P' (updN le4 kk M) (updN on4 kk true) W5) := by
                        rw [updN_same on4 kk true ho, eM, eW5]
                        exact (HI.out.1.setl hkl X).below (bel_drew (Below.refl _ _))
                      have hMl : M = min (if on4 (4 * f + h) then le4 (4 * f + h) else X) X := by
                        rw [← HE.out.1, if_pos ho, ← HEL.out, eM]
                        omega
                      clear eM eW5 hX2 hX3 hX4
                      rotate_left
                      rw [ho] at ce
                      have hX4 : l4 ≤ X := by omega
                      go_upto_region 30 with fail
                      obtain ⟨W5, eW5⟩ : ∃ W5, W5 = (wr.setCell ⟨lg, kk, none⟩ (.int .i64 l4)).drew := ⟨_, rfl⟩
                      rw [← eW5]
                      obtain ⟨M, eM⟩ : ∃ M, M = l4 := ⟨_, rfl⟩
                      have HL5 : Hid (Lw w b lg og x' s' P' (updN le4 kk M) (updN on4 kk true) W5) := by
                        rw [updN_same on4 kk true ho, eM, eW5]
                        exact (HI.out.1.setl hkl l4).below (bel_drew (Below.refl _ _))
                      have hMl : M = min (if on4 (4 * f + h) then le4 (4 * f + h) else X) X := by
                        rw [← HE.out.1, if_pos ho, ← HEL.out, eM]
                        omega
                      clear eM eW5 hX4
                      rotate_left
                      rw [Bool.eq_false_iff.2 ho] at ce
                      go_upto_region 30 with fail
                      obtain ⟨W5, eW5⟩ : ∃ W5, W5 = (((wr.setCell ⟨og, kk, none⟩ (.bool true)).setCell ⟨lg, kk, none⟩ (.int .i64 X)).setCell ⟨lg, kk, none⟩ (.int .i64 X)).drew := ⟨_, rfl⟩
                      rw [← eW5]
                      obtain ⟨M, eM⟩ : ∃ M, M = X := ⟨_, rfl⟩
                      have HL5 : Hid (Lw w b lg og x' s' P' (updN le4 kk M) (updN on4 kk true) W5) := by
                        have := ((((HI.out.1.seto hkl true).setl hkl X).setl hkl X).below (bel_drew (Below.refl _ _)))
                        rw [updN_twice] at this
                        rw [eM, eW5]
                        exact this
                      have hMl : M = min (if on4 (4 * f + h) then le4 (4 * f + h) else X) X := by
                        rw [← HE.out.1, if_neg ho, eM]
                        omega
                      clear eM eW5
                      rotate_left
                      all_goals
                        clear ce cl zl ze c1 c2 c3 c4 c5 c6
                        have h0 := HE.out
                        obtain ⟨F1, F2⟩ := HI.out.2.1.step HI.out.2.2 hf hh hab pa pb (X := X) (by rw [← h0.2.1, ← h0.2.2.1, ← h0.2.2.2.1, ← h0.2.2.2.2.1]; exact h0.2.2.2.2.2.1) rfl
                        rw [← hMl, ← h0.1] at F1
                        rw [← hMl, ← h0.2.2.2.1, ← h0.2.2.2.2.1] at F2
                        have hMX : M ≤ X := by rw [hMl]; omega
                        clear hMl
                        have HF1 : Hid (Fwd (kk + 1) mo x' s' P' c' (updN le4 kk M) (updN on4 kk true)) := F1
                        clear F1
                        have hm := HM.out
                        have g1 : 0 ≤ qf * qh ∧ qf * qh ≤ 1000000 := by
                          refine ⟨Int.mul_nonneg (by omega) (by omega), ?_⟩
                          have : qf * qh ≤ 1000 * 1000 := Int.mul_le_mul (by omega) (by omega) (by omega) (by omega)
                          omega
                        have g2 : 0 ≤ mo * qf ∧ mo * qf ≤ 1024000 := by
                          refine ⟨Int.mul_nonneg (by omega) (by omega), ?_⟩
                          have : mo * qf ≤ 1024 * 1000 := Int.mul_le_mul (by omega) (by omega) (by omega) (by omega)
                          omega
                        have g3 : 0 ≤ mo * qh ∧ mo * qh ≤ 1024000 := by
                          refine ⟨Int.mul_nonneg (by omega) (by omega), ?_⟩
                          have : mo * qh ≤ 1024 * 1000 := Int.mul_le_mul (by omega) (by omega) (by omega) (by omega)
                          omega
                        obtain ⟨y1, ey1⟩ : ∃ y, y = qf * qh := ⟨_, rfl⟩
                        obtain ⟨y2, ey2⟩ : ∃ y, y = mo * qf := ⟨_, rfl⟩
                        obtain ⟨y3, ey3⟩ : ∃ y, y = mo * qh := ⟨_, rfl⟩
                        rw [← ey1] at g1 F2
                        rw [← ey2] at g2 F2
                        rw [← ey3] at g3 F2
                        have t1 : IntKind.i64.wrap (qf * qh) = y1 := by rw [IntKind.wrap_i64, ← ey1]; omega
                        have t2 : IntKind.i64.wrap (mo * qf) = y2 := by rw [IntKind.wrap_i64, ← ey2]; omega
                        have t3 : IntKind.i64.wrap (mo * qh) = y3 := by rw [IntKind.wrap_i64, ← ey3]; omega
                        have t4 : IntKind.i64.wrap (y1 + y2) = y1 + y2 := by rw [IntKind.wrap_i64]; omega
                        have t5 : IntKind.i64.wrap (y1 + y2 + y3) = y1 + y2 + y3 := by rw [IntKind.wrap_i64]; omega
                        have t6 : IntKind.i64.wrap (X - M) = X - M := by rw [IntKind.wrap_i64]; omega
                        have t7 : ¬ y1 + y2 + y3 < X - M := by omega
                        have c1 : W5.cell? ⟨lg, kk, none⟩ = some (.int .i64 M) := by
                          have := World.rowIs.cell HL5.out.rl (i := kk) hkl
                          rw [this]
                          exact congrArg some (congrArg (Value.int .i64) (updN_eq _ _ _))
                        have c3 := HL5.out.ws.wr.cQ hf
                        have c4 := HL5.out.ws.wr.cQ hh
                        rw [← h0.2.2.2.1] at c3
                        rw [← h0.2.2.2.2.1] at c4
                        clear ey1 ey2 ey3 g1 g2 g3 F2 hMX hm h0 hkl pa pb hab ho m1 m2 m3 w4 w5 nlo nol
                        go_upto_region 30 with fail
                        go_quiet (fail)
                        go_wp2_with fail
                        go_roundw
                        case rel =>
                          refine ⟨h + 1, _, _, by go_num, by omega, by first | exact HL5.out.drewN _ | exact HL5.out, ?_, HI.out.2.2⟩
                          have := HF1.out
                          rw [HE.out.1] at this ⊢
                          exact this
                        case measure => simp [intOf]; omega
                  have eh : h = 4 := by omega
                  subst eh
                  go_wp2_with fail
                  go_roundw
                  case rel => exact ⟨f + 1, le4, on4, by go_num, by omega, HI.out.1, by have := HI.out.2.1; rw [show 4 * (f + 1) = 4 * f + 4 by omega]; exact this, HI.out.2.2⟩
                  case measure => simp [intOf]; omega
              have ef : f = 4 := by omega
              subst ef
              go_wp2_with fail
              go_roundw
              case rel => exact ⟨k + 1, x', s', P', c', le3, on3, by go_num, by have := HKK.out; omega, by have := HKK.out; omega, HI.out.1, HI.out.2.2, Fwd.fol HI.out.2.1⟩
              case measure => have := HKK.out.2; simp [intOf]; omega
          rw [decide_eq_false hkk]
          go_wp2_with fail
          exact bodyPost_ret (v := .bool true) (by simp [results, Try.results3, go_sem]) rfl ⟨rfl, hI.out.1.bel⟩
end Go.Proofs.Ytcndbmccediknaa
namespace Go.Proofs.Ytcndbmccediknaa
open Go.RowKit Go.ChangeShapes
set_option maxRecDepth 100000
set_option linter.unusedVariables false
theorem mv_add_more (a : Addr) (m j : Nat) : (a.add m).add j = a.add (m + j) := by
  unfold Addr.add
  rcases Nat.eq_zero_or_pos m with e | e
  · subst e; simp
  rcases Nat.eq_zero_or_pos j with e2 | e2
  · subst e2; simp
  rw [if_neg (by omega), if_neg (by omega), if_neg (by omega)]
  simp [Nat.add_assoc]
theorem mv_steps {K : Nat} {H : Type} {enc : TypeId × Value → H} {P : Program} {w : World} {base : Nat} {spare : Nat → Bool} {held : Bool} {t e : TypeId} {fuel : Nat} {cs : List Value} {x : DataW H × List MemPlace} {fs : Array Field}
    (ht : P.underlying t = some (.slice e)) (he : P.underlying e = some (.struct fs)) (ce : P.cellsOf e = K) (hsz : fs.size = K)
    (hf : ∀ j, j < K → ∃ f, fs[j]? = some f ∧ f.offset = j ∧ P.cellsOf f.type = 1 ∧ P.underlying f.type = some (.int .i64)) (h : DataW.trod enc P w base spare held fuel t cs = some x) :
    cs = [.slice none 0 0] ∨ ∃ (a : Addr) (len cap : Nat), cs = [.slice (some a) len cap] ∧ len ≤ cap ∧ cap ≤ maxLen ∧ ∀ i j, i < len → j < K → ∃ v, w.cell? (a.add (i * K + j)) = some (.int .i64 v) ∧ (Lit.int .i64 v).wf = true := by
  rcases Deep.open_slice ht h with ⟨h0, _⟩ | ⟨a, len, cap, m, n, D, Pl, rfl, hb, hl, hm, hmm, _, hx⟩
  · exact .inl h0
  refine .inr ⟨a, len, cap, rfl, hl, hm, fun i j hi hj => ?_⟩
  have hlm : len ≤ m := by rw [hmm]; split <;> omega
  obtain ⟨cs', h1, h2⟩ := hx i (by omega)
  rw [ce] at h1
  obtain ⟨_, hlen, hcell⟩ := World.cells?_some h1
  obtain ⟨xs, k, _, _, _, hxl, hff⟩ := DataW.trod_struct he h2
  obtain ⟨f, f1, f2, f3, f4⟩ := hf j hj
  have g := hff j f f1
  rw [f2, f3] at g
  have hxj : ∃ y, xs[j]? = some y := ⟨_, List.getElem?_eq_getElem (by omega)⟩
  obtain ⟨y, hy⟩ := hxj
  rw [hy] at g
  obtain ⟨v, hv, _, hw⟩ := DataW.trod_int f4 g
  refine ⟨v, ?_, hw⟩
  have e1 := hcell j hj
  rw [mv_add_more] at e1
  rw [e1]
  have e2 := congrArg (fun l => l[0]?) hv
  simpa using e2
theorem mv_of {w : World} {a : Addr} {len : Nat} (h : ∀ i j, i < len → j < 3 → ∃ v, w.cell? (a.add (i * 3 + j)) = some (.int .i64 v) ∧ (Lit.int .i64 v).wf = true) :
    ∃ F, MvIn w (some a) len F := by
  refine ⟨fun i j => intOf ((w.cell? (a.add (i * 3 + j))).getD undef), ?_⟩
  rcases Nat.eq_zero_or_pos len with e | e
  · exact .inl e
  obtain ⟨b, off, spot⟩ := a
  obtain ⟨v, hc, _⟩ := h 0 0 e (by omega)
  have hspot : spot = none := by simpa [Addr.add] using World.cell?_spot hc
  subst hspot
  refine .inr ⟨b, off, rfl, fun i hi j hj => ?_⟩
  obtain ⟨v, hv, _⟩ := h i j hi hj
  rw [addr_add] at hv
  have e3 : off + i * 3 + j = off + (i * 3 + j) := by omega
  rw [e3, hv]
  show some (Value.int IntKind.i64 v) = some (Value.int IntKind.i64 (intOf ((w.cell? (Addr.add ⟨b, off, none⟩ (i * 3 + j))).getD undef)))
  rw [addr_add, hv]
  rfl
theorem moves_of {H : Type} {enc : TypeId × Value → H} {w : World} {base : Nat} {spare : Nat → Bool} {held : Bool} {fuel : Nat} {a : Option Addr} {len cap : Nat} {x : DataW H × List MemPlace} (h : DataW.trod enc Try.prog w base spare held fuel 23 (Value.slice a len cap).cells.toList = some x) : ∃ F, MvIn w a len F := by
  rcases mv_steps (K := 3) Try.underlying23 Try.underlying28 (by kernel_rfl) rfl (fun j hj => match j, hj with
    | 0, _ => ⟨_, rfl, rfl, by kernel_rfl, by kernel_rfl⟩
    | 1, _ => ⟨_, rfl, rfl, by kernel_rfl, by kernel_rfl⟩
    | 2, _ => ⟨_, rfl, rfl, by kernel_rfl, by kernel_rfl⟩) h with hcs | ⟨y, l, c, hcs, hl, hm, hcell⟩
  · simp [Value.cells] at hcs
    obtain ⟨rfl, rfl, rfl⟩ := hcs
    exact ⟨fun _ _ => 0, .inl rfl⟩
  simp [Value.cells] at hcs
  obtain ⟨rfl, rfl, rfl⟩ := hcs
  exact mv_of hcell
theorem quanta_of {W : World} {H : Type} {enc : TypeId × Value → H} {base : Nat} {v : Value} {d : DataW H} {ps : List MemPlace} (hval : Value.okWide Try.prog W .any base 22 v) (h : DataW.Trod enc Try.prog W 0 (fun _ => true) true 22 v d ps) :
    ∃ Q : Nat → Int, v = .agg #[.int .i64 (Q 0), .int .i64 (Q 1), .int .i64 (Q 2), .int .i64 (Q 3)] := by
  obtain ⟨cs, rfl, hsz, _⟩ : ∃ cs, v = .agg cs ∧ cs.size = Try.prog.cellsOf 22 ∧ Row.okWide Try.prog W .any base 22 cs := by
    simpa [Value.okWide, Try.underlying22] using hval
  have c4 : Try.prog.cellsOf 22 = 4 := by kernel_rfl
  have c1 : Try.prog.cellsOf 3 = 1 := by kernel_rfl
  rw [c4] at hsz
  obtain ⟨l⟩ := cs
  obtain ⟨x0, x1, x2, x3, rfl⟩ : ∃ x0 x1 x2 x3, l = [x0, x1, x2, x3] := by
    match l, hsz with
    | [x0, x1, x2, x3], _ => exact ⟨x0, x1, x2, x3, rfl⟩
  obtain ⟨fuel, hf⟩ := h
  obtain ⟨y0, y1, y2, y3, m, hx, hy0, hy1, hy2, hy3⟩ := trod_array4 Try.underlying22 c1 hf
  obtain ⟨z0, e0, rfl, _⟩ := DataW.trod_int Try.underlying3 hy0
  obtain ⟨z1, e1, rfl, _⟩ := DataW.trod_int Try.underlying3 hy1
  obtain ⟨z2, e2, rfl, _⟩ := DataW.trod_int Try.underlying3 hy2
  obtain ⟨z3, e3, rfl, _⟩ := DataW.trod_int Try.underlying3 hy3
  simp at e0 e1 e2 e3
  subst e0 e1 e2 e3
  exact ⟨fun k => if k = 0 then z0 else if k = 1 then z1 else if k = 2 then z2 else z3, rfl⟩
end Go.Proofs.Ytcndbmccediknaa
