/- Contracts of the program's functions, part 16: own work, joined in build order. -/
import Derived.Test.YtcndbmccediknaaJ15
import Derived.Deep.Cut
import Derived.Deep.CutRange
import Derived.BigQuiet
import Derived.Deep.Slices
import Derived.Deep.Grids
import Derived.ChangeSlices
import Derived.ProofKit
import Derived.SizedLaws
import Derived.OpenShut
import Derived.Laws.IdiomArrays
namespace Go.Proofs.Ytcndbmccediknaa
open Go.RowKit
set_option maxRecDepth 100000
set_option linter.unusedVariables false
set_option maxHeartbeats 16000000 in
theorem deficits_any (Q : Nat → Int) (a : Option Addr) (n cap : Nat) (F : Nat → Nat → Int) (w : World) (hF : MvIn w a n F) :
    Calls Try.prog 4 #[.agg #[.int .i64 (Q 0), .int .i64 (Q 1), .int .i64 (Q 2), .int .i64 (Q 3)], .slice a n cap] w fun e w' => e = .returned (.bool true) ∧ Below w.heap.size w w' := by
  have HF : Hid (MvIn w a n F) := hF
  clear hF
  go_enter Try.func4, Try.ntmps4
  go_wp2_with fail
  refine (open_any Q _).mono ?_
  rintro e w1 ⟨b, x0, s0, c0, rfl, hOn, hWS, hB1, hbb, hmn⟩
  have B0 : Below w.heap.size w (w.alloc (.cells #[.int .i64 (Q 0), .int .i64 (Q 1), .int .i64 (Q 2), .int .i64 (Q 3)] 22)) := (Below.refl _ _).alloc (Nat.le_refl _) _
  have HA : Hid (Opn 4 x0 s0 c0 ∧ WS w1 b x0 s0 (fun _ => []) ∧ Below w.heap.size w w1 ∧ w.heap.size ≤ b ∧ ∀ k, Mine x0.d s0 k → w.heap.size ≤ k) :=
    ⟨hOn, hWS, B0.trans (hB1.mono B0.size), Nat.le_trans B0.size hbb, fun k hk => Nat.le_trans B0.size (hmn k hk)⟩
  clear hOn hWS hB1 hbb hmn B0
  go_wp2_with fail
  refine (told15_any _).mono ?_
  rintro e w2 ⟨rfl, hb2⟩
  have HB : Hid (Opn 4 x0 s0 c0 ∧ WS w2 b x0 s0 (fun _ => []) ∧ Below w.heap.size w w2 ∧ w.heap.size ≤ b ∧ ∀ k, Mine x0.d s0 k → w.heap.size ≤ k) :=
    ⟨HA.out.1, HA.out.2.1.below hb2, HA.out.2.2.1.trans (hb2.mono HA.out.2.2.1.size), HA.out.2.2.2⟩
  clear hb2 HA
  go_wp2_with fail
  have HL0 : Hid (Lx w b x0 s0 (fun _ => []) w2 ∧ Iv x0.most 0 x0 s0 (fun _ => []) c0 ∧ 0 ≤ x0.most ∧ x0.most ≤ 1024) :=
    ⟨⟨HB.out.2.1, HB.out.2.2.1, HB.out.2.2.2.2, HB.out.2.2.2.1⟩, HB.out.1.iv _ _ (fun _ _ => rfl), by have := HB.out.1.mz; omega⟩
  clear HB
  go_loopw [6] (fun q6 wr => ∃ (k : Nat) (x : Wv) (s : Sd) (P : Nat → List Pk) (c : Nat → Nat), q6 = .int .i64 (k : Int) ∧ k ≤ n ∧ k ≤ 150 ∧ Hid (Lx w b x s P wr ∧ Iv x.most k x s P c ∧ 0 ≤ x.most ∧ x.most ≤ 1024)) (fun q6 _ => 150 - (intOf q6).toNat)
  case atStart => exact ⟨0, x0, s0, _, c0, rfl, by omega, by omega, HL0.out⟩
  case round =>
    clear HL0
    obtain ⟨k, x, s, P, c, rfl, hk, hk2, hI⟩ := hrel
    go_upto_region 5 with fail
    go_cut [33] from 26 to 33 (fun s33 wx => wx = wr ∧ s33 = .bool (decide (k < n ∧ k < 150)))
    case first =>
      by_cases h1 : k < n
      · by_cases h2 : k < 150
        · have d2 : decide ((k : Int) < 150) = true := decide_eq_true (by omega)
          have e9 : decide (k < n ∧ k < 150) = true := decide_eq_true ⟨h1, h2⟩
          go_wp2_with fail
          go_meet
          exact ⟨rfl, by first | rw [e9] | rfl⟩
        have d2 : decide ((k : Int) < 150) = false := decide_eq_false (by omega)
        have e9 : decide (k < n ∧ k < 150) = false := decide_eq_false (fun h => h2 h.2)
        go_wp2_with fail
        go_meet
        exact ⟨rfl, by first | rw [e9] | rfl⟩
      have e9 : decide (k < n ∧ k < 150) = false := decide_eq_false (fun h => h1 h.1)
      go_wp2_with fail
      go_meet
      exact ⟨rfl, by first | rw [e9] | rfl⟩
    case rest =>
      obtain ⟨hw, rfl⟩ := hcut
      rw [hw]
      clear hw wc
      by_cases hkk : k < n ∧ k < 150
      · rw [decide_eq_true hkk]
        obtain ⟨g, o, rfl, t0, t1, t2⟩ := HF.out.at hI.out.1.bel hkk.1
        obtain ⟨kd, ekd⟩ : ∃ z, z = F k 0 := ⟨_, rfl⟩
        obtain ⟨fl, efl⟩ : ∃ z, z = F k 1 := ⟨_, rfl⟩
        obtain ⟨sz, esz⟩ : ∃ z, z = F k 2 := ⟨_, rfl⟩
        rw [← ekd] at t0
        rw [← efl] at t1
        rw [← esz] at t2
        have hin : (k : Int) < (n : Int) := by omega
        have hmx := mostOf_max (kd := kd) (sz := sz) hI.out.2.2.2
        have hml := mostOf_le x.most kd sz
        have MV := mv_any b kd fl sz wr (hI.out.2.1.mono hml) hI.out.1.ws hmx (by omega) (fun h1 h2 h3 => mostOf_sz h1 h2 h3)
        obtain ⟨m, em⟩ : ∃ m, m = mostOf x.most kd sz := ⟨_, rfl⟩
        rw [← em] at MV hmx hml
        replace MV : Hid (Calls Try.prog 9 #[.pointer (some ⟨b, 0, none⟩), .agg #[.int .i64 kd, .int .i64 fl, .int .i64 sz]] wr fun e w' => e = .returned (.bool true) ∧ Mvd b m k x s P c m wr w') := MV
        have HKK : Hid (k < n ∧ k < 150) := hkk
        have hm0 : 0 ≤ m := by have := hI.out.2.2.1; omega
        clear ekd efl esz hkk em hml
        go_wp2_with fail
        refine MV.out.mono ?_
        rintro e w3 ⟨rfl, hmv⟩
        clear MV
        obtain ⟨x', s', P', c', hQ, hm, hI', hS, hwf⟩ := hmv
        have HI : Hid (Lx w b x' s' P' w3 ∧ Iv m (k + 1) x' s' P' c' ∧ x'.most = m ∧ 0 ≤ m ∧ m ≤ 1024) := ⟨hI.out.1.mv hwf, hI', hm, hm0, hmx⟩
        clear hI hI' hS hwf hQ t0 t1 t2 hm hm0 hmx
        have wk : IntKind.i64.wrap ((k : Int) + 1) = (k : Int) + 1 := by rw [IntKind.wrap_i64]; omega
        clear hin
        obtain ⟨dd, edd⟩ : ∃ dd, dd = x'.d := ⟨_, rfl⟩
        have cd : w3.cell? ⟨b, 0, none⟩ = some (.pointer (some ⟨dd, 0, none⟩)) := by rw [edd]; exact HI.out.1.ws.wr.cd
        have HDD : Hid (dd = x'.d) := edd
        clear edd
        have hrl : s'.R.length ≤ 1000 := by have := HI.out.2.1.rb; have := HKK.out; omega
        have HR : Hid (Calls Try.prog 10 #[.pointer (some ⟨dd, 0, none⟩)] w3 fun e w' => ∃ v, e = .returned v ∧ Hw w3.heap.size w' v (s'.R.map fun b => ((s'.Y b).slot, (s'.Y b).gen)) ∧ Below w3.heap.size w3 w') := by
          rw [HDD.out]
          exact ringD_any x'.d s' w3 HI.out.1.ws.ds (by omega)
        go_wp2_with fail
        refine HR.out.mono ?_
        rintro e w4 ⟨v4, rfl, hv4, hb4⟩
        obtain ⟨hs, ehs⟩ : ∃ hs, hs = s'.R.map fun b => ((s'.Y b).slot, (s'.Y b).gen) := ⟨_, rfl⟩
        rw [← ehs] at hv4
        obtain ⟨ra, rc, ev4, hrc1, hrc2, hrc⟩ := hv4.at
        have hhl : hs.length = s'.R.length := by rw [ehs]; simp
        rw [hhl] at ev4 hrc1 hrc
        obtain ⟨nr, enr⟩ : ∃ nr, nr = s'.R.length := ⟨_, rfl⟩
        rw [← enr] at ev4 hrc1 hrc hrl
        subst ev4
        have HI4 : Hid (Lx w b x' s' P' w4 ∧ (0 < nr → ∃ g, ra = some ⟨g, 0, none⟩ ∧ g < w4.heap.size ∧ ∀ i, i < nr → w4.cell? ⟨g, i * 2, none⟩ = some (.int .i64 (hs.getD i (0, 0)).1) ∧ w4.cell? ⟨g, i * 2 + 1, none⟩ = some (.int .i64 (hs.getD i (0, 0)).2)) ∧ nr = s'.R.length ∧ hs = s'.R.map (fun b => ((s'.Y b).slot, (s'.Y b).gen))) := ⟨HI.out.1.below hb4, hrc, enr, ehs⟩
        clear hv4 hb4 HR cd hrc hhl enr ehs
        have cd : w4.cell? ⟨b, 0, none⟩ = some (.pointer (some ⟨dd, 0, none⟩)) := by rw [HDD.out]; exact HI4.out.1.ws.wr.cd
        obtain ⟨ts, ets⟩ : ∃ z, z = s'.hld.1 := ⟨_, rfl⟩
        obtain ⟨tg, etg⟩ : ∃ z, z = s'.hld.2 := ⟨_, rfl⟩
        obtain ⟨tn, etn⟩ : ∃ z, z = s'.x.turn := ⟨_, rfl⟩
        have HT : Hid (Calls Try.prog 11 #[.pointer (some ⟨dd, 0, none⟩)] w4 fun e w' => e = .returned (.tuple #[.agg #[.int .i64 ts, .int .i64 tg], .bool tn]) ∧ Below w4.heap.size w4 w') := by
          rw [HDD.out, ets, etg, etn]
          exact turnD_any x'.d s' w4 HI4.out.1.ws.ds HI.out.2.1.kp.tr
        have HTT : Hid (ts = s'.hld.1 ∧ tg = s'.hld.2 ∧ tn = s'.x.turn) := ⟨ets, etg, etn⟩
        clear ets etg etn
        go_wp2_with fail
        refine HT.out.mono ?_
        rintro e w5 ⟨rfl, hb5⟩
        clear HT cd
        go_wp2_with fail
        obtain ⟨W6, eW6⟩ : ∃ W6, W6 = w5.alloc (.cells #[.int .i64 ts, .int .i64 tg] 41) := ⟨_, rfl⟩
        obtain ⟨xb, exb⟩ : ∃ xb, xb = w5.heap.size := ⟨_, rfl⟩
        have B56 : Below w5.heap.size w5 W6 := by rw [eW6]; exact (Below.refl _ _).alloc (Nat.le_refl _) _
        have B6 : Below w4.heap.size w4 W6 := hb5.trans (B56.mono hb5.size)
        have hx6 : W6.heap[xb]? = some (.cells #[.int .i64 ts, .int .i64 tg] 41) := by rw [eW6, exb]; exact (MapKept.heap_alloc _ _).1
        rw [← eW6, ← exb]
        have HI6 : Hid (Lx w b x' s' P' W6 ∧ W6.heap[xb]? = some (.cells #[.int .i64 ts, .int .i64 tg] 41) ∧ (0 < nr → ∃ g, ra = some ⟨g, 0, none⟩ ∧ ∀ i, i < nr → W6.cell? ⟨g, i * 2, none⟩ = some (.int .i64 (hs.getD i (0, 0)).1) ∧ W6.cell? ⟨g, i * 2 + 1, none⟩ = some (.int .i64 (hs.getD i (0, 0)).2)) ∧ nr = s'.R.length ∧ ∀ i, i < nr → (hs.getD i (0, 0)).1 = (s'.Y (s'.nth i)).slot ∧ (hs.getD i (0, 0)).2 = (s'.Y (s'.nth i)).gen) := by
          refine ⟨HI4.out.1.below B6, hx6, fun h0 => ?_, HI4.out.2.2.1, fun i hi => ?_⟩
          · obtain ⟨g, e1, e2, e3⟩ := HI4.out.2.1 h0
            exact ⟨g, e1, fun i hi => ⟨cell_later B6 (e3 i hi).1, cell_later B6 (e3 i hi).2⟩⟩
          have hi' : i < s'.R.length := by have := HI4.out.2.2.1; omega
          have : hs.getD i (0, 0) = ((s'.Y (s'.nth i)).slot, (s'.Y (s'.nth i)).gen) := by
            rw [HI4.out.2.2.2]
            simp only [List.getD_eq_getElem?_getD, List.getElem?_map, List.getElem?_eq_getElem hi', Option.map_some, Option.getD_some, Sd.nth]
          rw [this]
          exact ⟨rfl, rfl⟩
        have xc0 : W6.cell? ⟨xb, 0, none⟩ = some (.int .i64 ts) := by simp [World.cell?, hx6]
        have xc1 : W6.cell? ⟨xb, 1, none⟩ = some (.int .i64 tg) := by simp [World.cell?, hx6]
        clear B56 B6 hb5 eW6 exb hx6 HI4
        go_cut [68] from 56 to 68 (fun s68 wx => (∃ nd, wx = W6.drewN nd) ∧ s68 = .bool false)
        case first =>
          have hT := HTT.out
          rcases tn with _ | _
          · clear hT
            go_region
            go_wp2_with fail
            go_meet
            exact ⟨⟨1, rfl⟩, rfl⟩
          have h0 : 0 < nr := by have := HI.out.2.1.kp.tr hT.2.2.symm; have := HI6.out.2.2.2.1; omega
          obtain ⟨rg, rfl, hrc⟩ := HI6.out.2.2.1 h0
          obtain ⟨r0, r1⟩ := hrc 0 h0
          obtain ⟨s0', s1'⟩ := HI6.out.2.2.2.2 0 h0
          have e0 : ts = (s'.Y (s'.nth 0)).slot ∧ tg = (s'.Y (s'.nth 0)).gen := by
            rw [hT.1, hT.2.1]
            unfold Sd.hld
            rw [if_pos hT.2.2.symm]
            exact ⟨rfl, rfl⟩
          rw [s0', ← e0.1] at r0
          rw [s1', ← e0.2] at r1
          simp only [Nat.zero_mul, Nat.zero_add] at r0 r1
          have n0 : ((nr : Int) == 0) = false := beq_eq_false_iff_ne.2 (by omega)
          have n1 : (0 : Int) < (nr : Int) := by omega
          have n2 : 0 < nr := h0
          clear hT s0' s1' e0 hrc
          go_region
          go_wp2_with fail
          go_meet
          exact ⟨⟨1, rfl⟩, rfl⟩
        case rest =>
          obtain ⟨⟨nd, hw⟩, rfl⟩ := hcut
          rw [hw]
          have BW : Hid (Below W6.heap.size W6 (W6.drewN nd)) := bel_drewN (Below.refl _ _) nd
          clear hw wc xc0 xc1
          go_wp2_with fail
          go_loopw [10, 11] (fun q10 q11 wr => ∃ f : Nat, q11 = .int .i64 (f : Int) ∧ f ≤ 4 ∧ q10 = .int .i64 ((sg s'.R c' f : Nat) : Int) ∧ Hid (Below W6.heap.size W6 wr)) (fun _ q11 _ => 4 - (intOf q11).toNat)
          case atStart => exact ⟨0, rfl, by omega, rfl, BW.out⟩
          case round =>
            clear BW
            obtain ⟨f, rfl, hf4, rfl, HB⟩ := hrel
            by_cases hf : f < 4
            · have hfl : (f : Int) < 4 := by omega
              have wf : IntKind.i64.wrap ((f : Int) + 1) = (f : Int) + 1 := by rw [IntKind.wrap_i64]; omega
              obtain ⟨gf, egf⟩ : ∃ z, z = x'.Gen f := ⟨_, rfl⟩
              have HN : Hid (Calls Try.prog 12 #[.pointer (some ⟨b, 0, none⟩), .int .i64 (f : Int)] wr fun e w' => e = .returned (.agg #[.int .i64 (f : Int), .int .i64 gf]) ∧ Below wr.heap.size wr w') := by
                rw [egf]
                exact whandle_any b x' f hf wr (HI6.out.1.below HB.out).ws.wr
              have HG : Hid (gf = x'.Gen f) := egf
              clear egf
              go_wp2_with fail
              refine HN.out.mono ?_
              rintro e w7 ⟨rfl, hb7⟩
              clear HN
              go_wp2_with fail
              obtain ⟨W8, eW8⟩ : ∃ W8, W8 = w7.alloc (.cells #[.int .i64 (f : Int), .int .i64 gf] 41) := ⟨_, rfl⟩
              obtain ⟨hb, ehb⟩ : ∃ hb, hb = w7.heap.size := ⟨_, rfl⟩
              have B78 : Below w7.heap.size w7 W8 := by rw [eW8]; exact (Below.refl _ _).alloc (Nat.le_refl _) _
              have hh8 : W8.heap[hb]? = some (.cells #[.int .i64 (f : Int), .int .i64 gf] 41) := by rw [eW8, ehb]; exact (MapKept.heap_alloc _ _).1
              have B8 : Below W6.heap.size W6 W8 := HB.out.trans ((hb7.mono HB.out.size).trans (B78.mono (Nat.le_trans HB.out.size hb7.size)))
              rw [← eW8, ← ehb]
              have H8 : Hid (Below W6.heap.size W6 W8 ∧ W8.heap[hb]? = some (.cells #[.int .i64 (f : Int), .int .i64 gf] 41)) := ⟨B8, hh8⟩
              have hc0 : W8.cell? ⟨hb, 0, none⟩ = some (.int .i64 (f : Int)) := by simp [World.cell?, hh8]
              have hc1 : W8.cell? ⟨hb, 1, none⟩ = some (.int .i64 gf) := by simp [World.cell?, hh8]
              have hcd : W8.cell? ⟨b, 0, none⟩ = some (.pointer (some ⟨dd, 0, none⟩)) := by rw [HDD.out]; exact (HI6.out.1.below B8).ws.wr.cd
              obtain ⟨dv, edv⟩ : ∃ dv, dv = s'.deficit (c' f) := ⟨_, rfl⟩
              have HDV : Hid (dv = s'.deficit (c' f)) := edv
              have HD : Hid (∀ nd, Calls Try.prog 13 #[.pointer (some ⟨dd, 0, none⟩), .agg #[.int .i64 (f : Int), .int .i64 gf]] (W8.drewN nd) fun e w' => e = .returned (.tuple #[.int .i64 dv, .int .i64 0]) ∧ Hid (Below W8.heap.size W8 w')) := fun nd => by
                have LX := (HI6.out.1.below H8.out.1).below (bel_drewN (Below.refl _ _) nd)
                rw [HDD.out, HG.out, edv]
                refine (deficit_any HI.out.2.1 HI.out.2.2.2.2 LX.ws.ds hf).mono ?_
                rintro e w' ⟨rfl, hb⟩
                exact ⟨rfl, (bel_drewN (Below.refl _ _) nd : Below W8.heap.size W8 (W8.drewN nd)).trans hb⟩
              clear B78 B8 hb7 eW8 ehb hh8 edv
              go_cut [13, 14] from 76 to 84 (fun s13 s14 wx => s13 = .int .i64 dv ∧ s14 = .int .i64 0 ∧ Hid (Below W8.heap.size W8 wx))
              case first =>
                go_region_with (first | (go_at_call 13; refine Calls.mono (HD.out _) ?_; rintro e w9 ⟨rfl, hb9⟩))
                all_goals
                  go_wp2_with fail
                  go_meet
                  exact ⟨rfl, rfl, hb9⟩
              case rest =>
                obtain ⟨rfl, rfl, HB9⟩ := hcut
                clear HD hc0 hc1 hcd
                obtain ⟨w9, ew9⟩ : ∃ w9, w9 = wc := ⟨_, rfl⟩
                rw [← ew9] at HB9 ⊢
                clear ew9 wc
                have H9 : Hid (Below W6.heap.size W6 w9 ∧ w9.heap[hb]? = some (.cells #[.int .i64 (f : Int), .int .i64 gf] 41)) := ⟨H8.out.1.trans (HB9.out.mono H8.out.1.size), (HB9.out.block hb (Array.getElem?_eq_some_iff.1 H8.out.2).1).trans H8.out.2⟩
                have hc0 : w9.cell? ⟨hb, 0, none⟩ = some (.int .i64 (f : Int)) := by simp [World.cell?, H9.out.2]
                have hc1 : w9.cell? ⟨hb, 1, none⟩ = some (.int .i64 gf) := by simp [World.cell?, H9.out.2]
                clear HB9
                go_wp2_with fail
                go_loopw [15, 16] (fun q15 q16 wz => ∃ j : Nat, q16 = .int .i64 (j : Int) ∧ j ≤ nr ∧ q15 = .int .i64 (((s'.R.take j).count (c' f) : Nat) : Int) ∧ ∃ nd, wz = w9.drewN nd) (fun _ q16 _ => nr - (intOf q16).toNat)
                case atStart => exact ⟨0, rfl, by omega, by simp, 0, rfl⟩
                case round =>
                  obtain ⟨j, rfl, hj, rfl, nd9, rfl⟩ := hrel
                  obtain ⟨ct, ect⟩ : ∃ ct, ct = (s'.R.take j).count (c' f) := ⟨_, rfl⟩
                  have hct : ct ≤ 1000 := by
                    rw [ect]
                    have h1 : (s'.R.take j).count (c' f) ≤ (s'.R.take j).length := List.count_le_length
                    rw [List.length_take] at h1
                    omega
                  have HCT : Hid (ct = (s'.R.take j).count (c' f)) := ect
                  rw [← ect]
                  clear ect
                  by_cases hjn : j < nr
                  · have hjl : (j : Int) < (nr : Int) := by omega
                    obtain ⟨rg, rfl, hrc⟩ := HI6.out.2.2.1 (by omega)
                    obtain ⟨r0, r1⟩ := hrc j hjn
                    obtain ⟨e0, e1⟩ := HI6.out.2.2.2.2 j hjn
                    rw [e0] at r0
                    rw [e1] at r1
                    have r0 := cell_later H9.out.1 r0
                    have r1 := cell_later H9.out.1 r1
                    have hjr : j < s'.R.length := by have := HI6.out.2.2.2.1; omega
                    obtain ⟨q1, q2⟩ := ring_same HI.out.2.1 HI6.out.1.ws.ds (nth_mem hjr) hf
                    have hct2 := count_take (b := c' f) hjr
                    have hnth : s'.nth j = s'.R.getD j 0 := rfl
                    have wj : IntKind.i64.wrap ((j : Int) + 1) = (j : Int) + 1 := by rw [IntKind.wrap_i64]; omega
                    have wt : IntKind.i64.wrap ((ct : Int) + 1) = (ct : Int) + 1 := by rw [IntKind.wrap_i64]; omega
                    by_cases ec : s'.nth j = c' f
                    · obtain ⟨q3, q4⟩ := q1 ec
                      rw [← HG.out] at q4
                      rw [q3] at r0
                      rw [q4] at r1
                      have HQ : Hid ((s'.R.take (j + 1)).count (c' f) = ct + 1) := by
                        show _ = _
                        rw [hct2, ← hnth, if_pos ec, HCT.out]
                      clear e0 e1 q1 q2 q3 q4 hct2 hnth ec hrc
                      go_wp2_with fail
                      go_region
                      go_wp2_with fail
                      go_roundw
                      case rel => exact ⟨j + 1, by go_num, by omega, by rw [HQ.out]; go_num, _, rfl⟩
                      case measure => simp [intOf]; omega
                    have q3 := q2 ec
                    obtain ⟨a0, ea0⟩ : ∃ z, z = (s'.Y (s'.nth j)).slot := ⟨_, rfl⟩
                    obtain ⟨a1, ea1⟩ : ∃ z, z = (s'.Y (s'.nth j)).gen := ⟨_, rfl⟩
                    rw [← ea0] at r0 q3
                    rw [← ea1] at r1
                    have HQ : Hid ((s'.R.take (j + 1)).count (c' f) = ct) := by
                      show _ = _
                      rw [hct2, ← hnth, if_neg ec, HCT.out]
                      rfl
                    have q5 : (a0 == (f : Int)) = false := beq_eq_false_iff_ne.2 q3
                    clear e0 e1 q1 q2 hct2 hnth ec hrc ea0 ea1
                    go_wp2_with fail
                    go_region
                    go_wp2_with fail
                    go_roundw
                    case rel => exact ⟨j + 1, by go_num, by omega, by rw [HQ.out], _, rfl⟩
                    case measure => simp [intOf]; omega
                  have ej : j = nr := by omega
                  have hcf : ct = s'.R.count (c' f) := by
                    have h1 := HI6.out.2.2.2.1
                    rw [HCT.out, ej, List.take_of_length_le (by omega)]
                  have LX := (HI6.out.1.below H9.out.1).below (bel_drewN (Below.refl _ _) nd9)
                  obtain ⟨W9, eW9⟩ : ∃ W9, W9 = w9.drewN nd9 := ⟨_, rfl⟩
                  rw [← eW9] at LX ⊢
                  have HW9 : Hid (Below W6.heap.size W6 W9) := by rw [eW9]; exact H9.out.1.trans (bel_drewN (Below.refl _ _) nd9)
                  have hc0 : W9.cell? ⟨hb, 0, none⟩ = some (.int .i64 (f : Int)) := by rw [eW9]; exact hc0
                  have hc1 : W9.cell? ⟨hb, 1, none⟩ = some (.int .i64 gf) := by rw [eW9]; exact hc1
                  have xc0 : W9.cell? ⟨xb, 0, none⟩ = some (.int .i64 ts) := cell_later HW9.out (by simp [World.cell?, HI6.out.2.1])
                  have xc1 : W9.cell? ⟨xb, 1, none⟩ = some (.int .i64 tg) := cell_later HW9.out (by simp [World.cell?, HI6.out.2.1])
                  obtain ⟨la, lc, e5, e6, e7⟩ := LX.ws.ls f hf
                  have c5 := LX.ws.wr.cL hf
                  rw [e5] at c5
                  have c1 := LX.ws.wr.cQ hf
                  have c19 := LX.ws.wr.c19
                  rw [HI.out.2.2.1] at c19
                  obtain ⟨d0, d1, d2, d3⟩ := HI.out.2.1.deficit HI.out.2.2.2.1 hf
                  rw [← HDV.out] at d0 d1 d2 d3
                  have hqf := (HI.out.2.1.qn f hf).2
                  obtain ⟨qf, eqf⟩ : ∃ z, z = x'.Q f := ⟨_, rfl⟩
                  rw [← eqf] at c1 d1 hqf
                  have hm1 := HI.out.2.2.2
                  obtain ⟨y2, ey2⟩ : ∃ z, z = qf + m + 1 := ⟨_, rfl⟩
                  have w1 : IntKind.i64.wrap (qf + m) = qf + m := by rw [IntKind.wrap_i64]; omega
                  have w2 : IntKind.i64.wrap (qf + m + 1) = y2 := by rw [IntKind.wrap_i64, ey2]; omega
                  have hcnt := HI.out.2.1.cnt hf
                  rw [← hcf] at hcnt
                  have hsl := sg_le s'.R c' f
                  have hsl2 : sg s'.R c' f ≤ 4000 := by
                    have h1 := HI6.out.2.2.2.1
                    have : f * s'.R.length ≤ 3 * 1000 := Nat.mul_le_mul (by omega) (by omega)
                    omega
                  have hsg1 : sg s'.R c' (f + 1) = sg s'.R c' f + ct := by rw [hcf]; rfl
                  have g1 : ¬ dv < 0 := by omega
                  have g2 : decide (dv < 0) = false := decide_eq_false g1
                  have g3 : ¬ y2 ≤ dv := by omega
                  have g4 : decide (y2 ≤ dv) = false := decide_eq_false g3
                  have HSG : Hid (sg s'.R c' (f + 1) = sg s'.R c' f + ct) := hsg1
                  have hjl : ¬ (j : Int) < (nr : Int) := by omega
                  clear hcf e5 e6 ey2 eqf hsl hsg1 eW9 LX d0 d1 hqf HCT ej hjn hct hj
                  by_cases hP : P' f = []
                  · rw [if_pos hP] at hcnt
                    subst hcnt
                    have hd := d2 hP
                    subst hd
                    rw [hP] at c5
                    simp only [List.length_nil] at c5
                    have wn : IntKind.i64.wrap ((sg s'.R c' f : Nat) : Int) = ((sg s'.R c' f : Nat) : Int) := by rw [IntKind.wrap_i64]; omega
                    clear d2 d3 e7 hsl2 hP
                    go_wp2_with fail
                    go_region
                    go_wp2_with fail
                    go_roundw
                    case rel => exact ⟨f + 1, by go_num, by omega, by rw [HSG.out]; rfl, HW9.out.trans (bel_drew (Below.refl _ _))⟩
                    case measure => simp [intOf]; omega
                  rw [if_neg hP] at hcnt
                  subst hcnt
                  have hd := d3 hP
                  have hlp : 0 < (P' f).length := List.length_pos_iff.2 hP
                  obtain ⟨gl, ol, rfl, _, _, e8⟩ := e7 hlp
                  have c6 := e8 0 hlp 3 (by omega)
                  have eh : (P' f).getD 0 Pk.zero = (P' f).headD Pk.zero := by
                    cases P' f with
                    | nil => rfl
                    | cons p L => rfl
                  rw [eh] at c6
                  obtain ⟨hz, ehz⟩ : ∃ z, z = ((P' f).headD Pk.zero).size := ⟨_, rfl⟩
                  have c7 : W9.cell? ⟨gl, ol + 3, none⟩ = some (.int .i64 hz) := by
                    rw [ehz]
                    simpa [encPk] using c6
                  rw [← ehz] at hd
                  obtain ⟨nl, enl⟩ : ∃ nl, nl = (P' f).length := ⟨_, rfl⟩
                  rw [← enl] at c5 hlp
                  have n1 : (0 : Int) < (nl : Int) := by omega
                  have n2 : decide ((0 : Int) < (nl : Int)) = true := decide_eq_true n1
                  have n3 : 0 < nl := hlp
                  have wn : IntKind.i64.wrap (((sg s'.R c' f : Nat) : Int) + 1) = ((sg s'.R c' f : Nat) : Int) + 1 := by rw [IntKind.wrap_i64]; omega
                  clear d2 d3 e7 hsl2 hP e8 c6 eh ehz enl
                  go_wp2_with fail
                  go_region
                  go_upto_region 28 with fail
                  clear c1 c19 w1 w2 g1 g2 g3 g4
                  have hT := HTT.out
                  have hR0 : s'.x.turn = true → s'.nth 0 ∈ s'.R := fun e => nth_mem (HI.out.2.1.kp.tr e)
                  have hLX := HI6.out.1.ws.ds
                  by_cases hh : s'.holds (c' f)
                  · obtain ⟨h1, h2⟩ := hh
                    obtain ⟨q1, _⟩ := ring_same HI.out.2.1 hLX (hR0 h1) hf
                    obtain ⟨q3, q4⟩ := q1 h2
                    have et : tn = true := hT.2.2.trans h1
                    have e1 : ts = (f : Int) := by
                      rw [hT.1]
                      unfold Sd.hld
                      rw [if_pos h1]
                      exact q3
                    have e2 : tg = gf := by
                      rw [hT.2.1, HG.out]
                      unfold Sd.hld
                      rw [if_pos h1]
                      exact q4
                    subst et
                    rw [e1] at xc0
                    rw [e2] at xc1
                    clear hT hR0 hLX h1 h2 q1 q3 q4 e1 e2 hd
                    go_wp2_with fail
                    go_roundw
                    case rel => exact ⟨f + 1, by go_num, by omega, by rw [HSG.out]; go_num, HW9.out.trans (bel_drew (Below.refl _ _))⟩
                    case measure => simp [intOf]; omega
                  have hd' := hd hh
                  have g5 : ¬ hz ≤ dv := by omega
                  have g6 : decide (hz ≤ dv) = false := decide_eq_false g5
                  rcases tn with _ | _
                  · clear hT hR0 hLX hh hd hd' xc0 xc1 hc0 hc1
                    go_wp2_with fail
                    go_roundw
                    case rel => exact ⟨f + 1, by go_num, by omega, by rw [HSG.out]; go_num, HW9.out.trans (bel_drew (Below.refl _ _))⟩
                    case measure => simp [intOf]; omega
                  have h1 : s'.x.turn = true := hT.2.2.symm
                  have h2 : ¬ s'.nth 0 = c' f := fun e => hh ⟨h1, e⟩
                  obtain ⟨_, q2⟩ := ring_same HI.out.2.1 hLX (hR0 h1) hf
                  have q3 := q2 h2
                  have e1 : ts = (s'.Y (s'.nth 0)).slot := by
                    rw [hT.1]
                    unfold Sd.hld
                    rw [if_pos h1]
                  rw [← e1] at q3
                  have q5 : (ts == (f : Int)) = false := beq_eq_false_iff_ne.2 q3
                  clear hT hR0 hLX hh hd hd' h1 h2 q2 e1
                  go_wp2_with fail
                  go_roundw
                  case rel => exact ⟨f + 1, by go_num, by omega, by rw [HSG.out]; go_num, HW9.out.trans (bel_drew (Below.refl _ _))⟩
                  case measure => simp [intOf]; omega
            have ef : f = 4 := by omega
            subst ef
            have hsg : ((sg s'.R c' 4 : Nat) : Int) = (nr : Int) := by rw [sg_all HI.out.2.1, HI6.out.2.2.2.1]
            go_wp2_with fail
            go_roundw
            case rel => exact ⟨k + 1, x', s', P', c', by go_num, by have := HKK.out; omega, by have := HKK.out; omega, HI6.out.1.below HB.out, by rw [HI.out.2.2.1]; exact HI.out.2.1, by rw [HI.out.2.2.1]; exact HI.out.2.2.2⟩
            case measure => have := HKK.out.2; simp [intOf]; omega
      rw [decide_eq_false hkk]
      go_wp2_with fail
      exact bodyPost_ret (v := .bool true) (by simp [results, Try.results4, go_sem]) rfl ⟨rfl, hI.out.1.bel⟩
end Go.Proofs.Ytcndbmccediknaa
namespace Go.Proofs.Ytcndbmccediknaa
open Go.RowKit Go.ChangeShapes
set_option maxRecDepth 100000
set_option linter.unusedVariables false
theorem mv_add_more (a : Addr) (m j : Nat) : (a.add m).add j = a.add (m + j) := by
  unfold Addr.add
  rcases Nat.eq_zero_or_pos m with e | e
  · subst e; simp
  rcases Nat.eq_zero_or_pos j with e2 | e2
  · subst e2; simp
  rw [if_neg (by omega), if_neg (by omega), if_neg (by omega)]
  simp [Nat.add_assoc]
theorem mv_steps {K : Nat} {H : Type} {enc : TypeId × Value → H} {P : Program} {w : World} {base : Nat} {spare : Nat → Bool} {held : Bool} {t e : TypeId} {fuel : Nat} {cs : List Value} {x : DataW H × List MemPlace} {fs : Array Field}
    (ht : P.underlying t = some (.slice e)) (he : P.underlying e = some (.struct fs)) (ce : P.cellsOf e = K) (hsz : fs.size = K)
    (hf : ∀ j, j < K → ∃ f, fs[j]? = some f ∧ f.offset = j ∧ P.cellsOf f.type = 1 ∧ P.underlying f.type = some (.int .i64)) (h : DataW.trod enc P w base spare held fuel t cs = some x) :
    cs = [.slice none 0 0] ∨ ∃ (a : Addr) (len cap : Nat), cs = [.slice (some a) len cap] ∧ len ≤ cap ∧ cap ≤ maxLen ∧ ∀ i j, i < len → j < K → ∃ v, w.cell? (a.add (i * K + j)) = some (.int .i64 v) ∧ (Lit.int .i64 v).wf = true := by
  rcases Deep.open_slice ht h with ⟨h0, _⟩ | ⟨a, len, cap, m, n, D, Pl, rfl, hb, hl, hm, hmm, _, hx⟩
  · exact .inl h0
  refine .inr ⟨a, len, cap, rfl, hl, hm, fun i j hi hj => ?_⟩
  have hlm : len ≤ m := by rw [hmm]; split <;> omega
  obtain ⟨cs', h1, h2⟩ := hx i (by omega)
  rw [ce] at h1
  obtain ⟨_, hlen, hcell⟩ := World.cells?_some h1
  obtain ⟨xs, k, _, _, _, hxl, hff⟩ := DataW.trod_struct he h2
  obtain ⟨f, f1, f2, f3, f4⟩ := hf j hj
  have g := hff j f f1
  rw [f2, f3] at g
  have hxj : ∃ y, xs[j]? = some y := ⟨_, List.getElem?_eq_getElem (by omega)⟩
  obtain ⟨y, hy⟩ := hxj
  rw [hy] at g
  obtain ⟨v, hv, _, hw⟩ := DataW.trod_int f4 g
  refine ⟨v, ?_, hw⟩
  have e1 := hcell j hj
  rw [mv_add_more] at e1
  rw [e1]
  have e2 := congrArg (fun l => l[0]?) hv
  simpa using e2
theorem mv_of {w : World} {a : Addr} {len : Nat} (h : ∀ i j, i < len → j < 3 → ∃ v, w.cell? (a.add (i * 3 + j)) = some (.int .i64 v) ∧ (Lit.int .i64 v).wf = true) :
    ∃ F, MvIn w (some a) len F := by
  refine ⟨fun i j => intOf ((w.cell? (a.add (i * 3 + j))).getD undef), ?_⟩
  rcases Nat.eq_zero_or_pos len with e | e
  · exact .inl e
  obtain ⟨b, off, spot⟩ := a
  obtain ⟨v, hc, _⟩ := h 0 0 e (by omega)
  have hspot : spot = none := by simpa [Addr.add] using World.cell?_spot hc
  subst hspot
  refine .inr ⟨b, off, rfl, fun i hi j hj => ?_⟩
  obtain ⟨v, hv, _⟩ := h i j hi hj
  rw [addr_add] at hv
  have e3 : off + i * 3 + j = off + (i * 3 + j) := by omega
  rw [e3, hv]
  show some (Value.int IntKind.i64 v) = some (Value.int IntKind.i64 (intOf ((w.cell? (Addr.add ⟨b, off, none⟩ (i * 3 + j))).getD undef)))
  rw [addr_add, hv]
  rfl
theorem moves_of {H : Type} {enc : TypeId × Value → H} {w : World} {base : Nat} {spare : Nat → Bool} {held : Bool} {fuel : Nat} {a : Option Addr} {len cap : Nat} {x : DataW H × List MemPlace} (h : DataW.trod enc Try.prog w base spare held fuel 23 (Value.slice a len cap).cells.toList = some x) : ∃ F, MvIn w a len F := by
  rcases mv_steps (K := 3) Try.underlying23 Try.underlying28 (by kernel_rfl) rfl (fun j hj => match j, hj with
    | 0, _ => ⟨_, rfl, rfl, by kernel_rfl, by kernel_rfl⟩
    | 1, _ => ⟨_, rfl, rfl, by kernel_rfl, by kernel_rfl⟩
    | 2, _ => ⟨_, rfl, rfl, by kernel_rfl, by kernel_rfl⟩) h with hcs | ⟨y, l, c, hcs, hl, hm, hcell⟩
  · simp [Value.cells] at hcs
    obtain ⟨rfl, rfl, rfl⟩ := hcs
    exact ⟨fun _ _ => 0, .inl rfl⟩
  simp [Value.cells] at hcs
  obtain ⟨rfl, rfl, rfl⟩ := hcs
  exact mv_of hcell
theorem quanta_of {W : World} {H : Type} {enc : TypeId × Value → H} {base : Nat} {v : Value} {d : DataW H} {ps : List MemPlace} (hval : Value.okWide Try.prog W .any base 22 v) (h : DataW.Trod enc Try.prog W 0 (fun _ => true) true 22 v d ps) :
    ∃ Q : Nat → Int, v = .agg #[.int .i64 (Q 0), .int .i64 (Q 1), .int .i64 (Q 2), .int .i64 (Q 3)] := by
  obtain ⟨cs, rfl, hsz, _⟩ : ∃ cs, v = .agg cs ∧ cs.size = Try.prog.cellsOf 22 ∧ Row.okWide Try.prog W .any base 22 cs := by
    simpa [Value.okWide, Try.underlying22] using hval
  have c4 : Try.prog.cellsOf 22 = 4 := by kernel_rfl
  have c1 : Try.prog.cellsOf 3 = 1 := by kernel_rfl
  rw [c4] at hsz
  obtain ⟨l⟩ := cs
  obtain ⟨x0, x1, x2, x3, rfl⟩ : ∃ x0 x1 x2 x3, l = [x0, x1, x2, x3] := by
    match l, hsz with
    | [x0, x1, x2, x3], _ => exact ⟨x0, x1, x2, x3, rfl⟩
  obtain ⟨fuel, hf⟩ := h
  obtain ⟨y0, y1, y2, y3, m, hx, hy0, hy1, hy2, hy3⟩ := trod_array4 Try.underlying22 c1 hf
  obtain ⟨z0, e0, rfl, _⟩ := DataW.trod_int Try.underlying3 hy0
  obtain ⟨z1, e1, rfl, _⟩ := DataW.trod_int Try.underlying3 hy1
  obtain ⟨z2, e2, rfl, _⟩ := DataW.trod_int Try.underlying3 hy2
  obtain ⟨z3, e3, rfl, _⟩ := DataW.trod_int Try.underlying3 hy3
  simp at e0 e1 e2 e3
  subst e0 e1 e2 e3
  exact ⟨fun k => if k = 0 then z0 else if k = 1 then z1 else if k = 2 then z2 else z3, rfl⟩
end Go.Proofs.Ytcndbmccediknaa
