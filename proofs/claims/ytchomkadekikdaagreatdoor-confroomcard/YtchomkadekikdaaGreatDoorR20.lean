/- Contracts of the program's functions, part 20: own work, joined in build order. -/
import Derived.Test.YtchomkadekikdaaGreatDoorR19
namespace Go.Proofs.YtchomkadekikdaaGreatDoor
open Go.RowKit
set_option maxRecDepth 100000
set_option linter.unusedVariables false
theorem nodes_ok {F : Nat → Nat → Int} {n : Nat} (h : nodesE F n = 0) : 2 ≤ n ∧ n ≤ 32 ∧ firstE F n = 0 := by
  unfold nodesE at h
  split at h
  · omega
  split at h
  · omega
  split at h
  · omega
  rename_i h1 h2 h3
  have q1 := hld_yes (show hld 1 32 (n : Int) = true by simpa using h1)
  have f0 : firstE F n = 0 := by omega
  have q2 : kids F n = true := by simpa using h3
  refine ⟨?_, by omega, f0⟩
  rcases Nat.lt_or_ge 1 n with q | q
  · omega
  exfalso
  obtain rfl : n = 1 := by omega
  have r := nodeE_root (firstE_none f0 0 (by omega))
  unfold kids at q2
  have := (of_decide_eq_true q2) 0 (by omega) r.1
  simp [cntP] at this
theorem cfn_three (w : World) (a b c : Int) (t : TypeId) (i : Nat) (hi : i < 3) : (w.alloc (.cells #[.int .i64 a, .int .i64 b, .int .i64 c] t)).cell? ⟨w.heap.size, 0 + i, none⟩ = some (.int .i64 ([a, b, c].getD i 0)) := by
  match i, hi with
  | 0, _ => simp
  | 1, _ => simp
  | 2, _ => simp
def nodesT (F : Nat → Nat → Int) : Nat → List ByteArray
  | 0 => []
  | k + 1 => nodesT F k ++ ([⟨#[110, 111, 100, 101]⟩, kindT (F (k + 1) 0).toNat] ++ [itT (F (k + 1) 1), itT (F (k + 1) 2), itT (F (k + 1) 3)])
theorem nodesT_len (F : Nat → Nat → Int) (k : Nat) : (nodesT F k).length = 5 * k := by
  induction k with
  | zero => rfl
  | succ k ih => rw [nodesT, List.length_append, ih]; simp; omega
theorem nodesT_le {F : Nat → Nat → Int} {N : Nat} (wf : ∀ i j, i < N → j < 4 → -9223372036854775808 ≤ F i j ∧ F i j ≤ 9223372036854775807) (x : ByteArray) : ∀ k, k < N → x ∈ nodesT F k → x.size ≤ 100
  | 0, _, h => by simp [nodesT] at h
  | k + 1, hk, h => by
    rw [nodesT] at h
    rcases List.mem_append.1 h with q | q
    · exact nodesT_le wf x k (by omega) q
    have a1 := wf (k + 1) 1 hk (by omega)
    have a2 := wf (k + 1) 2 hk (by omega)
    have a3 := wf (k + 1) 3 hk (by omega)
    simp only [List.cons_append, List.nil_append, List.mem_cons, List.not_mem_nil, or_false] at q
    rcases q with rfl | rfl | rfl | rfl | rfl
    · decide
    · exact kindT_le _
    · exact itT_le _ a1.1 a1.2
    · exact itT_le _ a2.1 a2.2
    exact itT_le _ a3.1 a3.2
set_option maxHeartbeats 1000000 in
theorem print_tree (R M C Fl A : Int) (b o n c : Nat) (F : Nat → Nat → Int) (w : World) (h : NSl w (some ⟨b, o, none⟩) (n + 1) (c + 1) F) (hk : KN w) (ht : Lib.TabIs Tryz.prog w "internal/strconv.uint64pow10" .u64 Lib.pow10Tab) :
    Calls Tryz.prog 7 #[.agg #[.int .i64 6, .int .i64 R, .int .i64 M, .int .i64 C, .int .i64 Fl, .int .i64 A, .slice (some ⟨b, o, none⟩) (n + 1) (c + 1)]] w fun e w' => ∃ s, e = .returned (.tuple #[.string s, .int .i64 (checkE 6 R M C Fl A F (n + 1))]) ∧ Below w.heap.size w w' ∧ (checkE 6 R M C Fl A F (n + 1) = 0 → s = ⟨(Lib.join ((headT 6 R M C Fl A ++ nodesT F n).map (·.data.toList)) [32]).toArray⟩) := by
  obtain ⟨ce, hce⟩ : ∃ ce, checkE 6 R M C Fl A F (n + 1) = ce := ⟨_, rfl⟩
  have HN : Hid _ := h
  have HK : Hid _ := hk
  have HT : Hid _ := Lib.tabBelow_of_tabIs ht
  have HCE : Hid _ := hce
  have hl0 : n ≤ 9223372036854775807 := by have := h.le; have := h.lim; omega
  have hle : n ≤ c := by have := h.le; omega
  clear h hce hk ht
  go_enter Tryz.func7, Tryz.ntmps7
  go_wp2_with fail
  have S0 : Hid _ := (ce_start w).box7 (.int .i64 6) (.int .i64 R) (.int .i64 M) (.int .i64 C) (.int .i64 Fl) (.int .i64 A) (.slice (some ⟨b, o, none⟩) (n + 1) (c + 1)) 24 _ rfl
  refine (check_any 6 R M C Fl A (some ⟨b, o, none⟩) (n + 1) (c + 1) F _ (HN.out.go S0.out.bel)).mono ?_
  rintro e w1 ⟨rfl, hb⟩
  rw [HCE.out]
  obtain ⟨g, eg⟩ : ∃ g, g = w.heap.size := ⟨_, rfl⟩
  rw [← eg] at S0
  rw [← eg]
  clear eg
  have S1 : Hid _ := S0.out.go hb
  clear hb S0
  by_cases c0 : ce = 0
  · have HZ : Hid _ := checkE_zero (HCE.out.trans c0)
    subst c0
    have x0 := S1.out.cel g 0 (.int .i64 6)
    have x1 := S1.out.cel g 1 (.int .i64 R)
    have x2 := S1.out.cel g 2 (.int .i64 M)
    have x3 := S1.out.cel g 3 (.int .i64 C)
    have x4 := S1.out.cel g 4 (.int .i64 Fl)
    have x5 := S1.out.cel g 5 (.int .i64 A)
    have x6 := S1.out.cel g 6 (.slice (some ⟨b, o, none⟩) (n + 1) (c + 1))
    have hl := S1.out.lt g 0 (.int .i64 6)
    have hk0 := KN.go HK.out S1.out.bel 6 (by omega)
    have HI : Hid (∀ i, i < 5 → -9223372036854775808 ≤ setI R M C Fl A i ∧ setI R M C Fl A i ≤ 9223372036854775807) := by
      obtain ⟨b1, b2, b3, b4, b5, b6, _⟩ := HZ.out
      have b7 := fA1_le 6
      intro i hi
      match i, hi with
      | 0, _ => show _ ≤ R ∧ R ≤ _; omega
      | 1, _ => show _ ≤ M ∧ M ≤ _; omega
      | 2, _ => show _ ≤ C ∧ C ≤ _; omega
      | 3, _ => show _ ≤ Fl ∧ Fl ≤ _; omega
      | 4, _ => show _ ≤ A ∧ A ≤ _; omega
    have HNZ : Hid _ := nodes_ok (HZ.out.2.2.2.2.2.2.1 rfl)
    have n2 : 1 ≤ n := by have := HNZ.out.1; omega
    have n3 : n < 32 := by have := HNZ.out.2.1; omega
    have hc0 : ¬ c = 0 := by omega
    have hsz1 := S1.out.bel.size
    go_wp2_with fail
    have O2 : Hid _ := pair_or w1 ⟨#[107, 105, 110, 100]⟩ (kindT 6) (.cells #[.int .i64 R, .int .i64 M, .int .i64 C, .int .i64 Fl, .int .i64 A] 3) w.heap.size hsz1
    have S2 : Hid _ := bc_al (o := .cells #[.int .i64 R, .int .i64 M, .int .i64 C, .int .i64 Fl, .int .i64 A] 3) (bc_al (o := .cells #[.string ⟨#[107, 105, 110, 100]⟩, .string (kindT 6)] 9) S1.out.bel)
    refine (digits_any (w1.heap.size + 1) 0 5 5 (setI R M C Fl A) _ (by omega) (Nat.le_refl _) (fun i hi => ?_) HI.out (HT.out _ S2.out)).mono ?_
    · have := five_new (w1.alloc (.cells #[.string ⟨#[107, 105, 110, 100]⟩, .string (kindT 6)] 9)) R M C Fl A 3 i hi
      simpa using this
    rintro e w3 ⟨v3, rfl, hO3, hb3⟩
    have O3 : Hid _ := OR.below O2.out hb3
    have S3 : Hid _ := bc_go S2.out hb3
    have T3 : Hid _ := S1.out.bel
    obtain ⟨gv, cv, rfl, hcv, hvv⟩ := OR.row hO3 (by omega)
    have HV3 : Hid _ := hvv
    have x0' := bc_cell hb3 (bc_cell (bc_al (bc_al (bel_refl w1))) x0)
    have x6' := bc_cell hb3 (bc_cell (bc_al (bc_al (bel_refl w1))) x6)
    clear hO3 hb3 O2 S2 hvv x0 x1 x2 x3 x4 x5 x6 hk0
    go_wp2_with fail
    refine (named_any setupN gv 0 5 cv (setT R M C Fl A) w3 (by decide) hcv (by rw [setupN_words]; decide) (by rw [setupN_words]; decide) (by omega) (fun i hi => by rw [Nat.zero_add, HV3.out i hi, setT_at _ _ _ _ _ i hi]) trivial).mono ?_
    rintro e w4 ⟨v4, rfl, hO4, hb4⟩
    rw [show (wordsL setupN).length = 5 by rw [setupN_words]; rfl] at hO4
    obtain ⟨L2, hL2⟩ : ∃ L2, zipT (wordsL setupN) (setT R M C Fl A) 5 = L2 := ⟨_, rfl⟩
    rw [hL2] at hO4
    have HL2 : Hid (L2.length = 10) := by show _ = _; rw [← hL2, zipT_len]
    have HH : Hid (headT 6 R M C Fl A = [⟨#[107, 105, 110, 100]⟩, kindT 6] ++ L2) := by
      show _ = _
      rw [headT, hL2]
      rfl
    obtain ⟨gz, cz, rfl, hcz, hvz⟩ := OR.row hO4 (by have := HL2.out; omega)
    have O4 : Hid _ := OR.below O3.out hb4
    have S4 : Hid _ := bc_go S3.out hb4
    have x0 := bc_cell hb4 x0'
    have x6 := bc_cell hb4 x6'
    have hsz4 := S4.out.size
    have HV4 : Hid _ := hvz
    clear hO4 hb4 O3 S3 hvz HV3 x0' x6' hL2
    have A1 : Hid (∀ j, j < L2.length → w4.cell? ((⟨gz, 0, none⟩ : Addr).add j) = some (tx L2 j)) := fun j hj => by
      rw [show (⟨gz, 0, none⟩ : Addr).add j = ⟨gz, j, none⟩ by simp [Addr.add]; omega]
      exact HV4.out j hj
    have A2 : Hid (0 < L2.length) := by show _ < _; rw [HL2.out]; decide
    have A3 : Hid ([⟨#[107, 105, 110, 100]⟩, kindT 6].length + L2.length ≤ 1099511627776) := by show _ ≤ _; rw [HL2.out]; simp
    go_wp2_with (refine (id ?_ : wpList Tryz.prog _ _ (⟨some 32, _, _, _, _, _⟩ :: _) _ _); refine wpList_append_tx rfl (.tmp 18) (.tmp 31) rfl w.heap.size _ [⟨#[107, 105, 110, 100]⟩, kindT 6] L2 rfl O4.out ⟨gz, 0, none⟩ cz rfl A1.out A2.out A3.out hsz4 ?_)
    intro g5 cap5 w5 ho hg hor hlt5
    obtain ⟨hc5, hv5⟩ := OR.sliced ho (by simp)
    have I5 : Hid _ := hv5
    have IC : Hid _ := hc5
    have B5 : Hid (Below w.heap.size w w5) := Below.grown S4.out hg hsz4 (fun j hj => OR.blk O4.out j hj)
    have x5 := hg.cell x0 (by simp [Value.ownBlock]; omega)
    have x6b := hg.cell x6 (by simp [Value.ownBlock]; omega)
    clear hg hor hv5 hc5 x0 x6 O4 S4
    obtain ⟨L1, hL1⟩ : ∃ L1, L1 = [⟨#[107, 105, 110, 100]⟩, kindT 6] ++ L2 := ⟨_, rfl⟩
    have HH1 : Hid (headT 6 R M C Fl A = L1) := HH.out.trans hL1.symm
    have HLen : Hid (L1.length = 12) := by
      have := HL2.out
      show _ = _
      rw [hL1]
      simp
      omega
    have J5 : Hid (OR w5 9 w.heap.size (.slice (some ⟨g5, 0, none⟩) L1.length cap5) L1.length (tx L1)) := by
      rw [hL1]
      exact ho
    rw [show L2.length + 1 + 1 = L1.length by rw [hL1]; rfl]
    clear ho I5 IC hL1 HH A1 A2 A3 HL2
    go_wp2_with fail
    go_loopw [5, 40] (fun v t wr => ∃ k : Nat, k ≤ n ∧ t = .int .i64 (k : Int) ∧ Hid (OR wr 9 w.heap.size v (L1 ++ nodesT F k).length (tx (L1 ++ nodesT F k)) ∧ Below w.heap.size w wr)) (fun _ t _ => n - (intOf t).toNat)
    case atStart =>
      refine ⟨0, by omega, rfl, ?_, B5.out⟩
      rw [nodesT, List.append_nil]
      exact J5.out
    case round =>
      obtain ⟨k, hkn, rfl, HO⟩ := hrel
      clear J5 x5 x6b
      by_cases e : k = n
      · rw [e] at HO
        rw [e]
        clear e hkn k
        obtain ⟨LT, hLT⟩ : ∃ LT, LT = L1 ++ nodesT F n := ⟨_, rfl⟩
        have HLT : Hid (LT.length = 12 + 5 * n) := by show _ = _; rw [hLT, List.length_append, HLen.out, nodesT_len]
        have HX : Hid (OR wr 9 w.heap.size u5 LT.length (tx LT) ∧ Below w.heap.size w wr) := by rw [hLT]; exact HO
        have HQ : Hid (LT = L1 ++ nodesT F n) := hLT
        clear HO hLT
        rename Hid (OR _ _ _ _ _ _ ∧ _) => HO
        obtain ⟨g7, c7, e7, hc7, hv7⟩ := OR.row HO.out.1 (by have := HLT.out; omega)
        subst e7
        have HV7 : Hid _ := hv7
        have lt7 := World.block_lt_of_cell? _ _ (hv7 0 (by have := HLT.out; omega))
        clear hv7
        go_wp2_with fail
        refine (Tryz.strings_Join g7 0 c7 LT ⟨#[32]⟩ wr (fun j x hj => ?_) lt7 (by have := HLT.out; omega) hc7 (join_small _ (by have := HLT.out; omega) ?_)).mono ?_
        · have lj : j < LT.length := by
            rcases Nat.lt_or_ge j LT.length with q | q
            · exact q
            rw [List.getElem?_eq_none q] at hj; cases hj
          rw [Nat.zero_add, HV7.out j lj]
          unfold tx
          rw [List.getD, hj]
          rfl
        · intro x hx
          rw [HQ.out] at hx
          rcases List.mem_append.1 hx with q | q
          · exact headT_le _ _ _ _ _ _ HI.out x (by rw [HH1.out]; exact q)
          exact nodesT_le HN.out.wf x n (by omega) q
        rintro e w8 ⟨rfl, hb8⟩
        have B8 : Hid _ := bc_go HO.out.2 hb8
        clear hb8
        go_wp2_with fail
        exact bodyPost_ret (v := .tuple #[.string ⟨(Lib.join (LT.map (·.data.toList)) [32]).toArray⟩, .int .i64 0]) (by simp [results, Tryz.results7, go_sem]) rfl ⟨_, by rw [HCE.out], B8.out, fun _ => by rw [HH1.out, HQ.out]⟩
      have lk : k < n := by omega
      have NX : Hid _ := nodeE_other (i := k + 1) (by omega) (firstE_none HNZ.out.2.2 (k + 1) (by omega))
      obtain ⟨kq, ekq⟩ : ∃ kq : Nat, F (k + 1) 0 = (kq : Int) := ⟨(F (k + 1) 0).toNat, by have := NX.out.1; omega⟩
      have lkq : kq < 7 := by have := NX.out.2.1; omega
      have W3 : Hid (∀ j, j < 4 → -9223372036854775808 ≤ F (k + 1) j ∧ F (k + 1) j ≤ 9223372036854775807) := fun j hj => HN.out.wf (k + 1) j (by omega) hj
      obtain ⟨p1, e1⟩ : ∃ p1, F (k + 1) 1 = p1 := ⟨_, rfl⟩
      obtain ⟨p2, e2⟩ : ∃ p2, F (k + 1) 2 = p2 := ⟨_, rfl⟩
      obtain ⟨p3, e3⟩ : ∃ p3, F (k + 1) 3 = p3 := ⟨_, rfl⟩
      obtain ⟨b', o', ebo, hc⟩ := HN.out.at (by omega)
      cases ebo
      have x0 : wr.cell? ⟨b, o + 4 + k * 4, none⟩ = some (.int .i64 (kq : Int)) := by
        have := bc_cell HO.out.2 (hc (k + 1) 0 (by omega) (by omega))
        rwa [show o + (k + 1) * 4 + 0 = o + 4 + k * 4 by omega, ekq] at this
      have x1 : wr.cell? ⟨b, o + 4 + k * 4 + 1, none⟩ = some (.int .i64 p1) := by
        have := bc_cell HO.out.2 (hc (k + 1) 1 (by omega) (by omega))
        rwa [show o + (k + 1) * 4 + 1 = o + 4 + k * 4 + 1 by omega, e1] at this
      have x2 : wr.cell? ⟨b, o + 4 + k * 4 + 2, none⟩ = some (.int .i64 p2) := by
        have := bc_cell HO.out.2 (hc (k + 1) 2 (by omega) (by omega))
        rwa [show o + (k + 1) * 4 + 2 = o + 4 + k * 4 + 2 by omega, e2] at this
      have x3 : wr.cell? ⟨b, o + 4 + k * 4 + 3, none⟩ = some (.int .i64 p3) := by
        have := bc_cell HO.out.2 (hc (k + 1) 3 (by omega) (by omega))
        rwa [show o + (k + 1) * 4 + 3 = o + 4 + k * 4 + 3 by omega, e3] at this
      have hkq := KN.go HK.out HO.out.2 kq lkq
      have hz0 : 0 < wr.heap.size := World.block_lt_of_cell? _ _ hkq
      have hsz := HO.out.2.size
      obtain ⟨LK, hLK⟩ : ∃ LK, LK = L1 ++ nodesT F k := ⟨_, rfl⟩
      have HX : Hid (OR wr 9 w.heap.size u5 LK.length (tx LK) ∧ Below w.heap.size w wr) := by rw [hLK]; exact HO
      have HLT : Hid (LK.length = 12 + 5 * k) := by show _ = _; rw [hLK, List.length_append, HLen.out, nodesT_len]
      have HQ : Hid (L1 ++ nodesT F (k + 1) = (LK ++ [⟨#[110, 111, 100, 101]⟩, kindT kq]) ++ [itT p1, itT p2, itT p3]) := by
        show _ = _
        rw [nodesT, ekq, e1, e2, e3, hLK]
        simp
      have HP : Hid (∀ i, i < 3 → -9223372036854775808 ≤ [p1, p2, p3].getD i 0 ∧ [p1, p2, p3].getD i 0 ≤ 9223372036854775807) := by
        have a1 := W3.out 1 (by omega)
        have a2 := W3.out 2 (by omega)
        have a3 := W3.out 3 (by omega)
        rw [e1] at a1
        rw [e2] at a2
        rw [e3] at a3
        intro i hi
        match i, hi with
        | 0, _ => exact a1
        | 1, _ => exact a2
        | 2, _ => exact a3
      have HB : Hid (∀ j, u5.ownBlock = some j → w.heap.size ≤ j ∧ j < wr.heap.size) := fun j hj => (OR.owns HX.out.1).lt j hj
      have A3 : Hid (LK.length + ([(⟨#[110, 111, 100, 101]⟩ : ByteArray), kindT kq] : List ByteArray).length ≤ 1099511627776) := by
        show _ ≤ _
        rw [HLT.out]
        simp
        omega
      have A1 : Hid (∀ j, j < ([(⟨#[110, 111, 100, 101]⟩ : ByteArray), kindT kq] : List ByteArray).length → ((wr.alloc (.cells #[.int .i64 (kq : Int), .int .i64 p1, .int .i64 p2, .int .i64 p3] 57)).alloc (.cells #[.string ⟨#[110, 111, 100, 101]⟩, .string (kindT kq)] 9)).cell? ((⟨wr.heap.size + 1, 0, none⟩ : Addr).add j) = some (tx [⟨#[110, 111, 100, 101]⟩, kindT kq] j)) := fun j hj => by
        have := two_new (wr.alloc (.cells #[.int .i64 (kq : Int), .int .i64 p1, .int .i64 p2, .int .i64 p3] 57)) ⟨#[110, 111, 100, 101]⟩ (kindT kq) 9 j hj
        rwa [show (wr.alloc (.cells #[.int .i64 (kq : Int), .int .i64 p1, .int .i64 p2, .int .i64 p3] 57)).heap.size = wr.heap.size + 1 by simp] at this
      have O1 : Hid (OR ((wr.alloc (.cells #[.int .i64 (kq : Int), .int .i64 p1, .int .i64 p2, .int .i64 p3] 57)).alloc (.cells #[.string ⟨#[110, 111, 100, 101]⟩, .string (kindT kq)] 9)) 9 w.heap.size u5 LK.length (tx LK)) := OR.below HX.out.1 (bc_al (bc_al (bel_refl _)))
      clear HO hLK hc NX W3 ekq e1 e2 e3 e
      go_wp2_with (refine (id ?_ : wpList Tryz.prog _ _ (⟨some 50, _, _, _, _, _⟩ :: _) _ _); refine wpList_append_tx rfl (.tmp 44) (.tmp 49) rfl w.heap.size _ LK [⟨#[110, 111, 100, 101]⟩, kindT kq] rfl O1.out ⟨wr.heap.size + 1, 0, none⟩ 2 rfl A1.out (by simp) A3.out (by simp; omega) ?_)
      intro g6 cap6 w6 ho6 hg6 hor6 hlt6
      have y1 : w6.cell? ⟨wr.heap.size, 1, none⟩ = some (.int .i64 p1) := hg6.cell (by simp) (by intro h; have := HB.out wr.heap.size (by first | exact h | exact h.symm); omega)
      have y2 : w6.cell? ⟨wr.heap.size, 2, none⟩ = some (.int .i64 p2) := hg6.cell (by simp) (by intro h; have := HB.out wr.heap.size (by first | exact h | exact h.symm); omega)
      have y3 : w6.cell? ⟨wr.heap.size, 3, none⟩ = some (.int .i64 p3) := hg6.cell (by simp) (by intro h; have := HB.out wr.heap.size (by first | exact h | exact h.symm); omega)
      have B6 : Hid (Below w.heap.size w w6) := Below.grown ((HX.out.2.alloc (by omega) _).alloc (by simp; omega) _) hg6 (by simp; omega) (fun j hj => (HB.out _ hj).1)
      obtain ⟨LM, hLM⟩ : ∃ LM, LM = LK ++ [⟨#[110, 111, 100, 101]⟩, kindT kq] := ⟨_, rfl⟩
      have eL : (LK ++ [⟨#[110, 111, 100, 101]⟩, kindT kq]).length = LK.length + 2 := by simp
      have J6 : Hid (OR w6 9 w.heap.size (.slice (some ⟨g6, 0, none⟩) LM.length cap6) LM.length (tx LM)) := by
        rw [hLM]
        first | exact ho6 | (rw [eL]; exact ho6)
      rw [show LK.length + 2 = LM.length by rw [hLM, eL]]
      have HLM : Hid (LM.length = 14 + 5 * k) := by
        have := HLT.out
        show _ = _
        rw [hLM, eL]
        omega
      have HQ2 : Hid (L1 ++ nodesT F (k + 1) = LM ++ [itT p1, itT p2, itT p3]) := by
        show _ = _
        rw [HQ.out, hLM]
      have hsz6 := B6.out.size
      have l6 : wr.heap.size < w6.heap.size := World.block_lt_of_cell? _ _ y1
      clear ho6 hg6 hor6 hLM eL HQ A1 A3 O1 HB HX x0 x1 x2 x3 hkq HLT
      go_wp2_with fail
      refine (digits_any w6.heap.size 0 3 3 (fun i => [p1, p2, p3].getD i 0) _ (by omega) (Nat.le_refl _) (fun i hi => cfn_three w6 p1 p2 p3 _ i hi) HP.out (HT.out _ (bc_al B6.out))).mono ?_
      rintro e w7 ⟨v7, rfl, hO7, hb7⟩
      obtain ⟨g7, c7, rfl, hc7, hv7⟩ := OR.row hO7 (by omega)
      have J7 : Hid _ := OR.below J6.out (bc_go (bc_al (bel_refl _)) hb7)
      have B7 : Hid _ := bc_go (bc_al B6.out) hb7
      have A7 : Hid (∀ j, j < ([itT p1, itT p2, itT p3] : List ByteArray).length → w7.cell? ((⟨g7, 0, none⟩ : Addr).add j) = some (tx [itT p1, itT p2, itT p3] j)) := fun j hj => by
        rw [show (⟨g7, 0, none⟩ : Addr).add j = ⟨g7, j, none⟩ by simp [Addr.add]; omega, hv7 j hj]
        match j, hj with
        | 0, _ => rfl
        | 1, _ => rfl
        | 2, _ => rfl
      have A8 : Hid (LM.length + ([itT p1, itT p2, itT p3] : List ByteArray).length ≤ 1099511627776) := by
        show _ ≤ _
        rw [HLM.out]
        simp
        omega
      have HB7 : Hid _ := OR.blk J7.out
      have hsz7 := B7.out.size
      clear hO7 hb7 hv7 J6 B6 y1 y2 y3
      go_wp2_with (refine (id ?_ : wpList Tryz.prog _ _ (⟨some 60, _, _, _, _, _⟩ :: _) _ _); refine wpList_append_tx rfl (.tmp 51) (.tmp 59) rfl w.heap.size _ LM [itT p1, itT p2, itT p3] rfl J7.out ⟨g7, 0, none⟩ c7 rfl A7.out (by simp) A8.out hsz7 ?_)
      intro g8 cap8 w8 ho8 hg8 hor8 hlt8
      have B8 : Hid (Below w.heap.size w w8) := Below.grown B7.out hg8 hsz7 (fun j hj => HB7.out _ hj)
      have eM : (LM ++ [itT p1, itT p2, itT p3]).length = LM.length + 3 := by simp
      have J8 : Hid (OR w8 9 w.heap.size (.slice (some ⟨g8, 0, none⟩) (LM.length + 3) cap8) (L1 ++ nodesT F (k + 1)).length (tx (L1 ++ nodesT F (k + 1)))) := by
        rw [HQ2.out, eM]
        first | exact ho8 | (rw [eM] at ho8; exact ho8)
      clear ho8 hg8 hor8 eM
      go_wp2_with fail
      go_roundw
      case rel => exact ⟨k + 1, by omega, by go_num, J8.out, B8.out⟩
      case measure => simp [intOf]; omega
  have d : (ce != 0) = true := by simpa using c0
  have HW : Hid _ := c0
  clear c0
  go_wp2_with fail
  exact bodyPost_ret (v := .tuple #[.string ⟨#[]⟩, .int .i64 ce]) (by simp [results, Tryz.results7, go_sem]) rfl ⟨_, by rw [HCE.out], S1.out.bel, fun q => absurd (HCE.out.symm.trans q) HW.out⟩
set_option maxHeartbeats 1000000 in
theorem exactly_good (s : ByteArray) (p q u : Nat) (w : World) (hs : s.size ≤ 4096) (hT : Tab w) (h1 : npE s = 0) (h2 : npP s = p) (h3 : npQ s = q) (hp : RS p) (hq : RS q) (h4 : tfV p q = u) (h5 : tfOk p q = true) (hu : u < 18446744073709551616) (h6 : ffP u = p) (h7 : ffQ u = q) :
    Calls Tryz.prog 57 #[.string s] w fun e w' => e = .returned (.tuple #[.float .f64 u, .int .i64 0]) ∧ Below w.heap.size w w' := by
  have HT : Hid (Tab w) := hT
  have H1 : Hid (npE s = 0 ∧ npP s = p ∧ npQ s = q) := ⟨h1, h2, h3⟩
  have H2 : Hid (RS p ∧ RS q) := ⟨hp, hq⟩
  have H3 : Hid (tfV p q = u ∧ tfOk p q = true) := ⟨h4, h5⟩
  have H4 : Hid (u < 18446744073709551616 ∧ ffP u = p ∧ ffQ u = q) := ⟨hu, h6, h7⟩
  clear hT h1 h2 h3 hp hq h4 h5 hu h6 h7
  go_enter Tryz.func57, Tryz.ntmps57
  go_wp2_with fail
  refine (nparse_any s w (by omega) HT.out).mono ?_
  rintro e w1 ⟨v1, rfl, hr1, hb1⟩
  rw [H1.out.1]
  rw [H1.out.2.1, H1.out.2.2] at hr1
  obtain ⟨a, n, c, a', n', c', e0, _, _⟩ := hr1.raw
  subst e0
  have S1 : Hid _ := ((sy_start w1).addF hr1).box (.slice a n c) (.slice a' n' c') 68 _ rfl
  have B1 : Hid _ := hb1
  have hq0 := hr1.pos
  clear hr1 hb1
  go_wp2_with fail
  refine (toFloat_any (.agg #[.slice a n c, .slice a' n' c']) p q _ (S1.out.fr _ p q) H2.out.1 H2.out.2 hq0).mono ?_
  rintro e w2 ⟨rfl, hb2⟩
  rw [H3.out.1, H3.out.2]
  have S2 : Hid _ := S1.out.go hb2
  clear hb2 S1
  obtain ⟨g1, eg1⟩ : ∃ g, g = w1.heap.size := ⟨_, rfl⟩
  rw [← eg1] at S2
  rw [← eg1]
  clear eg1
  go_wp2_with fail
  refine (fromFloat_all u _ H4.out.1 (Tab.go HT.out (bc_go B1.out S2.out.bel))).mono ?_
  rintro e w3 ⟨v3, rfl, hr3, hb3⟩
  rw [H4.out.2.1, H4.out.2.2] at hr3
  obtain ⟨b, m, d, b', m', d', e0, _, _⟩ := hr3.raw
  subst e0
  have S3 : Hid _ := ((S2.out.go hb3).addF hr3).box (.slice b m d) (.slice b' m' d') 68 _ rfl
  clear hr3 hb3 S2
  have x0 := S3.out.cel g1 0 (.slice a n c)
  have x1 := S3.out.cel g1 1 (.slice a' n' c')
  go_wp2_with fail
  refine (ratCmp_any (.agg #[.slice b m d, .slice b' m' d']) (.agg #[.slice a n c, .slice a' n' c']) p q p q _ (S3.out.fr _ p q) (S3.out.fr _ p q) H2.out.1 H2.out.2 H2.out.1 H2.out.2).mono ?_
  rintro e w4 ⟨rfl, hb4⟩
  have W4 : Hid (Below w.heap.size w w4) := bc_go B1.out (bc_go S3.out.bel hb4)
  rw [show cmpI (p * q) (p * q) = 0 by simp [cmpI]]
  clear hb4 x0 x1 S3
  go_wp2_with fail
  exact bodyPost_ret (v := .tuple #[.float .f64 u, .int .i64 0]) (by simp [results, Tryz.results57, go_sem]) rfl ⟨rfl, W4.out⟩
def pair2 (x y : Int) (i : Nat) : Int := [x, y].getD i 0
theorem two_at (w : World) (x y : Int) (t : TypeId) (i : Nat) (hi : i < 2) : (w.alloc (.cells #[.int .i64 x, .int .i64 y] t)).cell? ⟨w.heap.size, 0 + i, none⟩ = some (.int .i64 (pair2 x y i)) := by
  match i, hi with
  | 0, _ => simp [pair2]
  | 1, _ => simp [pair2]
def flowT (pw pq pc ps pb pp pn : Int) (T : ByteArray) : List ByteArray := zipT (wordsL flowN) ([itT pw, itT pq, itT pc, itT ps, itT pb] ++ [T] ++ [itT pp, itT pn]) 8
theorem or_five {w : World} {base : Nat} {v : Value} {pw pq pc ps pb : Int} (h : OR w 9 base v 5 (fun i => .string (itT (setI pw pq pc ps pb i)))) : OR w 9 base v ([itT pw, itT pq, itT pc, itT ps, itT pb] : List ByteArray).length (tx [itT pw, itT pq, itT pc, itT ps, itT pb]) := by
  rcases h with ⟨_, q⟩ | ⟨g, cap, f, e, h1, h2, h3, h4, h5⟩
  · cases q
  refine .inr ⟨g, cap, f, e, h1, h2, h3, h4, fun i hi => (h5 i hi).trans ?_⟩
  match i, hi with
  | 0, _ => rfl
  | 1, _ => rfl
  | 2, _ => rfl
  | 3, _ => rfl
  | 4, _ => rfl
theorem one_new (w : World) (x : ByteArray) (t : TypeId) (j : Nat) (hj : j < [x].length) : (w.alloc (.cells #[.string x] t)).cell? ((⟨w.heap.size, 0, none⟩ : Addr).add j) = some (tx [x] j) := by
  match j, hj with
  | 0, _ => simp [Addr.add, tx]
theorem zip_le (A Bs : List ByteArray) (hA : ∀ x ∈ A, x.size ≤ 4000) (hB : ∀ x ∈ Bs, x.size ≤ 4000) (k : Nat) : ∀ x ∈ zipT A Bs k, x.size ≤ 4000 := by
  induction k with
  | zero => intro x hx; cases hx
  | succ k ih =>
    intro x hx
    rw [zipT] at hx
    rcases List.mem_append.1 hx with q | q
    · exact ih x q
    have g : ∀ (l : List ByteArray), (∀ x ∈ l, x.size ≤ 4000) → (l.getD k ⟨#[]⟩).size ≤ 4000 := fun l hl => by
      rw [List.getD]
      cases e : l[k]? with
      | none => show (⟨#[]⟩ : ByteArray).size ≤ 4000; decide
      | some y => exact hl y (List.mem_of_getElem? e)
    simp only [List.mem_cons, List.not_mem_nil, or_false] at q
    rcases q with rfl | rfl
    · exact g _ hA
    exact g _ hB
theorem lens_le2 (L : List ByteArray) (h : ∀ x ∈ L, x.size ≤ 4000) : Lib.lens (L.map (·.data.toList)) ≤ 4000 * L.length := by
  induction L with
  | nil => simp [Lib.lens]
  | cons x l ih =>
    have h1 := ih fun y hy => h y (List.mem_cons_of_mem _ hy)
    have h2 := h x List.mem_cons_self
    have h3 : x.data.toList.length = x.size := by rw [Array.length_toList]; rfl
    simp only [Lib.lens, List.map_cons, List.sum_cons, List.length_cons] at h1 ⊢
    omega
theorem join_small2 (L : List ByteArray) (hl : L.length ≤ 1000) (h : ∀ x ∈ L, x.size ≤ 4000) : (Lib.join (L.map (·.data.toList)) [32]).length ≤ 140737488355328 := by
  cases L with
  | nil => simp [Lib.join]
  | cons x l =>
    have h1 := lens_le2 (x :: l) h
    rw [List.map_cons] at h1 ⊢
    rw [Lib.join_length]
    simp only [List.length_map, List.length_cons] at *
    simp
    omega
set_option maxHeartbeats 1000000 in
theorem printFlow_good (K R M C Fl A : Int) (a : Option Addr) (n cap : Nat) (G : Nat → Nat → Int) (pw pq pc ps pb : Int) (pr : Nat) (pp pn : Int) (p q k l : Nat) (w : World) (h : NSl w a n cap G) (hz : flowE K R M C Fl A G n pw pq pc ps pb pr pp pn = 0) (hT : Tab w) (ht : Lib.TabIs Tryz.prog w "internal/strconv.uint64pow10" .u64 Lib.pow10Tab) (hu : pr < 18446744073709551616) (h6 : ffP pr = p) (h7 : ffQ pr = q) (hp : RS p) (hq : RS q) (hk : DecLen p k) (hl : DecLen q l) (hsz : (fmtT p q k l).size ≤ 4000)
    (hi5 : ∀ i, i < 5 → -9223372036854775808 ≤ setI pw pq pc ps pb i ∧ setI pw pq pc ps pb i ≤ 9223372036854775807) (hi2 : ∀ i, i < 2 → -9223372036854775808 ≤ pair2 pp pn i ∧ pair2 pp pn i ≤ 9223372036854775807) :
    Calls Tryz.prog 9 #[.agg #[.int .i64 K, .int .i64 R, .int .i64 M, .int .i64 C, .int .i64 Fl, .int .i64 A, .slice a n cap], .agg #[.int .i64 pw, .int .i64 pq, .int .i64 pc, .int .i64 ps, .int .i64 pb, .float .f64 pr, .int .i64 pp, .int .i64 pn]] w fun e w' => e = .returned (.tuple #[.string ⟨(Lib.join ((flowT pw pq pc ps pb pp pn (fmtT p q k l)).map (·.data.toList)) [32]).toArray⟩, .int .i64 0]) ∧ Below w.heap.size w w' := by
  have HN : Hid _ := h
  have HZ : Hid _ := hz
  have HTab : Hid (Tab w) := hT
  have HT : Hid _ := Lib.tabBelow_of_tabIs ht
  have H4 : Hid (pr < 18446744073709551616 ∧ ffP pr = p ∧ ffQ pr = q) := ⟨hu, h6, h7⟩
  have H2 : Hid (RS p ∧ RS q ∧ DecLen p k ∧ DecLen q l) := ⟨hp, hq, hk, hl⟩
  have HI5 : Hid _ := hi5
  have HI2 : Hid _ := hi2
  obtain ⟨T, hTx⟩ : ∃ T, fmtT p q k l = T := ⟨_, rfl⟩
  rw [hTx] at hsz
  rw [hTx]
  have HTX : Hid _ := hTx
  have HSZ : Hid _ := hsz
  have hl0 : n ≤ 9223372036854775807 := Nat.le_trans h.le h.lim
  clear h hz hT ht hu h6 h7 hp hq hk hl hi5 hi2 hTx hsz
  go_enter Tryz.func9, Tryz.ntmps9
  go_wp2_with fail
  have S0 : Hid _ := ((ce_start w).box7 (.int .i64 K) (.int .i64 R) (.int .i64 M) (.int .i64 C) (.int .i64 Fl) (.int .i64 A) (.slice a n cap) 24 _ rfl).box8 (.int .i64 pw) (.int .i64 pq) (.int .i64 pc) (.int .i64 ps) (.int .i64 pb) (.float .f64 pr) (.int .i64 pp) (.int .i64 pn) 27 (w.heap.size + 1) (by rw [World.size_alloc])
  refine (checkFlow_any K R M C Fl A a n cap G pw pq pc ps pb pr pp pn _ (HN.out.go S0.out.bel)).mono ?_
  rintro e w1 ⟨rfl, hb⟩
  rw [HZ.out]
  obtain ⟨g, eg⟩ : ∃ g, g = w.heap.size + 1 := ⟨_, rfl⟩
  rw [← eg] at S0
  rw [← eg]
  clear eg
  have S1 : Hid _ := S0.out.go hb
  clear hb S0
  have x0 := S1.out.cel g 0 (.int .i64 pw)
  have x1 := S1.out.cel g 1 (.int .i64 pq)
  have x2 := S1.out.cel g 2 (.int .i64 pc)
  have x3 := S1.out.cel g 3 (.int .i64 ps)
  have x4 := S1.out.cel g 4 (.int .i64 pb)
  have x5 := S1.out.cel g 5 (.float .f64 pr)
  have x6 := S1.out.cel g 6 (.int .i64 pp)
  have x7 := S1.out.cel g 7 (.int .i64 pn)
  go_wp2_with fail
  refine (fromFloat_all pr _ H4.out.1 (Tab.go HTab.out S1.out.bel)).mono ?_
  rintro e w2 ⟨v2, rfl, hr2, hb2⟩
  rw [H4.out.2.1, H4.out.2.2] at hr2
  obtain ⟨b, m, d, b', m', d', e0, _, _⟩ := hr2.raw
  subst e0
  have HR2 : Hid _ := hr2
  have S2 : Hid _ := (S1.out.go hb2).box2 (.slice b m d) (.slice b' m' d') 68 _ rfl
  obtain ⟨gq, egq⟩ : ∃ g, g = w2.heap.size := ⟨_, rfl⟩
  rw [← egq] at S2
  have HR2' : Hid (Rt (w2.alloc (.cells #[.slice b m d, .slice b' m' d'] 68)) (.agg #[.slice b m d, .slice b' m' d']) p q) := hr2.mono (bc_al (bel_refl _))
  obtain ⟨w3, hw3⟩ : ∃ w3, w3 = w2.alloc (.cells #[.slice b m d, .slice b' m' d'] 68) := ⟨_, rfl⟩
  rw [← hw3] at S2 HR2'
  clear x0
  clear x1
  clear x2
  clear x3
  clear x4
  clear x5
  clear x6
  clear x7
  have S1b : Hid _ := S1.out.go hb2
  clear hr2 hb2 S1
  clear HR2
  have x0 := S1b.out.cel g 0 (.int .i64 pw)
  have x1 := S1b.out.cel g 1 (.int .i64 pq)
  have x2 := S1b.out.cel g 2 (.int .i64 pc)
  have x3 := S1b.out.cel g 3 (.int .i64 ps)
  have x4 := S1b.out.cel g 4 (.int .i64 pb)
  have x5 := S1b.out.cel g 5 (.float .f64 pr)
  have x6 := S1b.out.cel g 6 (.int .i64 pp)
  have x7 := S1b.out.cel g 7 (.int .i64 pn)
  have lg := S1b.out.lt g 0 (.int .i64 pw)
  go_wp2_with fail
  rw [← hw3, ← egq]
  have e3 : w3.heap.size = gq + 1 := by rw [hw3, World.size_alloc, egq]
  clear S1b
  have B3 : Hid (Below w3.heap.size w3 (w3.alloc (.cells #[.int .i64 pw, .int .i64 pq, .int .i64 pc, .int .i64 ps, .int .i64 pb] 3))) := bc_al (bel_refl w3)
  refine (digits_any (gq + 1) 0 5 5 (setI pw pq pc ps pb) _ (by omega) (Nat.le_refl _) (fun i hi => by have := five_new w3 pw pq pc ps pb 3 i hi; rw [e3] at this; exact this) HI5.out (HT.out _ (bc_go S2.out.bel B3.out))).mono ?_
  rintro e w4 ⟨v4, rfl, hO4, hb4⟩
  have S4 : Hid _ := (S2.out.go B3.out).go hb4
  have R4 : Hid _ := HR2'.out.mono (bc_go B3.out hb4)
  obtain ⟨bs, ebs⟩ : ∃ bs, bs = (w3.alloc (.cells #[.int .i64 pw, .int .i64 pq, .int .i64 pc, .int .i64 ps, .int .i64 pb] 3)).heap.size := ⟨_, rfl⟩
  rw [← ebs] at hO4
  have lbs : bs ≤ w4.heap.size := by rw [ebs]; exact hb4.size
  have HBS : Hid (w.heap.size ≤ bs) := by
    show w.heap.size ≤ bs
    have q := S2.out.bel.size
    rw [ebs, World.size_alloc]
    omega
  have lgb : g < bs := by have q := S2.out.lt g 0 (.int .i64 pw); rw [ebs, World.size_alloc]; omega
  have hO4' := or_five hO4
  obtain ⟨LV, hLV⟩ : ∃ LV : List ByteArray, [itT pw, itT pq, itT pc, itT ps, itT pb] = LV := ⟨_, rfl⟩
  rw [hLV] at hO4'
  have HLV : Hid _ := hLV
  have nLV : LV.length = 5 := by rw [← hLV]; rfl
  have O4 : Hid (OR w4 9 bs v4 LV.length (tx LV)) := hO4'
  obtain ⟨g4, c4, e4, _, _⟩ := OR.row hO4' (by omega)
  rw [nLV] at e4
  subst e4
  have O4 : Hid (OR w4 9 bs (.slice (some ⟨g4, 0, none⟩) 5 c4) LV.length (tx LV)) := O4
  clear x0
  clear x1
  clear x2
  clear x3
  clear x4
  clear x5
  clear x6
  clear x7
  clear hO4 hO4' hb4 hLV lg ebs hw3 egq e3
  have x6 := S4.out.cel g 6 (.int .i64 pp)
  have x7 := S4.out.cel g 7 (.int .i64 pn)
  have z0 := S4.out.cel gq 0 (.slice b m d)
  have z1 := S4.out.cel gq 1 (.slice b' m' d')
  have lg := S4.out.lt g 6 (.int .i64 pp)
  go_wp2_with fail
  refine (format_any (.agg #[.slice b m d, .slice b' m' d']) p q k l _ R4.out H2.out.1 H2.out.2.1 H2.out.2.2.1 H2.out.2.2.2).mono ?_
  rintro e w5 ⟨rfl, hb5⟩
  rw [HTX.out]
  have S5 : Hid _ := S4.out.go hb5
  have lbs5 : bs ≤ w5.heap.size := Nat.le_trans lbs hb5.size
  have B5 : Hid (Below w5.heap.size w5 (w5.alloc (.cells #[.string T] 9))) := bc_al (bel_refl w5)
  have O5 : Hid (OR (w5.alloc (.cells #[.string T] 9)) 9 bs (.slice (some ⟨g4, 0, none⟩) 5 c4) LV.length (tx LV)) := OR.below (OR.below O4.out hb5) B5.out
  have l4 : bs ≤ g4 := OR.blk O4.out g4 rfl
  have A1 : Hid (∀ j, j < [T].length → (w5.alloc (.cells #[.string T] 9)).cell? ((⟨w5.heap.size, 0, none⟩ : Addr).add j) = some (tx [T] j)) := one_new w5 T 9
  clear hb5 x6 x7 z0 z1 lg R4 S4 O4
  go_wp2_with (refine (id ?_ : wpList Tryz.prog _ _ (⟨some 38, _, _, _, _, _⟩ :: _) _ _); refine wpList_append_tx rfl (.tmp 34) (.tmp 37) rfl bs _ LV [T] rfl O5.out ⟨w5.heap.size, 0, none⟩ 1 rfl A1.out (by simp) (by rw [nLV]; simp) (by rw [World.size_alloc]; omega) ?_)
  intro g6 cap6 w6 ho hg hor hlt6
  have n6 : (LV ++ [T]).length = 6 := by rw [List.length_append, nLV]; rfl
  obtain ⟨L6, hL6⟩ : ∃ L6, LV ++ [T] = L6 := ⟨_, rfl⟩
  have O6 : Hid (OR w6 9 bs (.slice (some ⟨g6, 0, none⟩) 6 cap6) L6.length (tx L6)) := by
    show OR _ _ _ _ _ _
    rw [← hL6, n6]
    simpa [nLV] using ho
  rw [hL6] at n6
  have HL6 : Hid _ := hL6
  have W6 : Hid (Below w.heap.size w w6) := Below.grown (bc_al S5.out.bel) hg (by rw [World.size_alloc]; have := S5.out.bel.size; omega) (fun j hj => Nat.le_trans HBS.out (OR.blk O5.out j hj))
  have x6 := hg.cell (bc_cell B5.out (S5.out.cel g 6 (.int .i64 pp))) (by simp [Value.ownBlock]; omega)
  have x7 := hg.cell (bc_cell B5.out (S5.out.cel g 7 (.int .i64 pn))) (by simp [Value.ownBlock]; omega)
  have lg : g < w6.heap.size := World.block_lt_of_cell? _ _ x6
  have lbs6 : bs ≤ w6.heap.size := by have := hg.size; rw [World.size_alloc] at this; omega
  clear ho hg hor S5 O5 A1 B5 hL6
  go_wp2_with fail
  have B6 : Hid (Below w6.heap.size w6 (w6.alloc (.cells #[.int .i64 pp, .int .i64 pn] 3))) := bc_al (bel_refl w6)
  refine (digits_any w6.heap.size 0 2 2 (pair2 pp pn) _ (by omega) (Nat.le_refl _) (fun i hi => two_at w6 pp pn 3 i hi) HI2.out (HT.out _ (bc_go W6.out B6.out))).mono ?_
  rintro e w7 ⟨v7, rfl, hO7, hb7⟩
  have W7 : Hid (Below w.heap.size w w7) := bc_go (bc_go W6.out B6.out) hb7
  have O7 : Hid (OR w7 9 bs (.slice (some ⟨g6, 0, none⟩) 6 cap6) L6.length (tx L6)) := OR.below (OR.below O6.out B6.out) hb7
  obtain ⟨g7, c7, rfl, _, h7⟩ := OR.row hO7 (by omega)
  obtain ⟨LW, hLW⟩ : ∃ LW : List ByteArray, [itT pp, itT pn] = LW := ⟨_, rfl⟩
  have nLW : LW.length = 2 := by rw [← hLW]; rfl
  have A7 : Hid (∀ j, j < LW.length → w7.cell? ((⟨g7, 0, none⟩ : Addr).add j) = some (tx LW j)) := fun j hj => by
    rw [nLW] at hj
    rw [show (⟨g7, 0, none⟩ : Addr).add j = ⟨g7, j, none⟩ by simp [Addr.add]; omega, h7 j hj, ← hLW]
    match j, hj with
    | 0, _ => rfl
    | 1, _ => rfl
  have HLW : Hid _ := hLW
  have lbs7 : bs ≤ w7.heap.size := by have := hb7.size; rw [World.size_alloc] at this; omega
  clear hO7 hb7 h7 hLW x6 x7 lg O6 B6
  go_wp2_with (refine (id ?_ : wpList Tryz.prog _ _ (⟨some 46, _, _, _, _, _⟩ :: _) _ _); refine wpList_append_tx rfl (.tmp 39) (.tmp 45) rfl bs _ L6 LW rfl O7.out ⟨g7, 0, none⟩ c7 (by rw [nLW]; rfl) A7.out (by omega) (by omega) lbs7 ?_)
  intro g8 cap8 w8 ho hg hor hlt8
  have n8 : (L6 ++ LW).length = 8 := by rw [List.length_append, n6, nLW]
  obtain ⟨L8, hL8⟩ : ∃ L8, L6 ++ LW = L8 := ⟨_, rfl⟩
  have O8 : OR w8 9 bs (.slice (some ⟨g8, 0, none⟩) 8 cap8) 8 (tx L8) := by
    rw [← hL8]
    simpa [n6, nLW] using ho
  have HL8 : Hid (L8 = [itT pw, itT pq, itT pc, itT ps, itT pb] ++ [T] ++ [itT pp, itT pn]) := by show _ = _; rw [← hL8, ← HL6.out, ← HLV.out, ← HLW.out]
  have HL8b : Hid (L8.length = 8) := by show _ = _; rw [← hL8, n8]
  have W8 : Hid (Below w.heap.size w w8) := Below.grown W7.out hg (by have := W7.out.size; omega) (fun j hj => Nat.le_trans HBS.out (OR.blk O7.out j hj))
  obtain ⟨hc8, hv8⟩ := OR.sliced O8 (by omega)
  have V8 : Hid _ := hv8
  clear ho hg hor O7 A7 hL8 hv8 O8
  go_wp2_with fail
  refine (named_any flowN g8 0 8 cap8 L8 w8 (by decide) hc8 (by rw [flowN_words]; decide) (by rw [flowN_words]; decide) (by omega) (fun i hi => by rw [Nat.zero_add, V8.out i hi]) trivial).mono ?_
  rintro e w9 ⟨v9, rfl, hO9, hb9⟩
  rw [show (wordsL flowN).length = 8 by rw [flowN_words]; rfl] at hO9
  obtain ⟨LZ, hLZ⟩ : ∃ LZ, zipT (wordsL flowN) L8 8 = LZ := ⟨_, rfl⟩
  rw [hLZ] at hO9
  have HLZ : Hid (flowT pw pq pc ps pb pp pn T = LZ) := by
    show _ = _
    rw [flowT, ← HL8.out, hLZ]
  have nLZ : LZ.length = 16 := by rw [← hLZ, zipT_len]
  have ZS : Hid (∀ x ∈ LZ, x.size ≤ 4000) := by
    show ∀ x ∈ LZ, x.size ≤ 4000
    rw [← hLZ]
    refine zip_le _ _ (by rw [flowN_words]; decide) ?_ 8
    intro x hx
    rw [HL8.out] at hx
    have i5 := HI5.out
    have i2 := HI2.out
    simp only [List.mem_append, List.mem_cons, List.not_mem_nil, or_false] at hx
    rcases hx with ((rfl | rfl | rfl | rfl | rfl) | rfl) | (rfl | rfl)
    · exact Nat.le_trans (itT_le _ (i5 0 (by omega)).1 (i5 0 (by omega)).2) (by omega)
    · exact Nat.le_trans (itT_le _ (i5 1 (by omega)).1 (i5 1 (by omega)).2) (by omega)
    · exact Nat.le_trans (itT_le _ (i5 2 (by omega)).1 (i5 2 (by omega)).2) (by omega)
    · exact Nat.le_trans (itT_le _ (i5 3 (by omega)).1 (i5 3 (by omega)).2) (by omega)
    · exact Nat.le_trans (itT_le _ (i5 4 (by omega)).1 (i5 4 (by omega)).2) (by omega)
    · exact HSZ.out
    · exact Nat.le_trans (itT_le _ (i2 0 (by omega)).1 (i2 0 (by omega)).2) (by omega)
    exact Nat.le_trans (itT_le _ (i2 1 (by omega)).1 (i2 1 (by omega)).2) (by omega)
  obtain ⟨g9, c9, rfl, hc9, hv9⟩ := OR.row hO9 (by omega)
  have V9 : Hid _ := hv9
  have W9 : Hid (Below w.heap.size w w9) := bc_go W8.out hb9
  have lt9 : g9 < w9.heap.size := World.block_lt_of_cell? _ _ (hv9 0 (by omega))
  have NZ : Hid _ := nLZ
  clear hO9 hb9 hv9 hLZ nLZ
  go_wp2_with fail
  refine (Tryz.strings_Join g9 0 c9 LZ ⟨#[32]⟩ w9 (fun j x hj => ?_) lt9 (by have := NZ.out; omega) hc9 (join_small2 _ (by have := NZ.out; omega) ZS.out)).mono ?_
  · have lj : j < LZ.length := by
      rcases Nat.lt_or_ge j LZ.length with q | q
      · exact q
      rw [List.getElem?_eq_none q] at hj; cases hj
    rw [Nat.zero_add, V9.out j lj]
    show some (Value.string (LZ.getD j ⟨#[]⟩)) = _
    rw [List.getD, hj]
    rfl
  rintro e w10 ⟨rfl, hb10⟩
  have W10 : Hid (Below w.heap.size w w10) := bc_go W9.out hb10
  clear hb10
  go_wp2_with fail
  exact bodyPost_ret (v := .tuple #[.string ⟨(Lib.join (List.map (fun x => x.data.toList) LZ) [32]).toArray⟩, .int .i64 0]) (by simp [results, Tryz.results9, go_sem]) rfl ⟨by rw [HLZ.out], W10.out⟩
theorem cx_npRS (s : ByteArray) : RS (npP s) ∧ RS (npQ s) := by
  cases h : npOk s with
  | false =>
    rw [(np_no h).1, (np_no h).2.1]
    exact ⟨rs_word (by omega), rs_word (by omega)⟩
  | true =>
    unfold npOk at h
    rw [Bool.and_eq_true] at h
    have h1 : s.size ≤ 400 := of_decide_eq_true h.1
    cases hc : cutP s with
    | none =>
      rw [hc] at h
      exact absurd h.2 (by simp)
    | some p =>
      rw [hc] at h
      have h3 : ¬ vD p = 0 := by have := h.2; simpa using this
      obtain ⟨e1, e2, _⟩ := np_yes h1 hc h3
      have g := cutP_good h1 hc
      have a := g.a
      have pw := g.pw
      rw [e1, e2]
      refine ⟨⟨Nat.lt_of_le_of_lt (Nat.div_le_self _ _) ?_⟩, ⟨Nat.lt_of_le_of_lt (Nat.div_le_self _ _) ?_⟩⟩
      · unfold vN
        split
        · exact P_up (mulP_lt a (Nat.lt_of_le_of_lt (Nat.pow_le_pow_right (by omega) (show (pwI p).toNat ≤ 999 by omega)) ten999)) (by omega)
        exact P_up a (by omega)
      unfold vD
      split
      · exact ten_P90 (by omega)
      exact P_up g.b (by omega)
theorem cx_ffRS (u : Nat) (hu : u < 18446744073709551616) : RS (ffP u) ∧ RS (ffQ u) := by
  cases h : isFb u with
  | false =>
    rw [(ff_no h).1, (ff_no h).2]
    exact ⟨rs_word (by omega), rs_word (by omega)⟩
  | true =>
    by_cases h1 : u = 9223372036854775808
    · rw [h1, ff_zero.1, ff_zero.2]
      exact ⟨rs_word (by omega), rs_word (by omega)⟩
    have h2 : u < 9218868437227405312 := by unfold isFb at h; simp at h; omega
    rw [(ff_yes h2).1, (ff_yes h2).2]
    exact ⟨⟨P_up (Nat.lt_of_le_of_lt (Nat.div_le_self _ _) (fN_lt h2)) (by omega)⟩, ⟨P_up (Nat.lt_of_le_of_lt (Nat.div_le_self _ _) (fD_lt u)) (by omega)⟩⟩
def exE (s : ByteArray) : Int := if npE s ≠ 0 then 201 else if tfOk (npP s) (npQ s) = false then 98 else if cmpI (ffP (tfV (npP s) (npQ s)) * npQ s) (npP s * ffQ (tfV (npP s) (npQ s))) ≠ 0 then 98 else 0
def exU (s : ByteArray) : Nat := if exE s = 0 then tfV (npP s) (npQ s) else 0
theorem tfV_lt (p q : Nat) : tfV p q < 18446744073709551616 := by
  unfold tfV
  split
  · omega
  split <;> omega
set_option maxHeartbeats 1000000 in
theorem exactly_any (s : ByteArray) (w : World) (hs : s.size ≤ 9223372036854775807) (hT : Tab w) :
    Calls Tryz.prog 57 #[.string s] w fun e w' => e = .returned (.tuple #[.float .f64 (exU s), .int .i64 (exE s)]) ∧ Below w.heap.size w w' := by
  have HT : Hid (Tab w) := hT
  obtain ⟨p, hp⟩ : ∃ p, npP s = p := ⟨_, rfl⟩
  obtain ⟨q, hq⟩ : ∃ q, npQ s = q := ⟨_, rfl⟩
  have H2 : Hid (RS p ∧ RS q) := by have := cx_npRS s; rw [hp, hq] at this; exact this
  have HX1 : Hid (exE s = if npE s ≠ 0 then 201 else if tfOk p q = false then 98 else if cmpI (ffP (tfV p q) * q) (p * ffQ (tfV p q)) ≠ 0 then 98 else 0) := by show _ = _; unfold exE; rw [hp, hq]
  have HX2 : Hid (exU s = if exE s = 0 then tfV p q else 0) := by show _ = _; unfold exU; rw [hp, hq]
  clear hT
  go_enter Tryz.func57, Tryz.ntmps57
  go_wp2_with fail
  refine (nparse_any s w hs HT.out).mono ?_
  rintro e w1 ⟨v1, rfl, hr1, hb1⟩
  rw [hp, hq] at hr1
  obtain ⟨ne, hne⟩ : ∃ ne, npE s = ne := ⟨_, rfl⟩
  rw [hne]
  rw [hne] at HX1
  obtain ⟨a, n, c, a', n', c', e0, _, _⟩ := hr1.raw
  subst e0
  have S1 : Hid _ := ((sy_start w1).addF hr1).box (.slice a n c) (.slice a' n' c') 68 _ rfl
  have B1 : Hid _ := hb1
  have hq0 := hr1.pos
  clear hr1 hb1 hp hq hne
  by_cases c0 : ne = 0
  · subst c0
    go_wp2_with fail
    refine (toFloat_any (.agg #[.slice a n c, .slice a' n' c']) p q _ (S1.out.fr _ p q) H2.out.1 H2.out.2 hq0).mono ?_
    rintro e w2 ⟨rfl, hb2⟩
    have S2 : Hid _ := S1.out.go hb2
    clear hb2 S1
    obtain ⟨g1, eg1⟩ : ∃ g, g = w1.heap.size := ⟨_, rfl⟩
    rw [← eg1] at S2
    rw [← eg1]
    clear eg1
    have B2 : Hid (Below w.heap.size w w2) := bc_go B1.out S2.out.bel
    obtain ⟨u, hu⟩ : ∃ u, tfV p q = u := ⟨_, rfl⟩
    have hul : u < 18446744073709551616 := by rw [← hu]; exact tfV_lt _ _
    rw [hu]
    rw [hu] at HX1 HX2
    cases ho : tfOk p q with
    | false =>
      have HEX : Hid (exU s = 0 ∧ exE s = 98) := by
        have e2 : exE s = 98 := by rw [HX1.out, if_neg (by decide), if_pos ho]
        exact ⟨by rw [HX2.out, if_neg (by rw [e2]; decide)], e2⟩
      clear ho hu
      go_wp2_with fail
      exact bodyPost_ret (v := .tuple #[.float .f64 0, .int .i64 98]) (by simp [results, Tryz.results57, go_sem]) rfl ⟨by rw [HEX.out.1, HEX.out.2], B2.out⟩
    | true =>
      rw [ho] at HX1
      have HUL : Hid _ := hul
      clear ho hu hul
      go_wp2_with fail
      refine (fromFloat_all u _ HUL.out (Tab.go HT.out B2.out)).mono ?_
      rintro e w3 ⟨v3, rfl, hr3, hb3⟩
      obtain ⟨p', hp'⟩ : ∃ p', ffP u = p' := ⟨_, rfl⟩
      obtain ⟨q', hq'⟩ : ∃ q', ffQ u = q' := ⟨_, rfl⟩
      have H3 : Hid (RS p' ∧ RS q') := by have := cx_ffRS u HUL.out; rw [hp', hq'] at this; exact this
      rw [hp', hq'] at hr3
      rw [hp', hq'] at HX1
      obtain ⟨b, m, d, b', m', d', e0, _, _⟩ := hr3.raw
      subst e0
      have S3 : Hid _ := ((S2.out.go hb3).addF hr3).box (.slice b m d) (.slice b' m' d') 68 _ rfl
      clear hr3 hb3 S2 hp' hq'
      have x0 := S3.out.cel g1 0 (.slice a n c)
      have x1 := S3.out.cel g1 1 (.slice a' n' c')
      go_wp2_with fail
      refine (ratCmp_any (.agg #[.slice b m d, .slice b' m' d']) (.agg #[.slice a n c, .slice a' n' c']) p' q' p q _ (S3.out.fr _ p' q') (S3.out.fr _ p q) H3.out.1 H3.out.2 H2.out.1 H2.out.2).mono ?_
      rintro e w4 ⟨rfl, hb4⟩
      have W4 : Hid (Below w.heap.size w w4) := bc_go B1.out (bc_go S3.out.bel hb4)
      obtain ⟨z, hz⟩ : ∃ z, cmpI (p' * q) (p * q') = z := ⟨_, rfl⟩
      rw [hz]
      rw [hz] at HX1
      clear hb4 x0 x1 S3 hz
      by_cases c1 : z = 0
      · subst c1
        have HEX : Hid (exU s = u ∧ exE s = 0) := by
          have e2 : exE s = 0 := by rw [HX1.out, if_neg (by decide), if_neg (by decide), if_neg (by decide)]
          exact ⟨by rw [HX2.out, if_pos e2], e2⟩
        go_wp2_with fail
        exact bodyPost_ret (v := .tuple #[.float .f64 u, .int .i64 0]) (by simp [results, Tryz.results57, go_sem]) rfl ⟨by rw [HEX.out.1, HEX.out.2], W4.out⟩
      have d1 : (z != 0) = true := by simpa using c1
      have HEX : Hid (exU s = 0 ∧ exE s = 98) := by
        have e2 : exE s = 98 := by rw [HX1.out, if_neg (by decide), if_neg (by decide), if_pos c1]
        exact ⟨by rw [HX2.out, if_neg (by rw [e2]; decide)], e2⟩
      clear c1
      go_wp2_with fail
      exact bodyPost_ret (v := .tuple #[.float .f64 0, .int .i64 98]) (by simp [results, Tryz.results57, go_sem]) rfl ⟨by rw [HEX.out.1, HEX.out.2], W4.out⟩
  have d0 : (ne != 0) = true := by simpa using c0
  have HEX : Hid (exU s = 0 ∧ exE s = 201) := by
    have e2 : exE s = 201 := by rw [HX1.out, if_pos c0]
    exact ⟨by rw [HX2.out, if_neg (by rw [e2]; decide)], e2⟩
  have B2 : Hid (Below w.heap.size w (w1.alloc (.cells #[.slice a n c, .slice a' n' c'] 68))) := bc_go B1.out (bc_al (bel_refl w1))
  clear c0
  go_wp2_with fail
  exact bodyPost_ret (v := .tuple #[.float .f64 0, .int .i64 201]) (by simp [results, Tryz.results57, go_sem]) rfl ⟨by rw [HEX.out.1, HEX.out.2], B2.out⟩
theorem p90_ten : P 90 ≤ 10 ^ 1735 := by decide +kernel
theorem dlen_ex (x : Nat) (h : x < P 90) : ∃ k, DecLen x k ∧ k ≤ 1735 := by
  have h1 : x < 10 ^ 1735 := Nat.lt_of_lt_of_le h p90_ten
  have key : ∀ m, x < 10 ^ m → ∃ k, DecLen x k ∧ k ≤ max m 1 := by
    intro m
    induction m with
    | zero =>
      intro h
      have e : x = 0 := by simpa using h
      subst e
      exact ⟨1, ⟨by omega, by decide, .inl rfl⟩, by omega⟩
    | succ m ih =>
      intro hm
      by_cases q : x < 10 ^ m
      · obtain ⟨k, hk, hl⟩ := ih q
        exact ⟨k, hk, by omega⟩
      exact ⟨m + 1, ⟨by omega, hm, by
        by_cases e : m = 0
        · exact .inl (by omega)
        exact .inr (by simpa using q)⟩, by omega⟩
  obtain ⟨k, hk, hl⟩ := key 1735 h1
  exact ⟨k, hk, by omega⟩
set_option maxHeartbeats 1000000 in
theorem printFlow_bad (K R M C Fl A : Int) (a : Option Addr) (n cap : Nat) (G : Nat → Nat → Int) (pw pq pc ps pb : Int) (pr : Nat) (pp pn : Int) (fe : Int) (w : World) (h : NSl w a n cap G) (hf : flowE K R M C Fl A G n pw pq pc ps pb pr pp pn = fe) (h0 : fe ≠ 0) :
    Calls Tryz.prog 9 #[.agg #[.int .i64 K, .int .i64 R, .int .i64 M, .int .i64 C, .int .i64 Fl, .int .i64 A, .slice a n cap], .agg #[.int .i64 pw, .int .i64 pq, .int .i64 pc, .int .i64 ps, .int .i64 pb, .float .f64 pr, .int .i64 pp, .int .i64 pn]] w fun e w' => e = .returned (.tuple #[.string ⟨#[]⟩, .int .i64 fe]) ∧ Below w.heap.size w w' := by
  have HN : Hid _ := h
  have hl0 : n ≤ 9223372036854775807 := Nat.le_trans h.le h.lim
  have HF : Hid _ := hf
  have d0 : (fe != 0) = true := by simpa using h0
  clear h hf h0
  go_enter Tryz.func9, Tryz.ntmps9
  go_wp2_with fail
  have S0 : Hid _ := ((ce_start w).box7 (.int .i64 K) (.int .i64 R) (.int .i64 M) (.int .i64 C) (.int .i64 Fl) (.int .i64 A) (.slice a n cap) 24 _ rfl).box8 (.int .i64 pw) (.int .i64 pq) (.int .i64 pc) (.int .i64 ps) (.int .i64 pb) (.float .f64 pr) (.int .i64 pp) (.int .i64 pn) 27 (w.heap.size + 1) (by rw [World.size_alloc])
  refine (checkFlow_any K R M C Fl A a n cap G pw pq pc ps pb pr pp pn _ (HN.out.go S0.out.bel)).mono ?_
  rintro e w1 ⟨rfl, hb⟩
  rw [HF.out]
  have W1 : Hid (Below w.heap.size w w1) := bc_go S0.out.bel hb
  clear hb S0
  go_wp2_with fail
  exact bodyPost_ret (v := .tuple #[.string ⟨#[]⟩, .int .i64 fe]) (by simp [results, Tryz.results9, go_sem]) rfl ⟨rfl, W1.out⟩
theorem printFlow_any (K R M C Fl A : Int) (a : Option Addr) (n cap : Nat) (G : Nat → Nat → Int) (pw pq pc ps pb : Int) (pr : Nat) (pp pn : Int) (w : World) (h : NSl w a n cap G) (hT : Tab w) (ht : Lib.TabIs Tryz.prog w "internal/strconv.uint64pow10" .u64 Lib.pow10Tab) (hu : pr < 18446744073709551616) (hi5 : ∀ i, i < 5 → -9223372036854775808 ≤ setI pw pq pc ps pb i ∧ setI pw pq pc ps pb i ≤ 9223372036854775807) (hi2 : ∀ i, i < 2 → -9223372036854775808 ≤ pair2 pp pn i ∧ pair2 pp pn i ≤ 9223372036854775807) :
    Calls Tryz.prog 9 #[.agg #[.int .i64 K, .int .i64 R, .int .i64 M, .int .i64 C, .int .i64 Fl, .int .i64 A, .slice a n cap], .agg #[.int .i64 pw, .int .i64 pq, .int .i64 pc, .int .i64 ps, .int .i64 pb, .float .f64 pr, .int .i64 pp, .int .i64 pn]] w fun e w' => ∃ s, e = .returned (.tuple #[.string s, .int .i64 (flowE K R M C Fl A G n pw pq pc ps pb pr pp pn)]) ∧ Below w.heap.size w w' ∧ (flowE K R M C Fl A G n pw pq pc ps pb pr pp pn ≠ 0 → s = ⟨#[]⟩) ∧ (flowE K R M C Fl A G n pw pq pc ps pb pr pp pn = 0 → ∃ k l, DecLen (ffP pr) k ∧ DecLen (ffQ pr) l ∧ s = ⟨(Lib.join ((flowT pw pq pc ps pb pp pn (fmtT (ffP pr) (ffQ pr) k l)).map (·.data.toList)) [32]).toArray⟩) := by
  obtain ⟨fe, hfe⟩ : ∃ fe, flowE K R M C Fl A G n pw pq pc ps pb pr pp pn = fe := ⟨_, rfl⟩
  rw [hfe]
  by_cases c : fe = 0
  · subst c
    obtain ⟨r1, r2⟩ := cx_ffRS pr hu
    obtain ⟨k, hk, lk⟩ := dlen_ex (ffP pr) r1.lt
    obtain ⟨l, hl, ll⟩ := dlen_ex (ffQ pr) r2.lt
    refine (printFlow_good K R M C Fl A a n cap G pw pq pc ps pb pr pp pn (ffP pr) (ffQ pr) k l w h hfe hT ht hu rfl rfl r1 r2 hk hl ?_ hi5 hi2).mono ?_
    · unfold fmtT
      split
      · rw [show (decText (ffP pr) k).size = k from strOf_size _ _]
        omega
      rw [ByteArray.size_append, ByteArray.size_append, show (decText (ffP pr) k).size = k from strOf_size _ _, show (decText (ffQ pr) l).size = l from strOf_size _ _, show (⟨#[47]⟩ : ByteArray).size = 1 from rfl]
      omega
    rintro e w' ⟨rfl, hb⟩
    exact ⟨_, rfl, hb, fun h => absurd rfl h, fun _ => ⟨k, l, hk, hl, rfl⟩⟩
  refine (printFlow_bad K R M C Fl A a n cap G pw pq pc ps pb pr pp pn fe w h hfe c).mono ?_
  rintro e w' ⟨rfl, hb⟩
  exact ⟨_, rfl, hb, fun _ => rfl, fun h => absurd h c⟩
end Go.Proofs.YtchomkadekikdaaGreatDoor
