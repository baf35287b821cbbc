/- Contracts of the program's functions, part 21: own work, joined in build order. -/
import Derived.Test.YtchomkadekikdaaGreatDoorJ20
import Derived.Lib.ItoaLen
namespace Go.Proofs.YtchomkadekikdaaGreatDoor
open Go.RowKit
set_option maxRecDepth 100000
set_option linter.unusedVariables false
def kindT : Nat → ByteArray
  | 0 => ⟨#[]⟩
  | 1 => ⟨#[119, 102, 113]⟩
  | 2 => ⟨#[100, 114, 114]⟩
  | 3 => ⟨#[101, 100, 102]⟩
  | 4 => ⟨#[97, 103, 101]⟩
  | 5 => ⟨#[119, 102, 50]⟩
  | 6 => ⟨#[116, 114, 101, 101]⟩
  | _ => ⟨#[]⟩
def KN (w : World) : Prop := ∀ i, i < 7 → w.cell? ⟨0, i, none⟩ = some (.string (kindT i))
theorem KN.go {w W : World} (h : KN w) (hB : Below w.heap.size w W) : KN W := fun i hi => bc_cell hB (h i hi)
def setupN : ByteArray := ⟨#[114, 111, 111, 109, 32, 109, 111, 115, 116, 32, 99, 97, 112, 32, 102, 108, 111, 119, 115, 32, 97, 103, 101]⟩
theorem setupN_words : wordsL setupN = [⟨#[114, 111, 111, 109]⟩, ⟨#[109, 111, 115, 116]⟩, ⟨#[99, 97, 112]⟩, ⟨#[102, 108, 111, 119, 115]⟩, ⟨#[97, 103, 101]⟩] := by decide +kernel
def setI (R M C Fl A : Int) (i : Nat) : Int := [R, M, C, Fl, A].getD i 0
def setT (R M C Fl A : Int) : List ByteArray := [itT R, itT M, itT C, itT Fl, itT A]
theorem setT_at (R M C Fl A : Int) (i : Nat) (h : i < 5) : tx (setT R M C Fl A) i = .string (itT (setI R M C Fl A i)) := by
  match i, h with
  | 0, _ => rfl
  | 1, _ => rfl
  | 2, _ => rfl
  | 3, _ => rfl
  | 4, _ => rfl
def headT (K R M C Fl A : Int) : List ByteArray := [⟨#[107, 105, 110, 100]⟩, kindT K.toNat] ++ zipT (wordsL setupN) (setT R M C Fl A) 5
theorem checkE_zero {K R M C Fl A : Int} {F : Nat → Nat → Int} {n : Nat} (h : checkE K R M C Fl A F n = 0) : (1 ≤ K ∧ K ≤ 6) ∧ (1 ≤ M ∧ M ≤ 65536) ∧ (M ≤ R ∧ R ≤ 1073741824) ∧ (1 ≤ C ∧ C ≤ 4096) ∧ (1 ≤ Fl ∧ Fl ≤ 256) ∧ (0 ≤ A ∧ A ≤ fA1 K) ∧ (K = 6 → nodesE F n = 0) ∧ (K ≠ 6 → n = 0) := by
  unfold checkE at h
  split at h
  · omega
  split at h
  · omega
  split at h
  · omega
  split at h
  · omega
  split at h
  · omega
  split at h
  · omega
  rename_i h1 h2 h3 h4 h5 h6
  have q0 : isK K = true := by simpa using h1
  have q1 := hld_yes (show hld 1 65536 M = true by simpa using h2)
  have q2 := hld_yes (show hld M 1073741824 R = true by simpa using h3)
  have q3 := hld_yes (show hld 1 4096 C = true by simpa using h4)
  have q4 := hld_yes (show hld 1 256 Fl = true by simpa using h5)
  have q5 := hld_yes (show hld 0 (fA1 K) A = true by simpa using h6)
  unfold isK at q0
  have q6 : 1 ≤ K ∧ K ≤ 6 := by simpa using q0
  refine ⟨q6, q1, q2, q3, q4, q5, fun e => ?_, fun e => ?_⟩
  · rwa [if_pos e] at h
  rw [if_neg e] at h
  split at h <;> omega
theorem lens_le (L : List ByteArray) (h : ∀ x ∈ L, x.size ≤ 100) : Lib.lens (L.map (·.data.toList)) ≤ 100 * L.length := by
  induction L with
  | nil => simp [Lib.lens]
  | cons x l ih =>
    have h1 := ih fun y hy => h y (List.mem_cons_of_mem _ hy)
    have h2 := h x List.mem_cons_self
    have h3 : x.data.toList.length = x.size := by rw [Array.length_toList]; rfl
    simp only [Lib.lens, List.map_cons, List.sum_cons, List.length_cons] at h1 ⊢
    omega
theorem join_small (L : List ByteArray) (hl : L.length ≤ 1000) (h : ∀ x ∈ L, x.size ≤ 100) : (Lib.join (L.map (·.data.toList)) [32]).length ≤ 140737488355328 := by
  cases L with
  | nil => simp [Lib.join]
  | cons x l =>
    have h1 := lens_le (x :: l) h
    rw [List.map_cons] at h1 ⊢
    rw [Lib.join_length]
    simp only [List.length_map, List.length_cons] at *
    simp
    omega
theorem itT_le (x : Int) (h0 : -9223372036854775808 ≤ x) (h1 : x ≤ 9223372036854775807) : (itT x).size ≤ 100 := by
  have := Lib.itoa_length_le x h0 h1
  show (Lib.itoa x).toArray.size ≤ 100
  simp
  omega
theorem kindT_le (i : Nat) : (kindT i).size ≤ 100 := by
  unfold kindT
  split <;> decide
theorem headT_le (K R M C Fl A : Int) (h : ∀ i, i < 5 → -9223372036854775808 ≤ setI R M C Fl A i ∧ setI R M C Fl A i ≤ 9223372036854775807) : ∀ x ∈ headT K R M C Fl A, x.size ≤ 100 := by
  have a0 := h 0 (by omega)
  have a1 := h 1 (by omega)
  have a2 := h 2 (by omega)
  have a3 := h 3 (by omega)
  have a4 := h 4 (by omega)
  intro x hx
  rw [headT, setupN_words] at hx
  simp only [zipT, setT, List.nil_append, List.cons_append, List.getD, List.mem_cons, List.getElem?_cons_zero, List.getElem?_cons_succ, Option.getD_some, List.not_mem_nil, or_false] at hx
  rcases hx with rfl | rfl | rfl | rfl | rfl | rfl | rfl | rfl | rfl | rfl | rfl | rfl
  · decide
  · exact kindT_le _
  · decide
  · exact itT_le _ a0.1 a0.2
  · decide
  · exact itT_le _ a1.1 a1.2
  · decide
  · exact itT_le _ a2.1 a2.2
  · decide
  · exact itT_le _ a3.1 a3.2
  · decide
  exact itT_le _ a4.1 a4.2
theorem pair_or (w : World) (a b : ByteArray) (o : Obj) (base : Nat) (hb : base ≤ w.heap.size) : OR ((w.alloc (.cells #[.string a, .string b] 9)).alloc o) 9 base (.slice (some ⟨w.heap.size, 0, none⟩) 2 2) [a, b].length (tx [a, b]) := by
  refine .inr ⟨w.heap.size, 2, tx [a, b], rfl, hb, Nat.le_refl _, by simp [maxLen], (World.rowIs_alloc w #[.string a, .string b] _ (tx [a, b]) fun i hi => ?_).alloc o, fun i hi => rfl⟩
  match i, hi with
  | 0, _ => rfl
  | 1, _ => rfl
theorem OR.sliced {w : World} {e : TypeId} {base n g cap : Nat} {G : Nat → Value} (h : OR w e base (.slice (some ⟨g, 0, none⟩) n cap) n G) (hn : n ≠ 0) : n ≤ cap ∧ ∀ i, i < n → w.cell? ⟨g, i, none⟩ = some (G i) := by
  obtain ⟨g', c', e, h1, h2⟩ := OR.row h hn
  cases e
  exact ⟨h1, h2⟩
theorem five_new (w : World) (R M C Fl A : Int) (t : TypeId) (i : Nat) (hi : i < 5) : (w.alloc (.cells #[.int .i64 R, .int .i64 M, .int .i64 C, .int .i64 Fl, .int .i64 A] t)).cell? ⟨w.heap.size, 0 + i, none⟩ = some (.int .i64 (setI R M C Fl A i)) := by
  match i, hi with
  | 0, _ => simp [setI]
  | 1, _ => simp [setI]
  | 2, _ => simp [setI]
  | 3, _ => simp [setI]
  | 4, _ => simp [setI]
theorem fA1_le (K : Int) : fA1 K ≤ 1099511627776 := by unfold fA1; split <;> omega
set_option maxHeartbeats 1000000 in
theorem print_flat (K R M C Fl A : Int) (a : Option Addr) (n cap : Nat) (F : Nat → Nat → Int) (w : World) (h : NSl w a n cap F) (hk : KN w) (ht : Lib.TabIs Tryz.prog w "internal/strconv.uint64pow10" .u64 Lib.pow10Tab) (h6 : K ≠ 6) :
    Calls Tryz.prog 7 #[.agg #[.int .i64 K, .int .i64 R, .int .i64 M, .int .i64 C, .int .i64 Fl, .int .i64 A, .slice a n cap]] w fun e w' => ∃ s, e = .returned (.tuple #[.string s, .int .i64 (checkE K R M C Fl A F n)]) ∧ Below w.heap.size w w' ∧ (checkE K R M C Fl A F n = 0 → s = ⟨(Lib.join ((headT K R M C Fl A).map (·.data.toList)) [32]).toArray⟩) := by
  obtain ⟨ce, hce⟩ : ∃ ce, checkE K R M C Fl A F n = ce := ⟨_, rfl⟩
  have HN : Hid _ := h
  have HK : Hid _ := hk
  have HT : Hid _ := Lib.tabBelow_of_tabIs ht
  have HCE : Hid _ := hce
  have hl0 : n ≤ 9223372036854775807 := Nat.le_trans h.le h.lim
  clear h hce hk ht
  go_enter Tryz.func7, Tryz.ntmps7
  go_wp2_with fail
  have S0 : Hid _ := (ce_start w).box7 (.int .i64 K) (.int .i64 R) (.int .i64 M) (.int .i64 C) (.int .i64 Fl) (.int .i64 A) (.slice a n cap) 24 _ rfl
  refine (check_any K R M C Fl A a n cap F _ (HN.out.go S0.out.bel)).mono ?_
  rintro e w1 ⟨rfl, hb⟩
  rw [HCE.out]
  obtain ⟨g, eg⟩ : ∃ g, g = w.heap.size := ⟨_, rfl⟩
  rw [← eg] at S0
  rw [← eg]
  clear eg
  have S1 : Hid _ := S0.out.go hb
  clear hb S0
  by_cases c0 : ce = 0
  · have HZ : Hid _ := checkE_zero (HCE.out.trans c0)
    obtain ⟨kn, ekn⟩ : ∃ kn : Nat, K = (kn : Int) := ⟨K.toNat, by have := HZ.out.1; omega⟩
    have HEK : Hid _ := ekn
    have lkn : kn < 7 := by have := HZ.out.1; omega
    subst c0
    have x0 := S1.out.cel g 0 (.int .i64 K)
    have x1 := S1.out.cel g 1 (.int .i64 R)
    have x2 := S1.out.cel g 2 (.int .i64 M)
    have x3 := S1.out.cel g 3 (.int .i64 C)
    have x4 := S1.out.cel g 4 (.int .i64 Fl)
    have x5 := S1.out.cel g 5 (.int .i64 A)
    have x6 := S1.out.cel g 6 (.slice a n cap)
    have hl := S1.out.lt g 0 (.int .i64 K)
    have hk0 := KN.go HK.out S1.out.bel kn lkn
    rw [ekn] at x0
    have HI : Hid (∀ i, i < 5 → -9223372036854775808 ≤ setI R M C Fl A i ∧ setI R M C Fl A i ≤ 9223372036854775807) := by
      obtain ⟨b1, b2, b3, b4, b5, b6, _⟩ := HZ.out
      have b7 := fA1_le K
      intro i hi
      match i, hi with
      | 0, _ => show _ ≤ R ∧ R ≤ _; omega
      | 1, _ => show _ ≤ M ∧ M ≤ _; omega
      | 2, _ => show _ ≤ C ∧ C ≤ _; omega
      | 3, _ => show _ ≤ Fl ∧ Fl ≤ _; omega
      | 4, _ => show _ ≤ A ∧ A ≤ _; omega
    have d6 : ((kn : Int) == 6) = false := by simp; omega
    have hsz1 := S1.out.bel.size
    go_wp2_with fail
    have O2 : Hid _ := pair_or w1 ⟨#[107, 105, 110, 100]⟩ (kindT kn) (.cells #[.int .i64 R, .int .i64 M, .int .i64 C, .int .i64 Fl, .int .i64 A] 3) w.heap.size hsz1
    have S2 : Hid _ := bc_al (o := .cells #[.int .i64 R, .int .i64 M, .int .i64 C, .int .i64 Fl, .int .i64 A] 3) (bc_al (o := .cells #[.string ⟨#[107, 105, 110, 100]⟩, .string (kindT kn)] 9) S1.out.bel)
    refine (digits_any (w1.heap.size + 1) 0 5 5 (setI R M C Fl A) _ (by omega) (Nat.le_refl _) (fun i hi => ?_) HI.out (HT.out _ S2.out)).mono ?_
    · have := five_new (w1.alloc (.cells #[.string ⟨#[107, 105, 110, 100]⟩, .string (kindT kn)] 9)) R M C Fl A 3 i hi
      simpa using this
    rintro e w3 ⟨v3, rfl, hO3, hb3⟩
    have O3 : Hid _ := OR.below O2.out hb3
    have S3 : Hid _ := bc_go S2.out hb3
    have T3 : Hid _ := S1.out.bel
    obtain ⟨gv, cv, rfl, hcv, hvv⟩ := OR.row hO3 (by omega)
    have HV3 : Hid _ := hvv
    have x0' := bc_cell hb3 (bc_cell (bc_al (bc_al (bel_refl w1))) x0)
    clear hO3 hb3 O2 S2 hvv x0 x1 x2 x3 x4 x5 x6 hk0
    go_wp2_with fail
    refine (named_any setupN gv 0 5 cv (setT R M C Fl A) w3 (by decide) hcv (by rw [setupN_words]; decide) (by rw [setupN_words]; decide) (by omega) (fun i hi => by rw [Nat.zero_add, HV3.out i hi, setT_at _ _ _ _ _ i hi]) trivial).mono ?_
    rintro e w4 ⟨v4, rfl, hO4, hb4⟩
    rw [show (wordsL setupN).length = 5 by rw [setupN_words]; rfl] at hO4
    obtain ⟨L2, hL2⟩ : ∃ L2, zipT (wordsL setupN) (setT R M C Fl A) 5 = L2 := ⟨_, rfl⟩
    rw [hL2] at hO4
    have HL2 : Hid (L2.length = 10) := by show _ = _; rw [← hL2, zipT_len]
    have HH : Hid (headT K R M C Fl A = [⟨#[107, 105, 110, 100]⟩, kindT kn] ++ L2) := by
      show _ = _
      rw [headT, hL2, HEK.out]
      rfl
    obtain ⟨gz, cz, rfl, hcz, hvz⟩ := OR.row hO4 (by have := HL2.out; omega)
    have O4 : Hid _ := OR.below O3.out hb4
    have S4 : Hid _ := bc_go S3.out hb4
    have x0 := bc_cell hb4 x0'
    have hsz4 := S4.out.size
    have HV4 : Hid _ := hvz
    clear hO4 hb4 O3 S3 hvz HV3 x0' hL2
    have A1 : Hid (∀ j, j < L2.length → w4.cell? ((⟨gz, 0, none⟩ : Addr).add j) = some (tx L2 j)) := fun j hj => by
      rw [show (⟨gz, 0, none⟩ : Addr).add j = ⟨gz, j, none⟩ by simp [Addr.add]; omega]
      exact HV4.out j hj
    have A2 : Hid (0 < L2.length) := by show _ < _; rw [HL2.out]; decide
    have A3 : Hid ([⟨#[107, 105, 110, 100]⟩, kindT kn].length + L2.length ≤ 1099511627776) := by show _ ≤ _; rw [HL2.out]; simp
    go_wp2_with (refine (id ?_ : wpList Tryz.prog _ _ (⟨some 32, _, _, _, _, _⟩ :: _) _ _); refine wpList_append_tx rfl (.tmp 18) (.tmp 31) rfl w.heap.size _ [⟨#[107, 105, 110, 100]⟩, kindT kn] L2 rfl O4.out ⟨gz, 0, none⟩ cz rfl A1.out A2.out A3.out hsz4 ?_)
    intro g5 cap5 w5 ho hg hor hlt5
    obtain ⟨hc5, hv5⟩ := OR.sliced ho (by simp)
    have I5 : Hid _ := hv5
    have IC : Hid _ := hc5
    have B5 : Hid (Below w.heap.size w w5) := Below.grown S4.out hg hsz4 (fun j hj => OR.blk O4.out j hj)
    have x5 := hg.cell x0 (by simp [Value.ownBlock]; omega)
    clear ho hg hor hv5 hc5 x0 O4 S4
    go_wp2_with fail
    refine (Tryz.strings_Join g5 0 cap5 ([⟨#[107, 105, 110, 100]⟩, kindT kn] ++ L2) ⟨#[32]⟩ w5 (fun j x hj => ?_) hlt5 (by have := HL2.out; simp; omega) IC.out (join_small _ (by have := HL2.out; simp; omega) (by rw [← HH.out]; exact headT_le _ _ _ _ _ _ HI.out))).mono ?_
    · have lj : j < ([⟨#[107, 105, 110, 100]⟩, kindT kn] ++ L2).length := by
        rcases Nat.lt_or_ge j ([⟨#[107, 105, 110, 100]⟩, kindT kn] ++ L2).length with q | q
        · exact q
        rw [List.getElem?_eq_none q] at hj; cases hj
      rw [Nat.zero_add, I5.out j lj]
      have hj' : ((⟨#[107, 105, 110, 100]⟩ : ByteArray) :: kindT kn :: L2)[j]? = some x := hj
      show some (Value.string (((⟨#[107, 105, 110, 100]⟩ : ByteArray) :: kindT kn :: L2).getD j ⟨#[]⟩)) = _
      rw [List.getD, hj']
      rfl
    rintro e w6 ⟨rfl, hb6⟩
    have B6 : Hid _ := bc_go B5.out hb6
    clear hb6
    go_wp2_with fail
    exact bodyPost_ret (v := .tuple #[.string ⟨(Lib.join ([107, 105, 110, 100] :: (kindT kn).data.toList :: List.map (fun x => x.data.toList) L2) [32]).toArray⟩, .int .i64 0]) (by simp [results, Tryz.results7, go_sem]) rfl ⟨_, by rw [HCE.out], B6.out, fun _ => by rw [HH.out]; rfl⟩
  have d : (ce != 0) = true := by simpa using c0
  have HW : Hid _ := c0
  clear c0
  go_wp2_with fail
  exact bodyPost_ret (v := .tuple #[.string ⟨#[]⟩, .int .i64 ce]) (by simp [results, Tryz.results7, go_sem]) rfl ⟨_, by rw [HCE.out], S1.out.bel, fun q => absurd (HCE.out.symm.trans q) HW.out⟩
def txt (l : List UInt8) : ByteArray := ⟨l.toArray⟩
theorem txt_size (l : List UInt8) : (txt l).size = l.length := by show l.toArray.size = _; simp
theorem txt_app (a b : List UInt8) : txt a ++ txt b = txt (a ++ b) := by
  have h : (txt a ++ txt b).data = (txt (a ++ b)).data := by rw [ByteArray.data_append]; simp [txt]
  cases h1 : txt a ++ txt b
  cases h2 : txt (a ++ b)
  rw [h1, h2] at h
  exact congrArg ByteArray.mk h
theorem dec_short (u : Nat) (hu : u < 18446744073709551616) : (Lib.decDigits u).length ≤ 20 := by
  have h : ∀ k u, u < 10 ^ (k + 1) → (Lib.decDigits u).length ≤ k + 1 := by
    intro k
    induction k with
    | zero =>
      intro u h
      rw [Lib.decDigits, dif_pos (by simpa using h)]
      simp
    | succ k ih =>
      intro u h
      rw [Lib.decDigits]
      split
      · simp
      have := ih (u / 10) (by rw [Nat.div_lt_iff_lt_mul (by omega), ← Nat.pow_succ]; exact h)
      simp
      omega
  exact h 19 u (Nat.lt_trans hu (by decide))
theorem conv_one (w : World) (d : Nat) (b c : Nat) (h : w.cell? ⟨b, 0, none⟩ = some (.int .u8 (d : Int))) : (convert 123 9 (.slice (some ⟨b, 0, none⟩) 1 c)).run Tryz.prog w = .ok (.string (txt [UInt8.ofNat d])) w := by
  have e : txt [UInt8.ofNat d] = strOf (fun _ => d) 1 := by simp [txt, strOf, strOfNums]
  rw [e]
  refine run_convert_bytes_arg (P := Tryz.prog) w 123 5 (by kernel_rfl) (by kernel_rfl) b 0 1 c _ (by simp) (fun i hi => ?_) 9 (by kernel_rfl)
  have : i = 0 := by omega
  subst this
  rw [Nat.zero_add, h]
  simp [List.getD]
set_option maxHeartbeats 1000000 in
theorem rpositive_any (u : Nat) (w : World) (hu : u < 18446744073709551616) : Calls Tryz.prog 67 #[.int .u64 (u : Int)] w fun e w' => e = .returned (.string (txt (Lib.decDigits u))) ∧ Below w.heap.size w w' := by
  have HU : Hid _ := hu
  clear hu
  go_enter Tryz.func67, Tryz.ntmps67
  go_wp2_with fail
  go_loopw [0, 3] (fun tu ts wr => ∃ (v : Nat) (l : List UInt8), tu = .int .u64 (v : Int) ∧ ts = .string (txt l) ∧ Hid (Below w.heap.size w wr) ∧ Hid (v < 18446744073709551616) ∧ Hid (Lib.decDigits u = Lib.decDigits v ++ l)) (fun tu _ _ => (intOf tu).toNat)
  case atStart => exact ⟨u, [], rfl, rfl, bel_refl w, HU, by show _ = _; rw [List.append_nil]⟩
  case round =>
    obtain ⟨v, l, rfl, rfl, BW, HV, HD⟩ := hrel
    have HL : Hid (l.length ≤ 20) := by
      have q := dec_short u HU.out
      rw [HD.out, List.length_append] at q
      show l.length ≤ 20
      omega
    by_cases c : 9 < v
    · obtain ⟨d, hd⟩ : ∃ d, v % 10 = d := ⟨_, rfl⟩
      obtain ⟨z, hz⟩ : ∃ z, v / 10 = z := ⟨_, rfl⟩
      have HDZ : Hid (d < 10 ∧ z < v) := ⟨by omega, by omega⟩
      have r0 : decide ((9 : Int) < (v : Int)) = true := decide_eq_true (by omega)
      have r1 : (v : Int).tmod 10 = (d : Int) := by rw [← hd]; rfl
      have r2 : (v : Int).tdiv 10 = (z : Int) := by rw [← hz]; rfl
      have r1' : (v : Int) % 10 = (d : Int) := by omega
      have r2' : (v : Int) / 10 = (z : Int) := by omega
      have r3 : IntKind.u64.wrap (d : Int) = (d : Int) := by rw [IntKind.wrap_u64]; omega
      have r4 : IntKind.u64.wrap (48 + (d : Int)) = ((48 + d : Nat) : Int) := by rw [IntKind.wrap_u64]; omega
      have r5 : IntKind.u8.wrap ((48 + d : Nat) : Int) = ((48 + d : Nat) : Int) := by rw [IntKind.wrap_u8]; omega
      have r6 : IntKind.u64.wrap (z : Int) = (z : Int) := by have := HV.out; rw [IntKind.wrap_u64]; omega
      have q1 : (txt [UInt8.ofNat (48 + d)]).size + (txt l).size ≤ 9223372036854775807 := by rw [txt_size, txt_size]; have := HL.out; simp; omega
      have c1 := cat_run (txt [UInt8.ofNat (48 + d)]) (txt l) q1
      rw [txt_app] at c1
      have p1 : ∀ w : World, (Op.stringOp .add (txt [UInt8.ofNat (48 + d)]) (txt l)).run Tryz.prog w = .ok (.string (txt ([UInt8.ofNat (48 + d)] ++ l))) w := fun w => by rw [← txt_app]; exact run_string_add_sum w _ _ q1
      obtain ⟨l2, hl2⟩ : ∃ l2, [UInt8.ofNat (48 + d)] ++ l = l2 := ⟨_, rfl⟩
      rw [hl2] at c1 p1
      have HD2 : Hid (Lib.decDigits u = Lib.decDigits z ++ l2) := by
        have q := HD.out
        rw [show Lib.decDigits v = Lib.decDigits (v / 10) ++ [UInt8.ofNat (48 + v % 10)] by rw [Lib.decDigits, dif_neg (by omega)], hd, hz, List.append_assoc, hl2] at q
        exact q
      have HZ : Hid (z < 18446744073709551616) := by have := HV.out; show z < _; omega
      have B2 : Hid (Below w.heap.size w (wr.alloc (.cells #[.int .u8 ((48 + d : Nat) : Int)] 5))) := bc_al BW.out
      obtain ⟨d2, hd2⟩ : ∃ x, 48 + d = x := ⟨_, rfl⟩
      rw [hd2] at r4 r5 B2 c1 p1
      have cv := conv_one (wr.alloc (.cells #[.int .u8 (d2 : Int)] 5)) d2 wr.heap.size 1 (by simp)
      clear hd hz hl2 c q1 hd2
      go_wp2_with fail
      go_roundw
      case rel => exact ⟨z, l2, rfl, rfl, B2, HZ, HD2⟩
      case measure => have := HDZ.out.2; simp [intOf]; omega
    have r0 : decide ((9 : Int) < (v : Int)) = false := decide_eq_false (by omega)
    have r4 : IntKind.u64.wrap (48 + (v : Int)) = ((48 + v : Nat) : Int) := by rw [IntKind.wrap_u64]; omega
    have r5 : IntKind.u8.wrap ((48 + v : Nat) : Int) = ((48 + v : Nat) : Int) := by rw [IntKind.wrap_u8]; omega
    have q1 : (txt [UInt8.ofNat (48 + v)]).size + (txt l).size ≤ 9223372036854775807 := by rw [txt_size, txt_size]; have := HL.out; simp; omega
    have c1 := cat_run (txt [UInt8.ofNat (48 + v)]) (txt l) q1
    rw [txt_app] at c1
    have p1 : ∀ w : World, (Op.stringOp .add (txt [UInt8.ofNat (48 + v)]) (txt l)).run Tryz.prog w = .ok (.string (txt ([UInt8.ofNat (48 + v)] ++ l))) w := fun w => by rw [← txt_app]; exact run_string_add_sum w _ _ q1
    have e : [UInt8.ofNat (48 + v)] ++ l = Lib.decDigits u := by rw [HD.out, show Lib.decDigits v = [UInt8.ofNat (48 + v)] by rw [Lib.decDigits, dif_pos (by omega)]]
    rw [e] at c1 p1
    obtain ⟨X, hX⟩ : ∃ X, txt (Lib.decDigits u) = X := ⟨_, rfl⟩
    rw [hX] at c1 p1
    have HX : Hid _ := hX
    have B2 : Hid (Below w.heap.size w (wr.alloc (.cells #[.int .u8 ((48 + v : Nat) : Int)] 5))) := bc_al BW.out
    obtain ⟨d2, hd2⟩ : ∃ x, 48 + v = x := ⟨_, rfl⟩
    rw [hd2] at r4 r5 B2 c1 p1
    have cv := conv_one (wr.alloc (.cells #[.int .u8 (d2 : Int)] 5)) d2 wr.heap.size 1 (by simp)
    clear hd2 e q1 c hX
    go_wp2_with fail
    go_ret
    exact ⟨by rw [HX.out]; rfl, B2.out⟩
theorem itT_txt (x : Int) : itT x = txt (Lib.itoa x) := rfl
set_option maxHeartbeats 1000000 in
theorem rdigits_any (x : Int) (w : World) (h1 : -9223372036854775808 ≤ x) (h2 : x ≤ 9223372036854775807) : Calls Tryz.prog 29 #[.int .i64 x] w fun e w' => e = .returned (.string (itT x)) ∧ Below w.heap.size w w' := by
  by_cases c : x < 0
  · obtain ⟨k, hk⟩ : ∃ k : Nat, x = -((k : Int) + 1) := ⟨(-x - 1).toNat, by omega⟩
    obtain ⟨y, hy⟩ : ∃ y, x + 1 = y := ⟨_, rfl⟩
    have r0 : decide (x < 0) = true := decide_eq_true c
    have b1 : -9223372036854775808 ≤ y ∧ y ≤ 9223372036854775807 := by omega
    have b2 : -9223372036854775808 ≤ (k : Int) ∧ (k : Int) ≤ 9223372036854775807 := by omega
    have b3 : -y = (k : Int) := by omega
    have r3 : IntKind.u64.wrap (k : Int) = (k : Int) := by rw [IntKind.wrap_u64]; omega
    have r4 : IntKind.u64.wrap ((k : Int) + 1) = ((k + 1 : Nat) : Int) := by rw [IntKind.wrap_u64]; omega
    have e : itT x = txt ([45] ++ Lib.decDigits (k + 1)) := by
      rw [itT_txt, Lib.itoa, if_pos c, show x.natAbs = k + 1 by omega]
      rfl
    have HK : Hid (k + 1 < 18446744073709551616) := by show _ < _; omega
    have q1 : (⟨#[45]⟩ : ByteArray).size + (txt (Lib.decDigits (k + 1))).size ≤ 9223372036854775807 := by rw [txt_size]; have := dec_short (k + 1) HK.out; show 1 + _ ≤ _; omega
    have c1 := cat_run ⟨#[45]⟩ (txt (Lib.decDigits (k + 1))) q1
    have p1 : ∀ w : World, (Op.stringOp .add ⟨#[45]⟩ (txt (Lib.decDigits (k + 1)))).run Tryz.prog w = .ok (.string (⟨#[45]⟩ ++ txt (Lib.decDigits (k + 1)))) w := fun w => run_string_add_sum w _ _ q1
    rw [show (⟨#[45]⟩ : ByteArray) ++ txt (Lib.decDigits (k + 1)) = txt ([45] ++ Lib.decDigits (k + 1)) from txt_app [45] _, ← e] at c1 p1
    obtain ⟨X, hX⟩ : ∃ X, itT x = X := ⟨_, rfl⟩
    rw [hX] at c1 p1
    rw [hX]
    obtain ⟨D, hD⟩ : ∃ D, txt (Lib.decDigits (k + 1)) = D := ⟨_, rfl⟩
    rw [hD] at c1 p1
    have HDD : Hid _ := hD
    obtain ⟨m, hm⟩ : ∃ m, k + 1 = m := ⟨_, rfl⟩
    rw [hm] at r4 HDD HK
    have r1 : wrap64 (x + 1) = y := by rw [hy]; exact IntWalk.wrap64_in _ b1
    have r2 : wrap64 (-y) = (k : Int) := by rw [b3]; exact IntWalk.wrap64_in _ b2
    clear hm hD hX e q1 hk hy c h1 h2 b1 b2 b3
    go_enter Tryz.func29, Tryz.ntmps29
    go_wp2_with fail
    refine (rpositive_any m _ HK.out).mono ?_
    rintro e w1 ⟨rfl, hb⟩
    rw [HDD.out]
    have W1 : Hid _ := hb
    clear hb
    go_wp2_with fail
    go_ret
    exact ⟨rfl, W1.out⟩
  obtain ⟨k, rfl⟩ : ∃ k : Nat, x = (k : Int) := ⟨x.toNat, by omega⟩
  have r0 : decide ((k : Int) < 0) = false := decide_eq_false c
  have r3 : IntKind.u64.wrap (k : Int) = (k : Int) := by rw [IntKind.wrap_u64]; omega
  have e : itT (k : Int) = txt (Lib.decDigits k) := by
    rw [itT_txt, Lib.itoa, if_neg c]
    rfl
  rw [e]
  have HK : Hid (k < 18446744073709551616) := by show _ < _; omega
  clear e c h1 h2
  go_enter Tryz.func29, Tryz.ntmps29
  go_wp2_with fail
  refine (rpositive_any k _ HK.out).mono ?_
  rintro e w1 ⟨rfl, hb⟩
  have W1 : Hid _ := hb
  clear hb
  go_wp2_with fail
  go_ret
  exact ⟨rfl, W1.out⟩
set_option maxHeartbeats 1000000 in
theorem rkind_any (k : Nat) (w : World) (h : k < 7) : Calls Tryz.prog 28 #[.int .i64 (k : Int)] w fun e w' => e = .returned (.string (kindT k)) ∧ Below w.heap.size w w' := by
  have key : ∀ z : Nat, z < 7 → Calls Tryz.prog 28 #[.int .i64 (z : Int)] w fun e w' => e = .returned (.string (kindT z)) ∧ Below w.heap.size w w' := by
    intro z hz
    match z, hz with
    | 0, _ =>
      show Calls Tryz.prog 28 #[.int .i64 0] w _
      go_enter Tryz.func28, Tryz.ntmps28
      go_wp2_with fail
      go_ret
      exact ⟨rfl, bc_al (bel_refl w)⟩
    | 1, _ =>
      show Calls Tryz.prog 28 #[.int .i64 1] w _
      go_enter Tryz.func28, Tryz.ntmps28
      go_wp2_with fail
      go_ret
      exact ⟨rfl, bc_al (bel_refl w)⟩
    | 2, _ =>
      show Calls Tryz.prog 28 #[.int .i64 2] w _
      go_enter Tryz.func28, Tryz.ntmps28
      go_wp2_with fail
      go_ret
      exact ⟨rfl, bc_al (bel_refl w)⟩
    | 3, _ =>
      show Calls Tryz.prog 28 #[.int .i64 3] w _
      go_enter Tryz.func28, Tryz.ntmps28
      go_wp2_with fail
      go_ret
      exact ⟨rfl, bc_al (bel_refl w)⟩
    | 4, _ =>
      show Calls Tryz.prog 28 #[.int .i64 4] w _
      go_enter Tryz.func28, Tryz.ntmps28
      go_wp2_with fail
      go_ret
      exact ⟨rfl, bc_al (bel_refl w)⟩
    | 5, _ =>
      show Calls Tryz.prog 28 #[.int .i64 5] w _
      go_enter Tryz.func28, Tryz.ntmps28
      go_wp2_with fail
      go_ret
      exact ⟨rfl, bc_al (bel_refl w)⟩
    | 6, _ =>
      show Calls Tryz.prog 28 #[.int .i64 6] w _
      go_enter Tryz.func28, Tryz.ntmps28
      go_wp2_with fail
      go_ret
      exact ⟨rfl, bc_al (bel_refl w)⟩
  exact key k h
set_option maxHeartbeats 400000 in
theorem rout_any (n a b : Int) (w : World) : Calls Tryz.prog 38 #[.int .i64 n, .int .i64 a, .int .i64 b] w fun e w' => e = .returned (.bool (!hld a b n)) ∧ w' = w := by
  by_cases h1 : n < a
  · have d1 : decide (n < a) = true := decide_eq_true h1
    have HV : Hid (hld a b n = false) := by show _ = _; unfold hld; rw [decide_eq_false (by omega)]; rfl
    go_enter Tryz.func38, Tryz.ntmps38
    go_wp2_with fail
    all_goals (go_ret; rw [HV.out]; exact ⟨rfl, rfl⟩)
  have d1 : decide (n < a) = false := decide_eq_false h1
  have HV : Hid (hld a b n = decide (n ≤ b)) := by show _ = _; unfold hld; rw [decide_eq_true (by omega)]; rfl
  by_cases h2 : b < n
  · have d2 : decide (b < n) = true := decide_eq_true h2
    have HV2 : Hid (hld a b n = false) := by show _ = _; rw [HV.out]; exact decide_eq_false (by omega)
    go_enter Tryz.func38, Tryz.ntmps38
    go_wp2_with fail
    all_goals (go_ret; rw [HV2.out]; exact ⟨rfl, rfl⟩)
  have d2 : decide (b < n) = false := decide_eq_false h2
  have HV2 : Hid (hld a b n = true) := by show _ = _; rw [HV.out]; exact decide_eq_true (by omega)
  go_enter Tryz.func38, Tryz.ntmps38
  go_wp2_with fail
  all_goals (go_ret; rw [HV2.out]; exact ⟨rfl, rfl⟩)
theorem hld_zero (n : Int) : hld 0 0 n = (n == 0) := by
  unfold hld
  by_cases h : n = 0
  · subst h; rfl
  rw [show (n == 0) = false by simpa using h]
  rcases Int.lt_or_gt_of_ne h with q | q
  · rw [decide_eq_false (show ¬ 0 ≤ n by omega)]; rfl
  rw [decide_eq_false (show ¬ n ≤ 0 by omega), Bool.and_false]
set_option maxHeartbeats 400000 in
theorem raged_any (k n : Int) (w : World) : Calls Tryz.prog 39 #[.int .i64 k, .int .i64 n] w fun e w' => e = .returned (.bool (hld 0 (fA1 k) n)) ∧ w' = w := by
  by_cases h : k = 4
  · subst h
    have HV : Hid (fA1 4 = 1099511627776) := rfl
    rw [HV.out]
    go_enter Tryz.func39, Tryz.ntmps39
    go_wp2_with fail
    refine (rout_any n 0 1099511627776 _).mono ?_
    rintro e w1 ⟨rfl, hw⟩
    rw [hw]
    clear hw w1
    obtain ⟨B, hB⟩ : ∃ B, hld 0 1099511627776 n = B := ⟨_, rfl⟩
    rw [hB]
    cases B
    · go_wp2_with fail
      go_ret
      exact ⟨by rw [hB]; rfl, rfl⟩
    go_wp2_with fail
    go_ret
    exact ⟨by rw [hB]; rfl, rfl⟩
  have HV : Hid (hld 0 (fA1 k) n = (n == 0)) := by show _ = _; unfold fA1; rw [if_neg h, hld_zero]
  have d : (k == 4) = false := by simpa using h
  rw [HV.out]
  clear h
  go_enter Tryz.func39, Tryz.ntmps39
  go_wp2_with fail
  go_ret
  exact ⟨rfl, rfl⟩
set_option maxHeartbeats 2000000 in
theorem rnode_any (a : Option Addr) (n cap : Nat) (F : Nat → Nat → Int) (i : Nat) (w : World) (h : NSl w a n cap F) (hi : i < n) :
    Calls Tryz.prog 42 #[.slice a n cap, .int .i64 (i : Int)] w fun e w' => e = .returned (.int .i64 (nodeE F i)) ∧ Below w.heap.size w w' := by
  obtain ⟨b, o, rfl, hc⟩ := h.at (by omega)
  have hl0 : n ≤ 9223372036854775807 := Nat.le_trans h.le h.lim
  have c0 : w.cell? ⟨b, o + i * 4, none⟩ = some (.int .i64 (F i 0)) := by simpa using hc i 0 hi (by omega)
  have c1 := hc i 1 hi (by omega)
  have c2 := hc i 2 hi (by omega)
  have c3 := hc i 3 hi (by omega)
  have lb := World.block_lt_of_cell? _ _ c0
  obtain ⟨K, eK⟩ : ∃ K, F i 0 = K := ⟨_, rfl⟩
  obtain ⟨Pa, eP⟩ : ∃ Pa, F i 1 = Pa := ⟨_, rfl⟩
  obtain ⟨Q, eQ⟩ : ∃ Q, F i 2 = Q := ⟨_, rfl⟩
  obtain ⟨A, eA⟩ : ∃ A, F i 3 = A := ⟨_, rfl⟩
  rw [eK] at c0
  rw [eP] at c1
  rw [eQ] at c2
  rw [eA] at c3
  obtain ⟨E, hE⟩ : ∃ E, nodeE F i = E := ⟨_, rfl⟩
  rw [hE]
  have W1 : Hid (Below w.heap.size w (w.alloc (.cells #[.int .i64 K, .int .i64 Pa, .int .i64 Q, .int .i64 A] 57))) := bc_al (bel_refl w)
  clear h
  by_cases hi0 : i = 0
  · subst hi0
    have HE0 : Hid (E = if isK K = false then 90 else (if ¬ K = 6 then 90 else if ¬ Pa = 0 then 1 else if hld 0 0 Q = false then 94 else if hld 0 (fA1 K) A = false then 95 else 0)) := by
      show _ = _
      rw [← hE, nodeE, eK, eP, eQ, eA, if_pos (rfl : (0 : Nat) = 0)]
    have c0' : w.cell? ⟨b, o, none⟩ = some (.int .i64 K) := by simpa using c0
    have c1' : w.cell? ⟨b, o + 1, none⟩ = some (.int .i64 Pa) := by simpa using c1
    have c2' : w.cell? ⟨b, o + 2, none⟩ = some (.int .i64 Q) := by simpa using c2
    have c3' : w.cell? ⟨b, o + 3, none⟩ = some (.int .i64 A) := by simpa using c3
    clear hc eK eP eQ eA hE c0 c1 c2 c3
    by_cases k1 : isK K = true
    · have KB : Hid (hld 1 6 K = true) := k1
      by_cases k6 : K = 6
      · subst k6
        by_cases p0 : Pa = 0
        · subst p0
          by_cases z0 : Q = 0
          · subst z0
            obtain ⟨B, hB⟩ : ∃ B, hld 0 (fA1 6) A = B := ⟨_, rfl⟩
            have AB : Hid _ := hB
            rw [hB] at HE0
            clear hB k1
            cases B
            · have HE : Hid (E = 95) := by have q := HE0.out; show E = 95; rw [q]; rfl
              clear HE0
              go_enter Tryz.func42, Tryz.ntmps42
              go_wp2_with fail
              refine (rout_any 6 1 6 _).mono ?_
              rintro e w1 ⟨rfl, hw⟩
              rw [hw]
              clear hw w1
              rw [KB.out]
              go_wp2_with fail
              refine (raged_any 6 A _).mono ?_
              rintro e w1 ⟨rfl, hw⟩
              rw [hw]
              clear hw w1
              rw [AB.out]
              go_wp2_with fail
              go_ret
              exact ⟨by rw [HE.out]; rfl, W1.out⟩
            have HE : Hid (E = 0) := by have q := HE0.out; show E = 0; rw [q]; rfl
            clear HE0
            go_enter Tryz.func42, Tryz.ntmps42
            go_wp2_with fail
            refine (rout_any 6 1 6 _).mono ?_
            rintro e w1 ⟨rfl, hw⟩
            rw [hw]
            clear hw w1
            rw [KB.out]
            go_wp2_with fail
            refine (raged_any 6 A _).mono ?_
            rintro e w1 ⟨rfl, hw⟩
            rw [hw]
            clear hw w1
            rw [AB.out]
            go_wp2_with fail
            go_ret
            exact ⟨by rw [HE.out]; rfl, W1.out⟩
          have HE : Hid (E = 94) := by
            have q := HE0.out
            show E = 94
            rw [q, if_neg (by decide), if_neg (by decide), if_neg (by decide), hld_zero, if_pos (by simpa using z0)]
          have d : (Q != 0) = true := by simpa using z0
          clear HE0 z0 k1
          go_enter Tryz.func42, Tryz.ntmps42
          go_wp2_with fail
          refine (rout_any 6 1 6 _).mono ?_
          rintro e w1 ⟨rfl, hw⟩
          rw [hw]
          clear hw w1
          rw [KB.out]
          go_wp2_with fail
          go_ret
          exact ⟨by rw [HE.out]; rfl, W1.out⟩
        have HE : Hid (E = 1) := by
          have q := HE0.out
          show E = 1
          rw [q, if_neg (by decide), if_neg (by decide), if_pos p0]
        have d : (Pa != 0) = true := by simpa using p0
        clear HE0 p0 k1
        go_enter Tryz.func42, Tryz.ntmps42
        go_wp2_with fail
        refine (rout_any 6 1 6 _).mono ?_
        rintro e w1 ⟨rfl, hw⟩
        rw [hw]
        clear hw w1
        rw [KB.out]
        go_wp2_with fail
        go_ret
        exact ⟨by rw [HE.out]; rfl, W1.out⟩
      have HE : Hid (E = 90) := by
        have q := HE0.out
        show E = 90
        rw [q, k1, if_neg (by decide), if_pos k6]
      have d : (K != 6) = true := by simpa using k6
      clear HE0 k6 k1
      go_enter Tryz.func42, Tryz.ntmps42
      go_wp2_with fail
      refine (rout_any K 1 6 _).mono ?_
      rintro e w1 ⟨rfl, hw⟩
      rw [hw]
      clear hw w1
      rw [KB.out]
      go_wp2_with fail
      go_ret
      exact ⟨by rw [HE.out]; rfl, W1.out⟩
    have KB : Hid (hld 1 6 K = false) := Bool.eq_false_iff.2 k1
    have HE : Hid (E = 90) := by
      have q := HE0.out
      show E = 90
      rw [q, if_pos (by simpa using k1)]
    clear HE0 k1
    go_enter Tryz.func42, Tryz.ntmps42
    go_wp2_with fail
    refine (rout_any K 1 6 _).mono ?_
    rintro e w1 ⟨rfl, hw⟩
    rw [hw]
    clear hw w1
    rw [KB.out]
    go_wp2_with fail
    go_ret
    exact ⟨by rw [HE.out]; rfl, W1.out⟩
  have HE0 : Hid (E = if isK K = false then 90 else (if ¬ kO F i Pa = 6 then 1 else if hld 1 1073741824 Q = false then 94 else if hld 0 (fA1 K) A = false then 95 else 0)) := by
    show _ = _
    rw [← hE, nodeE, eK, eP, eQ, eA, if_neg hi0]
  have i0 : 0 < i := by omega
  have e0 : ((i : Int) == 0) = false := by simp; omega
  clear eK eP eQ eA hE hi0
  by_cases k1 : isK K = true
  · have KB : Hid (hld 1 6 K = true) := k1
    by_cases p1 : 0 ≤ Pa ∧ Pa < (i : Int)
    · have PB : Hid (hld 0 ((i : Int) - 1) Pa = true) := hld_of p1.1 (by omega)
      obtain ⟨k, rfl⟩ : ∃ k : Nat, Pa = (k : Int) := ⟨Pa.toNat, by omega⟩
      have lk : k < i := by omega
      have lkn : k < n := by omega
      have d0 : w.cell? ⟨b, o + k * 4, none⟩ = some (.int .i64 (F k 0)) := by simpa using hc k 0 (by omega) (by omega)
      have hkO : kO F i (k : Int) = F k 0 := by unfold kO; rw [if_pos ⟨by omega, by omega⟩]; rfl
      rw [hkO] at HE0
      obtain ⟨KP, hKP⟩ : ∃ x, F k 0 = x := ⟨_, rfl⟩
      rw [hKP] at HE0 d0
      clear hKP hkO p1 hc
      by_cases k6 : KP = 6
      · subst k6
        obtain ⟨B, hB⟩ : ∃ B, hld 1 1073741824 Q = B := ⟨_, rfl⟩
        have QB : Hid _ := hB
        rw [hB] at HE0
        clear hB
        cases B
        · have HE : Hid (E = 94) := by have q := HE0.out; show E = 94; rw [q, k1]; rfl
          clear HE0 k1
          go_enter Tryz.func42, Tryz.ntmps42
          go_wp2_with fail
          refine (rout_any K 1 6 _).mono ?_
          rintro e w1 ⟨rfl, hw⟩
          rw [hw]
          clear hw w1
          rw [KB.out]
          go_wp2_with fail
          refine (rout_any (k : Int) 0 ((i : Int) - 1) _).mono ?_
          rintro e w1 ⟨rfl, hw⟩
          rw [hw]
          clear hw w1
          rw [PB.out]
          go_wp2_with fail
          refine (rout_any Q 1 1073741824 _).mono ?_
          rintro e w1 ⟨rfl, hw⟩
          rw [hw]
          clear hw w1
          rw [QB.out]
          go_wp2_with fail
          go_ret
          exact ⟨by rw [HE.out]; rfl, W1.out⟩
        obtain ⟨B, hB⟩ : ∃ B, hld 0 (fA1 K) A = B := ⟨_, rfl⟩
        have AB : Hid _ := hB
        rw [hB] at HE0
        clear hB
        cases B
        · have HE : Hid (E = 95) := by have q := HE0.out; show E = 95; rw [q, k1]; rfl
          clear HE0 k1
          go_enter Tryz.func42, Tryz.ntmps42
          go_wp2_with fail
          refine (rout_any K 1 6 _).mono ?_
          rintro e w1 ⟨rfl, hw⟩
          rw [hw]
          clear hw w1
          rw [KB.out]
          go_wp2_with fail
          refine (rout_any (k : Int) 0 ((i : Int) - 1) _).mono ?_
          rintro e w1 ⟨rfl, hw⟩
          rw [hw]
          clear hw w1
          rw [PB.out]
          go_wp2_with fail
          refine (rout_any Q 1 1073741824 _).mono ?_
          rintro e w1 ⟨rfl, hw⟩
          rw [hw]
          clear hw w1
          rw [QB.out]
          go_wp2_with fail
          refine (raged_any K A _).mono ?_
          rintro e w1 ⟨rfl, hw⟩
          rw [hw]
          clear hw w1
          rw [AB.out]
          go_wp2_with fail
          go_ret
          exact ⟨by rw [HE.out]; rfl, W1.out⟩
        have HE : Hid (E = 0) := by have q := HE0.out; show E = 0; rw [q, k1]; rfl
        clear HE0 k1
        go_enter Tryz.func42, Tryz.ntmps42
        go_wp2_with fail
        refine (rout_any K 1 6 _).mono ?_
        rintro e w1 ⟨rfl, hw⟩
        rw [hw]
        clear hw w1
        rw [KB.out]
        go_wp2_with fail
        refine (rout_any (k : Int) 0 ((i : Int) - 1) _).mono ?_
        rintro e w1 ⟨rfl, hw⟩
        rw [hw]
        clear hw w1
        rw [PB.out]
        go_wp2_with fail
        refine (rout_any Q 1 1073741824 _).mono ?_
        rintro e w1 ⟨rfl, hw⟩
        rw [hw]
        clear hw w1
        rw [QB.out]
        go_wp2_with fail
        refine (raged_any K A _).mono ?_
        rintro e w1 ⟨rfl, hw⟩
        rw [hw]
        clear hw w1
        rw [AB.out]
        go_wp2_with fail
        go_ret
        exact ⟨by rw [HE.out]; rfl, W1.out⟩
      have HE : Hid (E = 1) := by
        have q := HE0.out
        show E = 1
        rw [q, k1, if_neg (by decide), if_pos k6]
      have d : (KP != 6) = true := by simpa using k6
      clear HE0 k6 k1
      go_enter Tryz.func42, Tryz.ntmps42
      go_wp2_with fail
      refine (rout_any K 1 6 _).mono ?_
      rintro e w1 ⟨rfl, hw⟩
      rw [hw]
      clear hw w1
      rw [KB.out]
      go_wp2_with fail
      refine (rout_any (k : Int) 0 ((i : Int) - 1) _).mono ?_
      rintro e w1 ⟨rfl, hw⟩
      rw [hw]
      clear hw w1
      rw [PB.out]
      go_wp2_with fail
      go_ret
      exact ⟨by rw [HE.out]; rfl, W1.out⟩
    have PB : Hid (hld 0 ((i : Int) - 1) Pa = false) := by
      show _ = _
      unfold hld
      by_cases q : 0 ≤ Pa
      · rw [decide_eq_false (show ¬ Pa ≤ (i : Int) - 1 by omega), Bool.and_false]
      rw [decide_eq_false q]; rfl
    have HE : Hid (E = 1) := by
      have q := HE0.out
      have z : kO F i Pa = 0 := by unfold kO; rw [if_neg p1]
      show E = 1
      rw [q, k1, if_neg (by decide), z, if_pos (by decide)]
    clear HE0 p1 k1 hc
    go_enter Tryz.func42, Tryz.ntmps42
    go_wp2_with fail
    refine (rout_any K 1 6 _).mono ?_
    rintro e w1 ⟨rfl, hw⟩
    rw [hw]
    clear hw w1
    rw [KB.out]
    go_wp2_with fail
    refine (rout_any Pa 0 ((i : Int) - 1) _).mono ?_
    rintro e w1 ⟨rfl, hw⟩
    rw [hw]
    clear hw w1
    rw [PB.out]
    go_wp2_with fail
    go_ret
    exact ⟨by rw [HE.out]; rfl, W1.out⟩
  have KB : Hid (hld 1 6 K = false) := Bool.eq_false_iff.2 k1
  have HE : Hid (E = 90) := by
    have q := HE0.out
    show E = 90
    rw [q, if_pos (by simpa using k1)]
  clear HE0 k1 hc
  go_enter Tryz.func42, Tryz.ntmps42
  go_wp2_with fail
  refine (rout_any K 1 6 _).mono ?_
  rintro e w1 ⟨rfl, hw⟩
  rw [hw]
  clear hw w1
  rw [KB.out]
  go_wp2_with fail
  go_ret
  exact ⟨by rw [HE.out]; rfl, W1.out⟩
def kidB (F : Nat → Nat → Int) (n i : Nat) : Prop := ∃ k, i < k ∧ k < n ∧ F k 1 = (i : Int)
set_option maxHeartbeats 1000000 in
open Classical in
theorem rparent_any (a : Option Addr) (n cap : Nat) (F : Nat → Nat → Int) (i : Nat) (B : Bool) (w : World) (h : NSl w a n cap F) (hi : i < n) (hB : decide (kidB F n i) = B) :
    Calls Tryz.prog 43 #[.slice a n cap, .int .i64 (i : Int)] w fun e w' => e = .returned (.bool B) ∧ w' = w := by
  obtain ⟨b, o, rfl, hc⟩ := h.at (by omega)
  have hl0 : n ≤ 9223372036854775807 := Nat.le_trans h.le h.lim
  have HC : Hid _ := hc
  have HB : Hid _ := hB
  clear h hc hB
  go_enter Tryz.func43, Tryz.ntmps43
  go_wp2_with fail
  go_loopw [5] (fun t wr => ∃ k : Nat, i < k ∧ k ≤ n ∧ t = .int .i64 (k : Int) ∧ wr = w ∧ Hid (∀ j, i < j → j < k → F j 1 ≠ (i : Int))) (fun t _ => n - (intOf t).toNat)
  case atStart => exact ⟨i + 1, by omega, by omega, by go_num, rfl, fun j h1 h2 => by omega⟩
  case round =>
    obtain ⟨k, h1, h2, rfl, rfl, HS⟩ := hrel
    by_cases ek : k = n
    · subst ek
      have HV : Hid (B = false) := by
        show _ = _
        rw [← HB.out]
        exact decide_eq_false fun ⟨j, q1, q2, q3⟩ => HS.out j q1 q2 q3
      go_wp2_with fail
      go_ret
      exact ⟨by rw [HV.out]; rfl, rfl⟩
    have lk : k < n := by omega
    have c1 := HC.out k 1 lk (by omega)
    by_cases q : F k 1 = (i : Int)
    · rw [q] at c1
      have HV : Hid (B = true) := by
        show _ = _
        rw [← HB.out]
        exact decide_eq_true ⟨k, h1, lk, q⟩
      clear q
      go_wp2_with fail
      go_ret
      exact ⟨by rw [HV.out]; rfl, rfl⟩
    have d : (F k 1 == (i : Int)) = false := by simpa using q
    have HS2 : Hid (∀ j, i < j → j < k + 1 → F j 1 ≠ (i : Int)) := fun j q1 q2 => by
      by_cases e : j = k
      · subst e; exact q
      exact HS.out j q1 (by omega)
    clear q
    go_wp2_with fail
    go_roundw
    case rel => exact ⟨k + 1, by omega, by omega, by go_num, (by trivial), HS2⟩
    case measure => simp [intOf]; omega
theorem cnt_pos (F : Nat → Nat → Int) (m j : Nat) : 0 < cntP F m j ↔ ∃ k, 1 ≤ k ∧ k ≤ m ∧ F k 1 = (j : Int) := by
  induction m with
  | zero =>
    rw [cntP]
    exact ⟨fun h => by omega, fun ⟨k, h1, h2, _⟩ => by omega⟩
  | succ m ih =>
    rw [cntP]
    constructor
    · intro h
      by_cases q : F (m + 1) 1 = (j : Int)
      · exact ⟨m + 1, by omega, by omega, q⟩
      rw [if_neg q] at h
      obtain ⟨k, h1, h2, h3⟩ := ih.1 (by omega)
      exact ⟨k, h1, by omega, h3⟩
    rintro ⟨k, h1, h2, h3⟩
    by_cases e : k = m + 1
    · subst e
      rw [if_pos h3]
      omega
    have := ih.2 ⟨k, h1, by omega, h3⟩
    omega
theorem kid_cnt {F : Nat → Nat → Int} {n : Nat} (h : firstE F n = 0) (i : Nat) : kidB F n i ↔ 0 < cntP F (n - 1) i := by
  rw [cnt_pos]
  constructor
  · rintro ⟨k, h1, h2, h3⟩
    exact ⟨k, by omega, by omega, h3⟩
  rintro ⟨k, h1, h2, h3⟩
  refine ⟨k, ?_, by omega, h3⟩
  have := kO_in (F := F) (n := k) (x := F k 1) (by rw [(nodeE_other (by omega) (firstE_none h k (by omega))).2.2.1]; decide)
  omega
set_option maxHeartbeats 1000000 in
theorem rcheckNodes_any (a : Option Addr) (n cap : Nat) (F : Nat → Nat → Int) (w : World) (h : NSl w a n cap F) :
    Calls Tryz.prog 15 #[.slice a n cap] w fun e w' => e = .returned (.int .i64 (nodesE F n)) ∧ Below w.heap.size w w' := by
  classical
  obtain ⟨E, hE⟩ : ∃ E, nodesE F n = E := ⟨_, rfl⟩
  rw [hE]
  have HN : Hid _ := h
  have hl : n ≤ 9223372036854775807 := Nat.le_trans h.le h.lim
  clear h
  obtain ⟨B, hB⟩ : ∃ B, hld 1 32 (n : Int) = B := ⟨_, rfl⟩
  have HB : Hid _ := hB
  have HE : Hid (E = if B = false then 1 else if ¬ firstE F n = 0 then firstE F n else if kids F n = false then 1 else 0) := by show _ = _; rw [← hE, nodesE, hB]
  clear hE hB
  go_enter Tryz.func15, Tryz.ntmps15
  go_wp2_with fail
  refine (rout_any (n : Int) 1 32 _).mono ?_
  rintro e w1 ⟨rfl, hw⟩
  rw [hw, HB.out]
  clear hw w1
  cases B
  · have HV : Hid (E = 1) := by have q := HE.out; show E = 1; rw [q]; rfl
    clear HE
    go_wp2_with fail
    go_ret
    exact ⟨by rw [HV.out]; rfl, bel_refl w⟩
  have hn := hld_yes HB.out
  have n1 : 1 ≤ n := by omega
  have n2 : n ≤ 32 := by omega
  clear hn
  go_wp2_with fail
  go_loopw [3, 4] (fun t t4 wr => ∃ k : Nat, k ≤ n ∧ t = .int .i64 (k : Int) ∧ Hid (Below w.heap.size w wr) ∧ Hid (firstE F k = 0)) (fun t _ _ => n - (intOf t).toNat)
  case atStart => exact ⟨0, by omega, rfl, bel_refl w, rfl⟩
  case round =>
    obtain ⟨k, hk, rfl, BW, HF⟩ := hrel
    by_cases ek : k = n
    · subst ek
      have HK : Hid (E = if kids F k = false then 1 else 0) := by
        have q := HE.out
        show E = _
        rw [q, if_neg (by decide), if_neg (by rw [HF.out]; simp)]
      obtain ⟨wz, hwz⟩ : ∃ W, W = wr := ⟨_, rfl⟩
      rw [← hwz] at BW
      rw [← hwz]
      clear HE hwz
      go_wp2_with fail
      go_loopw [5] (fun t wr => ∃ j : Nat, j ≤ k ∧ t = .int .i64 (j : Int) ∧ wr = wz ∧ Hid (∀ i, i < j → F i 0 = 6 → 0 < cntP F (k - 1) i)) (fun t _ => k - (intOf t).toNat)
      case atStart => exact ⟨0, by omega, rfl, rfl, fun i h => by omega⟩
      case round =>
        obtain ⟨j, hj, rfl, rfl, HS⟩ := hrel
        by_cases ej : j = k
        · subst ej
          have HV : Hid (E = 0) := by
            have q := HK.out
            show E = 0
            rw [q, show kids F j = true from decide_eq_true HS.out]
            rfl
          go_wp2_with fail
          go_ret
          exact ⟨by rw [HV.out]; rfl, BW.out⟩
        have lj : j < k := by omega
        have hn2 := HN.out.go BW.out
        obtain ⟨b, o, ea, hc⟩ := hn2.at (by omega)
        subst ea
        have c0 : wr.cell? ⟨b, o + j * 4, none⟩ = some (.int .i64 (F j 0)) := by simpa using hc j 0 lj (by omega)
        have HN2 : Hid _ := hn2
        clear hn2 hc
        by_cases q6 : F j 0 = 6
        · rw [q6] at c0
          obtain ⟨D, hD⟩ : ∃ D, decide (kidB F k j) = D := ⟨_, rfl⟩
          go_wp2_with fail
          refine (rparent_any _ k cap F j D _ HN2.out lj hD).mono ?_
          rintro e w1 ⟨rfl, hw⟩
          rw [hw]
          clear hw w1
          cases D
          · have HV : Hid (E = 1) := by
              have q := HK.out
              show E = 1
              rw [q, show kids F k = false from decide_eq_false fun z => of_decide_eq_false hD ((kid_cnt HF.out j).2 (z j lj q6))]
              rfl
            clear hD q6
            go_wp2_with fail
            go_ret
            exact ⟨by rw [HV.out]; rfl, BW.out⟩
          have HS2 : Hid (∀ i, i < j + 1 → F i 0 = 6 → 0 < cntP F (k - 1) i) := fun i hi z => by
            by_cases e : i = j
            · subst e; exact (kid_cnt HF.out i).1 (of_decide_eq_true hD)
            exact HS.out i (by omega) z
          clear hD q6
          go_wp2_with fail
          go_roundw
          case rel => exact ⟨j + 1, by omega, by go_num, (by trivial), HS2⟩
          case measure => simp [intOf]; omega
        have d : (F j 0 == 6) = false := by simpa using q6
        have HS2 : Hid (∀ i, i < j + 1 → F i 0 = 6 → 0 < cntP F (k - 1) i) := fun i hi z => by
          by_cases e : i = j
          · subst e; exact absurd z q6
          exact HS.out i (by omega) z
        clear q6
        go_wp2_with fail
        go_roundw
        case rel => exact ⟨j + 1, by omega, by go_num, (by trivial), HS2⟩
        case measure => simp [intOf]; omega
    have lk : k < n := by omega
    go_wp2_with fail
    refine (rnode_any a n cap F k _ (HN.out.go BW.out) lk).mono ?_
    rintro e w2 ⟨rfl, hb2⟩
    have W2 : Hid (Below w.heap.size w w2) := bc_go BW.out hb2
    obtain ⟨ne, hne⟩ : ∃ x, nodeE F k = x := ⟨_, rfl⟩
    rw [hne]
    clear hb2
    by_cases z : ne = 0
    · subst z
      have HF2 : Hid (firstE F (k + 1) = 0) := by show _ = _; rw [firstE, if_pos HF.out, hne]
      clear hne
      go_wp2_with fail
      go_roundw
      case rel => exact ⟨k + 1, by omega, by go_num, W2, HF2⟩
      case measure => simp [intOf]; omega
    have d : (ne != 0) = true := by simpa using z
    have HV : Hid (E = ne) := by
      have q := HE.out
      have q2 := firstE_at HF.out (by rw [hne]; exact z) lk
      rw [hne] at q2
      show E = ne
      rw [q, q2, if_neg (by decide), if_pos z]
    clear hne z
    go_wp2_with fail
    go_ret
    exact ⟨by rw [HV.out]; rfl, W2.out⟩
set_option maxHeartbeats 2000000 in
theorem rcheck_any (K R M C Fl A : Int) (a : Option Addr) (n cap : Nat) (F : Nat → Nat → Int) (w : World) (h : NSl w a n cap F) :
    Calls Tryz.prog 13 #[.agg #[.int .i64 K, .int .i64 R, .int .i64 M, .int .i64 C, .int .i64 Fl, .int .i64 A, .slice a n cap]] w fun e w' => e = .returned (.int .i64 (checkE K R M C Fl A F n)) ∧ Below w.heap.size w w' := by
  obtain ⟨E, hE⟩ : ∃ E, checkE K R M C Fl A F n = E := ⟨_, rfl⟩
  rw [hE]
  unfold checkE at hE
  have HN : Hid _ := h
  have hl : n ≤ 9223372036854775807 := Nat.le_trans h.le h.lim
  clear h
  obtain ⟨BK, hBK⟩ : ∃ b, isK K = b := ⟨_, rfl⟩
  have BKH : Hid (hld 1 6 K = BK) := hBK
  rw [hBK] at hE
  clear hBK
  obtain ⟨BM, hBM⟩ : ∃ b, hld 1 65536 M = b := ⟨_, rfl⟩
  have BMH : Hid (hld 1 65536 M = BM) := hBM
  rw [hBM] at hE
  clear hBM
  obtain ⟨BR, hBR⟩ : ∃ b, hld M 1073741824 R = b := ⟨_, rfl⟩
  have BRH : Hid (hld M 1073741824 R = BR) := hBR
  rw [hBR] at hE
  clear hBR
  obtain ⟨BC, hBC⟩ : ∃ b, hld 1 4096 C = b := ⟨_, rfl⟩
  have BCH : Hid (hld 1 4096 C = BC) := hBC
  rw [hBC] at hE
  clear hBC
  obtain ⟨BF, hBF⟩ : ∃ b, hld 1 256 Fl = b := ⟨_, rfl⟩
  have BFH : Hid (hld 1 256 Fl = BF) := hBF
  rw [hBF] at hE
  clear hBF
  obtain ⟨BA, hBA⟩ : ∃ b, hld 0 (fA1 K) A = b := ⟨_, rfl⟩
  have BAH : Hid (hld 0 (fA1 K) A = BA) := hBA
  rw [hBA] at hE
  clear hBA
  have HE : Hid _ := hE.symm
  clear hE
  have W1 : Hid (Below w.heap.size w (w.alloc (.cells #[.int .i64 K, .int .i64 R, .int .i64 M, .int .i64 C, .int .i64 Fl, .int .i64 A, .slice a n cap] 24))) := bc_al (bel_refl w)
  go_enter Tryz.func13, Tryz.ntmps13
  go_wp2_with fail
  refine (rout_any K 1 6 _).mono ?_
  rintro e w2 ⟨rfl, hw⟩
  rw [hw, BKH.out]
  clear hw w2
  cases BK
  · have HV : Hid (E = 90) := by have q := HE.out; show E = 90; rw [q]; rfl
    clear HE
    go_wp2_with fail
    go_ret
    exact ⟨by rw [HV.out]; rfl, W1.out⟩
  go_wp2_with fail
  refine (rout_any M 1 65536 _).mono ?_
  rintro e w2 ⟨rfl, hw⟩
  rw [hw, BMH.out]
  clear hw w2
  cases BM
  · have HV : Hid (E = 92) := by have q := HE.out; show E = 92; rw [q]; rfl
    clear HE
    go_wp2_with fail
    go_ret
    exact ⟨by rw [HV.out]; rfl, W1.out⟩
  go_wp2_with fail
  refine (rout_any R M 1073741824 _).mono ?_
  rintro e w2 ⟨rfl, hw⟩
  rw [hw, BRH.out]
  clear hw w2
  cases BR
  · have HV : Hid (E = 91) := by have q := HE.out; show E = 91; rw [q]; rfl
    clear HE
    go_wp2_with fail
    go_ret
    exact ⟨by rw [HV.out]; rfl, W1.out⟩
  go_wp2_with fail
  refine (rout_any C 1 4096 _).mono ?_
  rintro e w2 ⟨rfl, hw⟩
  rw [hw, BCH.out]
  clear hw w2
  cases BC
  · have HV : Hid (E = 93) := by have q := HE.out; show E = 93; rw [q]; rfl
    clear HE
    go_wp2_with fail
    go_ret
    exact ⟨by rw [HV.out]; rfl, W1.out⟩
  go_wp2_with fail
  refine (rout_any Fl 1 256 _).mono ?_
  rintro e w2 ⟨rfl, hw⟩
  rw [hw, BFH.out]
  clear hw w2
  cases BF
  · have HV : Hid (E = 99) := by have q := HE.out; show E = 99; rw [q]; rfl
    clear HE
    go_wp2_with fail
    go_ret
    exact ⟨by rw [HV.out]; rfl, W1.out⟩
  go_wp2_with fail
  refine (raged_any K A _).mono ?_
  rintro e w2 ⟨rfl, hw⟩
  rw [hw, BAH.out]
  clear hw w2
  cases BA
  · have HV : Hid (E = 95) := by have q := HE.out; show E = 95; rw [q]; rfl
    clear HE
    go_wp2_with fail
    go_ret
    exact ⟨by rw [HV.out]; rfl, W1.out⟩
  by_cases k6 : K = 6
  · subst k6
    have HV : Hid (E = nodesE F n) := by have q := HE.out; show E = _; rw [q]; rfl
    clear HE
    go_wp2_with fail
    refine (rcheckNodes_any a n cap F _ (HN.out.go W1.out)).mono ?_
    rintro e w2 ⟨rfl, hb2⟩
    have W2 : Hid _ := bc_go W1.out hb2
    clear hb2
    rw [← HV.out]
    go_wp2_with fail
    go_ret
    exact ⟨rfl, W2.out⟩
  have d6 : (K == 6) = false := by simpa using k6
  by_cases n0 : 0 < n
  · have HV : Hid (E = 1) := by have q := HE.out; show E = 1; rw [q, if_neg (by decide), if_neg (by decide), if_neg (by decide), if_neg (by decide), if_neg (by decide), if_neg (by decide), if_neg k6, if_pos n0]
    clear HE k6
    go_wp2_with fail
    go_ret
    exact ⟨by rw [HV.out]; rfl, W1.out⟩
  have HV : Hid (E = 0) := by have q := HE.out; show E = 0; rw [q, if_neg (by decide), if_neg (by decide), if_neg (by decide), if_neg (by decide), if_neg (by decide), if_neg (by decide), if_neg k6, if_neg n0]
  clear HE k6
  go_wp2_with fail
  go_ret
  exact ⟨by rw [HV.out]; rfl, W1.out⟩
end Go.Proofs.YtchomkadekikdaaGreatDoor
