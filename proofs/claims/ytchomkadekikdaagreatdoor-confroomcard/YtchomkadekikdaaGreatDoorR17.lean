/- Contracts of the program's functions, part 17: own work, joined in build order. -/
import Derived.Test.YtchomkadekikdaaGreatDoorR16
import Derived.Lib.ItoaLen
import Derived.Lib.ConvBytes
namespace Go.Proofs.YtchomkadekikdaaGreatDoor
open Go.RowKit
set_option maxRecDepth 100000
set_option linter.unusedVariables false
def kindT : Nat → ByteArray
  | 0 => ⟨#[]⟩
  | 1 => ⟨#[119, 102, 113]⟩
  | 2 => ⟨#[100, 114, 114]⟩
  | 3 => ⟨#[101, 100, 102]⟩
  | 4 => ⟨#[97, 103, 101]⟩
  | 5 => ⟨#[119, 102, 50]⟩
  | 6 => ⟨#[116, 114, 101, 101]⟩
  | _ => ⟨#[]⟩
def KN (w : World) : Prop := ∀ i, i < 7 → w.cell? ⟨0, i, none⟩ = some (.string (kindT i))
theorem KN.go {w W : World} (h : KN w) (hB : Below w.heap.size w W) : KN W := fun i hi => bc_cell hB (h i hi)
def setupN : ByteArray := ⟨#[114, 111, 111, 109, 32, 109, 111, 115, 116, 32, 99, 97, 112, 32, 102, 108, 111, 119, 115, 32, 97, 103, 101]⟩
theorem setupN_words : wordsL setupN = [⟨#[114, 111, 111, 109]⟩, ⟨#[109, 111, 115, 116]⟩, ⟨#[99, 97, 112]⟩, ⟨#[102, 108, 111, 119, 115]⟩, ⟨#[97, 103, 101]⟩] := by decide +kernel
def setI (R M C Fl A : Int) (i : Nat) : Int := [R, M, C, Fl, A].getD i 0
def setT (R M C Fl A : Int) : List ByteArray := [itT R, itT M, itT C, itT Fl, itT A]
theorem setT_at (R M C Fl A : Int) (i : Nat) (h : i < 5) : tx (setT R M C Fl A) i = .string (itT (setI R M C Fl A i)) := by
  match i, h with
  | 0, _ => rfl
  | 1, _ => rfl
  | 2, _ => rfl
  | 3, _ => rfl
  | 4, _ => rfl
def headT (K R M C Fl A : Int) : List ByteArray := [⟨#[107, 105, 110, 100]⟩, kindT K.toNat] ++ zipT (wordsL setupN) (setT R M C Fl A) 5
theorem checkE_zero {K R M C Fl A : Int} {F : Nat → Nat → Int} {n : Nat} (h : checkE K R M C Fl A F n = 0) : (1 ≤ K ∧ K ≤ 6) ∧ (1 ≤ M ∧ M ≤ 65536) ∧ (M ≤ R ∧ R ≤ 1073741824) ∧ (1 ≤ C ∧ C ≤ 4096) ∧ (1 ≤ Fl ∧ Fl ≤ 256) ∧ (0 ≤ A ∧ A ≤ fA1 K) ∧ (K = 6 → nodesE F n = 0) ∧ (K ≠ 6 → n = 0) := by
  unfold checkE at h
  split at h
  · omega
  split at h
  · omega
  split at h
  · omega
  split at h
  · omega
  split at h
  · omega
  split at h
  · omega
  rename_i h1 h2 h3 h4 h5 h6
  have q0 : isK K = true := by simpa using h1
  have q1 := hld_yes (show hld 1 65536 M = true by simpa using h2)
  have q2 := hld_yes (show hld M 1073741824 R = true by simpa using h3)
  have q3 := hld_yes (show hld 1 4096 C = true by simpa using h4)
  have q4 := hld_yes (show hld 1 256 Fl = true by simpa using h5)
  have q5 := hld_yes (show hld 0 (fA1 K) A = true by simpa using h6)
  unfold isK at q0
  have q6 : 1 ≤ K ∧ K ≤ 6 := by simpa using q0
  refine ⟨q6, q1, q2, q3, q4, q5, fun e => ?_, fun e => ?_⟩
  · rwa [if_pos e] at h
  rw [if_neg e] at h
  split at h <;> omega
theorem lens_le (L : List ByteArray) (h : ∀ x ∈ L, x.size ≤ 100) : Lib.lens (L.map (·.data.toList)) ≤ 100 * L.length := by
  induction L with
  | nil => simp [Lib.lens]
  | cons x l ih =>
    have h1 := ih fun y hy => h y (List.mem_cons_of_mem _ hy)
    have h2 := h x List.mem_cons_self
    have h3 : x.data.toList.length = x.size := by rw [Array.length_toList]; rfl
    simp only [Lib.lens, List.map_cons, List.sum_cons, List.length_cons] at h1 ⊢
    omega
theorem join_small (L : List ByteArray) (hl : L.length ≤ 1000) (h : ∀ x ∈ L, x.size ≤ 100) : (Lib.join (L.map (·.data.toList)) [32]).length ≤ 140737488355328 := by
  cases L with
  | nil => simp [Lib.join]
  | cons x l =>
    have h1 := lens_le (x :: l) h
    rw [List.map_cons] at h1 ⊢
    rw [Lib.join_length]
    simp only [List.length_map, List.length_cons] at *
    simp
    omega
theorem itT_le (x : Int) (h0 : -9223372036854775808 ≤ x) (h1 : x ≤ 9223372036854775807) : (itT x).size ≤ 100 := by
  have := Lib.itoa_length_le x h0 h1
  show (Lib.itoa x).toArray.size ≤ 100
  simp
  omega
theorem kindT_le (i : Nat) : (kindT i).size ≤ 100 := by
  unfold kindT
  split <;> decide
theorem headT_le (K R M C Fl A : Int) (h : ∀ i, i < 5 → -9223372036854775808 ≤ setI R M C Fl A i ∧ setI R M C Fl A i ≤ 9223372036854775807) : ∀ x ∈ headT K R M C Fl A, x.size ≤ 100 := by
  have a0 := h 0 (by omega)
  have a1 := h 1 (by omega)
  have a2 := h 2 (by omega)
  have a3 := h 3 (by omega)
  have a4 := h 4 (by omega)
  intro x hx
  rw [headT, setupN_words] at hx
  simp only [zipT, setT, List.nil_append, List.cons_append, List.getD, List.mem_cons, List.getElem?_cons_zero, List.getElem?_cons_succ, Option.getD_some, List.not_mem_nil, or_false] at hx
  rcases hx with rfl | rfl | rfl | rfl | rfl | rfl | rfl | rfl | rfl | rfl | rfl | rfl
  · decide
  · exact kindT_le _
  · decide
  · exact itT_le _ a0.1 a0.2
  · decide
  · exact itT_le _ a1.1 a1.2
  · decide
  · exact itT_le _ a2.1 a2.2
  · decide
  · exact itT_le _ a3.1 a3.2
  · decide
  exact itT_le _ a4.1 a4.2
theorem pair_or (w : World) (a b : ByteArray) (o : Obj) (base : Nat) (hb : base ≤ w.heap.size) : OR ((w.alloc (.cells #[.string a, .string b] 9)).alloc o) 9 base (.slice (some ⟨w.heap.size, 0, none⟩) 2 2) [a, b].length (tx [a, b]) := by
  refine .inr ⟨w.heap.size, 2, tx [a, b], rfl, hb, Nat.le_refl _, by simp [maxLen], (World.rowIs_alloc w #[.string a, .string b] _ (tx [a, b]) fun i hi => ?_).alloc o, fun i hi => rfl⟩
  match i, hi with
  | 0, _ => rfl
  | 1, _ => rfl
theorem OR.sliced {w : World} {e : TypeId} {base n g cap : Nat} {G : Nat → Value} (h : OR w e base (.slice (some ⟨g, 0, none⟩) n cap) n G) (hn : n ≠ 0) : n ≤ cap ∧ ∀ i, i < n → w.cell? ⟨g, i, none⟩ = some (G i) := by
  obtain ⟨g', c', e, h1, h2⟩ := OR.row h hn
  cases e
  exact ⟨h1, h2⟩
theorem five_new (w : World) (R M C Fl A : Int) (t : TypeId) (i : Nat) (hi : i < 5) : (w.alloc (.cells #[.int .i64 R, .int .i64 M, .int .i64 C, .int .i64 Fl, .int .i64 A] t)).cell? ⟨w.heap.size, 0 + i, none⟩ = some (.int .i64 (setI R M C Fl A i)) := by
  match i, hi with
  | 0, _ => simp [setI]
  | 1, _ => simp [setI]
  | 2, _ => simp [setI]
  | 3, _ => simp [setI]
  | 4, _ => simp [setI]
theorem fA1_le (K : Int) : fA1 K ≤ 1099511627776 := by unfold fA1; split <;> omega
set_option maxHeartbeats 1000000 in
theorem print_flat (K R M C Fl A : Int) (a : Option Addr) (n cap : Nat) (F : Nat → Nat → Int) (w : World) (h : NSl w a n cap F) (hk : KN w) (ht : Lib.TabIs Tryz.prog w "internal/strconv.uint64pow10" .u64 Lib.pow10Tab) (h6 : K ≠ 6) :
    Calls Tryz.prog 7 #[.agg #[.int .i64 K, .int .i64 R, .int .i64 M, .int .i64 C, .int .i64 Fl, .int .i64 A, .slice a n cap]] w fun e w' => ∃ s, e = .returned (.tuple #[.string s, .int .i64 (checkE K R M C Fl A F n)]) ∧ Below w.heap.size w w' ∧ (checkE K R M C Fl A F n = 0 → s = ⟨(Lib.join ((headT K R M C Fl A).map (·.data.toList)) [32]).toArray⟩) := by
  obtain ⟨ce, hce⟩ : ∃ ce, checkE K R M C Fl A F n = ce := ⟨_, rfl⟩
  have HN : Hid _ := h
  have HK : Hid _ := hk
  have HT : Hid _ := Lib.tabBelow_of_tabIs ht
  have HCE : Hid _ := hce
  have hl0 : n ≤ 9223372036854775807 := Nat.le_trans h.le h.lim
  clear h hce hk ht
  go_enter Tryz.func7, Tryz.ntmps7
  go_wp2_with fail
  have S0 : Hid _ := (ce_start w).box7 (.int .i64 K) (.int .i64 R) (.int .i64 M) (.int .i64 C) (.int .i64 Fl) (.int .i64 A) (.slice a n cap) 24 _ rfl
  refine (check_any K R M C Fl A a n cap F _ (HN.out.go S0.out.bel)).mono ?_
  rintro e w1 ⟨rfl, hb⟩
  rw [HCE.out]
  obtain ⟨g, eg⟩ : ∃ g, g = w.heap.size := ⟨_, rfl⟩
  rw [← eg] at S0
  rw [← eg]
  clear eg
  have S1 : Hid _ := S0.out.go hb
  clear hb S0
  by_cases c0 : ce = 0
  · have HZ : Hid _ := checkE_zero (HCE.out.trans c0)
    obtain ⟨kn, ekn⟩ : ∃ kn : Nat, K = (kn : Int) := ⟨K.toNat, by have := HZ.out.1; omega⟩
    have HEK : Hid _ := ekn
    have lkn : kn < 7 := by have := HZ.out.1; omega
    subst c0
    have x0 := S1.out.cel g 0 (.int .i64 K)
    have x1 := S1.out.cel g 1 (.int .i64 R)
    have x2 := S1.out.cel g 2 (.int .i64 M)
    have x3 := S1.out.cel g 3 (.int .i64 C)
    have x4 := S1.out.cel g 4 (.int .i64 Fl)
    have x5 := S1.out.cel g 5 (.int .i64 A)
    have x6 := S1.out.cel g 6 (.slice a n cap)
    have hl := S1.out.lt g 0 (.int .i64 K)
    have hk0 := KN.go HK.out S1.out.bel kn lkn
    rw [ekn] at x0
    have HI : Hid (∀ i, i < 5 → -9223372036854775808 ≤ setI R M C Fl A i ∧ setI R M C Fl A i ≤ 9223372036854775807) := by
      obtain ⟨b1, b2, b3, b4, b5, b6, _⟩ := HZ.out
      have b7 := fA1_le K
      intro i hi
      match i, hi with
      | 0, _ => show _ ≤ R ∧ R ≤ _; omega
      | 1, _ => show _ ≤ M ∧ M ≤ _; omega
      | 2, _ => show _ ≤ C ∧ C ≤ _; omega
      | 3, _ => show _ ≤ Fl ∧ Fl ≤ _; omega
      | 4, _ => show _ ≤ A ∧ A ≤ _; omega
    have d6 : ((kn : Int) == 6) = false := by simp; omega
    have hsz1 := S1.out.bel.size
    go_wp2_with fail
    have O2 : Hid _ := pair_or w1 ⟨#[107, 105, 110, 100]⟩ (kindT kn) (.cells #[.int .i64 R, .int .i64 M, .int .i64 C, .int .i64 Fl, .int .i64 A] 3) w.heap.size hsz1
    have S2 : Hid _ := bc_al (o := .cells #[.int .i64 R, .int .i64 M, .int .i64 C, .int .i64 Fl, .int .i64 A] 3) (bc_al (o := .cells #[.string ⟨#[107, 105, 110, 100]⟩, .string (kindT kn)] 9) S1.out.bel)
    refine (digits_any (w1.heap.size + 1) 0 5 5 (setI R M C Fl A) _ (by omega) (Nat.le_refl _) (fun i hi => ?_) HI.out (HT.out _ S2.out)).mono ?_
    · have := five_new (w1.alloc (.cells #[.string ⟨#[107, 105, 110, 100]⟩, .string (kindT kn)] 9)) R M C Fl A 3 i hi
      simpa using this
    rintro e w3 ⟨v3, rfl, hO3, hb3⟩
    have O3 : Hid _ := OR.below O2.out hb3
    have S3 : Hid _ := bc_go S2.out hb3
    have T3 : Hid _ := S1.out.bel
    obtain ⟨gv, cv, rfl, hcv, hvv⟩ := OR.row hO3 (by omega)
    have HV3 : Hid _ := hvv
    have x0' := bc_cell hb3 (bc_cell (bc_al (bc_al (bel_refl w1))) x0)
    clear hO3 hb3 O2 S2 hvv x0 x1 x2 x3 x4 x5 x6 hk0
    go_wp2_with fail
    refine (named_any setupN gv 0 5 cv (setT R M C Fl A) w3 (by decide) hcv (by rw [setupN_words]; decide) (by rw [setupN_words]; decide) (by omega) (fun i hi => by rw [Nat.zero_add, HV3.out i hi, setT_at _ _ _ _ _ i hi]) trivial).mono ?_
    rintro e w4 ⟨v4, rfl, hO4, hb4⟩
    rw [show (wordsL setupN).length = 5 by rw [setupN_words]; rfl] at hO4
    obtain ⟨L2, hL2⟩ : ∃ L2, zipT (wordsL setupN) (setT R M C Fl A) 5 = L2 := ⟨_, rfl⟩
    rw [hL2] at hO4
    have HL2 : Hid (L2.length = 10) := by show _ = _; rw [← hL2, zipT_len]
    have HH : Hid (headT K R M C Fl A = [⟨#[107, 105, 110, 100]⟩, kindT kn] ++ L2) := by
      show _ = _
      rw [headT, hL2, HEK.out]
      rfl
    obtain ⟨gz, cz, rfl, hcz, hvz⟩ := OR.row hO4 (by have := HL2.out; omega)
    have O4 : Hid _ := OR.below O3.out hb4
    have S4 : Hid _ := bc_go S3.out hb4
    have x0 := bc_cell hb4 x0'
    have hsz4 := S4.out.size
    have HV4 : Hid _ := hvz
    clear hO4 hb4 O3 S3 hvz HV3 x0' hL2
    have A1 : Hid (∀ j, j < L2.length → w4.cell? ((⟨gz, 0, none⟩ : Addr).add j) = some (tx L2 j)) := fun j hj => by
      rw [show (⟨gz, 0, none⟩ : Addr).add j = ⟨gz, j, none⟩ by simp [Addr.add]; omega]
      exact HV4.out j hj
    have A2 : Hid (0 < L2.length) := by show _ < _; rw [HL2.out]; decide
    have A3 : Hid ([⟨#[107, 105, 110, 100]⟩, kindT kn].length + L2.length ≤ 1099511627776) := by show _ ≤ _; rw [HL2.out]; simp
    go_wp2_with (refine (id ?_ : wpList Tryz.prog _ _ (⟨some 32, _, _, _, _, _⟩ :: _) _ _); refine wpList_append_tx rfl (.tmp 18) (.tmp 31) rfl w.heap.size _ [⟨#[107, 105, 110, 100]⟩, kindT kn] L2 rfl O4.out ⟨gz, 0, none⟩ cz rfl A1.out A2.out A3.out hsz4 ?_)
    intro g5 cap5 w5 ho hg hor hlt5
    obtain ⟨hc5, hv5⟩ := OR.sliced ho (by simp)
    have I5 : Hid _ := hv5
    have IC : Hid _ := hc5
    have B5 : Hid (Below w.heap.size w w5) := Below.grown S4.out hg hsz4 (fun j hj => OR.blk O4.out j hj)
    have x5 := hg.cell x0 (by simp [Value.ownBlock]; omega)
    clear ho hg hor hv5 hc5 x0 O4 S4
    go_wp2_with fail
    refine (Tryz.strings_Join g5 0 cap5 ([⟨#[107, 105, 110, 100]⟩, kindT kn] ++ L2) ⟨#[32]⟩ w5 (fun j x hj => ?_) hlt5 (by have := HL2.out; simp; omega) IC.out (join_small _ (by have := HL2.out; simp; omega) (by rw [← HH.out]; exact headT_le _ _ _ _ _ _ HI.out))).mono ?_
    · have lj : j < ([⟨#[107, 105, 110, 100]⟩, kindT kn] ++ L2).length := by
        rcases Nat.lt_or_ge j ([⟨#[107, 105, 110, 100]⟩, kindT kn] ++ L2).length with q | q
        · exact q
        rw [List.getElem?_eq_none q] at hj; cases hj
      rw [Nat.zero_add, I5.out j lj]
      have hj' : ((⟨#[107, 105, 110, 100]⟩ : ByteArray) :: kindT kn :: L2)[j]? = some x := hj
      show some (Value.string (((⟨#[107, 105, 110, 100]⟩ : ByteArray) :: kindT kn :: L2).getD j ⟨#[]⟩)) = _
      rw [List.getD, hj']
      rfl
    rintro e w6 ⟨rfl, hb6⟩
    have B6 : Hid _ := bc_go B5.out hb6
    clear hb6
    go_wp2_with fail
    exact bodyPost_ret (v := .tuple #[.string ⟨(Lib.join ([107, 105, 110, 100] :: (kindT kn).data.toList :: List.map (fun x => x.data.toList) L2) [32]).toArray⟩, .int .i64 0]) (by simp [results, Tryz.results7, go_sem]) rfl ⟨_, by rw [HCE.out], B6.out, fun _ => by rw [HH.out]; rfl⟩
  have d : (ce != 0) = true := by simpa using c0
  have HW : Hid _ := c0
  clear c0
  go_wp2_with fail
  exact bodyPost_ret (v := .tuple #[.string ⟨#[]⟩, .int .i64 ce]) (by simp [results, Tryz.results7, go_sem]) rfl ⟨_, by rw [HCE.out], S1.out.bel, fun q => absurd (HCE.out.symm.trans q) HW.out⟩
structure Ob (rb : Nat) (W W' : World) : Prop where
  os : W'.os = W.os
  tape : W'.tape = W.tape
  output : W'.output = W.output
  size : W.heap.size ≤ W'.heap.size
  block : ∀ k, k < W.heap.size → k ≠ rb → W'.heap[k]? = W.heap[k]?
theorem Ob.refl (rb : Nat) (W : World) : Ob rb W W := ⟨rfl, rfl, rfl, Nat.le_refl _, fun _ _ _ => rfl⟩
theorem Ob.trans {rb : Nat} {a b c : World} (h : Ob rb a b) (k : Ob rb b c) : Ob rb a c :=
  ⟨k.os.trans h.os, k.tape.trans h.tape, k.output.trans h.output, Nat.le_trans h.size k.size, fun i hi hn => (k.block i (Nat.lt_of_lt_of_le hi h.size) hn).trans (h.block i hi hn)⟩
theorem Ob.of {rb : Nat} {a b : World} (h : Below a.heap.size a b) : Ob rb a b := ⟨h.os, h.tape, h.output, h.size, fun i hi _ => h.block i hi⟩
theorem Ob.go {rb : Nat} {a b c : World} (h : Ob rb a b) (k : Below b.heap.size b c) : Ob rb a c := h.trans (Ob.of k)
theorem Ob.drew {rb : Nat} {a b : World} (h : Ob rb a b) (n : Nat) : Ob rb a (b.drewN n) := ⟨h.os, h.tape, h.output, h.size, h.block⟩
theorem Ob.set {rb : Nat} {a b : World} (h : Ob rb a b) (i : Nat) (u : Value) : Ob rb a (b.setCell ⟨rb, i, none⟩ u) :=
  h.trans ⟨rfl, rfl, rfl, by simp [World.setCell], fun k hk hn => Below.heap_setCell _ _ _ _ fun e => hn e⟩
theorem Ob.cell {rb : Nat} {a b : World} (h : Ob rb a b) {p : Addr} {v : Value} (hv : a.cell? p = some v) (hn : p.block ≠ rb) : b.cell? p = some v :=
  (World.cell?_of_block (w := a) (h.block p.block (World.block_lt_of_cell? _ _ hv) hn)).trans hv
theorem Ob.below {rb lb : Nat} {a b : World} (h : Ob rb a b) (hl : lb ≤ a.heap.size) (hs : lb ≤ rb) : Below lb a b :=
  ⟨h.os, h.tape, h.output, h.size, fun k hk => h.block k (by omega) (by omega)⟩
def Rst (lm : Nat) (W : World) (v : Value) (L : List ByteArray) : Prop := ∃ a cap, v = .slice a L.length cap ∧ L.length ≤ cap ∧ ((a = none ∧ L = [] ∧ cap = 0) ∨ ∃ g o, a = some ⟨g, o, none⟩ ∧ ∀ i, i < L.length → g < lm ∧ W.cell? ⟨g, o + i, none⟩ = some (.string (L.getD i ⟨#[]⟩)))
structure Rd (lm : Nat) (W : World) (rb : Nat) (L : List ByteArray) (b : Bool) : Prop where
  is : ∃ v, W.heap[rb]? = some (.cells #[v, .bool b] 102) ∧ Rst lm W v L
theorem Rd.cells {lm : Nat} {W : World} {rb : Nat} {L : List ByteArray} {b : Bool} (h : Rd lm W rb L b) : ∃ a cap, W.cell? ⟨rb, 0, none⟩ = some (.slice a L.length cap) ∧ W.cell? ⟨rb, 1, none⟩ = some (.bool b) ∧ W.frozen? ⟨rb, 0, none⟩ = false ∧ W.frozen? ⟨rb, 1, none⟩ = false ∧ L.length ≤ cap ∧ ((a = none ∧ L = [] ∧ cap = 0) ∨ ∃ g o, a = some ⟨g, o, none⟩ ∧ ∀ i, i < L.length → g < lm ∧ W.cell? ⟨g, o + i, none⟩ = some (.string (L.getD i ⟨#[]⟩))) := by
  obtain ⟨v, h0, a, cap, rfl, h1, h2⟩ := h.is
  refine ⟨a, cap, ?_, ?_, ?_, ?_, h1, h2⟩ <;> simp [World.cell?, World.frozen?, h0]
theorem Rd.lt {lm : Nat} {W : World} {rb : Nat} {L : List ByteArray} {b : Bool} (h : Rd lm W rb L b) : rb < W.heap.size := by
  obtain ⟨v, h0, _⟩ := h.is
  exact (Array.getElem?_eq_some_iff.1 h0).1
theorem rd_no {W : World} {rb i : Nat} {v : Value} {b : Bool} {x : ByteArray} {a : Option Addr} {n c : Nat} (h : W.heap[rb]? = some (.cells #[v, .bool b] 102)) (hv : v = .slice a n c) (k : W.cell? ⟨rb, i, none⟩ = some (.string x)) : False := by
  subst hv
  simp only [World.cell?, h] at k
  match i, k with
  | 0, k => simp at k
  | 1, k => simp at k
  | i + 2, k => simp at k
theorem Rst.ob {lm : Nat} {W W' : World} {rb : Nat} {v v0 : Value} {L : List ByteArray} {b : Bool} {a : Option Addr} {n c : Nat} (h : Rst lm W v L) (h0 : W.heap[rb]? = some (.cells #[v0, .bool b] 102)) (hv : v0 = .slice a n c) (k : Ob rb W W') : Rst lm W' v L := by
  obtain ⟨a, cap, e, h1, h2⟩ := h
  refine ⟨a, cap, e, h1, h2.imp id ?_⟩
  rintro ⟨g, o, ha, hc⟩
  refine ⟨g, o, ha, fun i hi => ⟨(hc i hi).1, k.cell (hc i hi).2 fun e => ?_⟩⟩
  have e : g = rb := e
  subst e
  exact rd_no h0 hv (hc i hi).2
theorem Rd.go {lm : Nat} {W W' : World} {rb : Nat} {L : List ByteArray} {b : Bool} (h : Rd lm W rb L b) (k : Below W.heap.size W W') : Rd lm W' rb L b := by
  obtain ⟨v, h0, hr⟩ := h.is
  have hr' := hr
  obtain ⟨a, cap, e, h1, h2⟩ := hr'
  exact ⟨⟨v, (k.block rb (Array.getElem?_eq_some_iff.1 h0).1).trans h0, hr.ob h0 e (Ob.of k)⟩⟩
theorem Rd.drew {lm : Nat} {W : World} {rb : Nat} {L : List ByteArray} {b : Bool} (h : Rd lm W rb L b) (n : Nat) : Rd lm (W.drewN n) rb L b := ⟨h.is⟩
theorem Rd.bad {lm : Nat} {W : World} {rb : Nat} {L : List ByteArray} {b : Bool} (h : Rd lm W rb L b) : Rd lm (W.setCell ⟨rb, 1, none⟩ (.bool true)) rb L true ∧ Ob rb W (W.setCell ⟨rb, 1, none⟩ (.bool true)) := by
  obtain ⟨v, h0, hr⟩ := h.is
  have hr' := hr
  obtain ⟨a, cap, e, h1, h2⟩ := hr'
  have k := (Ob.refl rb W).set 1 (.bool true)
  exact ⟨⟨⟨v, heap_setCell_same W rb 1 _ _ _ h0, hr.ob h0 e k⟩⟩, k⟩
theorem Rd.rest {lm lm' : Nat} {W : World} {rb : Nat} {L L' : List ByteArray} {b : Bool} {v : Value} (h : Rd lm W rb L b) (hr : Rst lm' W v L') : Rd lm' (W.setCell ⟨rb, 0, none⟩ v) rb L' b ∧ Ob rb W (W.setCell ⟨rb, 0, none⟩ v) := by
  obtain ⟨v0, h0, a, cap, e, _, _⟩ := h.is
  have k := (Ob.refl rb W).set 0 v
  exact ⟨⟨⟨v, heap_setCell_same W rb 0 _ _ _ h0, hr.ob h0 e k⟩⟩, k⟩
theorem Rst.of {lm : Nat} {W : World} {g o n cap : Nat} {L : List ByteArray} (hn : L.length = n) (hc : n ≤ cap) (h : ∀ i, i < L.length → g < lm ∧ W.cell? ⟨g, o + i, none⟩ = some (.string (L.getD i ⟨#[]⟩))) : Rst lm W (.slice (some ⟨g, o, none⟩) n cap) L := by
  subst hn
  exact ⟨_, _, rfl, hc, .inr ⟨g, o, rfl, h⟩⟩
theorem Rd.mono {lm lm' : Nat} {W : World} {rb : Nat} {L : List ByteArray} {b : Bool} (h : Rd lm W rb L b) (hl : lm ≤ lm') : Rd lm' W rb L b := by
  obtain ⟨v, h0, a, cap, e, h1, h2⟩ := h.is
  refine ⟨⟨v, h0, a, cap, e, h1, h2.imp id ?_⟩⟩
  rintro ⟨g, o, ha, hc⟩
  exact ⟨g, o, ha, fun i hi => ⟨Nat.lt_of_lt_of_le (hc i hi).1 hl, (hc i hi).2⟩⟩
theorem Rd.str {lm : Nat} {W : World} {rb i g : Nat} {L : List ByteArray} {b : Bool} {x : ByteArray} (h : Rd lm W rb L b) (k : W.cell? ⟨g, i, none⟩ = some (.string x)) : g ≠ rb := by
  rintro rfl
  obtain ⟨v, h0, a, cap, e, h1, h2⟩ := h.is
  exact rd_no h0 e k
theorem Rd.far {lm : Nat} {W : World} {rb : Nat} {L : List ByteArray} {b : Bool} {p : Addr} {u : Value} (h : Rd lm W rb L b) (h1 : lm ≤ p.block) (h2 : rb < p.block) : Rd lm (W.setCell p u) rb L b := by
  obtain ⟨v, h0, a, cap, e, k1, k2⟩ := h.is
  refine ⟨⟨v, (Below.heap_setCell _ _ _ _ (by omega)).trans h0, a, cap, e, k1, k2.imp id ?_⟩⟩
  rintro ⟨g, o, ha, hc⟩
  refine ⟨g, o, ha, fun i hi => ⟨(hc i hi).1, ?_⟩⟩
  have hg := (hc i hi).1
  exact (World.cell?_of_block (w := W) (Below.heap_setCell _ _ _ _ (by show g ≠ _; omega))).trans (hc i hi).2
theorem bt_eq (a b : ByteArray) : (a.toList == b.toList) = decide (a = b) := by
  rw [ByteArray.toList_eq, ByteArray.toList_eq]
  by_cases h : a = b
  · simp [h]
  have k : a.data.toList ≠ b.data.toList := fun e => h (by cases a; cases b; congr; exact Array.toList_inj.1 e)
  rw [decide_eq_false h]
  exact beq_eq_false_iff_ne.2 k
def hdT (L : List ByteArray) : ByteArray := L.headD ⟨#[]⟩
set_option maxHeartbeats 1000000 in
theorem word_none {lm : Nat} (rb : Nat) (b : Bool) (w : World) (h : Rd lm w rb [] b) :
    Calls Tryz.prog 89 #[.pointer (some ⟨rb, 0, none⟩)] w fun e w' => e = .returned (.string ⟨#[]⟩) ∧ Rd lm w' rb [] true ∧ Ob rb w w' := by
  have HB : Hid _ := h.bad
  obtain ⟨a, cap, x0, x1, f0, f1, hn, hc⟩ := h.cells
  clear h hc
  rw [List.length_nil] at x0 hn
  go_enter Tryz.func89, Tryz.ntmps89
  go_wp2_with fail
  exact bodyPost_ret (v := .string ⟨#[]⟩) (by simp [results, Tryz.results89, go_sem]) rfl ⟨rfl, HB.out⟩
set_option maxHeartbeats 1000000 in
theorem word_some {lm : Nat} (rb : Nat) (x : ByteArray) (L : List ByteArray) (b : Bool) (w : World) (h : Rd lm w rb (x :: L) b) :
    Calls Tryz.prog 89 #[.pointer (some ⟨rb, 0, none⟩)] w fun e w' => e = .returned (.string x) ∧ Rd lm w' rb L b ∧ Ob rb w w' := by
  have HR : Hid _ := h
  obtain ⟨a, cap, x0, x1, f0, f1, hn, hc⟩ := h.cells
  clear h
  rcases hc with ⟨_, q, _⟩ | ⟨g, o, rfl, hc⟩
  · cases q
  have HC : Hid _ := hc
  have y0 := (hc 0 (by simp)).2
  rw [Nat.add_zero] at y0
  have y0 : w.cell? ⟨g, o, none⟩ = some (.string x) := y0
  clear hc
  rw [List.length_cons] at x0 hn
  obtain ⟨n, en⟩ : ∃ n, n = L.length := ⟨_, rfl⟩
  rw [← en] at x0 hn
  have HN : Hid _ := en
  clear en
  have c1 : ((n + 1 : Nat) : Int) ≠ 0 := by omega
  by_cases hcap : cap = 1
  · subst hcap
    have e0 : n = 0 := by omega
    subst e0
    go_enter Tryz.func89, Tryz.ntmps89
    go_wp2_with fail
    exact bodyPost_ret (v := .string x) (by simp [results, Tryz.results89, go_sem]) rfl ⟨rfl, HR.out.rest (Rst.of HN.out.symm (by omega) fun i hi => by have := HN.out; omega)⟩
  go_enter Tryz.func89, Tryz.ntmps89
  go_wp2_with fail
  exact bodyPost_ret (v := .string x) (by simp [results, Tryz.results89, go_sem]) rfl ⟨rfl, HR.out.rest (Rst.of HN.out.symm (by omega) fun i hi => by have := HC.out (i + 1) (by simp; omega); rw [show o + (i + 1) = o + 1 + i by omega] at this; exact this)⟩
theorem word_any {lm : Nat} (rb : Nat) (L : List ByteArray) (b : Bool) (w : World) (h : Rd lm w rb L b) :
    Calls Tryz.prog 89 #[.pointer (some ⟨rb, 0, none⟩)] w fun e w' => e = .returned (.string (hdT L)) ∧ Rd lm w' rb L.tail (b || L.isEmpty) ∧ Ob rb w w' := by
  cases L with
  | nil => 
    rw [show (b || ([] : List ByteArray).isEmpty) = true by simp]
    exact word_none rb b w h
  | cons x L =>
    rw [show (b || (x :: L).isEmpty) = b by simp]
    exact word_some rb x L b w h
set_option maxHeartbeats 1000000 in
theorem name_any {lm : Nat} (rb : Nat) (s : ByteArray) (L : List ByteArray) (b : Bool) (w : World) (h : Rd lm w rb L b) :
    Calls Tryz.prog 83 #[.pointer (some ⟨rb, 0, none⟩), .string s] w fun e w' => e = .returned (.tuple #[]) ∧ Rd lm w' rb L.tail (b || L.isEmpty || decide (hdT L ≠ s)) ∧ Ob rb w w' := by
  go_enter Tryz.func83, Tryz.ntmps83
  go_wp2_with fail
  refine (word_any rb L b w h).mono ?_
  rintro e w1 ⟨rfl, hr, ho⟩
  have HR : Hid _ := hr
  have HO : Hid _ := ho
  obtain ⟨a, cap, x0, x1, f0, f1, _, _⟩ := hr.cells
  clear hr ho h
  by_cases c : hdT L = s
  · have d : decide (hdT L ≠ s) = false := by simpa using c
    have d1 : ((hdT L).toList == s.toList) = true := by rw [bt_eq]; simpa using c
    go_wp2_with fail
    exact bodyPost_end (v := .tuple #[]) (by simp [results, Tryz.results83, go_sem]) rfl ⟨rfl, by rw [d, Bool.or_false]; exact HR.out, HO.out⟩
  have d : decide (hdT L ≠ s) = true := by simpa using c
  have d1 : ((hdT L).toList == s.toList) = false := by rw [bt_eq]; simpa using c
  go_wp2_with fail
  exact bodyPost_end (v := .tuple #[]) (by simp [results, Tryz.results83, go_sem]) rfl ⟨rfl, by rw [d, Bool.or_true]; exact HR.out.bad.1, HO.out.trans HR.out.bad.2⟩
set_option maxHeartbeats 1000000 in
theorem done_any {lm : Nat} (rb : Nat) (L : List ByteArray) (b : Bool) (w : World) (h : Rd lm w rb L b) :
    Calls Tryz.prog 51 #[.pointer (some ⟨rb, 0, none⟩)] w fun e w' => e = .returned (.bool (!b && L.isEmpty)) ∧ w' = w := by
  obtain ⟨a, cap, x0, x1, f0, f1, _, _⟩ := h.cells
  clear h
  obtain ⟨n, hn⟩ : ∃ n, L.length = n := ⟨_, rfl⟩
  rw [hn] at x0
  have e : L.isEmpty = decide (n = 0) := by cases L <;> simp at hn ⊢ <;> omega
  rw [e]
  clear hn e
  cases b
  · by_cases c : n = 0
    · subst c
      go_enter Tryz.func51, Tryz.ntmps51
      go_wp2_with fail
      exact bodyPost_ret (v := .bool true) (by simp [results, Tryz.results51, go_sem]) rfl ⟨by simp, rfl⟩
    have c1 : ((n : Nat) : Int) ≠ 0 := by omega
    go_enter Tryz.func51, Tryz.ntmps51
    go_wp2_with fail
    exact bodyPost_ret (v := .bool false) (by simp [results, Tryz.results51, go_sem]; exact c) rfl ⟨by simp; exact c, rfl⟩
  go_enter Tryz.func51, Tryz.ntmps51
  go_wp2_with fail
  exact bodyPost_ret (v := .bool false) (by simp [results, Tryz.results51, go_sem]) rfl ⟨by simp, rfl⟩
def kdV (x : ByteArray) : Int := if x = kindT 1 then 1 else if x = kindT 2 then 2 else if x = kindT 3 then 3 else if x = kindT 4 then 4 else if x = kindT 5 then 5 else if x = kindT 6 then 6 else 0
theorem kdV_at {x : ByteArray} {k : Nat} (h : ∀ i, i < k → 1 ≤ i → x ≠ kindT i) (e : x = kindT k) (h1 : 1 ≤ k) (h7 : k < 7) : kdV x = (k : Int) := by
  unfold kdV
  match k, h, e, h1, h7 with
  | 1, h, e, _, _ => rw [if_pos e]; rfl
  | 2, h, e, _, _ => rw [if_neg (h 1 (by omega) (by omega)), if_pos e]; rfl
  | 3, h, e, _, _ => rw [if_neg (h 1 (by omega) (by omega)), if_neg (h 2 (by omega) (by omega)), if_pos e]; rfl
  | 4, h, e, _, _ => rw [if_neg (h 1 (by omega) (by omega)), if_neg (h 2 (by omega) (by omega)), if_neg (h 3 (by omega) (by omega)), if_pos e]; rfl
  | 5, h, e, _, _ => rw [if_neg (h 1 (by omega) (by omega)), if_neg (h 2 (by omega) (by omega)), if_neg (h 3 (by omega) (by omega)), if_neg (h 4 (by omega) (by omega)), if_pos e]; rfl
  | 6, h, e, _, _ => rw [if_neg (h 1 (by omega) (by omega)), if_neg (h 2 (by omega) (by omega)), if_neg (h 3 (by omega) (by omega)), if_neg (h 4 (by omega) (by omega)), if_neg (h 5 (by omega) (by omega)), if_pos e]; rfl
theorem kdV_no {x : ByteArray} (h : ∀ i, i < 7 → 1 ≤ i → x ≠ kindT i) : kdV x = 0 := by
  unfold kdV
  rw [if_neg (h 1 (by omega) (by omega)), if_neg (h 2 (by omega) (by omega)), if_neg (h 3 (by omega) (by omega)), if_neg (h 4 (by omega) (by omega)), if_neg (h 5 (by omega) (by omega)), if_neg (h 6 (by omega) (by omega))]
theorem KN.ob {lm : Nat} {w W : World} {rb : Nat} {L : List ByteArray} {b : Bool} (h : KN w) (hr : Rd lm w rb L b) (k : Ob rb w W) : KN W := fun i hi => by
  refine k.cell (h i hi) fun e => ?_
  obtain ⟨v, h0, a, cap, hv, _⟩ := hr.is
  have h1 := h i hi
  have e : 0 = rb := e
  rw [← e] at h0
  exact rd_no h0 hv h1
set_option maxHeartbeats 2000000 in
theorem kind_any {lm : Nat} (rb : Nat) (L : List ByteArray) (b : Bool) (w : World) (h : Rd lm w rb L b) (hk : KN w) :
    Calls Tryz.prog 84 #[.pointer (some ⟨rb, 0, none⟩)] w fun e w' => e = .returned (.int .i64 (kdV (hdT L))) ∧ Rd lm w' rb L.tail (b || L.isEmpty || decide (kdV (hdT L) = 0)) ∧ Ob rb w w' := by
  have HKN : Hid _ := hk
  clear hk
  go_enter Tryz.func84, Tryz.ntmps84
  go_wp2_with fail
  refine (word_any rb L b w h).mono ?_
  rintro e w1 ⟨rfl, hr, ho⟩
  have hk := KN.ob HKN.out h ho
  have HR : Hid _ := hr
  have HO : Hid _ := ho
  obtain ⟨a, cap, x0, x1, f0, f1, _, _⟩ := hr.cells
  clear hr ho h HKN
  obtain ⟨X, hX⟩ : ∃ X, hdT L = X := ⟨_, rfl⟩
  rw [hX]
  have HXL : Hid _ := hX
  clear hX
  have n0 := hk 0 (by omega)
  have n1 := hk 1 (by omega)
  have n2 := hk 2 (by omega)
  have n3 := hk 3 (by omega)
  have n4 := hk 4 (by omega)
  have n5 := hk 5 (by omega)
  have n6 := hk 6 (by omega)
  clear hk
  go_wp2_with fail
  go_loopw [9] (fun t wr => ∃ k : Int, 0 ≤ k ∧ k ≤ 7 ∧ t = .int .i64 k ∧ wr = w1 ∧ Hid (∀ i : Nat, (i : Int) < k → 1 ≤ i → X ≠ kindT i)) (fun t _ => 7 - (intOf t).toNat)
  case atStart => exact ⟨0, by omega, by omega, rfl, rfl, fun i hi => by omega⟩
  case round =>
    obtain ⟨k, hk0, hk, rfl, rfl, HA⟩ := hrel
    rcases (show k = 0 ∨ k = 1 ∨ k = 2 ∨ k = 3 ∨ k = 4 ∨ k = 5 ∨ k = 6 ∨ k = 7 by omega) with ek | ek | ek | ek | ek | ek | ek | ek
    · subst ek
      have ix : ∀ w, (Instr.index 58 (.agg #[.string (kindT 0), .string (kindT 1), .string (kindT 2), .string (kindT 3), .string (kindT 4), .string (kindT 5), .string (kindT 6)]) (.int .i64 0)).run Tryz.prog w = .ok (.string (kindT 0)) w := fun _ => by kernel_rfl
      by_cases c : X = kindT 0
      · have d1 : (X.toList == (kindT 0).toList) = true := by rw [bt_eq]; simpa using c
        have d2 : (X.toList == ([] : List UInt8)) = true := by rw [c, ByteArray.toList_eq]; rfl
        have HA' : Hid (∀ i : Nat, (i : Int) < 1 → 1 ≤ i → X ≠ kindT i) := fun i hi h1 => by omega
        clear c
        go_wp2_with fail
        go_roundw
        case rel => exact ⟨1, by omega, by omega, rfl, trivial, HA'⟩
        case measure => simp [intOf]
      have d1 : (X.toList == (kindT 0).toList) = false := by rw [bt_eq]; simpa using c
      have HA' : Hid (∀ i : Nat, (i : Int) < 1 → 1 ≤ i → X ≠ kindT i) := fun i hi h1 => by
        by_cases e : i = 0
        · rw [e]; exact c
        exact HA.out i (by omega) h1
      clear c
      go_wp2_with fail
      go_roundw
      case rel => exact ⟨1, by omega, by omega, rfl, trivial, HA'⟩
      case measure => simp [intOf]
    · subst ek
      have ix : ∀ w, (Instr.index 58 (.agg #[.string (kindT 0), .string (kindT 1), .string (kindT 2), .string (kindT 3), .string (kindT 4), .string (kindT 5), .string (kindT 6)]) (.int .i64 1)).run Tryz.prog w = .ok (.string (kindT 1)) w := fun _ => by kernel_rfl
      by_cases c : X = kindT 1
      · have d1 : (X.toList == (kindT 1).toList) = true := by rw [bt_eq]; simpa using c
        have d2 : (X.toList == ([] : List UInt8)) = false := by rw [c, ByteArray.toList_eq]; rfl
        have HK : Hid (kdV X = 1) := kdV_at (k := 1) (fun i hi => HA.out i (by omega)) c (by omega) (by omega)
        clear c
        go_wp2_with fail
        exact bodyPost_ret (v := .int .i64 1) (by simp [results, Tryz.results84, go_sem]) rfl ⟨by rw [HXL.out, HK.out], by rw [HXL.out, HK.out]; simpa using HR.out, HO.out⟩
      have d1 : (X.toList == (kindT 1).toList) = false := by rw [bt_eq]; simpa using c
      have HA' : Hid (∀ i : Nat, (i : Int) < 2 → 1 ≤ i → X ≠ kindT i) := fun i hi h1 => by
        by_cases e : i = 1
        · rw [e]; exact c
        exact HA.out i (by omega) h1
      clear c
      go_wp2_with fail
      go_roundw
      case rel => exact ⟨2, by omega, by omega, rfl, trivial, HA'⟩
      case measure => simp [intOf]
    · subst ek
      have ix : ∀ w, (Instr.index 58 (.agg #[.string (kindT 0), .string (kindT 1), .string (kindT 2), .string (kindT 3), .string (kindT 4), .string (kindT 5), .string (kindT 6)]) (.int .i64 2)).run Tryz.prog w = .ok (.string (kindT 2)) w := fun _ => by kernel_rfl
      by_cases c : X = kindT 2
      · have d1 : (X.toList == (kindT 2).toList) = true := by rw [bt_eq]; simpa using c
        have d2 : (X.toList == ([] : List UInt8)) = false := by rw [c, ByteArray.toList_eq]; rfl
        have HK : Hid (kdV X = 2) := kdV_at (k := 2) (fun i hi => HA.out i (by omega)) c (by omega) (by omega)
        clear c
        go_wp2_with fail
        exact bodyPost_ret (v := .int .i64 2) (by simp [results, Tryz.results84, go_sem]) rfl ⟨by rw [HXL.out, HK.out], by rw [HXL.out, HK.out]; simpa using HR.out, HO.out⟩
      have d1 : (X.toList == (kindT 2).toList) = false := by rw [bt_eq]; simpa using c
      have HA' : Hid (∀ i : Nat, (i : Int) < 3 → 1 ≤ i → X ≠ kindT i) := fun i hi h1 => by
        by_cases e : i = 2
        · rw [e]; exact c
        exact HA.out i (by omega) h1
      clear c
      go_wp2_with fail
      go_roundw
      case rel => exact ⟨3, by omega, by omega, rfl, trivial, HA'⟩
      case measure => simp [intOf]
    · subst ek
      have ix : ∀ w, (Instr.index 58 (.agg #[.string (kindT 0), .string (kindT 1), .string (kindT 2), .string (kindT 3), .string (kindT 4), .string (kindT 5), .string (kindT 6)]) (.int .i64 3)).run Tryz.prog w = .ok (.string (kindT 3)) w := fun _ => by kernel_rfl
      by_cases c : X = kindT 3
      · have d1 : (X.toList == (kindT 3).toList) = true := by rw [bt_eq]; simpa using c
        have d2 : (X.toList == ([] : List UInt8)) = false := by rw [c, ByteArray.toList_eq]; rfl
        have HK : Hid (kdV X = 3) := kdV_at (k := 3) (fun i hi => HA.out i (by omega)) c (by omega) (by omega)
        clear c
        go_wp2_with fail
        exact bodyPost_ret (v := .int .i64 3) (by simp [results, Tryz.results84, go_sem]) rfl ⟨by rw [HXL.out, HK.out], by rw [HXL.out, HK.out]; simpa using HR.out, HO.out⟩
      have d1 : (X.toList == (kindT 3).toList) = false := by rw [bt_eq]; simpa using c
      have HA' : Hid (∀ i : Nat, (i : Int) < 4 → 1 ≤ i → X ≠ kindT i) := fun i hi h1 => by
        by_cases e : i = 3
        · rw [e]; exact c
        exact HA.out i (by omega) h1
      clear c
      go_wp2_with fail
      go_roundw
      case rel => exact ⟨4, by omega, by omega, rfl, trivial, HA'⟩
      case measure => simp [intOf]
    · subst ek
      have ix : ∀ w, (Instr.index 58 (.agg #[.string (kindT 0), .string (kindT 1), .string (kindT 2), .string (kindT 3), .string (kindT 4), .string (kindT 5), .string (kindT 6)]) (.int .i64 4)).run Tryz.prog w = .ok (.string (kindT 4)) w := fun _ => by kernel_rfl
      by_cases c : X = kindT 4
      · have d1 : (X.toList == (kindT 4).toList) = true := by rw [bt_eq]; simpa using c
        have d2 : (X.toList == ([] : List UInt8)) = false := by rw [c, ByteArray.toList_eq]; rfl
        have HK : Hid (kdV X = 4) := kdV_at (k := 4) (fun i hi => HA.out i (by omega)) c (by omega) (by omega)
        clear c
        go_wp2_with fail
        exact bodyPost_ret (v := .int .i64 4) (by simp [results, Tryz.results84, go_sem]) rfl ⟨by rw [HXL.out, HK.out], by rw [HXL.out, HK.out]; simpa using HR.out, HO.out⟩
      have d1 : (X.toList == (kindT 4).toList) = false := by rw [bt_eq]; simpa using c
      have HA' : Hid (∀ i : Nat, (i : Int) < 5 → 1 ≤ i → X ≠ kindT i) := fun i hi h1 => by
        by_cases e : i = 4
        · rw [e]; exact c
        exact HA.out i (by omega) h1
      clear c
      go_wp2_with fail
      go_roundw
      case rel => exact ⟨5, by omega, by omega, rfl, trivial, HA'⟩
      case measure => simp [intOf]
    · subst ek
      have ix : ∀ w, (Instr.index 58 (.agg #[.string (kindT 0), .string (kindT 1), .string (kindT 2), .string (kindT 3), .string (kindT 4), .string (kindT 5), .string (kindT 6)]) (.int .i64 5)).run Tryz.prog w = .ok (.string (kindT 5)) w := fun _ => by kernel_rfl
      by_cases c : X = kindT 5
      · have d1 : (X.toList == (kindT 5).toList) = true := by rw [bt_eq]; simpa using c
        have d2 : (X.toList == ([] : List UInt8)) = false := by rw [c, ByteArray.toList_eq]; rfl
        have HK : Hid (kdV X = 5) := kdV_at (k := 5) (fun i hi => HA.out i (by omega)) c (by omega) (by omega)
        clear c
        go_wp2_with fail
        exact bodyPost_ret (v := .int .i64 5) (by simp [results, Tryz.results84, go_sem]) rfl ⟨by rw [HXL.out, HK.out], by rw [HXL.out, HK.out]; simpa using HR.out, HO.out⟩
      have d1 : (X.toList == (kindT 5).toList) = false := by rw [bt_eq]; simpa using c
      have HA' : Hid (∀ i : Nat, (i : Int) < 6 → 1 ≤ i → X ≠ kindT i) := fun i hi h1 => by
        by_cases e : i = 5
        · rw [e]; exact c
        exact HA.out i (by omega) h1
      clear c
      go_wp2_with fail
      go_roundw
      case rel => exact ⟨6, by omega, by omega, rfl, trivial, HA'⟩
      case measure => simp [intOf]
    · subst ek
      have ix : ∀ w, (Instr.index 58 (.agg #[.string (kindT 0), .string (kindT 1), .string (kindT 2), .string (kindT 3), .string (kindT 4), .string (kindT 5), .string (kindT 6)]) (.int .i64 6)).run Tryz.prog w = .ok (.string (kindT 6)) w := fun _ => by kernel_rfl
      by_cases c : X = kindT 6
      · have d1 : (X.toList == (kindT 6).toList) = true := by rw [bt_eq]; simpa using c
        have d2 : (X.toList == ([] : List UInt8)) = false := by rw [c, ByteArray.toList_eq]; rfl
        have HK : Hid (kdV X = 6) := kdV_at (k := 6) (fun i hi => HA.out i (by omega)) c (by omega) (by omega)
        clear c
        go_wp2_with fail
        exact bodyPost_ret (v := .int .i64 6) (by simp [results, Tryz.results84, go_sem]) rfl ⟨by rw [HXL.out, HK.out], by rw [HXL.out, HK.out]; simpa using HR.out, HO.out⟩
      have d1 : (X.toList == (kindT 6).toList) = false := by rw [bt_eq]; simpa using c
      have HA' : Hid (∀ i : Nat, (i : Int) < 7 → 1 ≤ i → X ≠ kindT i) := fun i hi h1 => by
        by_cases e : i = 6
        · rw [e]; exact c
        exact HA.out i (by omega) h1
      clear c
      go_wp2_with fail
      go_roundw
      case rel => exact ⟨7, by omega, by omega, rfl, trivial, HA'⟩
      case measure => simp [intOf]
    subst ek
    have HK : Hid (kdV X = 0) := kdV_no fun i hi => HA.out i (by omega)
    go_wp2_with fail
    exact bodyPost_ret (v := .int .i64 0) (by simp [results, Tryz.results84, go_sem]) rfl ⟨by rw [HXL.out, HK.out], by rw [HXL.out, HK.out]; simpa using HR.out.bad.1, HO.out.trans HR.out.bad.2⟩
def bareT (x : ByteArray) : ByteArray := ⟨(Lib.trimPrefix x.data.toList [45]).toArray⟩
def firstB (x : ByteArray) : Nat := (x.data.toList.headD 0).toNat
def nvV (x : ByteArray) : Option Int := match Lib.atoiAll x.data.toList with
  | .ok v => if firstB x = 43 ∨ (firstB (bareT x) = 48 ∧ 1 < (bareT x).size) then none else some v
  | _ => none
theorem first_at {x : ByteArray} (h : 0 < x.size) : (x[0]'h).toNat = firstB x := by
  cases x with
  | mk d =>
    have h' : 0 < d.size := h
    show (d[0]'h').toNat = (d.toList.headD 0).toNat
    congr 1
    rw [← Array.getElem_toList (h := by simpa using h')]
    have q : ∀ (l : List UInt8) (h : 0 < l.length), l[0]'h = l.headD 0 := fun l h => by
      cases l with
      | nil => simp at h
      | cons a l => rfl
    exact q _ _
theorem atoi_pos {x : ByteArray} {v : Int} (h : Lib.atoiAll x.data.toList = .ok v) : 0 < x.size ∧ 0 < (bareT x).size := by
  have e : x.size = x.data.toList.length := by rw [Array.length_toList]; rfl
  have e2 : (bareT x).size = (Lib.trimPrefix x.data.toList [45]).length := by
    show (Lib.trimPrefix x.data.toList [45]).toArray.size = _
    simp
  rw [e, e2]
  generalize x.data.toList = l at h
  match l, h with
  | [], h => cases h
  | [c], h =>
    refine ⟨by simp, ?_⟩
    by_cases q : c = 45
    · subst q
      have e3 : Lib.atoiAll [45] = .«syntax» := by rfl
      rw [e3] at h
      cases h
    simp [Lib.trimPrefix, Lib.hasPrefix]
    rw [if_neg (fun e => q e.symm)]
    simp
  | c :: d :: r, h =>
    refine ⟨by simp, ?_⟩
    unfold Lib.trimPrefix
    split <;> simp
structure EV (w : World) : Prop where
  s : ∃ ev, w.cell? ⟨5, 0, none⟩ = some ev ∧ (ev = .nilIface ∨ ∃ te pe, ev = .iface te pe)
  r : ∃ ev, w.cell? ⟨6, 0, none⟩ = some ev ∧ (ev = .nilIface ∨ ∃ te pe, ev = .iface te pe)
theorem EV.go {w W : World} (h : EV w) (hB : Below w.heap.size w W) : EV W := by
  obtain ⟨⟨e1, a1, b1⟩, ⟨e2, a2, b2⟩⟩ := h
  exact ⟨⟨e1, bc_cell hB a1, b1⟩, ⟨e2, bc_cell hB a2, b2⟩⟩
theorem Rd.ifc {lm : Nat} {W : World} {rb i g : Nat} {L : List ByteArray} {b : Bool} {ev : Value} (h : Rd lm W rb L b) (k : W.cell? ⟨g, i, none⟩ = some ev) (he : ev = .nilIface ∨ ∃ te pe, ev = .iface te pe) : g ≠ rb := by
  rintro rfl
  obtain ⟨v, h0, a, cap, e, h1, h2⟩ := h.is
  subst e
  simp only [World.cell?, h0] at k
  match i, k with
  | 0, k => rcases he with rfl | ⟨te, pe, rfl⟩ <;> simp at k
  | 1, k => rcases he with rfl | ⟨te, pe, rfl⟩ <;> simp at k
  | i + 2, k => simp at k
theorem EV.ob {lm : Nat} {w W : World} {rb : Nat} {L : List ByteArray} {b : Bool} (h : EV w) (hr : Rd lm w rb L b) (k : Ob rb w W) : EV W := by
  obtain ⟨⟨e1, a1, b1⟩, ⟨e2, a2, b2⟩⟩ := h
  exact ⟨⟨e1, k.cell a1 (hr.ifc a1 b1), b1⟩, ⟨e2, k.cell a2 (hr.ifc a2 b2), b2⟩⟩
set_option maxHeartbeats 1000000 in
theorem number_any {lm : Nat} (rb : Nat) (L : List ByteArray) (b : Bool) (w : World) (h : Rd lm w rb L b) (hs : (hdT L).size ≤ 4096) (he : EV w) :
    Calls Tryz.prog 86 #[.pointer (some ⟨rb, 0, none⟩)] w fun e w' => e = .returned (.int .i64 ((nvV (hdT L)).getD 0)) ∧ Rd lm w' rb L.tail (b || L.isEmpty || (nvV (hdT L)).isNone) ∧ Ob rb w w' := by
  go_enter Tryz.func86, Tryz.ntmps86
  go_wp2_with fail
  refine (word_any rb L b w h).mono ?_
  rintro e w1 ⟨rfl, hr, ho⟩
  have HR : Hid _ := hr
  have HO : Hid _ := ho
  have HE : Hid _ := he.ob h ho
  clear hr ho h he
  obtain ⟨X, hX⟩ : ∃ X, hdT L = X := ⟨_, rfl⟩
  rw [hX] at hs
  have HXL : Hid (∀ (q : Option Int) (w' : World), nvV X = q → (Rd lm w' rb L.tail (b || L.isEmpty || q.isNone) ∧ Ob rb w w') → ∀ z : Int, z = q.getD 0 → Ending.returned (.int .i64 z) = Ending.returned (.int .i64 ((nvV (hdT L)).getD 0)) ∧ Rd lm w' rb L.tail (b || L.isEmpty || (nvV (hdT L)).isNone) ∧ Ob rb w w') := fun q w' e1 e2 z hz => by
    rw [hX, e1, hz]
    exact ⟨rfl, e2⟩
  rw [hX]
  clear hX
  have HBAD : Hid (∀ w', Below w1.heap.size w1 w' → Rd lm (w'.setCell ⟨rb, 1, none⟩ (.bool true)) rb L.tail true ∧ Ob rb w (w'.setCell ⟨rb, 1, none⟩ (.bool true))) := fun w' hb => by
    have q := (HR.out.go hb).bad
    exact ⟨q.1, (HO.out.go hb).trans q.2⟩
  have HCEL : Hid (∀ w', Below w1.heap.size w1 w' → w'.cell? ⟨rb, 1, none⟩ = some (.bool (b || L.isEmpty)) ∧ w'.frozen? ⟨rb, 1, none⟩ = false) := fun w' hb => by
    obtain ⟨a, cap, x0, x1, f0, f1, _, _⟩ := (HR.out.go hb).cells
    exact ⟨x1, f1⟩
  cases hA : Lib.atoiAll X.data.toList with
  | ok v =>
    have HP : Hid _ := atoi_pos hA
    go_wp2_with fail
    refine (Tryz.strconv_Atoi_ok X (by omega) v hA _).mono ?_
    rintro e w2 ⟨rfl, hw2⟩
    have HB : Hid (Below w1.heap.size w1 w2) := by
      rcases hw2 with rfl | ⟨t, rfl⟩
      · exact bel_refl _
      exact ⟨rfl, rfl, rfl, by rw [Lib.bytesWorld_size]; omega, fun k hk => Lib.bytesWorld_at_old _ _ _ k (by omega)⟩
    have HN : Hid (nvV X = if firstB X = 43 ∨ (firstB (bareT X) = 48 ∧ 1 < (bareT X).size) then none else some v) := by
      show _ = _
      unfold nvV
      rw [hA]
    clear hw2 hA
    go_wp2_with fail
    refine (Tryz.strings_TrimPrefix X ⟨#[45]⟩ _).mono ?_
    rintro e w3 ⟨rfl, rfl⟩
    obtain ⟨y, hy⟩ : ∃ y, y = bareT X := ⟨_, rfl⟩
    rw [show (⟨(Lib.trimPrefix X.data.toList (⟨#[45]⟩ : ByteArray).data.toList).toArray⟩ : ByteArray) = y from hy.symm]
    have HY : Hid _ := hy
    have k3 := HP.out.1
    have k5 := HP.out.2
    rw [← hy] at k5
    rw [← hy] at HN
    clear hy
    have p1 := first_at k3
    have p2 := first_at k5
    obtain ⟨c1, c2⟩ := HCEL.out w3 HB.out
    by_cases d1 : firstB X = 43
    · have q1 : ((X[0]'k3).toNat : Int) = 43 := by omega
      have HN2 : Hid (nvV X = none) := by show _ = _; rw [HN.out, if_pos (.inl d1)]
      clear d1 HN p1 p2
      go_wp2_with fail
      exact bodyPost_ret (v := .int .i64 0) (by simp [results, Tryz.results86, go_sem]) rfl (HXL.out _ _ HN2.out (by simpa using HBAD.out _ HB.out) _ rfl)
    have q1 : ¬ ((X[0]'k3).toNat : Int) = 43 := by omega
    by_cases d2 : firstB y = 48
    · have q2 : ((y[0]'k5).toNat : Int) = 48 := by omega
      by_cases d3 : 1 < y.size
      · have q3 : (1 : Int) < (y.size : Int) := by omega
        have HN2 : Hid (nvV X = none) := by show _ = _; rw [HN.out, if_pos (.inr ⟨d2, d3⟩)]
        clear d1 d2 d3 HN p1 p2
        go_wp2_with fail
        exact bodyPost_ret (v := .int .i64 0) (by simp [results, Tryz.results86, go_sem]) rfl (HXL.out _ _ HN2.out (by simpa using HBAD.out _ HB.out) _ rfl)
      have q4 : y.size = 1 := by omega
      have q3 : ¬ (1 : Int) < (y.size : Int) := by omega
      have HN2 : Hid (nvV X = some v) := by show _ = _; rw [HN.out, if_neg (by rintro (q | ⟨q, q'⟩); exact d1 q; exact d3 q')]
      clear d1 d2 d3 HN p1 p2
      go_wp2_with fail
      exact bodyPost_ret (v := .int .i64 v) (by simp [results, Tryz.results86, go_sem]) rfl (HXL.out _ _ HN2.out ⟨by simpa using HR.out.go HB.out, HO.out.go HB.out⟩ _ rfl)
    have q2 : ¬ ((y[0]'k5).toNat : Int) = 48 := by omega
    have HN2 : Hid (nvV X = some v) := by show _ = _; rw [HN.out, if_neg (by rintro (q | ⟨q, q'⟩); exact d1 q; exact d2 q)]
    clear d1 d2 HN p1 p2
    go_wp2_with fail
    exact bodyPost_ret (v := .int .i64 v) (by simp [results, Tryz.results86, go_sem]) rfl (HXL.out _ _ HN2.out ⟨by simpa using HR.out.go HB.out, HO.out.go HB.out⟩ _ rfl)
  | «syntax» =>
    have HN2 : Hid (nvV X = none) := by show _ = _; unfold nvV; rw [hA]
    obtain ⟨ev, hv, hev⟩ := HE.out.s
    go_wp2_with fail
    refine (Tryz.strconv_Atoi_syntax X (by omega) hA ev _ hv hev).mono ?_
    rintro e w2 ⟨N, rfl, _, _, hb⟩
    have HB : Hid _ := hb
    clear hb hv hA
    go_wp2_with fail
    refine (Tryz.strings_TrimPrefix X ⟨#[45]⟩ _).mono ?_
    rintro e w3 ⟨rfl, rfl⟩
    obtain ⟨y, hy⟩ : ∃ y, y = bareT X := ⟨_, rfl⟩
    rw [show (⟨(Lib.trimPrefix X.data.toList (⟨#[45]⟩ : ByteArray).data.toList).toArray⟩ : ByteArray) = y from hy.symm]
    obtain ⟨c1, c2⟩ := HCEL.out w3 HB.out
    clear hy
    go_wp2_with fail
    exact bodyPost_ret (v := .int .i64 0) (by simp [results, Tryz.results86, go_sem]) rfl (HXL.out _ _ HN2.out (by simpa using HBAD.out _ HB.out) _ rfl)
  | range =>
    have HN2 : Hid (nvV X = none) := by show _ = _; unfold nvV; rw [hA]
    obtain ⟨ev, hv, hev⟩ := HE.out.r
    go_wp2_with fail
    refine (Tryz.strconv_Atoi_range X (by omega) hA ev _ hv hev).mono ?_
    rintro e w2 ⟨N, rfl, _, _, hb⟩
    have HB : Hid _ := hb
    clear hb hv hA
    go_wp2_with fail
    refine (Tryz.strings_TrimPrefix X ⟨#[45]⟩ _).mono ?_
    rintro e w3 ⟨rfl, rfl⟩
    obtain ⟨y, hy⟩ : ∃ y, y = bareT X := ⟨_, rfl⟩
    rw [show (⟨(Lib.trimPrefix X.data.toList (⟨#[45]⟩ : ByteArray).data.toList).toArray⟩ : ByteArray) = y from hy.symm]
    obtain ⟨c1, c2⟩ := HCEL.out w3 HB.out
    clear hy
    go_wp2_with fail
    exact bodyPost_ret (v := .int .i64 0) (by simp [results, Tryz.results86, go_sem]) rfl (HXL.out _ _ HN2.out (by simpa using HBAD.out _ HB.out) _ rfl)
end Go.Proofs.YtchomkadekikdaaGreatDoor
