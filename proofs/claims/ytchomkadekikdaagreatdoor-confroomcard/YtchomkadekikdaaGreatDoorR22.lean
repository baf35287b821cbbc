/- Contracts of the program's functions, part 22: own work, joined in build order. -/
import Derived.Test.YtchomkadekikdaaGreatDoorR21
namespace Go.Proofs.YtchomkadekikdaaGreatDoor
open Go.RowKit
set_option maxRecDepth 100000
set_option linter.unusedVariables false
theorem arr_setup (a b c d e : ByteArray) (T : List ByteArray) : arS ⟨#[114, 111, 111, 109, 32, 109, 111, 115, 116, 32, 99, 97, 112, 32, 102, 108, 111, 119, 115, 32, 97, 103, 101]⟩ ([⟨#[114, 111, 111, 109]⟩, a, ⟨#[109, 111, 115, 116]⟩, b, ⟨#[99, 97, 112]⟩, c, ⟨#[102, 108, 111, 119, 115]⟩, d, ⟨#[97, 103, 101]⟩, e] ++ T, false) = ([a, b, c, d, e] ++ T, false) := by
  unfold arS
  rw [show wordsL ⟨#[114, 111, 111, 109, 32, 109, 111, 115, 116, 32, 99, 97, 112, 32, 102, 108, 111, 119, 115, 32, 97, 103, 101]⟩ = _ from setupN_words]
  kernel_rfl
theorem arr_flow (a b c d e f g h : ByteArray) (T : List ByteArray) : arS ⟨#[119, 101, 105, 103, 104, 116, 32, 113, 117, 97, 110, 116, 117, 109, 32, 99, 108, 97, 115, 115, 32, 115, 112, 97, 110, 32, 98, 117, 114, 115, 116, 32, 114, 97, 116, 101, 32, 112, 101, 114, 32, 110, 111, 100, 101]⟩ ([⟨#[119, 101, 105, 103, 104, 116]⟩, a, ⟨#[113, 117, 97, 110, 116, 117, 109]⟩, b, ⟨#[99, 108, 97, 115, 115]⟩, c, ⟨#[115, 112, 97, 110]⟩, d, ⟨#[98, 117, 114, 115, 116]⟩, e, ⟨#[114, 97, 116, 101]⟩, f, ⟨#[112, 101, 114]⟩, g, ⟨#[110, 111, 100, 101]⟩, h] ++ T, false) = ([a, b, c, d, e, f, g, h] ++ T, false) := by
  unfold arS
  rw [show wordsL ⟨#[119, 101, 105, 103, 104, 116, 32, 113, 117, 97, 110, 116, 117, 109, 32, 99, 108, 97, 115, 115, 32, 115, 112, 97, 110, 32, 98, 117, 114, 115, 116, 32, 114, 97, 116, 101, 32, 112, 101, 114, 32, 110, 111, 100, 101]⟩ = _ from flowN_words]
  kernel_rfl
theorem kdV_kindT (k : Nat) (h1 : 1 ≤ k) (h2 : k ≤ 6) : kdV (kindT k) = (k : Int) := by
  match k, h1, h2 with
  | 1, _, _ => decide +kernel
  | 2, _, _ => decide +kernel
  | 3, _, _ => decide +kernel
  | 4, _, _ => decide +kernel
  | 5, _, _ => decide +kernel
  | 6, _, _ => decide +kernel
theorem nm_it (n : Int) (T : List ByteArray) (h0 : -9223372036854775808 ≤ n) (h1 : n ≤ 9223372036854775807) : nmI (itT n :: T, false) = n ∧ nmS (itT n :: T, false) = (T, false) := by
  unfold nmI nmS
  show (nvV (itT n)).getD 0 = n ∧ (T, false || false || (nvV (itT n)).isNone) = (T, false)
  rw [nvV_itT n h0 h1]
  exact ⟨rfl, rfl⟩
theorem na_it (s : ByteArray) (T : List ByteArray) : naS s (s :: T, false) = (T, false) := by
  unfold naS
  show (T, false || false || decide (s ≠ s)) = _
  simp
theorem kd_it (k : Nat) (T : List ByteArray) (h1 : 1 ≤ k) (h2 : k ≤ 6) : kdS (kindT k :: T, false) = (T, false) := by
  unfold kdS
  show (T, false || false || decide (kdV (kindT k) = 0)) = _
  rw [kdV_kindT k h1 h2, decide_eq_false (by omega)]
  rfl
def ndw (d : Nd) : List ByteArray := [⟨#[110, 111, 100, 101]⟩, kindT d.1.toNat, itT d.2.1, itT d.2.2.1, itT d.2.2.2]
structure Ndo (d : Nd) : Prop where
  k : 1 ≤ d.1 ∧ d.1 ≤ 6
  p : -9223372036854775808 ≤ d.2.1 ∧ d.2.1 ≤ 9223372036854775807
  q : -9223372036854775808 ≤ d.2.2.1 ∧ d.2.2.1 ≤ 9223372036854775807
  a : -9223372036854775808 ≤ d.2.2.2 ∧ d.2.2.2 ≤ 9223372036854775807
theorem nd_one (d : Nd) (T : List ByteArray) (h : Ndo d) : ndV (ndw d ++ T, false) = d ∧ ndS (ndw d ++ T, false) = (T, false) := by
  obtain ⟨k, p, q, a⟩ := d
  obtain ⟨hk, hp, hq, ha⟩ := h
  obtain ⟨m, rfl⟩ : ∃ m : Nat, k = (m : Int) := ⟨k.toNat, by have := hk; simp only at this; omega⟩
  have k1 : 1 ≤ m := by have := hk.1; simp only at this; omega
  have k6 : m ≤ 6 := by have := hk.2; simp only at this; omega
  have e1 : naS ⟨#[110, 111, 100, 101]⟩ (ndw ((m : Int), p, q, a) ++ T, false) = (kindT m :: itT p :: itT q :: itT a :: T, false) := na_it ⟨#[110, 111, 100, 101]⟩ (kindT m :: itT p :: itT q :: itT a :: T)
  have e2 := kd_it m (itT p :: itT q :: itT a :: T) k1 k6
  have e3 := nm_it p (itT q :: itT a :: T) hp.1 hp.2
  have e4 := nm_it q (itT a :: T) hq.1 hq.2
  have e5 := nm_it a T ha.1 ha.2
  unfold ndV ndS
  rw [e1, e2, e3.1, e3.2, e4.1, e4.2, e5.1, e5.2]
  refine ⟨?_, rfl⟩
  show (kdV (kindT m), p, q, a) = _
  rw [kdV_kindT m k1 k6]
theorem nds_all : ∀ (D : List Nd) (k : Nat), (∀ d ∈ D, Ndo d) → D.length ≤ k → nds k (D.flatMap ndw, false) = (D, ([], false))
  | [], k, _, _ => nds_nil k _ rfl
  | d :: D, k, h, hk => by
    obtain ⟨m, rfl⟩ : ∃ m, k = m + 1 := ⟨k - 1, by simp at hk; omega⟩
    obtain ⟨e1, e2⟩ := nd_one d (D.flatMap ndw) (h d (by simp))
    have e0 : (d :: D).flatMap ndw = ndw d ++ D.flatMap ndw := rfl
    rw [nds, if_neg (by rw [e0]; simp [ndw]), e0, e1, e2, nds_all D m (fun x hx => h x (List.mem_cons_of_mem _ hx)) (by simp at hk; omega)]
def rows (G : Nat → Nat → Int) (m : Nat) : List Nd := (List.range m).map fun i => (G (i + 1) 0, G (i + 1) 1, G (i + 1) 2, G (i + 1) 3)
theorem nodesT_rows (G : Nat → Nat → Int) (m : Nat) : nodesT G m = (rows G m).flatMap ndw := by
  induction m with
  | zero => rfl
  | succ m ih =>
    rw [nodesT, ih]
    unfold rows
    rw [List.range_succ, List.map_append, List.flatMap_append]
    rfl
theorem rows_len (G : Nat → Nat → Int) (m : Nat) : (rows G m).length = m := by simp [rows]
theorem head_list (k : Nat) (R M C Fl A : Int) : headT (k : Int) R M C Fl A = [⟨#[107, 105, 110, 100]⟩, kindT k, ⟨#[114, 111, 111, 109]⟩, itT R, ⟨#[109, 111, 115, 116]⟩, itT M, ⟨#[99, 97, 112]⟩, itT C, ⟨#[102, 108, 111, 119, 115]⟩, itT Fl, ⟨#[97, 103, 101]⟩, itT A] := by
  rw [headT, setupN_words]
  rfl
def In64p (x : Int) : Prop := -9223372036854775808 ≤ x ∧ x ≤ 9223372036854775807
theorem su_back (k : Nat) (R M C Fl A : Int) (T : List ByteArray) (h1 : 1 ≤ k) (h6 : k ≤ 6) (hR : In64p R) (hM : In64p M) (hC : In64p C) (hF : In64p Fl) (hA : In64p A) :
    setV (headT (k : Int) R M C Fl A ++ T, false) 0 = (k : Int) ∧ setV (headT (k : Int) R M C Fl A ++ T, false) 1 = R ∧ setV (headT (k : Int) R M C Fl A ++ T, false) 2 = M ∧ setV (headT (k : Int) R M C Fl A ++ T, false) 3 = C ∧ setV (headT (k : Int) R M C Fl A ++ T, false) 4 = Fl ∧ setV (headT (k : Int) R M C Fl A ++ T, false) 5 = A ∧ setS (headT (k : Int) R M C Fl A ++ T, false) = (T, false) := by
  have e1 : naS ⟨#[107, 105, 110, 100]⟩ (headT (k : Int) R M C Fl A ++ T, false) = (kindT k :: ([⟨#[114, 111, 111, 109]⟩, itT R, ⟨#[109, 111, 115, 116]⟩, itT M, ⟨#[99, 97, 112]⟩, itT C, ⟨#[102, 108, 111, 119, 115]⟩, itT Fl, ⟨#[97, 103, 101]⟩, itT A] ++ T), false) := by
    rw [head_list]
    exact na_it ⟨#[107, 105, 110, 100]⟩ _
  have e2 := kd_it k ([⟨#[114, 111, 111, 109]⟩, itT R, ⟨#[109, 111, 115, 116]⟩, itT M, ⟨#[99, 97, 112]⟩, itT C, ⟨#[102, 108, 111, 119, 115]⟩, itT Fl, ⟨#[97, 103, 101]⟩, itT A] ++ T) h1 h6
  have e3 := arr_setup (itT R) (itT M) (itT C) (itT Fl) (itT A) T
  have f1 := nm_it R (itT M :: itT C :: itT Fl :: itT A :: T) hR.1 hR.2
  have f2 := nm_it M (itT C :: itT Fl :: itT A :: T) hM.1 hM.2
  have f3 := nm_it C (itT Fl :: itT A :: T) hC.1 hC.2
  have f4 := nm_it Fl (itT A :: T) hF.1 hF.2
  have f5 := nm_it A T hA.1 hA.2
  have e4 : ([itT R, itT M, itT C, itT Fl, itT A] ++ T, false) = (itT R :: itT M :: itT C :: itT Fl :: itT A :: T, false) := rfl
  unfold setV setS
  rw [e1, e2, e3, e4, f1.1, f1.2, f2.1, f2.2, f3.1, f3.2, f4.1, f4.2, f5.1, f5.2]
  refine ⟨?_, rfl, rfl, rfl, rfl, rfl, rfl⟩
  show kdV (kindT k) = _
  exact kdV_kindT k h1 h6
theorem kO_congr {F G : Nat → Nat → Int} {n i : Nat} (h : ∀ i j, i < n → j < 4 → F i j = G i j) (hi : i ≤ n) (x : Int) : kO F i x = kO G i x := by
  unfold kO
  by_cases q : 0 ≤ x ∧ x < (i : Int)
  · rw [if_pos q, if_pos q, h _ _ (by omega) (by omega)]
  rw [if_neg q, if_neg q]
theorem nodeE_congr {F G : Nat → Nat → Int} {n i : Nat} (h : ∀ i j, i < n → j < 4 → F i j = G i j) (hi : i < n) : nodeE F i = nodeE G i := by
  unfold nodeE
  rw [h i 0 hi (by omega), h i 1 hi (by omega), h i 2 hi (by omega), h i 3 hi (by omega), kO_congr h (by omega)]
theorem firstE_congr {F G : Nat → Nat → Int} {n : Nat} (h : ∀ i j, i < n → j < 4 → F i j = G i j) : ∀ k, k ≤ n → firstE F k = firstE G k := by
  intro k
  induction k with
  | zero => intro _; rfl
  | succ k ih => intro hk; rw [firstE, firstE, ih (by omega), nodeE_congr h (by omega)]
theorem cntP_congr {F G : Nat → Nat → Int} {n : Nat} (h : ∀ i j, i < n → j < 4 → F i j = G i j) (j : Nat) : ∀ k, k < n → cntP F k j = cntP G k j := by
  intro k
  induction k with
  | zero => intro _; rfl
  | succ k ih => intro hk; rw [cntP, cntP, ih (by omega), h (k + 1) 1 hk (by omega)]
theorem nodesE_congr {F G : Nat → Nat → Int} {n : Nat} (h : ∀ i j, i < n → j < 4 → F i j = G i j) : nodesE F n = nodesE G n := by
  unfold nodesE
  rw [firstE_congr h n (Nat.le_refl _)]
  have e : kids F n = kids G n := by
    unfold kids
    rcases Nat.eq_zero_or_pos n with q | q
    · subst q; simp
    congr 1
    apply propext
    constructor
    · intro hh i hi h6
      rw [← cntP_congr h i (n - 1) (by omega)]
      exact hh i hi (by rw [h i 0 hi (by omega)]; exact h6)
    intro hh i hi h6
    rw [cntP_congr h i (n - 1) (by omega)]
    exact hh i hi (by rw [← h i 0 hi (by omega)]; exact h6)
  rw [e]
theorem dec_all (u : Nat) : ∀ c ∈ Lib.decDigits u, 48 ≤ c.toNat ∧ c.toNat ≤ 57 := by
  induction u using Nat.strongRecOn with
  | _ u ih =>
    rw [Lib.decDigits]
    split
    · rename_i h1
      intro c hc
      rw [List.mem_singleton.1 hc, byte48 u h1]
      omega
    rename_i h1
    intro c hc
    rcases List.mem_append.1 hc with q | q
    · exact ih (u / 10) (by omega) c q
    rw [List.mem_singleton.1 q, byte48 (u % 10) (by omega)]
    omega
theorem itT_wd (n : Int) : Wd1 (itT n) := by
  have hl := itT_list n
  have no32 : ∀ c ∈ Lib.decDigits n.natAbs, c ≠ 32 := fun c hc e => by
    have := dec_all _ c hc
    rw [e] at this
    revert this
    decide
  have sz : (itT n).size = (Lib.itoa n).length := by rw [← hl, Array.length_toList]; rfl
  obtain ⟨c, r, e2, _⟩ := dec_head n.natAbs
  refine ⟨?_, ?_⟩
  · rw [sz]
    unfold Lib.itoa
    split
    · simp
    rw [show n.toNat = n.natAbs by omega, e2]
    simp
  rw [hl]
  unfold Lib.itoa
  split
  · intro c hc
    rcases List.mem_cons.1 hc with q | q
    · rw [q]; decide
    exact no32 c q
  rw [show n.toNat = n.natAbs by omega]
  exact no32
theorem kindT_wd (k : Nat) (h1 : 1 ≤ k) (h2 : k ≤ 6) : Wd1 (kindT k) := by
  match k, h1, h2 with
  | 1, _, _ => exact ⟨by decide, by decide⟩
  | 2, _, _ => exact ⟨by decide, by decide⟩
  | 3, _, _ => exact ⟨by decide, by decide⟩
  | 4, _, _ => exact ⟨by decide, by decide⟩
  | 5, _, _ => exact ⟨by decide, by decide⟩
  | 6, _, _ => exact ⟨by decide, by decide⟩
theorem lit_wd (x : ByteArray) (h : (decide (0 < x.size) && x.data.toList.all (fun c => decide (c ≠ 32))) = true) : Wd1 x := by
  rw [Bool.and_eq_true] at h
  refine ⟨of_decide_eq_true h.1, fun c hc => ?_⟩
  exact of_decide_eq_true (List.all_eq_true.1 h.2 c hc)
theorem head_wd (k : Nat) (R M C Fl A : Int) (h1 : 1 ≤ k) (h6 : k ≤ 6) : ∀ x ∈ headT (k : Int) R M C Fl A, Wd1 x := by
  rw [head_list]
  intro x hx
  simp only [List.mem_cons, List.not_mem_nil, or_false] at hx
  rcases hx with rfl | rfl | rfl | rfl | rfl | rfl | rfl | rfl | rfl | rfl | rfl | rfl
  · exact lit_wd _ (by decide)
  · exact kindT_wd k h1 h6
  · exact lit_wd _ (by decide)
  · exact itT_wd _
  · exact lit_wd _ (by decide)
  · exact itT_wd _
  · exact lit_wd _ (by decide)
  · exact itT_wd _
  · exact lit_wd _ (by decide)
  · exact itT_wd _
  · exact lit_wd _ (by decide)
  exact itT_wd _
theorem ndw_wd (d : Nd) (h : Ndo d) : ∀ x ∈ ndw d, Wd1 x := by
  intro x hx
  unfold ndw at hx
  simp only [List.mem_cons, List.not_mem_nil, or_false] at hx
  have := h.k
  rcases hx with rfl | rfl | rfl | rfl | rfl
  · exact lit_wd _ (by decide)
  · exact kindT_wd _ (by omega) (by omega)
  · exact itT_wd _
  · exact itT_wd _
  exact itT_wd _
theorem checkE_congr {F G : Nat → Nat → Int} {n : Nat} (h : ∀ i j, i < n → j < 4 → F i j = G i j) (K R M C Fl A : Int) : checkE K R M C Fl A F n = checkE K R M C Fl A G n := by
  unfold checkE
  rw [nodesE_congr h]
theorem st_one : (⟨(Lib.join ((headT 1 100 50 10 2 0).map (·.data.toList)) [32]).toArray⟩ : ByteArray) = ⟨#[107, 105, 110, 100, 32, 119, 102, 113, 32, 114, 111, 111, 109, 32, 49, 48, 48, 32, 109, 111, 115, 116, 32, 53, 48, 32, 99, 97, 112, 32, 49, 48, 32, 102, 108, 111, 119, 115, 32, 50, 32, 97, 103, 101, 32, 48]⟩ := by decide +kernel
theorem st_ck : checkE 1 100 50 10 2 0 (fun _ _ => 0) 0 = 0 := by decide +kernel
theorem st_fl : flowE 1 100 50 10 2 0 (fun _ _ => 0) 0 1 0 0 0 100 4602678819172646912 3 0 = 0 := by decide +kernel
theorem st_ff : ffP 4602678819172646912 = 1 ∧ ffQ 4602678819172646912 = 2 := by decide +kernel
theorem st_txt : (⟨(Lib.join ((flowT 1 0 0 0 100 3 0 (fmtT 1 2 1 1)).map (·.data.toList)) [32]).toArray⟩ : ByteArray) = ⟨#[119, 101, 105, 103, 104, 116, 32, 49, 32, 113, 117, 97, 110, 116, 117, 109, 32, 48, 32, 99, 108, 97, 115, 115, 32, 48, 32, 115, 112, 97, 110, 32, 48, 32, 98, 117, 114, 115, 116, 32, 49, 48, 48, 32, 114, 97, 116, 101, 32, 49, 47, 50, 32, 112, 101, 114, 32, 51, 32, 110, 111, 100, 101, 32, 48]⟩ := by decide +kernel
theorem st_fmt : (fmtT 1 2 1 1).size ≤ 4000 := by decide +kernel
theorem st_line : setV (wordsL ⟨#[107, 105, 110, 100, 32, 32, 119, 102, 113, 32, 109, 111, 115, 116, 32, 53, 48, 32, 114, 111, 111, 109, 32, 49, 48, 48, 32, 102, 108, 111, 119, 115, 32, 50, 32, 99, 97, 112, 32, 49, 48, 32, 97, 103, 101, 32, 48, 32]⟩, false) 0 = 1 ∧ setV (wordsL ⟨#[107, 105, 110, 100, 32, 32, 119, 102, 113, 32, 109, 111, 115, 116, 32, 53, 48, 32, 114, 111, 111, 109, 32, 49, 48, 48, 32, 102, 108, 111, 119, 115, 32, 50, 32, 99, 97, 112, 32, 49, 48, 32, 97, 103, 101, 32, 48, 32]⟩, false) 1 = 100 ∧ setV (wordsL ⟨#[107, 105, 110, 100, 32, 32, 119, 102, 113, 32, 109, 111, 115, 116, 32, 53, 48, 32, 114, 111, 111, 109, 32, 49, 48, 48, 32, 102, 108, 111, 119, 115, 32, 50, 32, 99, 97, 112, 32, 49, 48, 32, 97, 103, 101, 32, 48, 32]⟩, false) 2 = 50 ∧ setV (wordsL ⟨#[107, 105, 110, 100, 32, 32, 119, 102, 113, 32, 109, 111, 115, 116, 32, 53, 48, 32, 114, 111, 111, 109, 32, 49, 48, 48, 32, 102, 108, 111, 119, 115, 32, 50, 32, 99, 97, 112, 32, 49, 48, 32, 97, 103, 101, 32, 48, 32]⟩, false) 3 = 10 ∧ setV (wordsL ⟨#[107, 105, 110, 100, 32, 32, 119, 102, 113, 32, 109, 111, 115, 116, 32, 53, 48, 32, 114, 111, 111, 109, 32, 49, 48, 48, 32, 102, 108, 111, 119, 115, 32, 50, 32, 99, 97, 112, 32, 49, 48, 32, 97, 103, 101, 32, 48, 32]⟩, false) 4 = 2 ∧ setV (wordsL ⟨#[107, 105, 110, 100, 32, 32, 119, 102, 113, 32, 109, 111, 115, 116, 32, 53, 48, 32, 114, 111, 111, 109, 32, 49, 48, 48, 32, 102, 108, 111, 119, 115, 32, 50, 32, 99, 97, 112, 32, 49, 48, 32, 97, 103, 101, 32, 48, 32]⟩, false) 5 = 0 ∧ setS (wordsL ⟨#[107, 105, 110, 100, 32, 32, 119, 102, 113, 32, 109, 111, 115, 116, 32, 53, 48, 32, 114, 111, 111, 109, 32, 49, 48, 48, 32, 102, 108, 111, 119, 115, 32, 50, 32, 99, 97, 112, 32, 49, 48, 32, 97, 103, 101, 32, 48, 32]⟩, false) = ([], false) := by decide +kernel
theorem st_flow : flV (wordsL ⟨#[119, 101, 105, 103, 104, 116, 32, 49, 32, 113, 117, 97, 110, 116, 117, 109, 32, 48, 32, 99, 108, 97, 115, 115, 32, 48, 32, 115, 112, 97, 110, 32, 48, 32, 98, 117, 114, 115, 116, 32, 49, 48, 48, 32, 114, 97, 116, 101, 32, 49, 47, 50, 32, 112, 101, 114, 32, 51, 32, 110, 111, 100, 101, 32, 48]⟩, false) 0 = 1 ∧ flV (wordsL ⟨#[119, 101, 105, 103, 104, 116, 32, 49, 32, 113, 117, 97, 110, 116, 117, 109, 32, 48, 32, 99, 108, 97, 115, 115, 32, 48, 32, 115, 112, 97, 110, 32, 48, 32, 98, 117, 114, 115, 116, 32, 49, 48, 48, 32, 114, 97, 116, 101, 32, 49, 47, 50, 32, 112, 101, 114, 32, 51, 32, 110, 111, 100, 101, 32, 48]⟩, false) 1 = 0 ∧ flV (wordsL ⟨#[119, 101, 105, 103, 104, 116, 32, 49, 32, 113, 117, 97, 110, 116, 117, 109, 32, 48, 32, 99, 108, 97, 115, 115, 32, 48, 32, 115, 112, 97, 110, 32, 48, 32, 98, 117, 114, 115, 116, 32, 49, 48, 48, 32, 114, 97, 116, 101, 32, 49, 47, 50, 32, 112, 101, 114, 32, 51, 32, 110, 111, 100, 101, 32, 48]⟩, false) 2 = 0 ∧ flV (wordsL ⟨#[119, 101, 105, 103, 104, 116, 32, 49, 32, 113, 117, 97, 110, 116, 117, 109, 32, 48, 32, 99, 108, 97, 115, 115, 32, 48, 32, 115, 112, 97, 110, 32, 48, 32, 98, 117, 114, 115, 116, 32, 49, 48, 48, 32, 114, 97, 116, 101, 32, 49, 47, 50, 32, 112, 101, 114, 32, 51, 32, 110, 111, 100, 101, 32, 48]⟩, false) 3 = 0 ∧ flV (wordsL ⟨#[119, 101, 105, 103, 104, 116, 32, 49, 32, 113, 117, 97, 110, 116, 117, 109, 32, 48, 32, 99, 108, 97, 115, 115, 32, 48, 32, 115, 112, 97, 110, 32, 48, 32, 98, 117, 114, 115, 116, 32, 49, 48, 48, 32, 114, 97, 116, 101, 32, 49, 47, 50, 32, 112, 101, 114, 32, 51, 32, 110, 111, 100, 101, 32, 48]⟩, false) 4 = 100 ∧ flV (wordsL ⟨#[119, 101, 105, 103, 104, 116, 32, 49, 32, 113, 117, 97, 110, 116, 117, 109, 32, 48, 32, 99, 108, 97, 115, 115, 32, 48, 32, 115, 112, 97, 110, 32, 48, 32, 98, 117, 114, 115, 116, 32, 49, 48, 48, 32, 114, 97, 116, 101, 32, 49, 47, 50, 32, 112, 101, 114, 32, 51, 32, 110, 111, 100, 101, 32, 48]⟩, false) 5 = 3 ∧ flV (wordsL ⟨#[119, 101, 105, 103, 104, 116, 32, 49, 32, 113, 117, 97, 110, 116, 117, 109, 32, 48, 32, 99, 108, 97, 115, 115, 32, 48, 32, 115, 112, 97, 110, 32, 48, 32, 98, 117, 114, 115, 116, 32, 49, 48, 48, 32, 114, 97, 116, 101, 32, 49, 47, 50, 32, 112, 101, 114, 32, 51, 32, 110, 111, 100, 101, 32, 48]⟩, false) 6 = 0 ∧ flR (wordsL ⟨#[119, 101, 105, 103, 104, 116, 32, 49, 32, 113, 117, 97, 110, 116, 117, 109, 32, 48, 32, 99, 108, 97, 115, 115, 32, 48, 32, 115, 112, 97, 110, 32, 48, 32, 98, 117, 114, 115, 116, 32, 49, 48, 48, 32, 114, 97, 116, 101, 32, 49, 47, 50, 32, 112, 101, 114, 32, 51, 32, 110, 111, 100, 101, 32, 48]⟩, false) = ⟨#[49, 47, 50]⟩ ∧ flS (wordsL ⟨#[119, 101, 105, 103, 104, 116, 32, 49, 32, 113, 117, 97, 110, 116, 117, 109, 32, 48, 32, 99, 108, 97, 115, 115, 32, 48, 32, 115, 112, 97, 110, 32, 48, 32, 98, 117, 114, 115, 116, 32, 49, 48, 48, 32, 114, 97, 116, 101, 32, 49, 47, 50, 32, 112, 101, 114, 32, 51, 32, 110, 111, 100, 101, 32, 48]⟩, false) = ([], false) := by decide +kernel
theorem st_np : npE ⟨#[49, 47, 50]⟩ = 0 ∧ npP ⟨#[49, 47, 50]⟩ = 1 ∧ npQ ⟨#[49, 47, 50]⟩ = 2 := by decide +kernel
theorem st_tf : tfV 1 2 = 4602678819172646912 ∧ tfOk 1 2 = true := by decide +kernel
def stG (i j : Nat) : Int := (([[6, 0, 0, 0], [4, 0, 5, 7], [6, 0, 9, 0], [2, 2, 1, 0]] : List (List Int)).getD i []).getD j 0
theorem st_tck : checkE 6 100 50 10 2 0 stG 4 = 0 := by decide +kernel
theorem st_tree : (⟨(Lib.join ((headT 6 100 50 10 2 0 ++ nodesT stG 3).map (·.data.toList)) [32]).toArray⟩ : ByteArray) = ⟨#[107, 105, 110, 100, 32, 116, 114, 101, 101, 32, 114, 111, 111, 109, 32, 49, 48, 48, 32, 109, 111, 115, 116, 32, 53, 48, 32, 99, 97, 112, 32, 49, 48, 32, 102, 108, 111, 119, 115, 32, 50, 32, 97, 103, 101, 32, 48, 32, 110, 111, 100, 101, 32, 97, 103, 101, 32, 48, 32, 53, 32, 55, 32, 110, 111, 100, 101, 32, 116, 114, 101, 101, 32, 48, 32, 57, 32, 48, 32, 110, 111, 100, 101, 32, 100, 114, 114, 32, 50, 32, 49, 32, 48]⟩ := by decide +kernel
theorem st_zero : checkE 0 0 0 0 0 0 (fun _ _ => 0) 0 = 90 := by decide +kernel
theorem st_none : flowE 1 100 50 10 2 0 (fun _ _ => 0) 0 0 0 0 0 0 0 0 0 = 93 := by decide +kernel
theorem num9_any (n : Int) (w : World) : Calls Tryz.prog 11 #[.int .i64 n] w fun e w' => e = .returned (.int .i64 n) ∧ w' = w := by
  go_enter Tryz.func11, Tryz.ntmps11
  go_wp2_with fail
  go_ret
  exact ⟨rfl, rfl⟩
set_option maxHeartbeats 1000000 in
theorem same_flat (w : World) : Calls Tryz.prog 23 #[.agg #[.int .i64 1, .int .i64 100, .int .i64 50, .int .i64 10, .int .i64 2, .int .i64 0, .slice none 0 0], .agg #[.int .i64 1, .int .i64 100, .int .i64 50, .int .i64 10, .int .i64 2, .int .i64 0, .slice none 0 0]] w fun e w' => e = .returned (.bool true) ∧ Below w.heap.size w w' := by
  go_enter Tryz.func23, Tryz.ntmps23
  go_wp2_with fail
  go_loopw [5] (fun t wr => t = .int .i64 0 ∧ wr = (w.alloc (.cells #[.int .i64 1, .int .i64 100, .int .i64 50, .int .i64 10, .int .i64 2, .int .i64 0, .slice none 0 0] 24)).alloc (.cells #[.int .i64 1, .int .i64 100, .int .i64 50, .int .i64 10, .int .i64 2, .int .i64 0, .slice none 0 0] 24)) (fun _ _ => 0)
  case atStart => exact ⟨rfl, rfl⟩
  case round =>
    obtain ⟨rfl, rfl⟩ := hrel
    go_wp2_with fail
    go_ret
    exact ⟨rfl, bc_al (bc_al (bel_refl w))⟩
structure Vs9 (w : World) : Prop where
  kn : KN w
  ev : EV w
  tab : Tab w
  pow : Lib.TabIs Tryz.prog w "internal/strconv.uint64pow10" .u64 Lib.pow10Tab
theorem Vs9.go {w W : World} (h : Vs9 w) (hB : Below w.heap.size w W) : Vs9 W := ⟨h.kn.go hB, h.ev.go hB, Tab.go h.tab hB, Lib.tabBelow_of_tabIs h.pow W hB⟩
theorem st_print (w : World) (h : Vs9 w) : Calls Tryz.prog 7 #[.agg #[.int .i64 1, .int .i64 100, .int .i64 50, .int .i64 10, .int .i64 2, .int .i64 0, .slice none 0 0]] w fun e w' => e = .returned (.tuple #[.string ⟨#[107, 105, 110, 100, 32, 119, 102, 113, 32, 114, 111, 111, 109, 32, 49, 48, 48, 32, 109, 111, 115, 116, 32, 53, 48, 32, 99, 97, 112, 32, 49, 48, 32, 102, 108, 111, 119, 115, 32, 50, 32, 97, 103, 101, 32, 48]⟩, .int .i64 0]) ∧ Below w.heap.size w w' := by
  refine (print_flat 1 100 50 10 2 0 none 0 0 (fun _ _ => 0) w (nsl_nil w) h.kn h.pow (by decide)).mono ?_
  rintro e w' ⟨s, rfl, hb, hs⟩
  rw [hs st_ck, st_ck, st_one]
  exact ⟨rfl, hb⟩
theorem st_five (i : Nat) (h : i < 5) : -9223372036854775808 ≤ setI 1 0 0 0 100 i ∧ setI 1 0 0 0 100 i ≤ 9223372036854775807 := by
  match i, h with
  | 0, _ => decide
  | 1, _ => decide
  | 2, _ => decide
  | 3, _ => decide
  | 4, _ => decide
theorem st_two (i : Nat) (h : i < 2) : -9223372036854775808 ≤ pair2 3 0 i ∧ pair2 3 0 i ≤ 9223372036854775807 := by
  match i, h with
  | 0, _ => decide
  | 1, _ => decide
theorem st_printF (w : World) (h : Vs9 w) : Calls Tryz.prog 9 #[.agg #[.int .i64 1, .int .i64 100, .int .i64 50, .int .i64 10, .int .i64 2, .int .i64 0, .slice none 0 0], .agg #[.int .i64 1, .int .i64 0, .int .i64 0, .int .i64 0, .int .i64 100, .float .f64 4602678819172646912, .int .i64 3, .int .i64 0]] w fun e w' => e = .returned (.tuple #[.string ⟨#[119, 101, 105, 103, 104, 116, 32, 49, 32, 113, 117, 97, 110, 116, 117, 109, 32, 48, 32, 99, 108, 97, 115, 115, 32, 48, 32, 115, 112, 97, 110, 32, 48, 32, 98, 117, 114, 115, 116, 32, 49, 48, 48, 32, 114, 97, 116, 101, 32, 49, 47, 50, 32, 112, 101, 114, 32, 51, 32, 110, 111, 100, 101, 32, 48]⟩, .int .i64 0]) ∧ Below w.heap.size w w' := by
  refine (printFlow_good 1 100 50 10 2 0 none 0 0 (fun _ _ => 0) 1 0 0 0 100 4602678819172646912 3 0 1 2 1 1 w (nsl_nil w) st_fl h.tab h.pow (by decide) st_ff.1 st_ff.2 (rs_word (by omega)) (rs_word (by omega)) ⟨by decide, by decide, .inl rfl⟩ ⟨by decide, by decide, .inl rfl⟩ st_fmt st_five st_two).mono ?_
  rintro e w' ⟨rfl, hb⟩
  rw [st_txt]
  exact ⟨rfl, hb⟩
theorem st_parse (w : World) (h : Vs9 w) : Calls Tryz.prog 19 #[.string ⟨#[107, 105, 110, 100, 32, 32, 119, 102, 113, 32, 109, 111, 115, 116, 32, 53, 48, 32, 114, 111, 111, 109, 32, 49, 48, 48, 32, 102, 108, 111, 119, 115, 32, 50, 32, 99, 97, 112, 32, 49, 48, 32, 97, 103, 101, 32, 48, 32]⟩] w fun e w' => e = .returned (.tuple #[.agg #[.int .i64 1, .int .i64 100, .int .i64 50, .int .i64 10, .int .i64 2, .int .i64 0, .slice none 0 0], .int .i64 0]) ∧ Below w.heap.size w w' := by
  obtain ⟨k0, k1, k2, k3, k4, k5, k6⟩ := st_line
  exact parse_good ⟨#[107, 105, 110, 100, 32, 32, 119, 102, 113, 32, 109, 111, 115, 116, 32, 53, 48, 32, 114, 111, 111, 109, 32, 49, 48, 48, 32, 102, 108, 111, 119, 115, 32, 50, 32, 99, 97, 112, 32, 49, 48, 32, 97, 103, 101, 32, 48, 32]⟩ 1 100 50 10 2 0 w (by decide) h.ev h.kn (by decide) k0 k1 k2 k3 k4 k5 k6 st_ck
theorem st_parseF (w : World) (h : Vs9 w) : Calls Tryz.prog 21 #[.agg #[.int .i64 1, .int .i64 100, .int .i64 50, .int .i64 10, .int .i64 2, .int .i64 0, .slice none 0 0], .string ⟨#[119, 101, 105, 103, 104, 116, 32, 49, 32, 113, 117, 97, 110, 116, 117, 109, 32, 48, 32, 99, 108, 97, 115, 115, 32, 48, 32, 115, 112, 97, 110, 32, 48, 32, 98, 117, 114, 115, 116, 32, 49, 48, 48, 32, 114, 97, 116, 101, 32, 49, 47, 50, 32, 112, 101, 114, 32, 51, 32, 110, 111, 100, 101, 32, 48]⟩] w fun e w' => e = .returned (.tuple #[.agg #[.int .i64 1, .int .i64 0, .int .i64 0, .int .i64 0, .int .i64 100, .float .f64 4602678819172646912, .int .i64 3, .int .i64 0], .int .i64 0]) ∧ Below w.heap.size w w' := by
  obtain ⟨k0, k1, k2, k3, k4, k5, k6, k7, k8⟩ := st_flow
  exact parseFlow_good 1 100 50 10 2 0 none 0 0 (fun _ _ => 0) ⟨#[119, 101, 105, 103, 104, 116, 32, 49, 32, 113, 117, 97, 110, 116, 117, 109, 32, 48, 32, 99, 108, 97, 115, 115, 32, 48, 32, 115, 112, 97, 110, 32, 48, 32, 98, 117, 114, 115, 116, 32, 49, 48, 48, 32, 114, 97, 116, 101, 32, 49, 47, 50, 32, 112, 101, 114, 32, 51, 32, 110, 111, 100, 101, 32, 48]⟩ ⟨#[49, 47, 50]⟩ 1 0 0 0 100 3 0 1 2 4602678819172646912 w (nsl_nil w) (by decide) h.ev h.kn h.tab st_ck k0 k1 k2 k3 k4 k5 k6 k7 k8 (by decide) st_np.1 st_np.2.1 st_np.2.2 (rs_word (by omega)) (rs_word (by omega)) st_tf.1 st_tf.2 (by decide) st_ff.1 st_ff.2 st_fl
theorem st_printT (w : World) (b : Nat) (h : Vs9 w) (hn : NSl w (some ⟨b, 0, none⟩) 4 4 stG) : Calls Tryz.prog 7 #[.agg #[.int .i64 6, .int .i64 100, .int .i64 50, .int .i64 10, .int .i64 2, .int .i64 0, .slice (some ⟨b, 0, none⟩) 4 4]] w fun e w' => e = .returned (.tuple #[.string ⟨#[107, 105, 110, 100, 32, 116, 114, 101, 101, 32, 114, 111, 111, 109, 32, 49, 48, 48, 32, 109, 111, 115, 116, 32, 53, 48, 32, 99, 97, 112, 32, 49, 48, 32, 102, 108, 111, 119, 115, 32, 50, 32, 97, 103, 101, 32, 48, 32, 110, 111, 100, 101, 32, 97, 103, 101, 32, 48, 32, 53, 32, 55, 32, 110, 111, 100, 101, 32, 116, 114, 101, 101, 32, 48, 32, 57, 32, 48, 32, 110, 111, 100, 101, 32, 100, 114, 114, 32, 50, 32, 49, 32, 48]⟩, .int .i64 0]) ∧ Below w.heap.size w w' := by
  refine (print_tree 100 50 10 2 0 b 0 3 3 stG w hn h.kn h.pow).mono ?_
  rintro e w' ⟨s, rfl, hb, hs⟩
  rw [hs st_tck, st_tck, st_tree]
  exact ⟨rfl, hb⟩
theorem st_nsl (w : World) (gn : Nat) (hg : gn = w.heap.size) : NSl (w.alloc (.cells #[.int .i64 6, .int .i64 0, .int .i64 0, .int .i64 0, .int .i64 4, .int .i64 0, .int .i64 5, .int .i64 7, .int .i64 6, .int .i64 0, .int .i64 9, .int .i64 0, .int .i64 2, .int .i64 2, .int .i64 1, .int .i64 0] 57)) (some ⟨gn, 0, none⟩) 4 4 stG := by
  subst hg
  refine ⟨Nat.le_refl _, by omega, fun i j hi hj => ?_, .inr ⟨_, _, rfl, fun i j hi hj => ?_⟩⟩
  · match i, j, hi, hj with
    | 0, 0, _, _ => decide
    | 0, 1, _, _ => decide
    | 0, 2, _, _ => decide
    | 0, 3, _, _ => decide
    | 1, 0, _, _ => decide
    | 1, 1, _, _ => decide
    | 1, 2, _, _ => decide
    | 1, 3, _, _ => decide
    | 2, 0, _, _ => decide
    | 2, 1, _, _ => decide
    | 2, 2, _, _ => decide
    | 2, 3, _, _ => decide
    | 3, 0, _, _ => decide
    | 3, 1, _, _ => decide
    | 3, 2, _, _ => decide
    | 3, 3, _, _ => decide
  match i, j, hi, hj with
  | 0, 0, _, _ => simp [stG]
  | 0, 1, _, _ => simp [stG]
  | 0, 2, _, _ => simp [stG]
  | 0, 3, _, _ => simp [stG]
  | 1, 0, _, _ => simp [stG]
  | 1, 1, _, _ => simp [stG]
  | 1, 2, _, _ => simp [stG]
  | 1, 3, _, _ => simp [stG]
  | 2, 0, _, _ => simp [stG]
  | 2, 1, _, _ => simp [stG]
  | 2, 2, _, _ => simp [stG]
  | 2, 3, _, _ => simp [stG]
  | 3, 0, _, _ => simp [stG]
  | 3, 1, _, _ => simp [stG]
  | 3, 2, _, _ => simp [stG]
  | 3, 3, _, _ => simp [stG]
set_option maxHeartbeats 2000000 in
theorem started9_any (w : World) (h : Vs9 w) : Calls Tryz.prog 18 #[] w fun e w' => e = .returned (.bool true) ∧ Below w.heap.size w w' := by
  have HV : Hid _ := h
  clear h
  have sf := fun (w : World) (a : Addr) (x : Nat) => run_store Tryz.prog w a (.float .f64 x) .plain rfl
  go_enter Tryz.func18, Tryz.ntmps18
  go_wp2_with fail
  have S0 : Hid _ := ((ce_start w).box7 (.int .i64 1) (.int .i64 100) (.int .i64 50) (.int .i64 10) (.int .i64 2) (.int .i64 0) (.slice none 0 0) 24 _ rfl).box8 (.int .i64 1) (.int .i64 0) (.int .i64 0) (.int .i64 0) (.int .i64 100) (.float .f64 4602678819172646912) (.int .i64 3) (.int .i64 0) 27 (w.heap.size + 1) (by rw [World.size_alloc])
  refine (st_print _ (HV.out.go S0.out.bel)).mono ?_
  rintro e w1 ⟨rfl, hb1⟩
  obtain ⟨gp, egp⟩ : ∃ g, g = w.heap.size + 1 := ⟨_, rfl⟩
  obtain ⟨gc, egc⟩ : ∃ g, g = w.heap.size := ⟨_, rfl⟩
  rw [← egp, ← egc] at S0
  rw [← egp, ← egc]
  have S1 : Hid _ := S0.out.go hb1
  clear hb1 S0 egp egc
  have x0 := S1.out.cel gc 0 (.int .i64 1)
  have x1 := S1.out.cel gc 1 (.int .i64 100)
  have x2 := S1.out.cel gc 2 (.int .i64 50)
  have x3 := S1.out.cel gc 3 (.int .i64 10)
  have x4 := S1.out.cel gc 4 (.int .i64 2)
  have x5 := S1.out.cel gc 5 (.int .i64 0)
  have x6 := S1.out.cel gc 6 (.slice none 0 0)
  have y0 := S1.out.cel gp 0 (.int .i64 1)
  have y1 := S1.out.cel gp 1 (.int .i64 0)
  have y2 := S1.out.cel gp 2 (.int .i64 0)
  have y3 := S1.out.cel gp 3 (.int .i64 0)
  have y4 := S1.out.cel gp 4 (.int .i64 100)
  have y5 := S1.out.cel gp 5 (.float .f64 4602678819172646912)
  have y6 := S1.out.cel gp 6 (.int .i64 3)
  have y7 := S1.out.cel gp 7 (.int .i64 0)
  go_wp2_with fail
  refine (st_printF _ (HV.out.go S1.out.bel)).mono ?_
  rintro e w2 ⟨rfl, hb2⟩
  have S2 : Hid _ := S1.out.go hb2
  replace x0 := bc_cell hb2 x0
  replace x1 := bc_cell hb2 x1
  replace x2 := bc_cell hb2 x2
  replace x3 := bc_cell hb2 x3
  replace x4 := bc_cell hb2 x4
  replace x5 := bc_cell hb2 x5
  replace x6 := bc_cell hb2 x6
  replace y0 := bc_cell hb2 y0
  replace y1 := bc_cell hb2 y1
  replace y2 := bc_cell hb2 y2
  replace y3 := bc_cell hb2 y3
  replace y4 := bc_cell hb2 y4
  replace y5 := bc_cell hb2 y5
  replace y6 := bc_cell hb2 y6
  replace y7 := bc_cell hb2 y7
  clear hb2 S1
  go_wp2_with fail
  refine (st_parse _ (HV.out.go S2.out.bel)).mono ?_
  rintro e w3 ⟨rfl, hb3⟩
  have S3 : Hid _ := (S2.out.go hb3).box7 (.int .i64 1) (.int .i64 100) (.int .i64 50) (.int .i64 10) (.int .i64 2) (.int .i64 0) (.slice none 0 0) 24 _ rfl
  replace x0 := bc_cell hb3 x0
  replace x1 := bc_cell hb3 x1
  replace x2 := bc_cell hb3 x2
  replace x3 := bc_cell hb3 x3
  replace x4 := bc_cell hb3 x4
  replace x5 := bc_cell hb3 x5
  replace x6 := bc_cell hb3 x6
  have lc := World.block_lt_of_cell? _ _ x0
  clear hb3 S2
  clear y0
  clear y1
  clear y2
  clear y3
  clear y4
  clear y5
  clear y6
  clear y7
  go_wp2_with fail
  refine (st_parseF _ (HV.out.go S3.out.bel)).mono ?_
  rintro e w4 ⟨rfl, hb4⟩
  have S4 : Hid _ := S3.out.go hb4
  obtain ⟨gd, egd⟩ : ∃ g, g = w3.heap.size := ⟨_, rfl⟩
  rw [← egd] at S4
  rw [← egd]
  clear x0
  clear x1
  clear x2
  clear x3
  clear x4
  clear x5
  clear x6
  clear hb4 S3 egd
  have x0 := S4.out.cel gc 0 (.int .i64 1)
  have x1 := S4.out.cel gc 1 (.int .i64 100)
  have x2 := S4.out.cel gc 2 (.int .i64 50)
  have x3 := S4.out.cel gc 3 (.int .i64 10)
  have x4 := S4.out.cel gc 4 (.int .i64 2)
  have x5 := S4.out.cel gc 5 (.int .i64 0)
  have x6 := S4.out.cel gc 6 (.slice none 0 0)
  have lc4 := World.block_lt_of_cell? _ _ x0
  clear lc
  go_wp2_with fail
  have S5 : Hid _ := ((S4.out.box8 (.int .i64 1) (.int .i64 0) (.int .i64 0) (.int .i64 0) (.int .i64 100) (.float .f64 4602678819172646912) (.int .i64 3) (.int .i64 0) 27 _ rfl).go (bc_al (o := .cells #[.int .i64 6, .int .i64 100, .int .i64 50, .int .i64 10, .int .i64 2, .int .i64 0, .slice (some ⟨w4.heap.size + 1 + 1, 0, none⟩) 4 4] 24) (bel_refl _))).go (bc_al (o := .cells #[.int .i64 6, .int .i64 0, .int .i64 0, .int .i64 0, .int .i64 4, .int .i64 0, .int .i64 5, .int .i64 7, .int .i64 6, .int .i64 0, .int .i64 9, .int .i64 0, .int .i64 2, .int .i64 2, .int .i64 1, .int .i64 0] 57) (bel_refl _))
  refine (st_printT _ (w4.heap.size + 1 + 1) (HV.out.go S5.out.bel) (st_nsl _ _ (by rw [World.size_alloc, World.size_alloc]))).mono ?_
  rintro e w6 ⟨rfl, hb6⟩
  have S6 : Hid _ := S5.out.go hb6
  obtain ⟨gq, egq⟩ : ∃ g, g = w4.heap.size := ⟨_, rfl⟩
  rw [← egq] at S6
  rw [← egq]
  clear x0
  clear x1
  clear x2
  clear x3
  clear x4
  clear x5
  clear x6
  clear hb6 S5 S4 egq lc4
  go_wp2_with fail
  refine (check_any 0 0 0 0 0 0 none 0 0 (fun _ _ => 0) _ (nsl_nil _)).mono ?_
  rintro e w7 ⟨rfl, hb7⟩
  rw [st_zero]
  have S7 : Hid _ := S6.out.go hb7
  clear hb7 S6
  go_wp2_with fail
  refine (num9_any 90 _).mono ?_
  rintro e w8 ⟨rfl, rfl⟩
  have x0 := S7.out.cel gc 0 (.int .i64 1)
  have x1 := S7.out.cel gc 1 (.int .i64 100)
  have x2 := S7.out.cel gc 2 (.int .i64 50)
  have x3 := S7.out.cel gc 3 (.int .i64 10)
  have x4 := S7.out.cel gc 4 (.int .i64 2)
  have x5 := S7.out.cel gc 5 (.int .i64 0)
  have x6 := S7.out.cel gc 6 (.slice none 0 0)
  go_wp2_with fail
  refine (checkFlow_any 1 100 50 10 2 0 none 0 0 (fun _ _ => 0) 0 0 0 0 0 0 0 0 _ (nsl_nil _)).mono ?_
  rintro e w9 ⟨rfl, hb9⟩
  rw [st_none]
  have S9 : Hid _ := S7.out.go hb9
  clear x0
  clear x1
  clear x2
  clear x3
  clear x4
  clear x5
  clear x6
  clear hb9 S7
  go_wp2_with fail
  refine (num9_any 93 _).mono ?_
  rintro e w10 ⟨rfl, rfl⟩
  go_wp2_with fail
  refine (num9_any 0 _).mono ?_
  rintro e w11 ⟨rfl, rfl⟩
  go_wp2_with fail
  refine (num9_any 0 _).mono ?_
  rintro e w12 ⟨rfl, rfl⟩
  go_wp2_with fail
  refine (num9_any 0 _).mono ?_
  rintro e w13 ⟨rfl, rfl⟩
  go_wp2_with fail
  refine (num9_any 0 _).mono ?_
  rintro e w14 ⟨rfl, rfl⟩
  go_wp2_with fail
  refine (num9_any 0 _).mono ?_
  rintro e w15 ⟨rfl, rfl⟩
  have x0 := S9.out.cel gc 0 (.int .i64 1)
  have x1 := S9.out.cel gc 1 (.int .i64 100)
  have x2 := S9.out.cel gc 2 (.int .i64 50)
  have x3 := S9.out.cel gc 3 (.int .i64 10)
  have x4 := S9.out.cel gc 4 (.int .i64 2)
  have x5 := S9.out.cel gc 5 (.int .i64 0)
  have x6 := S9.out.cel gc 6 (.slice none 0 0)
  have y0 := S9.out.cel gd 0 (.int .i64 1)
  have y1 := S9.out.cel gd 1 (.int .i64 100)
  have y2 := S9.out.cel gd 2 (.int .i64 50)
  have y3 := S9.out.cel gd 3 (.int .i64 10)
  have y4 := S9.out.cel gd 4 (.int .i64 2)
  have y5 := S9.out.cel gd 5 (.int .i64 0)
  have y6 := S9.out.cel gd 6 (.slice none 0 0)
  go_wp2_with fail
  refine (same_flat _).mono ?_
  rintro e w20 ⟨rfl, hb20⟩
  have S20 : Hid _ := S9.out.go hb20
  clear x0 y0
  clear x1 y1
  clear x2 y2
  clear x3 y3
  clear x4 y4
  clear x5 y5
  clear x6 y6
  clear hb20 S9
  have x0 := S20.out.cel gq 0 (.int .i64 1)
  have x1 := S20.out.cel gq 1 (.int .i64 0)
  have x2 := S20.out.cel gq 2 (.int .i64 0)
  have x3 := S20.out.cel gq 3 (.int .i64 0)
  have x4 := S20.out.cel gq 4 (.int .i64 100)
  have x5 := S20.out.cel gq 5 (.float .f64 4602678819172646912)
  have x6 := S20.out.cel gq 6 (.int .i64 3)
  have x7 := S20.out.cel gq 7 (.int .i64 0)
  have y0 := S20.out.cel gp 0 (.int .i64 1)
  have y1 := S20.out.cel gp 1 (.int .i64 0)
  have y2 := S20.out.cel gp 2 (.int .i64 0)
  have y3 := S20.out.cel gp 3 (.int .i64 0)
  have y4 := S20.out.cel gp 4 (.int .i64 100)
  have y5 := S20.out.cel gp 5 (.float .f64 4602678819172646912)
  have y6 := S20.out.cel gp 6 (.int .i64 3)
  have y7 := S20.out.cel gp 7 (.int .i64 0)
  have eqp : ∀ w, (binOp .eql 27 (.agg #[.int .i64 1, .int .i64 0, .int .i64 0, .int .i64 0, .int .i64 100, .float .f64 4602678819172646912, .int .i64 3, .int .i64 0]) (.agg #[.int .i64 1, .int .i64 0, .int .i64 0, .int .i64 0, .int .i64 100, .float .f64 4602678819172646912, .int .i64 3, .int .i64 0])).run Tryz.prog w = .ok (.bool true) w := fun _ => by kernel_rfl
  go_wp2_with fail
  go_ret
  exact ⟨rfl, S20.out.bel⟩
theorem flowE_zero {K R M C Fl A : Int} {G : Nat → Nat → Int} {n : Nat} {pw pq pc ps pb : Int} {pr : Nat} {pp pn : Int} (h : flowE K R M C Fl A G n pw pq pc ps pb pr pp pn = 0) : checkE K R M C Fl A G n = 0 ∧ okAt K G n pn = true ∧ (1 ≤ pw ∧ pw ≤ C) ∧ (fQ0 (kAt K G n pn) ≤ pq ∧ pq ≤ fQ1 (kAt K G n pn)) ∧ (0 ≤ pc ∧ pc ≤ fC1 (kAt K G n pn)) ∧ (0 ≤ ps ∧ ps ≤ fS1 (kAt K G n pn)) ∧ (1 ≤ pb ∧ pb ≤ 1099511627776) ∧ hldF 0 4697254411347427328 pr = true ∧ (1 ≤ pp ∧ pp ≤ 1073741824) := by
  unfold flowE at h
  split at h
  · exact absurd h (by assumption)
  rename_i hc
  have hc : checkE K R M C Fl A G n = 0 := by simpa using hc
  unfold flowE1 at h
  split at h
  · omega
  split at h
  · omega
  split at h
  · omega
  split at h
  · omega
  split at h
  · omega
  split at h
  · omega
  split at h
  · omega
  split at h
  · omega
  rename_i h1 h2 h3 h4 h5 h6 h7 h8
  exact ⟨hc, by simpa using h1, hld_yes (by simpa using h2), hld_yes (by simpa using h3), hld_yes (by simpa using h4), hld_yes (by simpa using h5), hld_yes (by simpa using h6), by simpa using h7, hld_yes (by simpa using h8)⟩
def lvs (G : Nat → Nat → Int) : Nat → Nat
  | 0 => 0
  | i + 1 => lvs G i + (if i = 0 then 0 else if G i 0 = 6 then 0 else 1)
theorem lvs_leaf {G : Nat → Nat → Int} {i : Nat} (hi : 1 ≤ i) (h : G i 0 ≠ 6) : lvs G (i + 1) = lvs G i + 1 := by rw [lvs, if_neg (by omega), if_neg h]
structure Tre (G : Nat → Nat → Int) (n : Nat) : Prop where
  lo : 1 ≤ n
  hi : n ≤ 32
  par : ∀ i, 1 ≤ i → i < n → ∃ x : Nat, G i 1 = (x : Int) ∧ x < i ∧ G x 0 = 6
  kind : ∀ i, i < n → 1 ≤ G i 0 ∧ G i 0 ≤ 6
  leaf : 0 < lvs G n
theorem cntP_none {G : Nat → Nat → Int} {j : Nat} : ∀ k, (∀ i, 1 ≤ i → i ≤ k → G i 1 ≠ (j : Int)) → cntP G k j = 0 := by
  intro k
  induction k with
  | zero => intro _; rfl
  | succ k ih =>
    intro h
    rw [cntP, ih fun i h1 h2 => h i h1 (by omega), if_neg (h (k + 1) (by omega) (Nat.le_refl _))]
theorem tre_of {G : Nat → Nat → Int} {n : Nat} (h : nodesE G n = 0) : Tre G n := by
  unfold nodesE at h
  split at h
  · omega
  split at h
  · omega
  split at h
  · omega
  rename_i h1 h2 h3
  have q1 := hld_yes (show hld 1 32 (n : Int) = true by simpa using h1)
  have q2 : firstE G n = 0 := by simpa using h2
  have q3 : kids G n = true := by simpa using h3
  have hz := firstE_none q2
  have par : ∀ i, 1 ≤ i → i < n → ∃ x : Nat, G i 1 = (x : Int) ∧ x < i ∧ G x 0 = 6 := fun i hi hn => by
    have q := (nodeE_other (by omega) (hz i hn)).2.2.1
    have q5 := kO_in (show kO G i (G i 1) ≠ 0 by omega)
    refine ⟨(G i 1).toNat, by omega, by omega, ?_⟩
    unfold kO at q
    rw [if_pos q5] at q
    exact q
  have root := nodeE_root (hz 0 (by omega))
  have kind : ∀ i, i < n → 1 ≤ G i 0 ∧ G i 0 ≤ 6 := fun i hi => by
    by_cases e : i = 0
    · rw [e]; omega
    have q := nodeE_other e (hz i hi)
    exact ⟨q.1, q.2.1⟩
  refine ⟨by omega, by omega, par, kind, ?_⟩
  obtain ⟨m, rfl⟩ : ∃ m, n = m + 1 := ⟨n - 1, by omega⟩
  unfold kids at q3
  have q4 := of_decide_eq_true q3
  have lf : G m 0 ≠ 6 := fun e => by
    have q5 := q4 m (by omega) e
    rw [Nat.add_sub_cancel, cntP_none m (fun i h1 h2 hx => by
      obtain ⟨x, e1, e2, _⟩ := par i h1 (by omega)
      omega)] at q5
    omega
  have m0 : m ≠ 0 := fun e => by rw [e] at lf; omega
  rw [lvs_leaf (by omega) lf]
  omega
def confT (K R M C Fl A : Int) (G : Nat → Nat → Int) (n : Nat) : List ByteArray := headT K R M C Fl A ++ (if K = 6 then nodesT G (n - 1) else [])
def confS (K R M C Fl A : Int) (G : Nat → Nat → Int) (n : Nat) : ByteArray := ⟨(Lib.join ((confT K R M C Fl A G n).map (·.data.toList)) [32]).toArray⟩
theorem lens21 (L : List ByteArray) (h : ∀ x ∈ L, x.size ≤ 21) : Lib.lens (L.map (·.data.toList)) ≤ 21 * L.length := by
  induction L with
  | nil => simp [Lib.lens]
  | cons x l ih =>
    have h1 := ih fun y hy => h y (List.mem_cons_of_mem _ hy)
    have h2 := h x List.mem_cons_self
    have h3 : x.data.toList.length = x.size := by rw [Array.length_toList]; rfl
    simp only [Lib.lens, List.map_cons, List.sum_cons, List.length_cons] at h1 ⊢
    omega
theorem join21 (L : List ByteArray) (h : ∀ x ∈ L, x.size ≤ 21) : (Lib.join (L.map (·.data.toList)) [32]).length ≤ 22 * L.length := by
  cases L with
  | nil => simp [Lib.join]
  | cons x l =>
    have h1 := lens21 (x :: l) h
    rw [List.map_cons] at h1 ⊢
    rw [Lib.join_length]
    simp only [List.length_map, List.length_cons] at *
    simp
    omega
theorem it21 (x : Int) (h : In64p x) : (itT x).size ≤ 21 := by
  have := Lib.itoa_length_le x h.1 h.2
  show (Lib.itoa x).toArray.size ≤ 21
  simp
  omega
theorem kd21 (i : Nat) : (kindT i).size ≤ 21 := by
  unfold kindT
  split <;> decide
theorem head21 (k : Nat) (R M C Fl A : Int) (hR : In64p R) (hM : In64p M) (hC : In64p C) (hF : In64p Fl) (hA : In64p A) : ∀ x ∈ headT (k : Int) R M C Fl A, x.size ≤ 21 := by
  rw [head_list]
  intro x hx
  simp only [List.mem_cons, List.not_mem_nil, or_false] at hx
  rcases hx with rfl | rfl | rfl | rfl | rfl | rfl | rfl | rfl | rfl | rfl | rfl | rfl
  · decide
  · exact kd21 _
  · decide
  · exact it21 _ hR
  · decide
  · exact it21 _ hM
  · decide
  · exact it21 _ hC
  · decide
  · exact it21 _ hF
  · decide
  exact it21 _ hA
theorem ndw21 (d : Nd) (h : Ndo d) : ∀ x ∈ ndw d, x.size ≤ 21 := by
  intro x hx
  unfold ndw at hx
  simp only [List.mem_cons, List.not_mem_nil, or_false] at hx
  rcases hx with rfl | rfl | rfl | rfl | rfl
  · decide
  · exact kd21 _
  · exact it21 _ h.p
  · exact it21 _ h.q
  exact it21 _ h.a
theorem flat_len (D : List Nd) : (D.flatMap ndw).length = 5 * D.length := by
  induction D with
  | nil => rfl
  | cons d D ih => rw [List.flatMap_cons, List.length_append, ih, List.length_cons]; show 5 + _ = _; omega
theorem rows_at (G : Nat → Nat → Int) (m i : Nat) (h : i < m) : (rows G m).getD i nd0 = (G (i + 1) 0, G (i + 1) 1, G (i + 1) 2, G (i + 1) 3) := by
  unfold rows
  rw [List.getD, List.getElem?_map, List.getElem?_range h]
  rfl
theorem pr_back (K R M C Fl A : Int) (G : Nat → Nat → Int) (n : Nat) (hz : checkE K R M C Fl A G n = 0) (hw : ∀ i j, i < n → j < 4 → In64p (G i j)) :
    prE (confS K R M C Fl A G n) = 0 ∧ prI (confS K R M C Fl A G n) 0 = K ∧ prI (confS K R M C Fl A G n) 1 = R ∧ prI (confS K R M C Fl A G n) 2 = M ∧ prI (confS K R M C Fl A G n) 3 = C ∧ prI (confS K R M C Fl A G n) 4 = Fl ∧ prI (confS K R M C Fl A G n) 5 = A ∧ (prN (confS K R M C Fl A G n)).length = n ∧ ∀ i j, i < n → j < 4 → gOf (prN (confS K R M C Fl A G n)) i j = G i j := by
  obtain ⟨b1, b2, b3, b4, b5, b6, b7, b8⟩ := checkE_zero hz
  have b9 := fA1_le K
  have hR : In64p R := ⟨by omega, by omega⟩
  have hM : In64p M := ⟨by omega, by omega⟩
  have hC : In64p C := ⟨by omega, by omega⟩
  have hF : In64p Fl := ⟨by omega, by omega⟩
  have hA : In64p A := ⟨by omega, by omega⟩
  obtain ⟨k, rfl⟩ : ∃ k : Nat, K = (k : Int) := ⟨K.toNat, by omega⟩
  have k1 : 1 ≤ k := by omega
  have k6 : k ≤ 6 := by omega
  obtain ⟨D, hD, hDo, hDl⟩ : ∃ D : List Nd, (if (k : Int) = 6 then nodesT G (n - 1) else []) = D.flatMap ndw ∧ (∀ d ∈ D, Ndo d) ∧ D = (if (k : Int) = 6 then rows G (n - 1) else []) := by
    by_cases e : (k : Int) = 6
    · have tr := tre_of (b7 e)
      refine ⟨rows G (n - 1), by rw [if_pos e, nodesT_rows], fun d hd => ?_, by rw [if_pos e]⟩
      unfold rows at hd
      obtain ⟨i, hi, rfl⟩ := List.mem_map.1 hd
      have hi := List.mem_range.1 hi
      have lo := tr.lo
      exact ⟨tr.kind (i + 1) (by omega), hw _ _ (by omega) (by omega), hw _ _ (by omega) (by omega), hw _ _ (by omega) (by omega)⟩
    refine ⟨[], ?_, fun d hd => absurd hd (by simp), ?_⟩
    · rw [if_neg e]; rfl
    rw [if_neg e]
  obtain ⟨s, hs⟩ : ∃ s, confS (k : Int) R M C Fl A G n = s := ⟨_, rfl⟩
  have hct : confT (k : Int) R M C Fl A G n = headT (k : Int) R M C Fl A ++ D.flatMap ndw := by rw [confT, hD]
  have hwd : wordsL s = headT (k : Int) R M C Fl A ++ D.flatMap ndw := by
    rw [← hs, confS, words_join, hct]
    rw [hct]
    intro x hx
    rcases List.mem_append.1 hx with q | q
    · exact head_wd k R M C Fl A k1 k6 x q
    obtain ⟨d, hd, hx2⟩ := List.mem_flatMap.1 q
    exact ndw_wd d (hDo d hd) x hx2
  have hDn : D.length ≤ 31 := by
    rw [hDl]
    split
    · rename_i e
      have := (tre_of (b7 e)).hi
      rw [rows_len]
      omega
    simp
  have hsz : s.size ≤ 4096 := by
    have q : s.size = (Lib.join ((confT (k : Int) R M C Fl A G n).map (·.data.toList)) [32]).length := by
      rw [← hs, confS]
      show (Lib.join _ _).toArray.size = _
      simp
    rw [q]
    refine Nat.le_trans (join21 _ ?_) ?_
    · rw [hct]
      intro x hx
      rcases List.mem_append.1 hx with q | q
      · exact head21 k R M C Fl A hR hM hC hF hA x q
      obtain ⟨d, hd, hx2⟩ := List.mem_flatMap.1 q
      exact ndw21 d (hDo d hd) x hx2
    rw [hct, List.length_append, flat_len, head_list]
    show 22 * (12 + 5 * D.length) ≤ 4096
    omega
  obtain ⟨v0, v1, v2, v3, v4, v5, vs⟩ := su_back k R M C Fl A (D.flatMap ndw) k1 k6 hR hM hC hF hA
  rw [← hwd] at v0 v1 v2 v3 v4 v5 vs
  have hnds : nds (setS (wordsL s, false)).1.length (setS (wordsL s, false)) = (D, ([], false)) := by
    rw [vs]
    exact nds_all D _ hDo (by rw [flat_len]; omega)
  have hN : suN (wordsL s, false) = if (k : Int) = 6 then (6, 0, 0, 0) :: D else [] := by
    unfold suN
    rw [v0, hnds]
  have hS : suS (wordsL s, false) = ([], false) := by
    unfold suS
    rw [v0, hnds, vs]
    split
    · rfl
    rename_i e
    rw [hDl, if_neg e]
    rfl
  have hln : (suN (wordsL s, false)).length = n := by
    rw [hN]
    split
    · rename_i e
      have lo := (tre_of (b7 e)).lo
      rw [List.length_cons, hDl, if_pos e, rows_len]
      omega
    rename_i e
    rw [b8 e]
    rfl
  have hG : ∀ i j, i < n → j < 4 → gOf (suN (wordsL s, false)) i j = G i j := by
    intro i j hi hj
    by_cases e : (k : Int) = 6
    · rw [hN, if_pos e, hDl, if_pos e]
      have hz2 := b7 e
      have tr := tre_of hz2
      rcases i with _ | i
      · have rt : G 0 0 = 6 ∧ G 0 1 = 0 ∧ G 0 2 = 0 ∧ G 0 3 = 0 := by
          unfold nodesE at hz2
          split at hz2
          · omega
          split at hz2
          · omega
          rename_i q1 q2
          exact nodeE_root (firstE_none (by simpa using q2) 0 (by omega))
        match j, hj with
        | 0, _ => exact rt.1.symm
        | 1, _ => exact rt.2.1.symm
        | 2, _ => exact rt.2.2.1.symm
        | 3, _ => exact rt.2.2.2.symm
      have q := rows_at G (n - 1) i (by omega)
      have q2 : ((6, 0, 0, 0) :: rows G (n - 1) : List Nd).getD (i + 1) nd0 = (rows G (n - 1)).getD i nd0 := rfl
      unfold gOf
      match j, hj with
      | 0, _ => show (List.getD ((6, 0, 0, 0) :: rows G (n - 1) : List Nd) (i + 1) nd0).1 = _; rw [q2, q]
      | 1, _ => show (List.getD ((6, 0, 0, 0) :: rows G (n - 1) : List Nd) (i + 1) nd0).2.1 = _; rw [q2, q]
      | 2, _ => show (List.getD ((6, 0, 0, 0) :: rows G (n - 1) : List Nd) (i + 1) nd0).2.2.1 = _; rw [q2, q]
      | 3, _ => show (List.getD ((6, 0, 0, 0) :: rows G (n - 1) : List Nd) (i + 1) nd0).2.2.2 = _; rw [q2, q]
    exact absurd hi (by rw [b8 e]; omega)
  have hC0 : prC s = 0 := by
    unfold prC
    rw [v0, v1, v2, v3, v4, v5, hln, checkE_congr hG]
    exact hz
  have hE : prE s = 0 := by
    unfold prE
    rw [if_neg (by omega), hS, if_neg (by decide)]
    exact hC0
  rw [hs]
  unfold prI prN
  rw [hE]
  simp only [if_true]
  exact ⟨trivial, v0, v1, v2, v3, v4, v5, hln, hG⟩
def dst (a b : Nat) : Nat := (a - b) + (b - a)
theorem p2a (U K : Nat) : 2 ^ (U + 1 - K) * 2 ^ (K - U) = 2 * (2 ^ (U - K) * 2 ^ (K - (U + 1))) := by
  rw [← Nat.pow_add, ← Nat.pow_add, ← Nat.pow_succ']
  congr 1
  omega
theorem p2z (c K : Nat) : c * 2 ^ (0 - 1 - K) * 2 ^ (K - 0) = c * 2 ^ (0 - K) * 2 ^ (K - (0 - 1)) := by
  simp
theorem alg_top {g1 h0 g0 h1 : Nat} (k : g1 * h0 = 2 * (g0 * h1)) : 4503599627370496 * g1 * h0 = 9007199254740992 * g0 * h1 := by
  rw [Nat.mul_assoc, k]
  grind
theorem val_units {U c : Nat} (hc : c ≤ 9007199254740992) (hU : U = 0 ∨ 4503599627370496 ≤ c) : fN (U * 4503599627370496 + c) * 2 ^ (1074 - U) = c * 2 ^ (U - 1074) * fD (U * 4503599627370496 + c) := by
  by_cases h1 : c < 4503599627370496
  · obtain rfl : U = 0 := by omega
    have e1 : (0 * 4503599627370496 + c) / 4503599627370496 = 0 := by omega
    have e2 : (0 * 4503599627370496 + c) % 4503599627370496 = c := by omega
    unfold fN fD fm fe
    rewrite [e1, if_pos rfl, e2]
    exact p2z c 1074
  by_cases h2 : c < 9007199254740992
  · have e1 : (U * 4503599627370496 + c) / 4503599627370496 = U + 1 := by omega
    have e2 : (U * 4503599627370496 + c) % 4503599627370496 + 4503599627370496 = c := by omega
    unfold fN fD fm fe
    rw [e1, if_neg (by omega), e2, show U + 1 - 1 = U by omega]
  obtain rfl : c = 9007199254740992 := by omega
  have e1 : (U * 4503599627370496 + 9007199254740992) / 4503599627370496 = U + 2 := by omega
  have e2 : (U * 4503599627370496 + 9007199254740992) % 4503599627370496 + 4503599627370496 = 4503599627370496 := by omega
  unfold fN fD fm fe
  rw [e1, if_neg (by omega), e2, show U + 2 - 1 = U + 1 by omega]
  exact alg_top (p2a U 1074)
end Go.Proofs.YtchomkadekikdaaGreatDoor
