/- Contracts of the program's functions, part 45: own work, joined in build order. -/
import Derived.Test.YtjnfcihichaonaaJ44
namespace Go.Proofs.Ytjnfcihichaonaa
open Go.RowKit Go.Shelf Go.Sort
set_option maxRecDepth 100000
set_option linter.unusedVariables false
theorem makeMk_at (L C : Int) (n m : Nat) (hL : L = n) (hC : C = m) (hnm : n ≤ m) (hm : m ≤ 1000000000) (w : World) :
    (Instr.makeSlice 83 (.int .i64 L) (.int .i64 C)).run Try.prog w = .ok (.slice (some ⟨w.heap.size, 0, none⟩) n m) (w.alloc (.cells (madeCells #[.int .i64 0, .int .i64 0] (m * 2)) 79)) := by
  obtain ⟨i, hi, hz, hs, hb⟩ := info_parts Try.infoMk
  subst hL hC
  rw [run_make w 83 79 i (.agg #[.int .i64 0, .int .i64 0]) Try.underlying83 hi hz .i64 .i64 n m (by omega) (by omega) (by rw [hb]; omega) (by omega), hs]
  simp [Value.cells]
theorem Mr.start (w : World) (m : Nat) (hm : m ≤ 1000000000) : Mr w.heap.size (w.alloc (.cells (madeCells #[.int .i64 0, .int .i64 0] (m * 2)) 79)) (.slice (some ⟨w.heap.size, 0, none⟩) 0 m) [] :=
  ⟨rfl, .inr ⟨w.heap.size, m, _, rfl, Nat.le_refl _, (MapKept.heap_alloc _ _).1, Nat.zero_le _, by simp only [maxLen]; omega, by simp [size_madeCells], by simp [mkc]⟩⟩
theorem mkc_at (L : List (Int × Int)) (i : Nat) (hi : i < L.length) : (mkc L)[i * 2]? = some (.int .i64 (L.getD i (0, 0)).1) ∧ (mkc L)[i * 2 + 1]? = some (.int .i64 (L.getD i (0, 0)).2) := by
  induction L generalizing i with
  | nil => simp at hi
  | cons x L ih =>
    have e : mkc (x :: L) = [.int .i64 x.1, .int .i64 x.2] ++ mkc L := rfl
    rw [e]
    rcases i with _ | i
    · simp
    · have h := ih i (by simpa using hi)
      have r : ∀ j, ([Value.int .i64 x.1, Value.int .i64 x.2] ++ mkc L)[(i + 1) * 2 + j]? = (mkc L)[i * 2 + j]? := fun j => by
        rw [List.getElem?_append_right (by simp; omega)]
        congr 1
        simp
        omega
      have r0 := r 0
      simp only [Nat.add_zero] at r0
      rw [r0, r 1]
      simpa using h
theorem Mr.holds {base : Nat} {W : World} {g c : Nat} {L : List (Int × Int)} (h : Mr base W (.slice (some ⟨g, 0, none⟩) L.length c) L) : HoldsK encMk 2 W g 0 L.toArray ∧ g < W.heap.size ∧ base ≤ g := by
  rcases h.2 with ⟨e, e0⟩ | ⟨g', cap, cur, e, hb', hg, h1, h2, h3, h4⟩
  · cases e
  · cases e
    refine ⟨fun j hj => ?_, (Array.getElem?_eq_some_iff.1 hg).1, hb'⟩
    have hj' : j < L.length * 2 := by simpa using hj
    refine ⟨?_, by simp [World.frozen?, hg]⟩
    have q4 := congrArg (fun l => l[j]?) h4
    rw [List.getElem?_take_of_lt hj', Array.getElem?_toList] at q4
    have hd : j / 2 < L.length := by omega
    obtain ⟨t0, t1⟩ := mkc_at L (j / 2) hd
    have e1 : L.toArray[j / 2]! = L.getD (j / 2) (0, 0) := by simp [hd, List.getD_eq_getElem?_getD]
    rw [get_flatK _ _ _ _ (by simpa using hj'), Nat.zero_add, e1]
    simp only [World.cell?, hg]
    have e2 : (mkc L)[j]? = some (id ((encMk (L.getD (j / 2) (0, 0)))[j % 2]!)) := by
      rcases Nat.mod_two_eq_zero_or_one j with e | e
      · rw [e, show j = j / 2 * 2 by omega, Nat.mul_div_cancel _ (by omega), t0]
        rfl
      · rw [e]
        have ej : j = j / 2 * 2 + 1 := by omega
        have ed : (mkc L)[j]? = (mkc L)[j / 2 * 2 + 1]? := by rw [← ej]
        rw [ed, t1]
        rfl
    simp [q4, e2]
/-- The sort of the marks. -/
def SortsMk : Prop := ∀ (blk cap : Nat) (d : Array (Int × Int)) (w : World), HoldsK encMk 2 w blk 0 d → blk < w.heap.size → d.size < 4611686018427387904 →
  Calls Try.prog 62 #[.slice (some ⟨blk, 0, none⟩) d.size cap, .func (.func 63) #[] #[]] w fun e w' => e = .returned (.tuple #[]) ∧ ∃ d' n os, PermIn 0 d.size d d' ∧ SortedIn (ltOf fun x y : Int × Int => Lib.compareInt x.1 y.1) 0 d.size d' ∧ w' = sortWorldK encMk 2 w blk 0 n d' os
theorem sort_below {W0 w : World} {blk n : Nat} {d' : Array (Int × Int)} {os : Array Obj} (h : Below W0.heap.size W0 w) (hb : W0.heap.size ≤ blk) : Below W0.heap.size W0 (sortWorldK encMk 2 w blk 0 n d' os) := by
  have e : ∀ k, k < W0.heap.size → (sortWorldK encMk 2 w blk 0 n d' os).heap[k]? = w.heap[k]? := fun k hk => by
    have hs := h.size
    show ((w.heap.modify blk _) ++ os)[k]? = w.heap[k]?
    rw [Array.getElem?_append_left (by simp; omega), Array.getElem?_modify]
    rw [if_neg (by omega)]
  exact ⟨h.os, h.tape, h.output, Nat.le_trans h.size (size_sortWorldK_c encMk 2 w blk 0 n d' os), fun k hk => (e k hk).trans (h.block k hk)⟩
theorem sort_block {w : World} {blk n : Nat} {d' : Array (Int × Int)} {os : Array Obj} {t : TypeId} (h : ∃ cs, w.heap[blk]? = some (.cells cs t)) : ∃ cs, (sortWorldK encMk 2 w blk 0 n d' os).heap[blk]? = some (.cells cs t) := by
  obtain ⟨cs, e⟩ := h
  have hlt := (Array.getElem?_eq_some_iff.1 e).1
  refine ⟨putCells id 0 (flatK encMk 2 d') cs, ?_⟩
  show ((w.heap.modify blk _) ++ os)[blk]? = _
  rw [Array.getElem?_append_left (by simpa using hlt), Array.getElem?_modify, if_pos rfl, e]
  rfl
set_option maxHeartbeats 2000000 in
theorem marks_any (SORT : SortsMk) {base hb ob : Nat} {a : Option Addr} {n cap mb nn : Nat} {pu : Int} {f : Nat → Nat} {it ke va : Nat → Int} (w : World) (h : HsI w base hb ob a n cap mb nn pu f it ke va) :
    Calls Try.prog 39 #[.pointer (some ⟨hb, 0, none⟩)] w fun e w' => ∃ g c d', e = .returned (.slice (some ⟨g, 0, none⟩) n c) ∧ w.heap.size ≤ g ∧ g < w'.heap.size ∧ HoldsK encMk 2 w' g 0 d' ∧ d'.size = n ∧ PermIn 0 n ((List.range n).map fun i => (it (f i), ke (f i))).toArray d' ∧ SortedIn (ltOf fun x y : Int × Int => Lib.compareInt x.1 y.1) 0 n d' ∧ Below w.heap.size w w' ∧ ∃ cs, w'.heap[g]? = some (.cells cs 79) := by
  obtain ⟨c1, _, _, _⟩ := h.cells
  have hlim := h.lim
  have hlt := (Array.getElem?_eq_some_iff.1 h.hd).1
  have mk := makeMk_at 0 (n : Int) 0 n rfl rfl (Nat.zero_le _) hlim w
  have HH : Hid (HsI w base hb ob a n cap mb nn pu f it ke va) := h
  obtain ⟨W1, hW1⟩ : ∃ W1, W1 = w.alloc (.cells (madeCells #[.int .i64 0, .int .i64 0] (n * 2)) 79) := ⟨_, rfl⟩
  rw [← hW1] at mk
  have B1 : Below w.heap.size w W1 := by rw [hW1]; exact (Below.refl _ _).alloc (Nat.le_refl _) _
  have R1 : Mr w.heap.size W1 (.slice (some ⟨w.heap.size, 0, none⟩) 0 n) [] := by rw [hW1]; exact Mr.start w n hlim
  have c1' := cell_later B1 c1
  obtain ⟨L, eL⟩ : ∃ L : Nat → List (Int × Int), L = fun j => (List.range j).map fun i => (it (f i), ke (f i)) := ⟨_, rfl⟩
  have HL : Hid (L = fun j => (List.range j).map fun i => (it (f i), ke (f i))) := eL
  have M0 : Hid (Mr w.heap.size W1 (.slice (some ⟨w.heap.size, 0, none⟩) 0 n) (L 0) ∧ Below w.heap.size w W1) := ⟨by rw [eL]; exact R1, B1⟩
  have Ll : ∀ j, (L j).length = j := fun j => by rw [eL]; simp
  clear h eL hW1 R1 B1
  go_enter Try.func39, Try.ntmps39
  go_wp2_with fail
  go_loopw [3, 17] (fun tl t wr => ∃ (j g c : Nat), j ≤ n ∧ t = .int .i64 (j : Int) ∧ tl = .slice (some ⟨g, 0, none⟩) j c ∧ Hid (Mr w.heap.size wr (.slice (some ⟨g, 0, none⟩) j c) (L j) ∧ Below w.heap.size w wr)) (fun _ t _ => n - (intOf t).toNat)
  case atStart => exact ⟨0, w.heap.size, n, by omega, rfl, rfl, M0⟩
  case round =>
    clear M0 mk c1 c1'
    obtain ⟨j, g, c, hj, rfl, rfl, hS⟩ := hrel
    by_cases hjn : j < n
    · obtain ⟨gp, ea, _, _, _, cs, e3, _, e4⟩ := HH.out.some' (by omega)
      subst ea
      have k0 : wr.cell? ⟨gp, j, none⟩ = some (.pointer (some ⟨f j, 0, none⟩)) := cell_later hS.out.2 (by simp [World.cell?, e3, e4 j hjn])
      have ep := HH.out.pl j hjn
      have k1 : wr.cell? ⟨f j, 0, none⟩ = some (.int .i64 (it (f j))) := cell_later hS.out.2 (by simp [World.cell?, ep])
      have k2 : wr.cell? ⟨f j, 1, none⟩ = some (.int .i64 (ke (f j))) := cell_later hS.out.2 (by simp [World.cell?, ep])
      have w5 : IntKind.i64.wrap ((j : Int) + 1) = (j : Int) + 1 := by rw [IntKind.wrap_i64]; omega
      have hj' : (j : Int) < (n : Int) := by omega
      obtain ⟨y, ey⟩ : ∃ y : Int × Int, y = (it (f j), ke (f j)) := ⟨_, rfl⟩
      have k1' : wr.cell? ⟨f j, 0, none⟩ = some (.int .i64 y.1) := by rw [ey]; exact k1
      have k2' : wr.cell? ⟨f j, 1, none⟩ = some (.int .i64 y.2) := by rw [ey]; exact k2
      have HN : Hid (L (j + 1) = L j ++ [y]) := by
        show L (j + 1) = L j ++ [y]
        rw [HL.out, ey]
        simp [List.range_succ]
      clear k1 k2 ey ep e3 e4
      generalize f j = x at *
      go_wp2_with (refine (id ?_ : wpList Try.prog _ _ (⟨some 27, _, _, _, _, _⟩ :: _) _ _); refine wp_appMk rfl (.tmp 21) (.tmp 26) rfl w.heap.size (.slice (some ⟨g, 0, none⟩) j c) (L j) rfl (own_kept hS.out.1 fun k hk => Below.heap_alloc _ _ _ (Array.getElem?_eq_some_iff.1 (hS.out.1.own hk).2.choose_spec).1) wr.heap.size y rfl (by simp [go_sem]) (by simp [go_sem]) (by rw [Ll]; omega) (by have := hS.out.2.size; simp; omega) ?_)
      intro v7 w7 H7
      obtain ⟨g7, c7, e7⟩ : ∃ g7 c7, v7 = .slice (some ⟨g7, 0, none⟩) (j + 1) c7 := by
        rcases H7.out.1.2 with ⟨e, _⟩ | ⟨g9, cap9, cur, e, _⟩
        · exact absurd e H7.out.2.2
        · rw [List.length_append, Ll, List.length_singleton] at e
          exact ⟨g9, cap9, e⟩
      subst e7
      have HM : Hid (Mr w.heap.size w7 (.slice (some ⟨g7, 0, none⟩) (j + 1) c7) (L (j + 1)) ∧ Below w.heap.size w w7) := by
        rw [HN.out]
        exact ⟨H7.out.1, (hS.out.2.alloc hS.out.2.size _).trans H7.out.2.1⟩
      clear hS H7 HN k0 k1' k2'
      go_wp2_with fail
      go_roundw
      case rel => exact ⟨j + 1, g7, c7, by omega, by go_num, rfl, HM⟩
      case measure => simp [intOf]; omega
    · obtain rfl : j = n := by omega
      have hr := hS.out.1
      have el := Ll j
      have hr' : Mr w.heap.size wr (.slice (some ⟨g, 0, none⟩) (L j).length c) (L j) := by rw [el]; exact hr
      obtain ⟨q1, q2, q3⟩ := hr'.holds
      have SO := SORT g c (L j).toArray wr q1 q2 (by simp [el]; omega)
      have hsz : (L j).toArray.size = j := by simp [el]
      rw [hsz] at SO
      have HS : Hid _ := SO
      have HB : Hid (Below w.heap.size w wr ∧ w.heap.size ≤ g ∧ g < wr.heap.size ∧ HoldsK encMk 2 wr g 0 (L j).toArray ∧ ∃ cs, wr.heap[g]? = some (.cells cs 79)) := ⟨hS.out.2, q3, q2, q1, (hr.own (k := g) rfl).2⟩
      clear hS hr hr' q1 q2 q3 SO
      go_wp2_with fail
      refine Calls.mono HS.out ?_
      rintro e w8 ⟨rfl, d', m, os, p1, p2, rfl⟩
      have ps : d'.size = j := p1.1.trans hsz
      have HF : Hid (w.heap.size ≤ g ∧ g < (sortWorldK encMk 2 wr g 0 m d' os).heap.size ∧ HoldsK encMk 2 (sortWorldK encMk 2 wr g 0 m d' os) g 0 d' ∧ d'.size = j ∧ PermIn 0 j ((List.range j).map fun i => (it (f i), ke (f i))).toArray d' ∧ SortedIn (ltOf fun x y : Int × Int => Lib.compareInt x.1 y.1) 0 j d' ∧ Below w.heap.size w (sortWorldK encMk 2 wr g 0 m d' os) ∧ ∃ cs, (sortWorldK encMk 2 wr g 0 m d' os).heap[g]? = some (.cells cs 79)) := by
        refine ⟨HB.out.2.1, Nat.lt_of_lt_of_le HB.out.2.2.1 (size_sortWorldK_c encMk 2 wr g 0 m d' os), holdsK_sortWorldK_c encMk 2 wr g 0 (L j).toArray d' m os HB.out.2.2.2.1 HB.out.2.2.1 (by rw [ps, hsz]), ps, ?_, p2, sort_below HB.out.1 HB.out.2.1, sort_block HB.out.2.2.2.2⟩
        have e5 : (L j).toArray = ((List.range j).map fun i => (it (f i), ke (f i))).toArray := by rw [HL.out]
        rw [← e5]
        exact p1
      clear p1 p2 ps HS HB
      go_wp2_with fail
      go_ret
      exact ⟨g, c, d', rfl, HF.out⟩
end Go.Proofs.Ytjnfcihichaonaa
