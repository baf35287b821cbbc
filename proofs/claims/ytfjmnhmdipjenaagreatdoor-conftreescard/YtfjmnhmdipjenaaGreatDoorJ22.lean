/- Contracts of the program's functions, part 22: own work, joined in build order. -/
import Derived.Test.YtfjmnhmdipjenaaGreatDoorJ21
import Derived.Deep.WholeRow
namespace Go.Proofs.YtfjmnhmdipjenaaGreatDoor
open Go.RowKit
set_option maxRecDepth 100000
set_option linter.unusedVariables false
theorem endC_some {s : ByteArray} {i f : Nat} {p r : PtS} (h : endC s i f p = some r) : r = p ∧ f < i ∧ i = s.size := by
  unfold endC at h
  split at h
  · rename_i hh
    exact ⟨(Option.some.inj h).symm, hh⟩
  · cases h
theorem em_dig : Digits em em.size := fun i hi => by
  have : em.size = 0 := rfl
  omega
/-- So far the parts are runs of digits within the first i bytes. -/
structure Sofar (s : ByteArray) (p : PtS) (i : Nat) : Prop where
  w0 : 0 < p.whole.size
  dw : Digits p.whole p.whole.size
  dp : Digits p.places p.places.size
  db : Digits p.below p.below.size
  dx : Digits p.power p.power.size
  sz : p.whole.size + p.places.size ≤ i
  sb : p.below.size ≤ s.size
  sx : p.power.size ≤ 3
theorem powC_good {s : ByteArray} {i : Nat} {p r : PtS} (hs : s.size ≤ 400) (hi : i ≤ s.size) (g : Sofar s p i) (h : powC s i i p = some r) : GoodP r := by
  unfold powC at h
  split at h
  · cases h
  · rename_i h3
    obtain ⟨rfl, h1, h2⟩ := endC_some h
    have hz := size_ext (s := s) (a := i) (b := runE s i) (runE_le hi)
    exact ⟨g.w0, g.dw, g.dp, g.db, dig_ext hi, by have := g.sz; simp only; omega, by have := g.sb; simp only; omega, by simp only; rw [hz]; omega⟩
theorem sgnC_good {s : ByteArray} {i : Nat} {p r : PtS} (hs : s.size ≤ 400) (hi : i ≤ s.size) (g : Sofar s p i) (h : sgnC s i p = some r) : GoodP r := by
  unfold sgnC at h
  split at h
  · rename_i hc
    have : i < s.size := by unfold isSgn at hc; simp at hc; exact hc.1
    exact powC_good (p := { p with minus := sb s i == 45 }) hs this ⟨g.w0, g.dw, g.dp, g.db, g.dx, Nat.le_succ_of_le g.sz, g.sb, g.sx⟩ h
  · exact powC_good hs hi g h
theorem em_le (n : Nat) : em.size ≤ n := by rw [show em.size = 0 from rfl]; omega
theorem sofar_mk {s A B : ByteArray} {i : Nat} (hA : 0 < A.size) (dA : Digits A A.size) (dB : Digits B B.size) (hz : A.size + B.size ≤ i) : Sofar s ⟨A, em, B, em, false⟩ i :=
  ⟨hA, dA, dB, em_dig, em_dig, hz, em_le _, em_le _⟩
theorem good_mk {A B C : ByteArray} (hA : 0 < A.size) (dA : Digits A A.size) (dB : Digits B B.size) (dC : Digits C C.size) (hz : A.size + B.size ≤ 400) (hc : C.size ≤ 400) : GoodP ⟨A, C, B, em, false⟩ :=
  ⟨hA, dA, dB, dC, em_dig, hz, hc, em_le _⟩
theorem cutP_good {s : ByteArray} {r : PtS} (hs : s.size ≤ 400) (h : cutP s = some r) : GoodP r := by
  unfold cutP whoC at h
  have l0 := runE_le (s := s) (i := 0) (Nat.zero_le _)
  have z0 := size_ext (s := s) (a := 0) (b := runE s 0) l0
  have d0 := dig_ext (s := s) (i := 0) (Nat.zero_le _)
  have E : em.size = 0 := rfl
  generalize runE s 0 = i0 at *
  generalize s.extract 0 i0 = A at *
  split at h
  · obtain ⟨rfl, h1, h2⟩ := endC_some h
    exact good_mk (A := A) (B := em) (C := em) (by omega) d0 em_dig em_dig (by omega) (em_le _)
  · rename_i hc
    have n0 : ¬ i0 = 0 := fun e => hc (.inl e)
    have n1 : ¬ i0 = s.size := fun e => hc (.inr e)
    have l1 : i0 + 1 ≤ s.size := by omega
    have l2 := runE_le l1
    have z1 := size_ext (s := s) (a := i0 + 1) (b := runE s (i0 + 1)) l2
    have d1 := dig_ext l1
    have ge1 := runE_ge s (i0 + 1)
    unfold belC plaC at h
    generalize runE s (i0 + 1) = i1 at *
    generalize s.extract (i0 + 1) i1 = B at *
    have W0 : 0 < A.size := by omega
    split at h
    · obtain ⟨rfl, h1, h2⟩ := endC_some h
      exact good_mk (A := A) (B := em) (C := B) W0 d0 em_dig d1 (by omega) (by omega)
    · split at h
      · split at h
        · obtain ⟨rfl, h1, h2⟩ := endC_some h
          exact good_mk (A := A) (B := B) (C := em) W0 d0 d1 em_dig (by omega) (em_le _)
        · rename_i hc2
          have n2 : ¬ i1 = s.size := fun e => hc2 (.inr (.inl e))
          exact sgnC_good hs (by omega) (sofar_mk (A := A) (B := B) W0 d0 d1 (by omega)) h
      · split at h
        · exact sgnC_good hs l1 (sofar_mk (A := A) (B := em) W0 d0 em_dig (by omega)) h
        · cases h
theorem value_all (p : PtS) (w : World) (hg : GoodP p) (hT : Tab w) : Calls Tryz.prog 71 #[PAgg p] w (MakesV w p) := by
  by_cases h : p.below.size = 0
  · exact value_pow p w hg h hT
  · exact value_below p w hg h hT
/-- What Parse tells of a text. -/
def npOk (s : ByteArray) : Bool := decide (s.size ≤ 400) && (match cutP s with | some p => !decide (vD p = 0) | none => false)
def npP (s : ByteArray) : Nat := if npOk s then (match cutP s with | some p => vN p / Nat.gcd (vN p) (vD p) | none => 0) else 0
def npQ (s : ByteArray) : Nat := if npOk s then (match cutP s with | some p => vD p / Nat.gcd (vN p) (vD p) | none => 1) else 1
def npE (s : ByteArray) : Int := if npOk s then 0 else 30
def MakesP (w : World) (s : ByteArray) (e : Ending) (w' : World) : Prop := ∃ v, e = .returned (.tuple #[v, .int .i64 (npE s)]) ∧ Rt w' v (npP s) (npQ s) ∧ Below w.heap.size w w'
theorem np_no {s : ByteArray} (h : npOk s = false) : npP s = 0 ∧ npQ s = 1 ∧ npE s = 30 := by
  unfold npP npQ npE
  rw [h]
  exact ⟨rfl, rfl, rfl⟩
theorem np_yes {s : ByteArray} {p : PtS} (h1 : s.size ≤ 400) (h2 : cutP s = some p) (h3 : ¬ vD p = 0) : npP s = vN p / Nat.gcd (vN p) (vD p) ∧ npQ s = vD p / Nat.gcd (vN p) (vD p) ∧ npE s = 0 := by
  have h : npOk s = true := by unfold npOk; rw [h2]; simp [h1, h3]
  unfold npP npQ npE
  rw [h, h2]
  exact ⟨rfl, rfl, rfl⟩
set_option maxHeartbeats 1000000 in
theorem nparse_any (s : ByteArray) (w : World) (hs : s.size ≤ 9223372036854775807) (hT : Tab w) : Calls Tryz.prog 51 #[.string s] w (MakesP w s) := by
  have HT : Hid (Tab w) := hT
  have S0 : Hid _ := (sy_start w).box (.slice none 0 0) (.slice none 0 0) 66 _ rfl
  obtain ⟨b, hb⟩ : ∃ b, b = w.heap.size := ⟨_, rfl⟩
  obtain ⟨w0, hw0⟩ : ∃ w0, w0 = w.alloc (.cells #[.slice none 0 0, .slice none 0 0] 66) := ⟨_, rfl⟩
  rw [← hw0, ← hb] at S0
  clear hT
  by_cases h4 : 400 < s.size
  · have HV : Hid (npP s = 0 ∧ npQ s = 1 ∧ npE s = 30) := np_no (by unfold npOk; simp; omega)
    have t1 : decide (400 < (s.size : Int)) = true := decide_eq_true (by omega)
    go_enter Tryz.func51, Tryz.ntmps51
    go_wp2_with fail
    refine bodyPost_ret (v := .tuple #[.agg #[.slice none 0 0, .slice none 0 0], .int .i64 30]) (by simp [results, Tryz.results51, go_sem]) rfl ?_
    unfold MakesP
    rw [HV.out.1, HV.out.2.1, HV.out.2.2]
    exact ⟨_, rfl, rt_zero _, bel_al (bel_refl w)⟩
  · have HS : Hid (s.size ≤ 400) := by show _ ≤ _; omega
    have t1 : decide (400 < (s.size : Int)) = false := decide_eq_false (by omega)
    have n1 : ¬ 400 < s.size := h4
    clear h4
    go_enter Tryz.func51, Tryz.ntmps51
    go_wp2_with fail
    rw [← hw0, ← hb]
    clear hw0 hb
    refine (ncut_any s _ HS.out).mono ?_
    rintro e w1 ⟨p, ok, rfl, hc, hb1⟩
    have S1 : Hid _ := S0.out.go hb1
    clear hb1 S0
    cases ok with
    | false =>
      have HV : Hid (npP s = 0 ∧ npQ s = 1 ∧ npE s = 30) := np_no (by unfold npOk; rw [hc]; simp)
      clear hc
      have S2 : Hid _ := S1.out.go (w' := w1.alloc (.cells #[.string p.whole, .string p.below, .string p.places, .string p.power, .bool p.minus] 125)) (bel_al (bel_refl _))
      clear S1
      have S9 := S2.out
      have x0 := S9.cel b 0 (.slice none 0 0)
      have x1 := S9.cel b 1 (.slice none 0 0)
      have f0 := S9.fz b 0
      have f1 := S9.fz b 1
      have Z : Hid _ := rat_put (w0 := w) (v := .slice none 0 0) (u := .slice none 0 0) x0 x1 (rt_zero _) S9.bel (S9.lo b)
      clear S9
      go_wp2_with fail
      refine bodyPost_ret (v := .tuple #[.agg #[.slice none 0 0, .slice none 0 0], .int .i64 30]) (by simp [results, Tryz.results51, go_sem, x0, x1]) rfl ?_
      unfold MakesP
      rw [HV.out.1, HV.out.2.1, HV.out.2.2]
      exact ⟨_, rfl, Z.out.1, Z.out.2⟩
    | true =>
      have HC : Hid (cutP s = some p) := hc
      have HG : Hid (GoodP p) := cutP_good HS.out HC.out
      clear hc
      have S2 : Hid _ := S1.out.go (w' := w1.alloc (.cells #[.string p.whole, .string p.below, .string p.places, .string p.power, .bool p.minus] 125)) (bel_al (bel_refl _))
      have k0 : (w1.alloc (.cells #[.string p.whole, .string p.below, .string p.places, .string p.power, .bool p.minus] 125)).cell? ⟨w1.heap.size, 0, none⟩ = some (.string p.whole) := by simp [go_sem]
      clear S1
      go_wp2_with fail
      refine (value_all p _ HG.out (HT.out.go S2.out.bel)).mono ?_
      intro e w3 hV
      unfold MakesV at hV
      by_cases hz : vD p = 0
      · rw [if_pos hz] at hV
        obtain ⟨v3, rfl, hv3, hb3⟩ := hV
        obtain ⟨a5, n5, c5, a6, n6, c6, ev, _, _⟩ := hv3.raw
        subst ev
        have HV : Hid (npP s = 0 ∧ npQ s = 1 ∧ npE s = 30) := np_no (by unfold npOk; rw [HC.out]; simp [hz])
        have S3 : Hid _ := (S2.out.go hb3).go (w' := w3.alloc (.cells #[.slice a5 n5 c5, .slice a6 n6 c6] 66)) (bel_al (bel_refl _))
        clear hv3 hb3 S2 k0 hz
        have S9 := S3.out
        have x0 := S9.cel b 0 (.slice none 0 0)
        have x1 := S9.cel b 1 (.slice none 0 0)
        have f0 := S9.fz b 0
        have f1 := S9.fz b 1
        have Z : Hid _ := rat_put (w0 := w) (v := .slice none 0 0) (u := .slice none 0 0) x0 x1 (rt_zero _) S9.bel (S9.lo b)
        clear S9
        go_wp2_with fail
        refine bodyPost_ret (v := .tuple #[.agg #[.slice none 0 0, .slice none 0 0], .int .i64 30]) (by simp [results, Tryz.results51, go_sem, x0, x1]) rfl ?_
        unfold MakesP
        rw [HV.out.1, HV.out.2.1, HV.out.2.2]
        exact ⟨_, rfl, Z.out.1, Z.out.2⟩
      · rw [if_neg hz] at hV
        obtain ⟨v3, rfl, hv3, hb3⟩ := hV
        obtain ⟨a5, n5, c5, a6, n6, c6, ev, _, _⟩ := hv3.raw
        subst ev
        have HV : Hid (npP s = vN p / Nat.gcd (vN p) (vD p) ∧ npQ s = vD p / Nat.gcd (vN p) (vD p) ∧ npE s = 0) := np_yes HS.out HC.out hz
        have S3 : Hid _ := ((S2.out.go hb3).addF hv3).go (w' := w3.alloc (.cells #[.slice a5 n5 c5, .slice a6 n6 c6] 66)) (bel_al (bel_refl _))
        have y0 : (w3.alloc (.cells #[.slice a5 n5 c5, .slice a6 n6 c6] 66)).cell? ⟨w3.heap.size, 0, none⟩ = some (.slice a5 n5 c5) := by simp [go_sem]
        have y1 : (w3.alloc (.cells #[.slice a5 n5 c5, .slice a6 n6 c6] 66)).cell? ⟨w3.heap.size, 1, none⟩ = some (.slice a6 n6 c6) := by simp [go_sem]
        clear hv3 hb3 S2 k0 hz
        have S9 := S3.out
        have x0 := S9.cel b 0 (.slice none 0 0)
        have x1 := S9.cel b 1 (.slice none 0 0)
        have f0 := S9.fz b 0
        have f1 := S9.fz b 1
        have Z : Hid _ := rat_put (w0 := w) (v := .slice a5 n5 c5) (u := .slice a6 n6 c6) x0 x1 (S9.fr (.agg #[.slice a5 n5 c5, .slice a6 n6 c6]) (vN p / Nat.gcd (vN p) (vD p)) (vD p / Nat.gcd (vN p) (vD p))) S9.bel (S9.lo b)
        clear S9
        go_wp2_with fail
        refine bodyPost_ret (v := .tuple #[.agg #[.slice a5 n5 c5, .slice a6 n6 c6], .int .i64 0]) (by simp [results, Tryz.results51, go_sem, x0, x1]) rfl ?_
        unfold MakesP
        rw [HV.out.1, HV.out.2.1, HV.out.2.2]
        exact ⟨_, rfl, Z.out.1, Z.out.2⟩
end Go.Proofs.YtfjmnhmdipjenaaGreatDoor

namespace Go.Proofs.YtfjmnhmdipjenaaGreatDoor
open Go.RowKit
set_option maxRecDepth 100000
set_option linter.unusedVariables false
set_option maxHeartbeats 1000000 in
theorem exactly_good (s : ByteArray) (p q u : Nat) (w : World) (hs : s.size ≤ 4096) (hT : Tab w) (h1 : npE s = 0) (h2 : npP s = p) (h3 : npQ s = q) (hp : RS p) (hq : RS q) (h4 : tfV p q = u) (h5 : tfOk p q = true) (hu : u < 18446744073709551616) (h6 : ffP u = p) (h7 : ffQ u = q) :
    Calls Tryz.prog 30 #[.string s] w fun e w' => e = .returned (.tuple #[.float .f64 u, .int .i64 0]) ∧ Below w.heap.size w w' := by
  have HT : Hid (Tab w) := hT
  have H1 : Hid (npE s = 0 ∧ npP s = p ∧ npQ s = q) := ⟨h1, h2, h3⟩
  have H2 : Hid (RS p ∧ RS q) := ⟨hp, hq⟩
  have H3 : Hid (tfV p q = u ∧ tfOk p q = true) := ⟨h4, h5⟩
  have H4 : Hid (u < 18446744073709551616 ∧ ffP u = p ∧ ffQ u = q) := ⟨hu, h6, h7⟩
  clear hT h1 h2 h3 hp hq h4 h5 hu h6 h7
  go_enter Tryz.func30, Tryz.ntmps30
  go_wp2_with fail
  refine (nparse_any s w (by omega) HT.out).mono ?_
  rintro e w1 ⟨v1, rfl, hr1, hb1⟩
  rw [H1.out.1]
  rw [H1.out.2.1, H1.out.2.2] at hr1
  obtain ⟨a, n, c, a', n', c', e0, _, _⟩ := hr1.raw
  subst e0
  have S1 : Hid _ := ((sy_start w1).addF hr1).box (.slice a n c) (.slice a' n' c') 66 _ rfl
  have B1 : Hid _ := hb1
  have hq0 := hr1.pos
  clear hr1 hb1
  go_wp2_with fail
  refine (toFloat_any (.agg #[.slice a n c, .slice a' n' c']) p q _ (S1.out.fr _ p q) H2.out.1 H2.out.2 hq0).mono ?_
  rintro e w2 ⟨rfl, hb2⟩
  rw [H3.out.1, H3.out.2]
  have S2 : Hid _ := S1.out.go hb2
  clear hb2 S1
  obtain ⟨g1, eg1⟩ : ∃ g, g = w1.heap.size := ⟨_, rfl⟩
  rw [← eg1] at S2
  rw [← eg1]
  clear eg1
  go_wp2_with fail
  refine (fromFloat_all u _ H4.out.1 (Tab.go HT.out (bc_go B1.out S2.out.bel))).mono ?_
  rintro e w3 ⟨v3, rfl, hr3, hb3⟩
  rw [H4.out.2.1, H4.out.2.2] at hr3
  obtain ⟨b, m, d, b', m', d', e0, _, _⟩ := hr3.raw
  subst e0
  have S3 : Hid _ := ((S2.out.go hb3).addF hr3).box (.slice b m d) (.slice b' m' d') 66 _ rfl
  clear hr3 hb3 S2
  have x0 := S3.out.cel g1 0 (.slice a n c)
  have x1 := S3.out.cel g1 1 (.slice a' n' c')
  go_wp2_with fail
  refine (ratCmp_any (.agg #[.slice b m d, .slice b' m' d']) (.agg #[.slice a n c, .slice a' n' c']) p q p q _ (S3.out.fr _ p q) (S3.out.fr _ p q) H2.out.1 H2.out.2 H2.out.1 H2.out.2).mono ?_
  rintro e w4 ⟨rfl, hb4⟩
  have W4 : Hid (Below w.heap.size w w4) := bc_go B1.out (bc_go S3.out.bel hb4)
  rw [show cmpI (p * q) (p * q) = 0 by simp [cmpI]]
  clear hb4 x0 x1 S3
  go_wp2_with fail
  exact bodyPost_ret (v := .tuple #[.float .f64 u, .int .i64 0]) (by simp [results, Tryz.results30, go_sem]) rfl ⟨rfl, W4.out⟩
end Go.Proofs.YtfjmnhmdipjenaaGreatDoor

namespace Go.Proofs.YtfjmnhmdipjenaaGreatDoor
open Go.RowKit
set_option maxRecDepth 100000
set_option linter.unusedVariables false
def pair2 (x y : Int) (i : Nat) : Int := [x, y].getD i 0
theorem two_at (w : World) (x y : Int) (t : TypeId) (i : Nat) (hi : i < 2) : (w.alloc (.cells #[.int .i64 x, .int .i64 y] t)).cell? ⟨w.heap.size, 0 + i, none⟩ = some (.int .i64 (pair2 x y i)) := by
  match i, hi with
  | 0, _ => simp [pair2]
  | 1, _ => simp [pair2]
/-- The words of a flow. -/
def flowT (pw pq pc ps pb pp pn : Int) (T : ByteArray) : List ByteArray := zipT (wordsL flowN) ([itT pw, itT pq, itT pc, itT ps, itT pb] ++ [T] ++ [itT pp, itT pn]) 8
theorem or_five {w : World} {base : Nat} {v : Value} {pw pq pc ps pb : Int} (h : OR w 9 base v 5 (fun i => .string (itT (setI pw pq pc ps pb i)))) : OR w 9 base v ([itT pw, itT pq, itT pc, itT ps, itT pb] : List ByteArray).length (tx [itT pw, itT pq, itT pc, itT ps, itT pb]) := by
  rcases h with ⟨_, q⟩ | ⟨g, cap, f, e, h1, h2, h3, h4, h5⟩
  · cases q
  · refine .inr ⟨g, cap, f, e, h1, h2, h3, h4, fun i hi => (h5 i hi).trans ?_⟩
    match i, hi with
    | 0, _ => rfl
    | 1, _ => rfl
    | 2, _ => rfl
    | 3, _ => rfl
    | 4, _ => rfl
theorem one_new (w : World) (x : ByteArray) (t : TypeId) (j : Nat) (hj : j < [x].length) : (w.alloc (.cells #[.string x] t)).cell? ((⟨w.heap.size, 0, none⟩ : Addr).add j) = some (tx [x] j) := by
  match j, hj with
  | 0, _ => simp [Addr.add, tx]
theorem zip_le (A Bs : List ByteArray) (hA : ∀ x ∈ A, x.size ≤ 4000) (hB : ∀ x ∈ Bs, x.size ≤ 4000) (k : Nat) : ∀ x ∈ zipT A Bs k, x.size ≤ 4000 := by
  induction k with
  | zero => intro x hx; cases hx
  | succ k ih =>
    intro x hx
    rw [zipT] at hx
    rcases List.mem_append.1 hx with q | q
    · exact ih x q
    · have g : ∀ (l : List ByteArray), (∀ x ∈ l, x.size ≤ 4000) → (l.getD k ⟨#[]⟩).size ≤ 4000 := fun l hl => by
        rw [List.getD]
        cases e : l[k]? with
        | none => show (⟨#[]⟩ : ByteArray).size ≤ 4000; decide
        | some y => exact hl y (List.mem_of_getElem? e)
      simp only [List.mem_cons, List.not_mem_nil, or_false] at q
      rcases q with rfl | rfl
      · exact g _ hA
      · exact g _ hB
theorem lens_le2 (L : List ByteArray) (h : ∀ x ∈ L, x.size ≤ 4000) : Lib.lens (L.map (·.data.toList)) ≤ 4000 * L.length := by
  induction L with
  | nil => simp [Lib.lens]
  | cons x l ih =>
    have h1 := ih fun y hy => h y (List.mem_cons_of_mem _ hy)
    have h2 := h x List.mem_cons_self
    have h3 : x.data.toList.length = x.size := by rw [Array.length_toList]; rfl
    simp only [Lib.lens, List.map_cons, List.sum_cons, List.length_cons] at h1 ⊢
    omega
theorem join_small2 (L : List ByteArray) (hl : L.length ≤ 1000) (h : ∀ x ∈ L, x.size ≤ 4000) : (Lib.join (L.map (·.data.toList)) [32]).length ≤ 140737488355328 := by
  cases L with
  | nil => simp [Lib.join]
  | cons x l =>
    have h1 := lens_le2 (x :: l) h
    rw [List.map_cons] at h1 ⊢
    rw [Lib.join_length]
    simp only [List.length_map, List.length_cons] at *
    simp
    omega
set_option maxHeartbeats 1000000 in
theorem printFlow_good (K R M C Fl A : Int) (a : Option Addr) (n cap : Nat) (G : Nat → Nat → Int) (pw pq pc ps pb : Int) (pr : Nat) (pp pn : Int) (p q k l : Nat) (w : World) (h : NSl w a n cap G) (hz : flowE K R M C Fl A G n pw pq pc ps pb pr pp pn = 0) (hT : Tab w) (ht : Lib.TabIs Tryz.prog w "internal/strconv.uint64pow10" .u64 Lib.pow10Tab) (hu : pr < 18446744073709551616) (h6 : ffP pr = p) (h7 : ffQ pr = q) (hp : RS p) (hq : RS q) (hk : DecLen p k) (hl : DecLen q l) (hsz : (fmtT p q k l).size ≤ 4000)
    (hi5 : ∀ i, i < 5 → -9223372036854775808 ≤ setI pw pq pc ps pb i ∧ setI pw pq pc ps pb i ≤ 9223372036854775807) (hi2 : ∀ i, i < 2 → -9223372036854775808 ≤ pair2 pp pn i ∧ pair2 pp pn i ≤ 9223372036854775807) :
    Calls Tryz.prog 11 #[.agg #[.int .i64 K, .int .i64 R, .int .i64 M, .int .i64 C, .int .i64 Fl, .int .i64 A, .slice a n cap], .agg #[.int .i64 pw, .int .i64 pq, .int .i64 pc, .int .i64 ps, .int .i64 pb, .float .f64 pr, .int .i64 pp, .int .i64 pn]] w fun e w' => e = .returned (.tuple #[.string ⟨(Lib.join ((flowT pw pq pc ps pb pp pn (fmtT p q k l)).map (·.data.toList)) [32]).toArray⟩, .int .i64 0]) ∧ Below w.heap.size w w' := by
  have HN : Hid _ := h
  have HZ : Hid _ := hz
  have HTab : Hid (Tab w) := hT
  have HT : Hid _ := Lib.tabBelow_of_tabIs ht
  have H4 : Hid (pr < 18446744073709551616 ∧ ffP pr = p ∧ ffQ pr = q) := ⟨hu, h6, h7⟩
  have H2 : Hid (RS p ∧ RS q ∧ DecLen p k ∧ DecLen q l) := ⟨hp, hq, hk, hl⟩
  have HI5 : Hid _ := hi5
  have HI2 : Hid _ := hi2
  obtain ⟨T, hTx⟩ : ∃ T, fmtT p q k l = T := ⟨_, rfl⟩
  rw [hTx] at hsz
  rw [hTx]
  have HTX : Hid _ := hTx
  have HSZ : Hid _ := hsz
  have hl0 : n ≤ 9223372036854775807 := Nat.le_trans h.le h.lim
  clear h hz hT ht hu h6 h7 hp hq hk hl hi5 hi2 hTx hsz
  go_enter Tryz.func11, Tryz.ntmps11
  go_wp2_with fail
  have S0 : Hid _ := ((ce_start w).box7 (.int .i64 K) (.int .i64 R) (.int .i64 M) (.int .i64 C) (.int .i64 Fl) (.int .i64 A) (.slice a n cap) 24 _ rfl).box8 (.int .i64 pw) (.int .i64 pq) (.int .i64 pc) (.int .i64 ps) (.int .i64 pb) (.float .f64 pr) (.int .i64 pp) (.int .i64 pn) 27 (w.heap.size + 1) (by rw [World.size_alloc])
  refine (checkFlow_any K R M C Fl A a n cap G pw pq pc ps pb pr pp pn _ (HN.out.go S0.out.bel)).mono ?_
  rintro e w1 ⟨rfl, hb⟩
  rw [HZ.out]
  obtain ⟨g, eg⟩ : ∃ g, g = w.heap.size + 1 := ⟨_, rfl⟩
  rw [← eg] at S0
  rw [← eg]
  clear eg
  have S1 : Hid _ := S0.out.go hb
  clear hb S0
  have x0 := S1.out.cel g 0 (.int .i64 pw)
  have x1 := S1.out.cel g 1 (.int .i64 pq)
  have x2 := S1.out.cel g 2 (.int .i64 pc)
  have x3 := S1.out.cel g 3 (.int .i64 ps)
  have x4 := S1.out.cel g 4 (.int .i64 pb)
  have x5 := S1.out.cel g 5 (.float .f64 pr)
  have x6 := S1.out.cel g 6 (.int .i64 pp)
  have x7 := S1.out.cel g 7 (.int .i64 pn)
  go_wp2_with fail
  refine (fromFloat_all pr _ H4.out.1 (Tab.go HTab.out S1.out.bel)).mono ?_
  rintro e w2 ⟨v2, rfl, hr2, hb2⟩
  rw [H4.out.2.1, H4.out.2.2] at hr2
  obtain ⟨b, m, d, b', m', d', e0, _, _⟩ := hr2.raw
  subst e0
  have HR2 : Hid _ := hr2
  have S2 : Hid _ := (S1.out.go hb2).box2 (.slice b m d) (.slice b' m' d') 66 _ rfl
  obtain ⟨gq, egq⟩ : ∃ g, g = w2.heap.size := ⟨_, rfl⟩
  rw [← egq] at S2
  have HR2' : Hid (Rt (w2.alloc (.cells #[.slice b m d, .slice b' m' d'] 66)) (.agg #[.slice b m d, .slice b' m' d']) p q) := hr2.mono (bc_al (bel_refl _))
  obtain ⟨w3, hw3⟩ : ∃ w3, w3 = w2.alloc (.cells #[.slice b m d, .slice b' m' d'] 66) := ⟨_, rfl⟩
  rw [← hw3] at S2 HR2'
  clear x0
  clear x1
  clear x2
  clear x3
  clear x4
  clear x5
  clear x6
  clear x7
  have S1b : Hid _ := S1.out.go hb2
  clear hr2 hb2 S1
  clear HR2
  have x0 := S1b.out.cel g 0 (.int .i64 pw)
  have x1 := S1b.out.cel g 1 (.int .i64 pq)
  have x2 := S1b.out.cel g 2 (.int .i64 pc)
  have x3 := S1b.out.cel g 3 (.int .i64 ps)
  have x4 := S1b.out.cel g 4 (.int .i64 pb)
  have x5 := S1b.out.cel g 5 (.float .f64 pr)
  have x6 := S1b.out.cel g 6 (.int .i64 pp)
  have x7 := S1b.out.cel g 7 (.int .i64 pn)
  have lg := S1b.out.lt g 0 (.int .i64 pw)
  go_wp2_with fail
  rw [← hw3, ← egq]
  have e3 : w3.heap.size = gq + 1 := by rw [hw3, World.size_alloc, egq]
  clear S1b
  have B3 : Hid (Below w3.heap.size w3 (w3.alloc (.cells #[.int .i64 pw, .int .i64 pq, .int .i64 pc, .int .i64 ps, .int .i64 pb] 3))) := bc_al (bel_refl w3)
  refine (digits_any (gq + 1) 0 5 5 (setI pw pq pc ps pb) _ (by omega) (Nat.le_refl _) (fun i hi => by have := five_new w3 pw pq pc ps pb 3 i hi; rw [e3] at this; exact this) HI5.out (HT.out _ (bc_go S2.out.bel B3.out))).mono ?_
  rintro e w4 ⟨v4, rfl, hO4, hb4⟩
  have S4 : Hid _ := (S2.out.go B3.out).go hb4
  have R4 : Hid _ := HR2'.out.mono (bc_go B3.out hb4)
  obtain ⟨bs, ebs⟩ : ∃ bs, bs = (w3.alloc (.cells #[.int .i64 pw, .int .i64 pq, .int .i64 pc, .int .i64 ps, .int .i64 pb] 3)).heap.size := ⟨_, rfl⟩
  rw [← ebs] at hO4
  have lbs : bs ≤ w4.heap.size := by rw [ebs]; exact hb4.size
  have HBS : Hid (w.heap.size ≤ bs) := by
    show w.heap.size ≤ bs
    have q := S2.out.bel.size
    rw [ebs, World.size_alloc]
    omega
  have lgb : g < bs := by have q := S2.out.lt g 0 (.int .i64 pw); rw [ebs, World.size_alloc]; omega
  have hO4' := or_five hO4
  obtain ⟨LV, hLV⟩ : ∃ LV : List ByteArray, [itT pw, itT pq, itT pc, itT ps, itT pb] = LV := ⟨_, rfl⟩
  rw [hLV] at hO4'
  have HLV : Hid _ := hLV
  have nLV : LV.length = 5 := by rw [← hLV]; rfl
  have O4 : Hid (OR w4 9 bs v4 LV.length (tx LV)) := hO4'
  obtain ⟨g4, c4, e4, _, _⟩ := OR.row hO4' (by omega)
  rw [nLV] at e4
  subst e4
  have O4 : Hid (OR w4 9 bs (.slice (some ⟨g4, 0, none⟩) 5 c4) LV.length (tx LV)) := O4
  clear x0
  clear x1
  clear x2
  clear x3
  clear x4
  clear x5
  clear x6
  clear x7
  clear hO4 hO4' hb4 hLV lg ebs hw3 egq e3
  have x6 := S4.out.cel g 6 (.int .i64 pp)
  have x7 := S4.out.cel g 7 (.int .i64 pn)
  have z0 := S4.out.cel gq 0 (.slice b m d)
  have z1 := S4.out.cel gq 1 (.slice b' m' d')
  have lg := S4.out.lt g 6 (.int .i64 pp)
  go_wp2_with fail
  refine (format_any (.agg #[.slice b m d, .slice b' m' d']) p q k l _ R4.out H2.out.1 H2.out.2.1 H2.out.2.2.1 H2.out.2.2.2).mono ?_
  rintro e w5 ⟨rfl, hb5⟩
  rw [HTX.out]
  have S5 : Hid _ := S4.out.go hb5
  have lbs5 : bs ≤ w5.heap.size := Nat.le_trans lbs hb5.size
  have B5 : Hid (Below w5.heap.size w5 (w5.alloc (.cells #[.string T] 9))) := bc_al (bel_refl w5)
  have O5 : Hid (OR (w5.alloc (.cells #[.string T] 9)) 9 bs (.slice (some ⟨g4, 0, none⟩) 5 c4) LV.length (tx LV)) := OR.below (OR.below O4.out hb5) B5.out
  have l4 : bs ≤ g4 := OR.blk O4.out g4 rfl
  have A1 : Hid (∀ j, j < [T].length → (w5.alloc (.cells #[.string T] 9)).cell? ((⟨w5.heap.size, 0, none⟩ : Addr).add j) = some (tx [T] j)) := one_new w5 T 9
  clear hb5 x6 x7 z0 z1 lg R4 S4 O4
  go_wp2_with (refine (id ?_ : wpList Tryz.prog _ _ (⟨some 38, _, _, _, _, _⟩ :: _) _ _); refine wpList_append_tx rfl (.tmp 34) (.tmp 37) rfl bs _ LV [T] rfl O5.out ⟨w5.heap.size, 0, none⟩ 1 rfl A1.out (by simp) (by rw [nLV]; simp) (by rw [World.size_alloc]; omega) ?_)
  intro g6 cap6 w6 ho hg hor hlt6
  have n6 : (LV ++ [T]).length = 6 := by rw [List.length_append, nLV]; rfl
  obtain ⟨L6, hL6⟩ : ∃ L6, LV ++ [T] = L6 := ⟨_, rfl⟩
  have O6 : Hid (OR w6 9 bs (.slice (some ⟨g6, 0, none⟩) 6 cap6) L6.length (tx L6)) := by
    show OR _ _ _ _ _ _
    rw [← hL6, n6]
    simpa [nLV] using ho
  rw [hL6] at n6
  have HL6 : Hid _ := hL6
  have W6 : Hid (Below w.heap.size w w6) := Below.grown (bc_al S5.out.bel) hg (by rw [World.size_alloc]; have := S5.out.bel.size; omega) (fun j hj => Nat.le_trans HBS.out (OR.blk O5.out j hj))
  have x6 := hg.cell (bc_cell B5.out (S5.out.cel g 6 (.int .i64 pp))) (by simp [Value.ownBlock]; omega)
  have x7 := hg.cell (bc_cell B5.out (S5.out.cel g 7 (.int .i64 pn))) (by simp [Value.ownBlock]; omega)
  have lg : g < w6.heap.size := World.block_lt_of_cell? _ _ x6
  have lbs6 : bs ≤ w6.heap.size := by have := hg.size; rw [World.size_alloc] at this; omega
  clear ho hg hor S5 O5 A1 B5 hL6
  go_wp2_with fail
  have B6 : Hid (Below w6.heap.size w6 (w6.alloc (.cells #[.int .i64 pp, .int .i64 pn] 3))) := bc_al (bel_refl w6)
  refine (digits_any w6.heap.size 0 2 2 (pair2 pp pn) _ (by omega) (Nat.le_refl _) (fun i hi => two_at w6 pp pn 3 i hi) HI2.out (HT.out _ (bc_go W6.out B6.out))).mono ?_
  rintro e w7 ⟨v7, rfl, hO7, hb7⟩
  have W7 : Hid (Below w.heap.size w w7) := bc_go (bc_go W6.out B6.out) hb7
  have O7 : Hid (OR w7 9 bs (.slice (some ⟨g6, 0, none⟩) 6 cap6) L6.length (tx L6)) := OR.below (OR.below O6.out B6.out) hb7
  obtain ⟨g7, c7, rfl, _, h7⟩ := OR.row hO7 (by omega)
  obtain ⟨LW, hLW⟩ : ∃ LW : List ByteArray, [itT pp, itT pn] = LW := ⟨_, rfl⟩
  have nLW : LW.length = 2 := by rw [← hLW]; rfl
  have A7 : Hid (∀ j, j < LW.length → w7.cell? ((⟨g7, 0, none⟩ : Addr).add j) = some (tx LW j)) := fun j hj => by
    rw [nLW] at hj
    rw [show (⟨g7, 0, none⟩ : Addr).add j = ⟨g7, j, none⟩ by simp [Addr.add]; omega, h7 j hj, ← hLW]
    match j, hj with
    | 0, _ => rfl
    | 1, _ => rfl
  have HLW : Hid _ := hLW
  have lbs7 : bs ≤ w7.heap.size := by have := hb7.size; rw [World.size_alloc] at this; omega
  clear hO7 hb7 h7 hLW x6 x7 lg O6 B6
  go_wp2_with (refine (id ?_ : wpList Tryz.prog _ _ (⟨some 46, _, _, _, _, _⟩ :: _) _ _); refine wpList_append_tx rfl (.tmp 39) (.tmp 45) rfl bs _ L6 LW rfl O7.out ⟨g7, 0, none⟩ c7 (by rw [nLW]; rfl) A7.out (by omega) (by omega) lbs7 ?_)
  intro g8 cap8 w8 ho hg hor hlt8
  have n8 : (L6 ++ LW).length = 8 := by rw [List.length_append, n6, nLW]
  obtain ⟨L8, hL8⟩ : ∃ L8, L6 ++ LW = L8 := ⟨_, rfl⟩
  have O8 : OR w8 9 bs (.slice (some ⟨g8, 0, none⟩) 8 cap8) 8 (tx L8) := by
    rw [← hL8]
    simpa [n6, nLW] using ho
  have HL8 : Hid (L8 = [itT pw, itT pq, itT pc, itT ps, itT pb] ++ [T] ++ [itT pp, itT pn]) := by show _ = _; rw [← hL8, ← HL6.out, ← HLV.out, ← HLW.out]
  have HL8b : Hid (L8.length = 8) := by show _ = _; rw [← hL8, n8]
  have W8 : Hid (Below w.heap.size w w8) := Below.grown W7.out hg (by have := W7.out.size; omega) (fun j hj => Nat.le_trans HBS.out (OR.blk O7.out j hj))
  obtain ⟨hc8, hv8⟩ := OR.sliced O8 (by omega)
  have V8 : Hid _ := hv8
  clear ho hg hor O7 A7 hL8 hv8 O8
  go_wp2_with fail
  refine (named_any flowN g8 0 8 cap8 L8 w8 (by decide) hc8 (by rw [flowN_words]; decide) (by rw [flowN_words]; decide) (by omega) (fun i hi => by rw [Nat.zero_add, V8.out i hi]) trivial).mono ?_
  rintro e w9 ⟨v9, rfl, hO9, hb9⟩
  rw [show (wordsL flowN).length = 8 by rw [flowN_words]; rfl] at hO9
  obtain ⟨LZ, hLZ⟩ : ∃ LZ, zipT (wordsL flowN) L8 8 = LZ := ⟨_, rfl⟩
  rw [hLZ] at hO9
  have HLZ : Hid (flowT pw pq pc ps pb pp pn T = LZ) := by
    show _ = _
    rw [flowT, ← HL8.out, hLZ]
  have nLZ : LZ.length = 16 := by rw [← hLZ, zipT_len]
  have ZS : Hid (∀ x ∈ LZ, x.size ≤ 4000) := by
    show ∀ x ∈ LZ, x.size ≤ 4000
    rw [← hLZ]
    refine zip_le _ _ (by rw [flowN_words]; decide) ?_ 8
    intro x hx
    rw [HL8.out] at hx
    have i5 := HI5.out
    have i2 := HI2.out
    simp only [List.mem_append, List.mem_cons, List.not_mem_nil, or_false] at hx
    rcases hx with ((rfl | rfl | rfl | rfl | rfl) | rfl) | (rfl | rfl)
    · exact Nat.le_trans (itT_le _ (i5 0 (by omega)).1 (i5 0 (by omega)).2) (by omega)
    · exact Nat.le_trans (itT_le _ (i5 1 (by omega)).1 (i5 1 (by omega)).2) (by omega)
    · exact Nat.le_trans (itT_le _ (i5 2 (by omega)).1 (i5 2 (by omega)).2) (by omega)
    · exact Nat.le_trans (itT_le _ (i5 3 (by omega)).1 (i5 3 (by omega)).2) (by omega)
    · exact Nat.le_trans (itT_le _ (i5 4 (by omega)).1 (i5 4 (by omega)).2) (by omega)
    · exact HSZ.out
    · exact Nat.le_trans (itT_le _ (i2 0 (by omega)).1 (i2 0 (by omega)).2) (by omega)
    · exact Nat.le_trans (itT_le _ (i2 1 (by omega)).1 (i2 1 (by omega)).2) (by omega)
  obtain ⟨g9, c9, rfl, hc9, hv9⟩ := OR.row hO9 (by omega)
  have V9 : Hid _ := hv9
  have W9 : Hid (Below w.heap.size w w9) := bc_go W8.out hb9
  have lt9 : g9 < w9.heap.size := World.block_lt_of_cell? _ _ (hv9 0 (by omega))
  have NZ : Hid _ := nLZ
  clear hO9 hb9 hv9 hLZ nLZ
  go_wp2_with fail
  refine (Tryz.strings_Join g9 0 c9 LZ ⟨#[32]⟩ w9 (fun j x hj => ?_) lt9 (by have := NZ.out; omega) hc9 (join_small2 _ (by have := NZ.out; omega) ZS.out)).mono ?_
  · have lj : j < LZ.length := by
      rcases Nat.lt_or_ge j LZ.length with q | q
      · exact q
      · rw [List.getElem?_eq_none q] at hj; cases hj
    rw [Nat.zero_add, V9.out j lj]
    show some (Value.string (LZ.getD j ⟨#[]⟩)) = _
    rw [List.getD, hj]
    rfl
  rintro e w10 ⟨rfl, hb10⟩
  have W10 : Hid (Below w.heap.size w w10) := bc_go W9.out hb10
  clear hb10
  go_wp2_with fail
  exact bodyPost_ret (v := .tuple #[.string ⟨(Lib.join (List.map (fun x => x.data.toList) LZ) [32]).toArray⟩, .int .i64 0]) (by simp [results, Tryz.results11, go_sem]) rfl ⟨by rw [HLZ.out], W10.out⟩
end Go.Proofs.YtfjmnhmdipjenaaGreatDoor

namespace Go.Proofs.YtfjmnhmdipjenaaGreatDoor
open Go.RowKit
set_option maxRecDepth 100000
set_option linter.unusedVariables false
theorem ws_sm (s : ByteArray) (i : Nat) (hi : i ≤ s.size) : ∀ x ∈ (ws s i).2, x.size ≤ s.size := by
  induction i with
  | zero => intro x hx; simp [ws] at hx
  | succ i ih =>
    intro x hx
    rw [ws] at hx
    split at hx
    · split at hx
      · rcases List.mem_append.1 hx with q | q
        · exact ih (by omega) x q
        · simp only [List.mem_singleton] at q
          rw [q, ByteArray.size_extract]
          omega
      · exact ih (by omega) x hx
    · exact ih (by omega) x hx
theorem words_sm (s : ByteArray) (x : ByteArray) (hx : x ∈ wordsL s) : x.size ≤ s.size := by
  unfold wordsL at hx
  split at hx
  · rcases List.mem_append.1 hx with q | q
    · exact ws_sm s _ (Nat.le_refl _) x q
    · simp only [List.mem_singleton] at q
      rw [q, ByteArray.size_extract]
      omega
  · exact ws_sm s _ (Nat.le_refl _) x hx
theorem words_len (s : ByteArray) : (wordsL s).length ≤ s.size + 1 := by
  have h := (ws_le s s.size).2
  unfold wordsL
  split
  · rw [List.length_append]; simp; omega
  · omega
theorem rst_or {W : World} {base : Nat} {v : Value} {L : List ByteArray} (h : OR W 9 base v L.length (tx L)) : Rst W.heap.size W v L := by
  rcases h with ⟨rfl, q⟩ | ⟨g, cap, f, rfl, h1, h2, h3, h4, h5⟩
  · have e : L = [] := List.length_eq_zero_iff.1 q
    subst e
    exact ⟨none, 0, rfl, Nat.le_refl _, .inl ⟨rfl, rfl, rfl⟩⟩
  · refine ⟨_, cap, rfl, h2, .inr ⟨g, 0, rfl, fun i hi => ?_⟩⟩
    have c := h4.cell (show i < cap by omega)
    rw [h5 i hi] at c
    rw [Nat.zero_add]
    exact ⟨World.block_lt_of_cell? _ _ c, c⟩
/-- The reader at a line's start. -/
theorem rp_start {W W0 : World} {v : Value} {s : ByteArray} {base : Nat} (hs : s.size ≤ 4096) (h : OR W 9 base v (wordsL s).length (tx (wordsL s))) (he : EV W) (hk : KN W) : Rp (W.heap.size + 1) (W.alloc (.cells #[v, .bool false] 72)) W.heap.size (wordsL s, false) := by
  have B := bc_al (o := .cells #[v, .bool false] 72) (bel_refl W)
  refine ⟨⟨⟨v, al_at _ _, ?_⟩⟩, by rw [World.size_alloc]; omega, fun x hx => Nat.le_trans (words_sm s x hx) hs, he.go B, hk.go B, ?_⟩
  · obtain ⟨a, cap, e, h1, h2⟩ := rst_or h
    refine ⟨a, cap, e, h1, h2.imp id ?_⟩
    rintro ⟨g, o, ha, hc⟩
    exact ⟨g, o, ha, fun i hi => ⟨Nat.lt_succ_of_lt (hc i hi).1, bc_cell B (hc i hi).2⟩⟩
  · have := words_len s
    show (wordsL s).length ≤ _
    omega
theorem nsl_nil (w : World) : NSl w none 0 0 (fun _ _ => 0) := ⟨Nat.le_refl _, by omega, fun i j hi => by omega, .inl rfl⟩
set_option maxHeartbeats 1000000 in
theorem parse_good (s : ByteArray) (KD n0 n1 n2 n3 n4 : Int) (w : World) (hs : s.size ≤ 4096) (he : EV w) (hk : KN w) (h6 : KD ≠ 6) (k0 : setV (wordsL s, false) 0 = KD) (k1 : setV (wordsL s, false) 1 = n0) (k2 : setV (wordsL s, false) 2 = n1) (k3 : setV (wordsL s, false) 3 = n2) (k4 : setV (wordsL s, false) 4 = n3) (k5 : setV (wordsL s, false) 5 = n4) (hd : setS (wordsL s, false) = ([], false)) (hc : checkE KD n0 n1 n2 n3 n4 (fun _ _ => 0) 0 = 0) :
    Calls Tryz.prog 12 #[.string s] w fun e w' => e = .returned (.tuple #[.agg #[.int .i64 KD, .int .i64 n0, .int .i64 n1, .int .i64 n2, .int .i64 n3, .int .i64 n4, .slice none 0 0], .int .i64 0]) ∧ Below w.heap.size w w' := by
  have HS : Hid _ := hs
  have HE : Hid _ := he
  have HK : Hid (KN w) := hk
  have HD : Hid _ := hd
  have HC : Hid _ := hc
  have HV : Hid (∀ e : Ending, e = Ending.returned (.agg #[.int .i64 (setV (wordsL s, false) 0), .int .i64 (setV (wordsL s, false) 1), .int .i64 (setV (wordsL s, false) 2), .int .i64 (setV (wordsL s, false) 3), .int .i64 (setV (wordsL s, false) 4), .int .i64 (setV (wordsL s, false) 5), .slice none 0 0]) → e = .returned (.agg #[.int .i64 KD, .int .i64 n0, .int .i64 n1, .int .i64 n2, .int .i64 n3, .int .i64 n4, .slice none 0 0])) := by
    intro e q
    rw [q, k0, k1, k2, k3, k4, k5]
  have H6 : Hid (setV (wordsL s, false) 0 ≠ 6) := by show _ ≠ _; rw [k0]; exact h6
  clear he hk hd hc k0 k1 k2 k3 k4 k5 h6
  have d0 : ¬ (4096 : Int) < (s.size : Int) := by omega
  go_enter Tryz.func12, Tryz.ntmps12
  go_wp2_with fail
  refine (words_any s _ (by omega)).mono ?_
  rintro e w1 ⟨v1, rfl, hO, hb1⟩
  have B1 : Hid (Below w.heap.size w w1) := bc_go (bc_al (bel_refl w)) hb1
  have BA : Hid (Below (w.alloc (.cells #[.int .i64 0, .int .i64 0, .int .i64 0, .int .i64 0, .int .i64 0, .int .i64 0, .slice none 0 0] 24)).heap.size (w.alloc (.cells #[.int .i64 0, .int .i64 0, .int .i64 0, .int .i64 0, .int .i64 0, .int .i64 0, .slice none 0 0] 24)) w1) := hb1
  have R1 : Hid _ := rp_start (W0 := w) hs hO (HE.out.go B1.out) (HK.out.go B1.out)
  have hsz1 := hb1.size
  rw [World.size_alloc] at hsz1
  have e1 : ∃ a n c, v1 = .slice a n c := by
    rcases hO with ⟨q, _⟩ | ⟨g, cap, f, q, _⟩
    · exact ⟨_, _, _, q⟩
    · exact ⟨_, _, _, q⟩
  obtain ⟨a1, m1, c1, rfl⟩ := e1
  clear hO hb1
  go_wp2_with fail
  refine (setup_flat w1.heap.size (wordsL s, false) _ R1.out (by have := words_len s; show (wordsL s).length ≤ _; omega) H6.out).mono ?_
  rintro e w2 ⟨he2, ⟨lm2, hr2⟩, ho2⟩
  have he3 := HV.out e he2
  subst he3
  rw [HD.out] at hr2
  have R2 : Hid _ := hr2
  have O2 : Hid _ := ho2
  clear he2 hr2 ho2
  go_wp2_with fail
  refine (done_any w1.heap.size [] false _ (R2.out.rd.go (bc_al (bel_refl w2)))).mono ?_
  rintro e w3 ⟨rfl, rfl⟩
  obtain ⟨gC, eC⟩ : ∃ g, g = w2.heap.size := ⟨_, rfl⟩
  obtain ⟨gR, eR⟩ : ∃ g, g = w.heap.size := ⟨_, rfl⟩
  obtain ⟨w4, hw4⟩ : ∃ w4, w4 = w2.alloc (.cells #[.int .i64 KD, .int .i64 n0, .int .i64 n1, .int .i64 n2, .int .i64 n3, .int .i64 n4, .slice none 0 0] 24) := ⟨_, rfl⟩
  have hsz2 := O2.out.size
  rw [World.size_alloc] at hsz2
  have hC : w4.heap[gC]? = some (.cells #[.int .i64 KD, .int .i64 n0, .int .i64 n1, .int .i64 n2, .int .i64 n3, .int .i64 n4, .slice none 0 0] 24) := by rw [hw4, eC]; exact al_at _ _
  have hR : w4.heap[gR]? = some (.cells #[.int .i64 0, .int .i64 0, .int .i64 0, .int .i64 0, .int .i64 0, .int .i64 0, .slice none 0 0] 24) := by
    rw [hw4]
    refine ((bc_al (bel_refl w2)).block gR (by omega)).trans ((O2.out.block gR (by rw [World.size_alloc]; omega) (by omega)).trans (((bc_al (bel_refl w1)).block gR (by omega)).trans ((BA.out.block gR (by rw [World.size_alloc]; omega)).trans ?_)))
    rw [eR]
    exact al_at _ _
  have W4 : Hid (Below w.heap.size w w4) := by
    have q : Below w.heap.size (w1.alloc (.cells #[.slice a1 m1 c1, .bool false] 72)) w2 := O2.out.below (by rw [World.size_alloc]; omega) (by omega)
    rw [hw4]
    exact bc_al ((bc_al B1.out).trans q)
  rw [← hw4, ← eC, ← eR]
  have x0 : w4.cell? ⟨gC, 0, none⟩ = some (.int .i64 KD) := by simp [World.cell?, hC]
  have x1 : w4.cell? ⟨gC, 1, none⟩ = some (.int .i64 n0) := by simp [World.cell?, hC]
  have x2 : w4.cell? ⟨gC, 2, none⟩ = some (.int .i64 n1) := by simp [World.cell?, hC]
  have x3 : w4.cell? ⟨gC, 3, none⟩ = some (.int .i64 n2) := by simp [World.cell?, hC]
  have x4 : w4.cell? ⟨gC, 4, none⟩ = some (.int .i64 n3) := by simp [World.cell?, hC]
  have x5 : w4.cell? ⟨gC, 5, none⟩ = some (.int .i64 n4) := by simp [World.cell?, hC]
  have x6 : w4.cell? ⟨gC, 6, none⟩ = some (.slice none 0 0) := by simp [World.cell?, hC]
  have G4 : Hid _ := hR
  have GC : Hid _ := hC
  have lC : gC < w4.heap.size := World.block_lt_of_cell? _ _ x0
  have neg : Hid (gC ≠ gR) := by show gC ≠ gR; omega
  have HEQ : Hid _ := eR
  clear hC hR hw4 eC eR
  go_wp2_with fail
  refine (check_any KD n0 n1 n2 n3 n4 none 0 0 (fun _ _ => 0) _ (nsl_nil _)).mono ?_
  rintro e w5 ⟨rfl, hb5⟩
  rw [HC.out]
  have z0 := bc_cell hb5 x0
  have z1 := bc_cell hb5 x1
  have z2 := bc_cell hb5 x2
  have z3 := bc_cell hb5 x3
  have z4 := bc_cell hb5 x4
  have z5 := bc_cell hb5 x5
  have z6 := bc_cell hb5 x6
  have G5 : Hid (w5.heap[gR]? = some (.cells #[.int .i64 0, .int .i64 0, .int .i64 0, .int .i64 0, .int .i64 0, .int .i64 0, .slice none 0 0] 24)) := (hb5.block gR (Array.getElem?_eq_some_iff.1 G4.out).1).trans G4.out
  have W5 : Hid _ := bc_go W4.out hb5
  clear x0
  clear x1
  clear x2
  clear x3
  clear x4
  clear x5
  clear x6
  clear hb5
  go_wp2_with (refine (id ?_ : wpList Tryz.prog _ _ (⟨none, .store 24 (.tmp 2) (.tmp 24), _, _, _, _⟩ :: _) _ _); refine wpList_store_row rfl 24 (.tmp 2) (.tmp 24) rfl gR #[.int .i64 KD, .int .i64 n0, .int .i64 n1, .int .i64 n2, .int .i64 n3, .int .i64 n4, .slice none 0 0] rfl rfl 24 #[.int .i64 0, .int .i64 0, .int .i64 0, .int .i64 0, .int .i64 0, .int .i64 0, .slice none 0 0] G5.out (by kernel_rfl) (by kernel_rfl) (by kernel_rfl) ?_; refine wpList_as (fun W => W.heap[gR]? = some (.cells #[.int .i64 KD, .int .i64 n0, .int .i64 n1, .int .i64 n2, .int .i64 n3, .int .i64 n4, .slice none 0 0] 24) ∧ Below w.heap.size w W) ⟨setRow_heap _ _ _ _ _ _ G5.out, ?_⟩ ?_)
  · exact ⟨W5.out.os, W5.out.tape, W5.out.output, by rw [size_setRow]; exact W5.out.size, fun k hk => (setRow_other _ _ _ _ (by have := HEQ.out; omega)).trans (W5.out.block k hk)⟩
  intro w6 hR hB
  have W6 : Hid _ := hB
  have y0 : w6.cell? ⟨gR, 0, none⟩ = some (.int .i64 KD) := by simp [World.cell?, hR]
  have y1 : w6.cell? ⟨gR, 1, none⟩ = some (.int .i64 n0) := by simp [World.cell?, hR]
  have y2 : w6.cell? ⟨gR, 2, none⟩ = some (.int .i64 n1) := by simp [World.cell?, hR]
  have y3 : w6.cell? ⟨gR, 3, none⟩ = some (.int .i64 n2) := by simp [World.cell?, hR]
  have y4 : w6.cell? ⟨gR, 4, none⟩ = some (.int .i64 n3) := by simp [World.cell?, hR]
  have y5 : w6.cell? ⟨gR, 5, none⟩ = some (.int .i64 n4) := by simp [World.cell?, hR]
  have y6 : w6.cell? ⟨gR, 6, none⟩ = some (.slice none 0 0) := by simp [World.cell?, hR]
  clear hB hR
  go_wp2_with fail
  exact bodyPost_ret (v := .tuple #[.agg #[.int .i64 KD, .int .i64 n0, .int .i64 n1, .int .i64 n2, .int .i64 n3, .int .i64 n4, .slice none 0 0], .int .i64 0]) (by simp [results, Tryz.results12, go_sem, y0, y1, y2, y3, y4, y5, y6]) rfl ⟨rfl, W6.out⟩
end Go.Proofs.YtfjmnhmdipjenaaGreatDoor

namespace Go.Proofs.YtfjmnhmdipjenaaGreatDoor
open Go.RowKit
set_option maxRecDepth 100000
set_option linter.unusedVariables false
/-- What a line tells of a flow. -/
def flV (p : List ByteArray × Bool) (i : Nat) : Int := match i with
  | 0 => nmI (arS ⟨#[119, 101, 105, 103, 104, 116, 32, 113, 117, 97, 110, 116, 117, 109, 32, 99, 108, 97, 115, 115, 32, 115, 112, 97, 110, 32, 98, 117, 114, 115, 116, 32, 114, 97, 116, 101, 32, 112, 101, 114, 32, 110, 111, 100, 101]⟩ p)
  | 1 => nmI (nmS (arS ⟨#[119, 101, 105, 103, 104, 116, 32, 113, 117, 97, 110, 116, 117, 109, 32, 99, 108, 97, 115, 115, 32, 115, 112, 97, 110, 32, 98, 117, 114, 115, 116, 32, 114, 97, 116, 101, 32, 112, 101, 114, 32, 110, 111, 100, 101]⟩ p))
  | 2 => nmI (nmS (nmS (arS ⟨#[119, 101, 105, 103, 104, 116, 32, 113, 117, 97, 110, 116, 117, 109, 32, 99, 108, 97, 115, 115, 32, 115, 112, 97, 110, 32, 98, 117, 114, 115, 116, 32, 114, 97, 116, 101, 32, 112, 101, 114, 32, 110, 111, 100, 101]⟩ p)))
  | 3 => nmI (nmS (nmS (nmS (arS ⟨#[119, 101, 105, 103, 104, 116, 32, 113, 117, 97, 110, 116, 117, 109, 32, 99, 108, 97, 115, 115, 32, 115, 112, 97, 110, 32, 98, 117, 114, 115, 116, 32, 114, 97, 116, 101, 32, 112, 101, 114, 32, 110, 111, 100, 101]⟩ p))))
  | 4 => nmI (nmS (nmS (nmS (nmS (arS ⟨#[119, 101, 105, 103, 104, 116, 32, 113, 117, 97, 110, 116, 117, 109, 32, 99, 108, 97, 115, 115, 32, 115, 112, 97, 110, 32, 98, 117, 114, 115, 116, 32, 114, 97, 116, 101, 32, 112, 101, 114, 32, 110, 111, 100, 101]⟩ p)))))
  | 5 => nmI (woS (nmS (nmS (nmS (nmS (nmS (arS ⟨#[119, 101, 105, 103, 104, 116, 32, 113, 117, 97, 110, 116, 117, 109, 32, 99, 108, 97, 115, 115, 32, 115, 112, 97, 110, 32, 98, 117, 114, 115, 116, 32, 114, 97, 116, 101, 32, 112, 101, 114, 32, 110, 111, 100, 101]⟩ p)))))))
  | 6 => nmI (nmS (woS (nmS (nmS (nmS (nmS (nmS (arS ⟨#[119, 101, 105, 103, 104, 116, 32, 113, 117, 97, 110, 116, 117, 109, 32, 99, 108, 97, 115, 115, 32, 115, 112, 97, 110, 32, 98, 117, 114, 115, 116, 32, 114, 97, 116, 101, 32, 112, 101, 114, 32, 110, 111, 100, 101]⟩ p))))))))
  | _ => 0
def flR (p : List ByteArray × Bool) : ByteArray := hdT (nmS (nmS (nmS (nmS (nmS (arS ⟨#[119, 101, 105, 103, 104, 116, 32, 113, 117, 97, 110, 116, 117, 109, 32, 99, 108, 97, 115, 115, 32, 115, 112, 97, 110, 32, 98, 117, 114, 115, 116, 32, 114, 97, 116, 101, 32, 112, 101, 114, 32, 110, 111, 100, 101]⟩ p)))))).1
def flS (p : List ByteArray × Bool) : List ByteArray × Bool := (nmS (nmS (woS (nmS (nmS (nmS (nmS (nmS (arS ⟨#[119, 101, 105, 103, 104, 116, 32, 113, 117, 97, 110, 116, 117, 109, 32, 99, 108, 97, 115, 115, 32, 115, 112, 97, 110, 32, 98, 117, 114, 115, 116, 32, 114, 97, 116, 101, 32, 112, 101, 114, 32, 110, 111, 100, 101]⟩ p)))))))))
theorem flow_any {lm : Nat} (rb : Nat) (p : List ByteArray × Bool) (w : World) (h : Rp lm w rb p) (hl : p.1.length ≤ 50000) :
    Calls Tryz.prog 29 #[.pointer (some ⟨rb, 0, none⟩)] w fun e w' => e = .returned (.tuple #[.agg #[.int .i64 (flV p 0), .int .i64 (flV p 1), .int .i64 (flV p 2), .int .i64 (flV p 3), .int .i64 (flV p 4), .float .f64 0, .int .i64 (flV p 5), .int .i64 (flV p 6)], .string (flR p)]) ∧ (∃ lm', Rp lm' w' rb (flS p)) ∧ Ob rb w w' :=
  flow_walk rb p _ _ _ _ _ _ _ _ _ _ _ _ _ _ _ _ _ rfl rfl rfl rfl rfl rfl rfl rfl rfl rfl rfl rfl rfl rfl rfl rfl rfl w h hl
set_option maxHeartbeats 1000000 in
theorem parseFlow_good (K R M C Fl A : Int) (a : Option Addr) (n cap : Nat) (G : Nat → Nat → Int) (s rt : ByteArray) (n0 n1 n2 n3 n4 n5 n6 : Int) (p q u : Nat) (w : World) (h : NSl w a n cap G) (hs : s.size ≤ 4096) (he : EV w) (hk : KN w) (hT : Tab w) (hz : checkE K R M C Fl A G n = 0)
    (k0 : flV (wordsL s, false) 0 = n0)
    (k1 : flV (wordsL s, false) 1 = n1)
    (k2 : flV (wordsL s, false) 2 = n2)
    (k3 : flV (wordsL s, false) 3 = n3)
    (k4 : flV (wordsL s, false) 4 = n4)
    (k5 : flV (wordsL s, false) 5 = n5)
    (k6 : flV (wordsL s, false) 6 = n6)
    (kr : flR (wordsL s, false) = rt) (hd : flS (wordsL s, false) = ([], false)) (hrt : rt.size ≤ 4096) (h1 : npE rt = 0) (h2 : npP rt = p) (h3 : npQ rt = q) (hp : RS p) (hq : RS q) (h4 : tfV p q = u) (h5 : tfOk p q = true) (hu : u < 18446744073709551616) (h6 : ffP u = p) (h7 : ffQ u = q)
    (hc : flowE K R M C Fl A G n n0 n1 n2 n3 n4 u n5 n6 = 0) :
    Calls Tryz.prog 13 #[.agg #[.int .i64 K, .int .i64 R, .int .i64 M, .int .i64 C, .int .i64 Fl, .int .i64 A, .slice a n cap], .string s] w fun e w' => e = .returned (.tuple #[.agg #[.int .i64 n0, .int .i64 n1, .int .i64 n2, .int .i64 n3, .int .i64 n4, .float .f64 u, .int .i64 n5, .int .i64 n6], .int .i64 0]) ∧ Below w.heap.size w w' := by
  have HN : Hid _ := h
  have HE : Hid _ := he
  have HK : Hid (KN w) := hk
  have HT : Hid (Tab w) := hT
  have HZ : Hid _ := hz
  have HD : Hid _ := hd
  have HC : Hid _ := hc
  have HX : Hid (∀ W, Tab W → Calls Tryz.prog 30 #[.string rt] W fun e w' => e = .returned (.tuple #[.float .f64 u, .int .i64 0]) ∧ Below W.heap.size W w') := fun W hW => exactly_good rt p q u W hrt hW h1 h2 h3 hp hq h4 h5 hu h6 h7
  have HV : Hid (∀ e : Ending, e = .returned (.tuple #[.agg #[.int .i64 (flV (wordsL s, false) 0), .int .i64 (flV (wordsL s, false) 1), .int .i64 (flV (wordsL s, false) 2), .int .i64 (flV (wordsL s, false) 3), .int .i64 (flV (wordsL s, false) 4), .float .f64 0, .int .i64 (flV (wordsL s, false) 5), .int .i64 (flV (wordsL s, false) 6)], .string (flR (wordsL s, false))]) → e = .returned (.tuple #[.agg #[.int .i64 n0, .int .i64 n1, .int .i64 n2, .int .i64 n3, .int .i64 n4, .float .f64 0, .int .i64 n5, .int .i64 n6], .string rt])) := by
    intro e q
    rw [q, k0, k1, k2, k3, k4, k5, k6, kr]
  have hl0 : n ≤ 9223372036854775807 := Nat.le_trans h.le h.lim
  clear h he hk hT hz hd hc k0 k1 k2 k3 k4 k5 k6 kr hrt h1 h2 h3 hp hq h4 h5 hu h6 h7
  have d0 : ¬ (4096 : Int) < (s.size : Int) := by omega
  go_enter Tryz.func13, Tryz.ntmps13
  go_wp2_with fail
  have S0 : Hid _ := ((ce_start w).box7 (.int .i64 K) (.int .i64 R) (.int .i64 M) (.int .i64 C) (.int .i64 Fl) (.int .i64 A) (.slice a n cap) 24 _ rfl).box8 (.int .i64 0) (.int .i64 0) (.int .i64 0) (.int .i64 0) (.int .i64 0) (.float .f64 0) (.int .i64 0) (.int .i64 0) 27 (w.heap.size + 1) (by rw [World.size_alloc])
  have Z0 : Hid (((w.alloc (.cells #[.int .i64 K, .int .i64 R, .int .i64 M, .int .i64 C, .int .i64 Fl, .int .i64 A, .slice a n cap] 24)).alloc (.cells #[.int .i64 0, .int .i64 0, .int .i64 0, .int .i64 0, .int .i64 0, .float .f64 0, .int .i64 0, .int .i64 0] 27)).heap[w.heap.size + 1]? = some (.cells #[.int .i64 0, .int .i64 0, .int .i64 0, .int .i64 0, .int .i64 0, .float .f64 0, .int .i64 0, .int .i64 0] 27)) := by
    have q := al_at (w.alloc (.cells #[.int .i64 K, .int .i64 R, .int .i64 M, .int .i64 C, .int .i64 Fl, .int .i64 A, .slice a n cap] 24)) (.cells #[.int .i64 0, .int .i64 0, .int .i64 0, .int .i64 0, .int .i64 0, .float .f64 0, .int .i64 0, .int .i64 0] 27)
    rw [World.size_alloc] at q
    exact q
  refine (check_any K R M C Fl A a n cap G _ (HN.out.go S0.out.bel)).mono ?_
  rintro e w1 ⟨rfl, hb⟩
  rw [HZ.out]
  obtain ⟨gA, egA⟩ : ∃ g, g = w.heap.size := ⟨_, rfl⟩
  obtain ⟨gR, egR⟩ : ∃ g, g = w.heap.size + 1 := ⟨_, rfl⟩
  have S1 : Hid _ := S0.out.go hb
  have Z1 : Hid (w1.heap[gR]? = some (.cells #[.int .i64 0, .int .i64 0, .int .i64 0, .int .i64 0, .int .i64 0, .float .f64 0, .int .i64 0, .int .i64 0] 27)) := by
    show _ = _
    rw [egR]
    exact (hb.block _ (by rw [World.size_alloc, World.size_alloc]; omega)).trans Z0.out
  rw [← egR, ← egA] at S1
  rw [← egR, ← egA]
  have HA : Hid (w.heap.size ≤ gA ∧ w.heap.size ≤ gR ∧ gA ≠ gR) := ⟨by omega, by omega, by omega⟩
  clear egA egR hb S0 Z0
  go_wp2_with fail
  refine (words_any s _ (by omega)).mono ?_
  rintro e w2 ⟨v2, rfl, hO, hb2⟩
  have S2 : Hid _ := S1.out.go hb2
  have Z2 : Hid (w2.heap[gR]? = some (.cells #[.int .i64 0, .int .i64 0, .int .i64 0, .int .i64 0, .int .i64 0, .float .f64 0, .int .i64 0, .int .i64 0] 27)) := (hb2.block _ (Array.getElem?_eq_some_iff.1 Z1.out).1).trans Z1.out
  have R2 : Hid _ := rp_start (W0 := w) hs hO (HE.out.go S2.out.bel) (HK.out.go S2.out.bel)
  have e1 : ∃ a n c, v2 = .slice a n c := by
    rcases hO with ⟨q, _⟩ | ⟨g, cap, f, q, _⟩
    · exact ⟨_, _, _, q⟩
    · exact ⟨_, _, _, q⟩
  obtain ⟨a2, m2, c2, rfl⟩ := e1
  have hlw : (wordsL s).length ≤ 50000 := by have := words_len s; omega
  have LW : Hid _ := hlw
  obtain ⟨rb, erb⟩ : ∃ g, g = w2.heap.size := ⟨_, rfl⟩
  have S2b : Hid _ := S2.out.go (bc_al (o := .cells #[.slice a2 m2 c2, .bool false] 72) (bel_refl w2))
  have Z2b : Hid ((w2.alloc (.cells #[.slice a2 m2 c2, .bool false] 72)).heap[gR]? = some (.cells #[.int .i64 0, .int .i64 0, .int .i64 0, .int .i64 0, .int .i64 0, .float .f64 0, .int .i64 0, .int .i64 0] 27)) := ((bc_al (bel_refl w2)).block _ (Array.getElem?_eq_some_iff.1 Z2.out).1).trans Z2.out
  have lA := S2.out.lt gA 0 (.int .i64 K)
  have lR : gR < w2.heap.size := (Array.getElem?_eq_some_iff.1 Z2.out).1
  have HNE : Hid (gA ≠ rb ∧ gR ≠ rb ∧ w.heap.size ≤ rb) := ⟨by omega, by omega, by rw [erb]; exact S2.out.bel.size⟩
  clear hO hb2 hlw lA lR
  go_wp2_with fail
  rw [← erb]
  rw [← erb] at R2
  refine (flow_any rb (wordsL s, false) _ R2.out LW.out).mono ?_
  rintro e w3 ⟨he3, ⟨lm3, hr3⟩, ho3⟩
  have he4 := HV.out e he3
  subst he4
  rw [HD.out] at hr3
  have R3 : Hid _ := hr3
  have S3 : Hid (Ce w w3 [(gA, 0, .int .i64 K), (gA, 1, .int .i64 R), (gA, 2, .int .i64 M), (gA, 3, .int .i64 C), (gA, 4, .int .i64 Fl), (gA, 5, .int .i64 A), (gA, 6, .slice a n cap)]) := by
    refine ⟨fun x hx => ?_, ?_⟩
    · have hb : x.1 = gA := by
        simp only [List.mem_cons, List.not_mem_nil, or_false] at hx
        rcases hx with rfl | rfl | rfl | rfl | rfl | rfl | rfl <;> rfl
      refine ho3.cell (S2b.out.cells x ?_) (by show x.1 ≠ rb; rw [hb]; exact HNE.out.1)
      exact List.mem_append_right [(gR, 0, .int .i64 0), (gR, 1, .int .i64 0), (gR, 2, .int .i64 0), (gR, 3, .int .i64 0), (gR, 4, .int .i64 0), (gR, 5, .float .f64 0), (gR, 6, .int .i64 0), (gR, 7, .int .i64 0)] hx
    · exact S2b.out.bel.trans (ho3.below S2b.out.bel.size HNE.out.2.2)
  have Z3 : Hid (w3.heap[gR]? = some (.cells #[.int .i64 0, .int .i64 0, .int .i64 0, .int .i64 0, .int .i64 0, .float .f64 0, .int .i64 0, .int .i64 0] 27)) := (ho3.block gR (Array.getElem?_eq_some_iff.1 Z2b.out).1 HNE.out.2.1).trans Z2b.out
  clear he3 hr3 ho3 R2 S2 S2b Z2 Z2b Z1 S1 erb
  have hAL := al_at w3 (.cells #[.int .i64 0, .int .i64 0, .int .i64 0, .int .i64 0, .int .i64 0, .float .f64 0, .int .i64 0, .int .i64 0] 27)
  have HAL : Hid _ := hAL
  clear hAL
  go_wp2_with (refine (id ?_ : wpList Tryz.prog _ _ (⟨none, .store 27 (.tmp 8) (.tmp 27), _, _, _, _⟩ :: _) _ _); refine wpList_store_row rfl 27 (.tmp 8) (.tmp 27) rfl w3.heap.size #[.int .i64 n0, .int .i64 n1, .int .i64 n2, .int .i64 n3, .int .i64 n4, .float .f64 0, .int .i64 n5, .int .i64 n6] rfl rfl 27 #[.int .i64 0, .int .i64 0, .int .i64 0, .int .i64 0, .int .i64 0, .float .f64 0, .int .i64 0, .int .i64 0] HAL.out (by kernel_rfl) (by kernel_rfl) (by kernel_rfl) ?_; rw [World.setRow_alloc_new])
  refine (done_any rb [] false _ (R3.out.rd.go (bc_al (bel_refl w3)))).mono ?_
  rintro e w4 ⟨rfl, rfl⟩
  go_wp2_with fail
  refine (HX.out _ (Tab.go HT.out (bc_al S3.out.bel))).mono ?_
  rintro e w5 ⟨rfl, hb5⟩
  obtain ⟨gP, egP⟩ : ∃ g, g = w3.heap.size := ⟨_, rfl⟩
  have B3 := bc_al (o := .cells #[.int .i64 n0, .int .i64 n1, .int .i64 n2, .int .i64 n3, .int .i64 n4, .float .f64 0, .int .i64 n5, .int .i64 n6] 27) (bel_refl w3)
  have S5 : Hid _ := (S3.out.go B3).go hb5
  have Z5 : Hid (w5.heap[gR]? = some (.cells #[.int .i64 0, .int .i64 0, .int .i64 0, .int .i64 0, .int .i64 0, .float .f64 0, .int .i64 0, .int .i64 0] 27)) := ((bc_go B3 hb5).block gR (Array.getElem?_eq_some_iff.1 Z3.out).1).trans Z3.out
  have P5 : Hid (w5.heap[gP]? = some (.cells #[.int .i64 n0, .int .i64 n1, .int .i64 n2, .int .i64 n3, .int .i64 n4, .float .f64 0, .int .i64 n5, .int .i64 n6] 27)) := by
    show _ = _
    rw [egP]
    exact (hb5.block _ (by rw [World.size_alloc]; omega)).trans (al_at _ _)
  rw [← egP]
  have lR : gR < w3.heap.size := (Array.getElem?_eq_some_iff.1 Z3.out).1
  have lA := S3.out.lt gA 0 (.int .i64 K)
  have HP : Hid (gA ≠ gP ∧ gR ≠ gP ∧ w.heap.size ≤ gP) := ⟨by omega, by omega, by rw [egP]; exact S3.out.bel.size⟩
  have hP := P5.out
  have y0 : w5.cell? ⟨gP, 0, none⟩ = some (.int .i64 n0) := by simp [World.cell?, hP]
  have y1 : w5.cell? ⟨gP, 1, none⟩ = some (.int .i64 n1) := by simp [World.cell?, hP]
  have y2 : w5.cell? ⟨gP, 2, none⟩ = some (.int .i64 n2) := by simp [World.cell?, hP]
  have y3 : w5.cell? ⟨gP, 3, none⟩ = some (.int .i64 n3) := by simp [World.cell?, hP]
  have y4 : w5.cell? ⟨gP, 4, none⟩ = some (.int .i64 n4) := by simp [World.cell?, hP]
  have y5 : w5.cell? ⟨gP, 5, none⟩ = some (.float .f64 0) := by simp [World.cell?, hP]
  have y6 : w5.cell? ⟨gP, 6, none⟩ = some (.int .i64 n5) := by simp [World.cell?, hP]
  have y7 : w5.cell? ⟨gP, 7, none⟩ = some (.int .i64 n6) := by simp [World.cell?, hP]
  have fy : w5.frozen? ⟨gP, 5, none⟩ = false := by simp [World.frozen?, hP]
  have B5 : Hid (Bx1 w5 w5 gP 27 #[.int .i64 n0, .int .i64 n1, .int .i64 n2, .int .i64 n3, .int .i64 n4, .float .f64 0, .int .i64 n5, .int .i64 n6]) := ⟨hP, fun _ _ => rfl, rfl, rfl, rfl, rfl⟩
  clear hP lR lA egP hb5 B3
  have sf := fun (w : World) (a : Addr) (x : Nat) => run_store Tryz.prog w a (.float .f64 x) .plain rfl
  go_wp2_with (refine (id ?_ : wpList Tryz.prog _ _ (⟨some 42, _, _, _, _, _⟩ :: _) _ _); refine wpList_as (fun W => Bx1 w5 W gP 27 #[.int .i64 n0, .int .i64 n1, .int .i64 n2, .int .i64 n3, .int .i64 n4, .float .f64 u, .int .i64 n5, .int .i64 n6]) (B5.out.set 5 (.float .f64 u)) ?_)
  intro w6 B6
  clear y0
  clear y1
  clear y2
  clear y3
  clear y4
  clear y5
  clear y6
  clear y7
  clear fy sf
  have hP := B6.hc
  have y0 : w6.cell? ⟨gP, 0, none⟩ = some (.int .i64 n0) := by simp [World.cell?, hP]
  have y1 : w6.cell? ⟨gP, 1, none⟩ = some (.int .i64 n1) := by simp [World.cell?, hP]
  have y2 : w6.cell? ⟨gP, 2, none⟩ = some (.int .i64 n2) := by simp [World.cell?, hP]
  have y3 : w6.cell? ⟨gP, 3, none⟩ = some (.int .i64 n3) := by simp [World.cell?, hP]
  have y4 : w6.cell? ⟨gP, 4, none⟩ = some (.int .i64 n4) := by simp [World.cell?, hP]
  have y5 : w6.cell? ⟨gP, 5, none⟩ = some (.float .f64 u) := by simp [World.cell?, hP]
  have y6 : w6.cell? ⟨gP, 6, none⟩ = some (.int .i64 n5) := by simp [World.cell?, hP]
  have y7 : w6.cell? ⟨gP, 7, none⟩ = some (.int .i64 n6) := by simp [World.cell?, hP]
  have S6 : Hid (Ce w w6 [(gA, 0, .int .i64 K), (gA, 1, .int .i64 R), (gA, 2, .int .i64 M), (gA, 3, .int .i64 C), (gA, 4, .int .i64 Fl), (gA, 5, .int .i64 A), (gA, 6, .slice a n cap)]) := by
    refine ⟨fun x hx => ?_, ?_⟩
    · have hb : x.1 = gA := by
        simp only [List.mem_cons, List.not_mem_nil, or_false] at hx
        rcases hx with rfl | rfl | rfl | rfl | rfl | rfl | rfl <;> rfl
      exact (World.cell?_of_block (w := w5) (B6.ot _ (by show x.1 ≠ gP; rw [hb]; exact HP.out.1))).trans (S5.out.cells x hx)
    · have q := S5.out.bel
      exact ⟨B6.os.trans q.os, B6.tape.trans q.tape, B6.output.trans q.output, by rw [B6.size]; exact q.size, fun k hk => (B6.ot k (by have := HP.out.2.2; omega)).trans (q.block k hk)⟩
  have Z6 : Hid (w6.heap[gR]? = some (.cells #[.int .i64 0, .int .i64 0, .int .i64 0, .int .i64 0, .int .i64 0, .float .f64 0, .int .i64 0, .int .i64 0] 27)) := (B6.ot gR HP.out.2.1).trans Z5.out
  have x0 := S6.out.cel gA 0 (.int .i64 K)
  have x1 := S6.out.cel gA 1 (.int .i64 R)
  have x2 := S6.out.cel gA 2 (.int .i64 M)
  have x3 := S6.out.cel gA 3 (.int .i64 C)
  have x4 := S6.out.cel gA 4 (.int .i64 Fl)
  have x5 := S6.out.cel gA 5 (.int .i64 A)
  have x6 := S6.out.cel gA 6 (.slice a n cap)
  clear hP B6
  go_wp2_with fail
  refine (checkFlow_any K R M C Fl A a n cap G n0 n1 n2 n3 n4 u n5 n6 _ (HN.out.go S6.out.bel)).mono ?_
  rintro e w7 ⟨rfl, hb7⟩
  rw [HC.out]
  have z0 := bc_cell hb7 y0
  have z1 := bc_cell hb7 y1
  have z2 := bc_cell hb7 y2
  have z3 := bc_cell hb7 y3
  have z4 := bc_cell hb7 y4
  have z5 := bc_cell hb7 y5
  have z6 := bc_cell hb7 y6
  have z7 := bc_cell hb7 y7
  have Z7 : Hid (w7.heap[gR]? = some (.cells #[.int .i64 0, .int .i64 0, .int .i64 0, .int .i64 0, .int .i64 0, .float .f64 0, .int .i64 0, .int .i64 0] 27)) := (hb7.block gR (Array.getElem?_eq_some_iff.1 Z6.out).1).trans Z6.out
  have W7 : Hid _ := bc_go S6.out.bel hb7
  clear y0
  clear y1
  clear y2
  clear y3
  clear y4
  clear y5
  clear y6
  clear y7
  clear x0
  clear x1
  clear x2
  clear x3
  clear x4
  clear x5
  clear x6
  clear hb7
  go_wp2_with (refine (id ?_ : wpList Tryz.prog _ _ (⟨none, .store 27 (.tmp 4) (.tmp 49), _, _, _, _⟩ :: _) _ _); refine wpList_store_row rfl 27 (.tmp 4) (.tmp 49) rfl gR #[.int .i64 n0, .int .i64 n1, .int .i64 n2, .int .i64 n3, .int .i64 n4, .float .f64 u, .int .i64 n5, .int .i64 n6] rfl rfl 27 #[.int .i64 0, .int .i64 0, .int .i64 0, .int .i64 0, .int .i64 0, .float .f64 0, .int .i64 0, .int .i64 0] Z7.out (by kernel_rfl) (by kernel_rfl) (by kernel_rfl) ?_; refine wpList_as (fun W => W.heap[gR]? = some (.cells #[.int .i64 n0, .int .i64 n1, .int .i64 n2, .int .i64 n3, .int .i64 n4, .float .f64 u, .int .i64 n5, .int .i64 n6] 27) ∧ Below w.heap.size w W) ⟨setRow_heap _ _ _ _ _ _ Z7.out, ?_⟩ ?_)
  · exact ⟨W7.out.os, W7.out.tape, W7.out.output, by rw [size_setRow]; exact W7.out.size, fun k hk => (setRow_other _ _ _ _ (by have := HA.out.2.1; omega)).trans (W7.out.block k hk)⟩
  intro w8 hR hB
  have W8 : Hid _ := hB
  have y0 : w8.cell? ⟨gR, 0, none⟩ = some (.int .i64 n0) := by simp [World.cell?, hR]
  have y1 : w8.cell? ⟨gR, 1, none⟩ = some (.int .i64 n1) := by simp [World.cell?, hR]
  have y2 : w8.cell? ⟨gR, 2, none⟩ = some (.int .i64 n2) := by simp [World.cell?, hR]
  have y3 : w8.cell? ⟨gR, 3, none⟩ = some (.int .i64 n3) := by simp [World.cell?, hR]
  have y4 : w8.cell? ⟨gR, 4, none⟩ = some (.int .i64 n4) := by simp [World.cell?, hR]
  have y5 : w8.cell? ⟨gR, 5, none⟩ = some (.float .f64 u) := by simp [World.cell?, hR]
  have y6 : w8.cell? ⟨gR, 6, none⟩ = some (.int .i64 n5) := by simp [World.cell?, hR]
  have y7 : w8.cell? ⟨gR, 7, none⟩ = some (.int .i64 n6) := by simp [World.cell?, hR]
  clear hB hR
  go_wp2_with fail
  exact bodyPost_ret (v := .tuple #[.agg #[.int .i64 n0, .int .i64 n1, .int .i64 n2, .int .i64 n3, .int .i64 n4, .float .f64 u, .int .i64 n5, .int .i64 n6], .int .i64 0]) (by simp [results, Tryz.results13, go_sem, y0, y1, y2, y3, y4, y5, y6, y7]) rfl ⟨rfl, W8.out⟩
end Go.Proofs.YtfjmnhmdipjenaaGreatDoor

