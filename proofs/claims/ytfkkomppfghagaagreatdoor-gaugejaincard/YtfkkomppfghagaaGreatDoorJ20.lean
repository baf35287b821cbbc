/- Contracts of the program's functions, part 20: own work, joined in build order. -/
import Derived.Test.YtfkkomppfghagaaGreatDoorJ19
namespace Go.Proofs.YtfkkomppfghagaaGreatDoor
open Go.RowKit
set_option maxRecDepth 100000
set_option linter.unusedVariables false
structure Mb (w1 wr : World) (v : Value) (L : List (Value × Value)) (i : Nat) (X Y : Nat → Nat) : Prop where
  row : Fo w1.heap.size wr v L
  len : L.length = i
  ent : ∀ j, (h : j < L.length) → Rt wr (.agg #[L[j].1, L[j].2]) (X j) (Y j)
  bel : Below w1.heap.size w1 wr
theorem Mb.go {w1 w w' : World} {v : Value} {L : List (Value × Value)} {i : Nat} {X Y : Nat → Nat} (h : Mb w1 w v L i X Y) (hb : Below w.heap.size w w') : Mb w1 w' v L i X Y :=
  ⟨h.row.below hb, h.len, fun j hj => (h.ent j hj).mono hb, bel_go h.bel hb⟩
theorem Mb.app {w1 w w' : World} {v v' : Value} {L : List (Value × Value)} {i : Nat} {X Y : Nat → Nat} {y : Value × Value} (h : Mb w1 w v L i X Y) (hv : Rt w (.agg #[y.1, y.2]) (X i) (Y i)) (hr : Fo w1.heap.size w' v' (L ++ [y]) ∧ w.grownBy w' v.ownBlock) : Mb w1 w' v' (L ++ [y]) (i + 1) X Y := by
  have f := fb_grown hr.2
  have ho := h.row.oddK
  refine ⟨hr.1, by rw [List.length_append, h.len]; rfl, fun j hj => ?_, h.bel.trans (f.below h.bel.size fun b e => (h.row.row.own e.symm).1)⟩
  rcases get_snoc hj with ⟨h1, e⟩ | ⟨e1, e⟩
  · rw [e]; exact (h.ent j h1).fb f ho
  rw [e, e1, h.len]; exact hv.fb f ho
def zB (F : Nat → Nat → Int) : Nat → Bool
  | 0 => true
  | i + 1 => zB F i && decide (shN F i = 0)
theorem zB_iff (F : Nat → Nat → Int) : ∀ n, zB F n = true ↔ ∀ i, i < n → shN F i = 0
  | 0 => by simp [zB]
  | n + 1 => by
    rw [zB, Bool.and_eq_true, zB_iff F n, decide_eq_true_eq]
    constructor
    · rintro ⟨h1, h2⟩ i hi
      rcases Nat.lt_or_ge i n with c | c
      · exact h1 i c
      obtain rfl : i = n := by omega
      exact h2
    exact fun h => ⟨fun i hi => h i (by omega), h n (by omega)⟩
def sB (F : Nat → Nat → Int) : Nat → Bool
  | 0 => true
  | i + 1 => sB F i && decide (shN F i * shD F 0 = shN F 0 * shD F i)
theorem sB_iff (F : Nat → Nat → Int) : ∀ n, sB F n = true ↔ ∀ i, i < n → shN F i * shD F 0 = shN F 0 * shD F i
  | 0 => by simp [sB]
  | n + 1 => by
    rw [sB, Bool.and_eq_true, sB_iff F n, decide_eq_true_eq]
    constructor
    · rintro ⟨h1, h2⟩ i hi
      rcases Nat.lt_or_ge i n with c | c
      · exact h1 i c
      obtain rfl : i = n := by omega
      exact h2
    exact fun h => ⟨fun i hi => h i (by omega), h n (by omega)⟩
theorem sh_fc (F : Nat → Nat → Int) (i : Nat) : Fc (shX F i) (shY F i) (shN F i) (shD F i) 1 := by
  have h := sh_le F i
  exact fc_low _ _ (by omega) (by rw [P_one]; omega) (by rw [P_one]; omega)
theorem cmp_nought (F : Nat → Nat → Int) (i : Nat) (v : Value) (w : World) (h : Rt w v (shX F i) (shY F i)) : Calls Tryz.prog 21 #[v, .agg #[.slice none 0 0, .slice none 0 0]] w fun e w' => e = .returned (.int .i64 (if shN F i = 0 then 0 else 1)) ∧ Below w.heap.size w w' := by
  refine (sh_fc F i).cmp (fc_nought 1 (by omega)) (by omega) (by omega) (z := if shN F i = 0 then 0 else 1) ?_ v _ w h (rt_zero w)
  unfold cmpI
  rw [Nat.mul_one, Nat.zero_mul, if_neg (by omega)]
theorem cmp_first (F : Nat → Nat → Int) (i : Nat) (v u : Value) (w : World) (h : Rt w v (shX F i) (shY F i)) (h0 : Rt w u (shX F 0) (shY F 0)) : ∃ z : Int, (z = 0 ↔ shN F i * shD F 0 = shN F 0 * shD F i) ∧ ∀ w', Below w.heap.size w w' → Calls Tryz.prog 21 #[v, u] w' fun e w9 => e = .returned (.int .i64 z) ∧ Below w'.heap.size w' w9 := by
  refine ⟨_, ?_, fun w' hb => (sh_fc F i).cmp (sh_fc F 0) (by omega) (by omega) rfl v u w' (h.mono hb) (h0.mono hb)⟩
  unfold cmpI
  split
  · omega
  split <;> omega
theorem Fr.oldBut {ops : Array Oper} {a0 a : Act} {L : Nat → Bool} {vs : Nat → Value} (h : Fr ops a0 L vs a) (t k : Nat) (hk : L k = false) (hd : (ops.toList.zipIdx.all fun p => p.1.dst != some t || p.2 == k) = true) : (a.tmps[t]?).getD undef = a0.eval (.tmp t) := by
  have e : (a.tmps[t]?).getD undef = a.tmps.getD t undef := by simp
  rw [e]
  refine h.out t fun j o ho hLj e => ?_
  have hm : (o, j) ∈ ops.toList.zipIdx := by
    rw [List.mem_zipIdx_iff_getElem?]
    simpa using ho
  have := List.all_eq_true.1 hd (o, j) hm
  simp [e] at this
  rw [this, hk] at hLj
  cases hLj
theorem cl_keep {L : Nat → Bool} {i : Nat} (h : L 12 = true → L 0 = true) (h1 : 12 ≠ i) (h2 : 0 ≠ i) : updB L i 12 = true → updB L i 0 = true := fun e => by
  simp only [updB, if_neg h1] at e
  simp only [updB, if_neg h2]
  exact h e
theorem cl_last {L : Nat → Bool} {i : Nat} (h : L 0 = true) : updB L i 12 = true → updB L i 0 = true := fun _ => by
  unfold updB
  split <;> simp_all
theorem cl_no {L : Nat → Bool} (h : L 12 = true → L 0 = true) (h0 : L 0 = false) : L 12 = false := by
  cases e : L 12
  · rfl
  have := h e
  rw [h0] at this
  cases this
set_option maxHeartbeats 16000000 in
theorem gjain_any (a0 : Option Addr) (n0 cap0 : Nat) (F : Nat → Nat → Int) (by_ : Int) (w : World) (h : AbIn w a0 n0 F) (hn : n0 ≤ 9223372036854775807) (hT : Tab w) :
    Calls Tryz.prog 6 #[.slice a0 n0 cap0, .int .i64 by_] w fun e w' => e = .returned (.bool true) ∧ Below w.heap.size w w' := by
  have CS : Hid (Calls Tryz.prog 8 #[.slice a0 n0 cap0] w fun e w' => ∃ va vb La Lb, e = .returned (.tuple #[va, vb]) ∧ ShS w w' (shX F) (shY F) (min n0 12) (min n0 12) va vb La Lb) := shares_any a0 n0 cap0 F w h hn hT
  obtain ⟨n, hnn⟩ : ∃ n, n = min n0 12 := ⟨_, rfl⟩
  rw [← hnn] at CS
  have hn12 : n ≤ 12 := by omega
  have HT : Hid (Tab w) := hT
  clear h hn hT hnn
  go_enter Tryz.func6, Tryz.ntmps6
  go_upto_region 2 with (go_at_call 8; (with_reducible refine Calls.mono CS.out ?_); rintro e w1 ⟨va, vb, La, Lb, rfl, hS⟩)
  have S1 : Hid (ShS w w1 (shX F) (shY F) n n va vb La Lb) := hS
  clear hS CS
  have CJ : Hid (Calls Tryz.prog 13 #[va] w1 fun e w' => ∃ x y ok, JnP (shN F) (shD F) n x y ok ∧ MakesRB w1 x y ok e w') := jain_row _ va La n _ _ _ _ w1 S1.out.la S1.out.ra (fq_sh F n (by omega)) S1.out.ea (HT.out.go S1.out.bel)
  go_upto_region 3 with (go_at_call 13; (with_reducible refine Calls.mono CJ.out ?_); rintro e w2 ⟨x, y, ok, hjn, v2, rfl, hv2, hb2⟩; obtain ⟨p1, n1, c1, p2, n2, c2, rfl⟩ := rt_slices hv2)
  have bl2 := bel_al (o := .cells #[.slice p1 n1 c1, .slice p2 n2 c2] 47) (bel_refl w2)
  obtain ⟨w3, hw3⟩ : ∃ w3, w3 = w2.alloc (.cells #[.slice p1 n1 c1, .slice p2 n2 c2] 47) := ⟨_, rfl⟩
  obtain ⟨b7, hb7⟩ : ∃ b7, b7 = w2.heap.size := ⟨_, rfl⟩
  have k0 : w3.cell? ⟨b7, 0, none⟩ = some (.slice p1 n1 c1) := by rw [hw3, hb7]; simp [go_sem]
  have k1 : w3.cell? ⟨b7, 1, none⟩ = some (.slice p2 n2 c2) := by rw [hw3, hb7]; simp [go_sem]
  rw [← hw3] at bl2
  have S3 : Hid (ShS w w3 (shX F) (shY F) n n va vb La Lb) := (S1.out.go hb2).go bl2
  have X3 : Hid (Rt w3 (.agg #[.slice p1 n1 c1, .slice p2 n2 c2]) x y) := hv2.mono bl2
  have JN : Hid (JnP (shN F) (shD F) n x y ok) := hjn
  have K7 : Hid (w3.cell? ⟨b7, 0, none⟩ = some (.slice p1 n1 c1) ∧ w3.cell? ⟨b7, 1, none⟩ = some (.slice p2 n2 c2)) := ⟨k0, k1⟩
  rw [← hw3, ← hb7]
  clear hw3 hb7 bl2 hb2 hv2 k0 k1 hjn CJ S1
  obtain ⟨a, cap, ev, hc1, hc2, hcel⟩ := S3.out.ra.row.sl
  have hlen := S3.out.la
  rw [hlen] at ev hc1
  subst ev
  have CE : Hid (0 < La.length → ∃ g, a = some ⟨g, 0, none⟩ ∧ g < w3.heap.size ∧ w.heap.size ≤ g ∧ ∀ i, (hi : i < La.length) → w3.cell? ⟨g, i * 2, none⟩ = some (La[i].1) ∧ w3.cell? ⟨g, i * 2 + 1, none⟩ = some (La[i].2)) := hcel
  clear hcel
  obtain ⟨z3, hz3⟩ : ∃ z3, z3 = (by_ % 1024).toNat := ⟨_, rfl⟩
  have hm3 : bits .and .i64 by_ 1023 = (z3 : Int) := by rw [i64_and1023G, hz3]; omega
  have hz4 : z3 ≤ 1023 := by omega
  have M0 : Hid (Mb w3 w3 (.slice none 0 0) [] 0 (mX F (1 + z3)) (mY F (1 + z3))) := ⟨Fo.nil _ _, rfl, fun j hj => absurd hj (Nat.not_lt_zero _), Below.refl _ _⟩
  clear hz3
  go_wp2_with fail
  go_loopw [12, 9, 10, 11] (fun t z s bv wr => ∃ (i : Nat) (Lm : List (Value × Value)), i ≤ n ∧ t = .int .i64 (i : Int) ∧ z = .bool (zB F i) ∧ s = .bool (sB F i) ∧ Mb w3 wr bv Lm i (mX F (1 + z3)) (mY F (1 + z3))) (fun t _ _ _ _ => n - (intOf t).toNat)
  case atStart => exact ⟨0, [], by omega, rfl, rfl, rfl, M0.out⟩
  case round =>
    clear M0
    obtain ⟨i, Lm, hi, rfl, rfl, rfl, hM⟩ := hrel
    have M1 : Hid (Mb w3 wr u11 Lm i (mX F (1 + z3)) (mY F (1 + z3))) := hM
    clear hM
    by_cases hin : i < n
    · obtain ⟨g, rfl, hgl, _, hcs⟩ := CE.out (by omega)
      have hi' : i < La.length := by omega
      obtain ⟨c0, c1'⟩ := hcs i hi'
      have hR := S3.out.ea i hi'
      obtain ⟨d0, d1⟩ := hcs 0 (by omega)
      have hR0 := S3.out.ea 0 (by omega)
      generalize La[i] = yi at c0 c1' hR
      generalize La[0] = y0 at d0 d1 hR0
      obtain ⟨y1, y2⟩ := yi
      obtain ⟨y3, y4⟩ := y0
      obtain ⟨q1, l1, e1, q2, l2, e2, ey⟩ := rt_slices hR
      obtain ⟨rfl, rfl⟩ : y1 = .slice q1 l1 e1 ∧ y2 = .slice q2 l2 e2 := by simpa using ey
      obtain ⟨q3, l3, e3, q4, l4, e4, ey0⟩ := rt_slices hR0
      obtain ⟨rfl, rfl⟩ : y3 = .slice q3 l3 e3 ∧ y4 = .slice q4 l4 e4 := by simpa using ey0
      rw [Nat.zero_mul] at d0 d1
      have KK : Hid (∀ w', Below w3.heap.size w3 w' → w'.cell? ⟨g, i * 2, none⟩ = some (.slice q1 l1 e1) ∧ w'.cell? ⟨g, i * 2 + 1, none⟩ = some (.slice q2 l2 e2) ∧ w'.cell? ⟨g, 0, none⟩ = some (.slice q3 l3 e3) ∧ w'.cell? ⟨g, 0 + 1, none⟩ = some (.slice q4 l4 e4)) := fun w' h' => ⟨cell_later h' c0, cell_later h' c1', cell_later h' d0, cell_later h' d1⟩
      have HR : Hid (Rt w3 (.agg #[.slice q1 l1 e1, .slice q2 l2 e2]) (shX F i) (shY F i) ∧ Rt w3 (.agg #[.slice q3 l3 e3, .slice q4 l4 e4]) (shX F 0) (shY F 0)) := ⟨hR, hR0⟩
      clear c0 c1' d0 d1 hR hR0 ey ey0 hcs hgl
      have HI2 : Hid ((i : Int) < (n : Int)) := by show (i : Int) < (n : Int); omega
      have HI0 : Hid (0 < n) := by show 0 < n; omega
      obtain ⟨f0, f1, f2, f3⟩ := KK.out wr M1.out.bel
      go_upto_region 9 with fail
      go_cut [9] from 37 to 46 (fun s9 wx => s9 = .bool (zB F (i + 1)) ∧ Hid (Below wr.heap.size wr wx))
      case first =>
        have HC : Hid (Calls Tryz.prog 21 #[.agg #[.slice q1 l1 e1, .slice q2 l2 e2], .agg #[.slice none 0 0, .slice none 0 0]] wr fun e w' => e = .returned (.int .i64 (if shN F i = 0 then 0 else 1)) ∧ Below wr.heap.size wr w') := cmp_nought F i _ wr (HR.out.1.mono M1.out.bel)
        have HZ : Hid (zB F (i + 1) = (zB F i && decide (shN F i = 0))) := rfl
        cases hzz : zB F i with
        | false =>
          have HY : Hid (zB F i = false) := hzz
          clear hzz
          go_wp2_with fail
          go_meet
          exact ⟨by rw [HZ.out, HY.out]; rfl, Below.refl _ _⟩
        | true =>
          have HY : Hid (zB F i = true) := hzz
          clear hzz
          by_cases hN : shN F i = 0
          · rw [if_pos hN] at HC
            go_wp2_with fail
            with_reducible refine Calls.mono HC.out ?_
            rintro e w5 ⟨rfl, hb5⟩
            go_wp2_with fail
            go_meet
            exact ⟨by rw [HZ.out, HY.out]; simp [hN], hb5⟩
          rw [if_neg hN] at HC
          go_wp2_with fail
          with_reducible refine Calls.mono HC.out ?_
          rintro e w5 ⟨rfl, hb5⟩
          go_wp2_with fail
          go_meet
          exact ⟨by rw [HZ.out, HY.out]; simp [hN], hb5⟩
      case rest =>
        obtain ⟨rfl, hcu⟩ := hcut
        have M2 : Hid (Mb w3 wc u11 Lm i (mX F (1 + z3)) (mY F (1 + z3))) := M1.out.go hcu.out
        clear hcu M1 f0 f1 f2 f3
        obtain ⟨f0, f1, f2, f3⟩ := KK.out wc M2.out.bel
        obtain ⟨zc, hzc, cF⟩ := cmp_first F i _ _ wc (HR.out.1.mono M2.out.bel) (HR.out.2.mono M2.out.bel)
        go_upto_region 10 with fail
        go_cut [10] from 47 to 58 (fun s10 wx => s10 = .bool (sB F (i + 1)) ∧ Hid (Below wc.heap.size wc wx))
        case first =>
          have HZ : Hid (sB F (i + 1) = (sB F i && decide (shN F i * shD F 0 = shN F 0 * shD F i))) := rfl
          have HC : Hid (∀ w', Below wc.heap.size wc w' → Calls Tryz.prog 21 #[.agg #[.slice q1 l1 e1, .slice q2 l2 e2], .agg #[.slice q3 l3 e3, .slice q4 l4 e4]] w' fun e w9 => e = .returned (.int .i64 zc) ∧ Below w'.heap.size w' w9) := cF
          have HZc : Hid (zc = 0 ↔ shN F i * shD F 0 = shN F 0 * shD F i) := hzc
          clear hzc cF
          cases hzz : sB F i with
          | false =>
            have HY : Hid (sB F i = false) := hzz
            clear hzz
            refine wp_region_inv (fun L vs w' => (JB wc [sEq (.bool false), sEq (.bool false), sAny, sAny, sAny, sAny, sAny, sAny, sAny, sAny, sAny, sEq (.bool false), sEq (.bool false)] []) L vs w' ∧ (L 12 = true → L 0 = true)) 131 (by kernel_rfl) rfl (by kernel_rfl) ⟨JB.start _ _ _, fun h => by cases h⟩ (fun HG HN => ⟨?_, ?_, ?_, ?_, ?_, ?_, ?_, ?_, ?_, ?_, ?_, ?_, ?_, trivial⟩) ?_
            · intro L vs a w' hJ hF hP hL
              have hC := hJ.2
              replace hJ := hJ.1
              have q10 : (a.tmps[10]?).getD undef = .bool false := hF.oldBut 10 12 (cl_no hC hL) rfl
              exact run_val (v := .bool false) rfl (by simp [execOp, go_sem, q10]) ⟨_, rfl, hJ.step hL rfl (Below.refl _ _) (by exact rfl), fun _ => by simp [updB]⟩
            · intro L vs a w' hJ hF hP hL
              have hC := hJ.2
              replace hJ := hJ.1
              have p0 : L 0 = true := hP ⟨0, .data⟩ (by simp) rfl
              have s0 : vs 0 = .bool false := hJ.sp 0 p0
              have q47 := hF.slot 0 47 rfl p0
              exact run_val (v := .bool false) rfl (by simp [execOp, go_sem, q47, s0]) ⟨_, rfl, hJ.step hL rfl (Below.refl _ _) (by exact rfl), cl_keep hC (by decide) (by decide)⟩
            · intro L vs a w' hJ hF hP hL
              have hC := hJ.2
              replace hJ := hJ.1
              exact run_skip (hF.wants 131 HN HG _ 1 true false rfl rfl (hP ⟨1, .guard⟩ (by simp) rfl) (hJ.sp 1 (hP ⟨1, .guard⟩ (by simp) rfl))) (⟨hJ.step hL rfl (Below.refl _ _) trivial, cl_keep hC (by decide) (by decide)⟩)
            · intro L vs a w' hJ hF hP hL
              have hC := hJ.2
              replace hJ := hJ.1
              exact run_skip (hF.wants 131 HN HG _ 1 true false rfl rfl (hP ⟨1, .guard⟩ (by simp) rfl) (hJ.sp 1 (hP ⟨1, .guard⟩ (by simp) rfl))) (⟨hJ.step hL rfl (Below.refl _ _) trivial, cl_keep hC (by decide) (by decide)⟩)
            · intro L vs a w' hJ hF hP hL
              have hC := hJ.2
              replace hJ := hJ.1
              exact run_skip (hF.wants 131 HN HG _ 1 true false rfl rfl (hP ⟨1, .guard⟩ (by simp) rfl) (hJ.sp 1 (hP ⟨1, .guard⟩ (by simp) rfl))) (⟨hJ.step hL rfl (Below.refl _ _) trivial, cl_keep hC (by decide) (by decide)⟩)
            · intro L vs a w' hJ hF hP hL
              have hC := hJ.2
              replace hJ := hJ.1
              exact run_skip (hF.wants 131 HN HG _ 1 true false rfl rfl (hP ⟨1, .guard⟩ (by simp) rfl) (hJ.sp 1 (hP ⟨1, .guard⟩ (by simp) rfl))) (⟨hJ.step hL rfl (Below.refl _ _) trivial, cl_keep hC (by decide) (by decide)⟩)
            · intro L vs a w' hJ hF hP hL
              have hC := hJ.2
              replace hJ := hJ.1
              exact run_skip (hF.wants 131 HN HG _ 1 true false rfl rfl (hP ⟨1, .guard⟩ (by simp) rfl) (hJ.sp 1 (hP ⟨1, .guard⟩ (by simp) rfl))) (⟨hJ.step hL rfl (Below.refl _ _) trivial, cl_keep hC (by decide) (by decide)⟩)
            · intro L vs a w' hJ hF hP hL
              have hC := hJ.2
              replace hJ := hJ.1
              exact run_skip (hF.wants 131 HN HG _ 1 true false rfl rfl (hP ⟨1, .guard⟩ (by simp) rfl) (hJ.sp 1 (hP ⟨1, .guard⟩ (by simp) rfl))) (⟨hJ.step hL rfl (Below.refl _ _) trivial, cl_keep hC (by decide) (by decide)⟩)
            · intro L vs a w' hJ hF hP hL
              have hC := hJ.2
              replace hJ := hJ.1
              exact run_skip (hF.wants 131 HN HG _ 1 true false rfl rfl (hP ⟨1, .guard⟩ (by simp) rfl) (hJ.sp 1 (hP ⟨1, .guard⟩ (by simp) rfl))) (⟨hJ.step hL rfl (Below.refl _ _) trivial, cl_keep hC (by decide) (by decide)⟩)
            · intro L vs a w' hJ hF hP hL
              have hC := hJ.2
              replace hJ := hJ.1
              exact run_skip (hF.wants 131 HN HG _ 1 true false rfl rfl (hP ⟨1, .guard⟩ (by simp) rfl) (hJ.sp 1 (hP ⟨1, .guard⟩ (by simp) rfl))) (⟨hJ.step hL rfl (Below.refl _ _) trivial, cl_keep hC (by decide) (by decide)⟩)
            · intro L vs a w' hJ hF hP hL
              have hC := hJ.2
              replace hJ := hJ.1
              exact run_skip (hF.wants 131 HN HG _ 1 true false rfl rfl (hP ⟨1, .guard⟩ (by simp) rfl) (hJ.sp 1 (hP ⟨1, .guard⟩ (by simp) rfl))) (⟨hJ.step hL rfl (Below.refl _ _) trivial, cl_keep hC (by decide) (by decide)⟩)
            · intro L vs a w' hJ hF hP hL
              have hC := hJ.2
              replace hJ := hJ.1
              have p1 : L 1 = true := hP ⟨1, .data⟩ (by simp) rfl
              have s1 : vs 1 = .bool false := hJ.sp 1 p1
              have q48 := hF.slot 1 48 rfl p1
              exact run_val (v := .bool false) rfl (by simp [execOp, go_sem, q48, s1]) ⟨_, rfl, hJ.step hL rfl (Below.refl _ _) (by exact rfl), cl_keep hC (by decide) (by decide)⟩
            · intro L vs a w' hJ hF hP hL
              have hC := hJ.2
              replace hJ := hJ.1
              have p11 : L 11 = true := hP ⟨11, .data⟩ (by simp) rfl
              have s11 : vs 11 = .bool false := hJ.sp 11 p11
              have q58 := hF.slot 11 58 rfl p11
              exact run_val (v := .bool false) rfl (by simp [execOp, go_sem, q58, s11]) ⟨_, rfl, hJ.step hL rfl (Below.refl _ _) (by exact rfl), (cl_last (hP ⟨0, .phase⟩ (by simp) rfl))⟩
            intro L vs w' hA hJ
            replace hJ := hJ.1
            have s12 : vs 12 = .bool false := hJ.sp 12 (hA 12 (by simp))
            simp only [putL, Act.put, List.setIfInBounds_toArray, List.set_cons_zero, List.set_cons_succ, Nat.reduceAdd]
            simp only [s12]
            have HBL : Hid (Below wc.heap.size wc w') := hJ.bel
            clear s12 hJ hA
            go_wp2_with fail
            go_meet
            exact ⟨by rw [HZ.out, HY.out]; rfl, HBL.out⟩
          | true =>
            have HY : Hid (sB F i = true) := hzz
            clear hzz
            rcases Classical.em (zc = 0) with hN | hN
            · have HZ1 : Hid (shN F i * shD F 0 = shN F 0 * shD F i) := HZc.out.1 hN
              clear HZc
              subst hN
              refine wp_region_inv (fun L vs w' => (JB wc [sEq (.bool true), sEq (.bool true), sEq (.slice (some ⟨g, 0, none⟩) n cap), sEq (.int .i64 (i : Int)), sEq (.pointer (some ⟨g, i * 2, none⟩)), sEq (.agg #[.slice q1 l1 e1, .slice q2 l2 e2]), sEq (.slice (some ⟨g, 0, none⟩) n cap), sEq (.pointer (some ⟨g, 0, none⟩)), sEq (.agg #[.slice q3 l3 e3, .slice q4 l4 e4]), sEq (.int .i64 0), sEq (.bool true), sEq (.bool true), sEq (.bool true)] []) L vs w' ∧ (L 12 = true → L 0 = true)) 131 (by kernel_rfl) rfl (by kernel_rfl) ⟨JB.start _ _ _, fun h => by cases h⟩ (fun HG HN => ⟨?_, ?_, ?_, ?_, ?_, ?_, ?_, ?_, ?_, ?_, ?_, ?_, ?_, trivial⟩) ?_
              · intro L vs a w' hJ hF hP hL
                have hC := hJ.2
                replace hJ := hJ.1
                have q10 : (a.tmps[10]?).getD undef = .bool true := hF.oldBut 10 12 (cl_no hC hL) rfl
                exact run_val (v := .bool true) rfl (by simp [execOp, go_sem, q10]) ⟨_, rfl, hJ.step hL rfl (Below.refl _ _) (by exact rfl), fun _ => by simp [updB]⟩
              · intro L vs a w' hJ hF hP hL
                have hC := hJ.2
                replace hJ := hJ.1
                have p0 : L 0 = true := hP ⟨0, .data⟩ (by simp) rfl
                have s0 : vs 0 = .bool true := hJ.sp 0 p0
                have q47 := hF.slot 0 47 rfl p0
                exact run_val (v := .bool true) rfl (by simp [execOp, go_sem, q47, s0]) ⟨_, rfl, hJ.step hL rfl (Below.refl _ _) (by exact rfl), cl_keep hC (by decide) (by decide)⟩
              · intro L vs a w' hJ hF hP hL
                have hC := hJ.2
                replace hJ := hJ.1
                have q5 : (a.tmps[5]?).getD undef = .slice (some ⟨g, 0, none⟩) n cap := hF.old 5 rfl
                exact run_val (v := .slice (some ⟨g, 0, none⟩) n cap) (hF.wants 131 HN HG _ 1 true true rfl rfl (hP ⟨1, .guard⟩ (by simp) rfl) (hJ.sp 1 (hP ⟨1, .guard⟩ (by simp) rfl))) (by simp [execOp, go_sem, q5]) ⟨_, rfl, hJ.step hL rfl (Below.refl _ _) (by exact rfl), cl_keep hC (by decide) (by decide)⟩
              · intro L vs a w' hJ hF hP hL
                have hC := hJ.2
                replace hJ := hJ.1
                have q12 : (a.tmps[12]?).getD undef = .int .i64 (i : Int) := hF.old 12 rfl
                exact run_val (v := .int .i64 (i : Int)) (hF.wants 131 HN HG _ 1 true true rfl rfl (hP ⟨1, .guard⟩ (by simp) rfl) (hJ.sp 1 (hP ⟨1, .guard⟩ (by simp) rfl))) (by simp [execOp, go_sem, q12]) ⟨_, rfl, hJ.step hL rfl (Below.refl _ _) (by exact rfl), cl_keep hC (by decide) (by decide)⟩
              · intro L vs a w' hJ hF hP hL
                have hC := hJ.2
                replace hJ := hJ.1
                have p2 : L 2 = true := hP ⟨2, .data⟩ (by simp) rfl
                have s2 : vs 2 = .slice (some ⟨g, 0, none⟩) n cap := hJ.sp 2 p2
                have q49 := hF.slot 2 49 rfl p2
                have p3 : L 3 = true := hP ⟨3, .data⟩ (by simp) rfl
                have s3 : vs 3 = .int .i64 (i : Int) := hJ.sp 3 p3
                have q50 := hF.slot 3 50 rfl p3
                exact run_val (v := .pointer (some ⟨g, i * 2, none⟩)) (hF.wants 131 HN HG _ 1 true true rfl rfl (hP ⟨1, .guard⟩ (by simp) rfl) (hJ.sp 1 (hP ⟨1, .guard⟩ (by simp) rfl))) (by simp [execOp, go_sem, q49, s2, q50, s3, HI2.out]) ⟨_, rfl, hJ.step hL rfl (Below.refl _ _) (by exact rfl), cl_keep hC (by decide) (by decide)⟩
              · intro L vs a w' hJ hF hP hL
                have hC := hJ.2
                replace hJ := hJ.1
                have p4 : L 4 = true := hP ⟨4, .data⟩ (by simp) rfl
                have s4 : vs 4 = .pointer (some ⟨g, i * 2, none⟩) := hJ.sp 4 p4
                have q51 := hF.slot 4 51 rfl p4
                have cb := cell_later hJ.bel f0
                have cc := cell_later hJ.bel f1
                exact run_val (v := .agg #[.slice q1 l1 e1, .slice q2 l2 e2]) (hF.wants 131 HN HG _ 1 true true rfl rfl (hP ⟨1, .guard⟩ (by simp) rfl) (hJ.sp 1 (hP ⟨1, .guard⟩ (by simp) rfl))) (by simp [execOp, go_sem, q51, s4, cb, cc]) ⟨_, rfl, hJ.step hL rfl (Below.refl _ _) (by exact rfl), cl_keep hC (by decide) (by decide)⟩
              · intro L vs a w' hJ hF hP hL
                have hC := hJ.2
                replace hJ := hJ.1
                have q5 : (a.tmps[5]?).getD undef = .slice (some ⟨g, 0, none⟩) n cap := hF.old 5 rfl
                exact run_val (v := .slice (some ⟨g, 0, none⟩) n cap) (hF.wants 131 HN HG _ 1 true true rfl rfl (hP ⟨1, .guard⟩ (by simp) rfl) (hJ.sp 1 (hP ⟨1, .guard⟩ (by simp) rfl))) (by simp [execOp, go_sem, q5]) ⟨_, rfl, hJ.step hL rfl (Below.refl _ _) (by exact rfl), cl_keep hC (by decide) (by decide)⟩
              · intro L vs a w' hJ hF hP hL
                have hC := hJ.2
                replace hJ := hJ.1
                have p6 : L 6 = true := hP ⟨6, .data⟩ (by simp) rfl
                have s6 : vs 6 = .slice (some ⟨g, 0, none⟩) n cap := hJ.sp 6 p6
                have q53 := hF.slot 6 53 rfl p6
                exact run_val (v := .pointer (some ⟨g, 0, none⟩)) (hF.wants 131 HN HG _ 1 true true rfl rfl (hP ⟨1, .guard⟩ (by simp) rfl) (hJ.sp 1 (hP ⟨1, .guard⟩ (by simp) rfl))) (by simp [execOp, go_sem, q53, s6, HI0.out]) ⟨_, rfl, hJ.step hL rfl (Below.refl _ _) (by exact rfl), cl_keep hC (by decide) (by decide)⟩
              · intro L vs a w' hJ hF hP hL
                have hC := hJ.2
                replace hJ := hJ.1
                have p7 : L 7 = true := hP ⟨7, .data⟩ (by simp) rfl
                have s7 : vs 7 = .pointer (some ⟨g, 0, none⟩) := hJ.sp 7 p7
                have q54 := hF.slot 7 54 rfl p7
                have cb := cell_later hJ.bel f2
                have cc := cell_later hJ.bel f3
                exact run_val (v := .agg #[.slice q3 l3 e3, .slice q4 l4 e4]) (hF.wants 131 HN HG _ 1 true true rfl rfl (hP ⟨1, .guard⟩ (by simp) rfl) (hJ.sp 1 (hP ⟨1, .guard⟩ (by simp) rfl))) (by simp [execOp, go_sem, q54, s7, cb, cc]) ⟨_, rfl, hJ.step hL rfl (Below.refl _ _) (by exact rfl), cl_keep hC (by decide) (by decide)⟩
              · intro L vs a w' hJ hF hP hL
                have hC := hJ.2
                replace hJ := hJ.1
                have p5 : L 5 = true := hP ⟨5, .data⟩ (by simp) rfl
                have s5 : vs 5 = .agg #[.slice q1 l1 e1, .slice q2 l2 e2] := hJ.sp 5 p5
                have q52 := hF.slot 5 52 rfl p5
                have p8 : L 8 = true := hP ⟨8, .data⟩ (by simp) rfl
                have s8 : vs 8 = .agg #[.slice q3 l3 e3, .slice q4 l4 e4] := hJ.sp 8 p8
                have q55 := hF.slot 8 55 rfl p8
                refine run_call (f := 21) (args := #[.agg #[.slice q1 l1 e1, .slice q2 l2 e2], .agg #[.slice q3 l3 e3, .slice q4 l4 e4]]) (hF.wants 131 HN HG _ 1 true true rfl rfl (hP ⟨1, .guard⟩ (by simp) rfl) (hJ.sp 1 (hP ⟨1, .guard⟩ (by simp) rfl))) (by simp [go_sem, q52, s5, q55, s8]) (HC.out _ hJ.bel) ?_
                rintro e w2 ⟨rfl, hb⟩
                exact ⟨_, rfl, _, rfl, hJ.step hL rfl hb (by exact rfl), cl_keep hC (by decide) (by decide)⟩
              · intro L vs a w' hJ hF hP hL
                have hC := hJ.2
                replace hJ := hJ.1
                have p9 : L 9 = true := hP ⟨9, .data⟩ (by simp) rfl
                have s9 : vs 9 = .int .i64 0 := hJ.sp 9 p9
                have q56 := hF.slot 9 56 rfl p9
                exact run_val (v := .bool true) (hF.wants 131 HN HG _ 1 true true rfl rfl (hP ⟨1, .guard⟩ (by simp) rfl) (hJ.sp 1 (hP ⟨1, .guard⟩ (by simp) rfl))) (by simp [execOp, go_sem, q56, s9]) ⟨_, rfl, hJ.step hL rfl (Below.refl _ _) (by exact rfl), cl_keep hC (by decide) (by decide)⟩
              · intro L vs a w' hJ hF hP hL
                have hC := hJ.2
                replace hJ := hJ.1
                have p1 : L 1 = true := hP ⟨1, .data⟩ (by simp) rfl
                have s1 : vs 1 = .bool true := hJ.sp 1 p1
                have q48 := hF.slot 1 48 rfl p1
                have p10 : L 10 = true := hP ⟨10, .data⟩ (by simp) rfl
                have s10 : vs 10 = .bool true := hJ.sp 10 p10
                have q57 := hF.slot 10 57 rfl p10
                exact run_val (v := .bool true) rfl (by simp [execOp, go_sem, q48, s1, q57, s10]) ⟨_, rfl, hJ.step hL rfl (Below.refl _ _) (by exact rfl), cl_keep hC (by decide) (by decide)⟩
              · intro L vs a w' hJ hF hP hL
                have hC := hJ.2
                replace hJ := hJ.1
                have p11 : L 11 = true := hP ⟨11, .data⟩ (by simp) rfl
                have s11 : vs 11 = .bool true := hJ.sp 11 p11
                have q58 := hF.slot 11 58 rfl p11
                exact run_val (v := .bool true) rfl (by simp [execOp, go_sem, q58, s11]) ⟨_, rfl, hJ.step hL rfl (Below.refl _ _) (by exact rfl), (cl_last (hP ⟨0, .phase⟩ (by simp) rfl))⟩
              intro L vs w' hA hJ
              replace hJ := hJ.1
              have s12 : vs 12 = .bool true := hJ.sp 12 (hA 12 (by simp))
              simp only [putL, Act.put, List.setIfInBounds_toArray, List.set_cons_zero, List.set_cons_succ, Nat.reduceAdd]
              simp only [s12]
              have HBL : Hid (Below wc.heap.size wc w') := hJ.bel
              clear s12 hJ hA
              go_wp2_with fail
              go_meet
              exact ⟨by rw [HZ.out, HY.out]; simp [HZ1.out], HBL.out⟩
            have hn : ¬ shN F i * shD F 0 = shN F 0 * shD F i := fun e => hN (HZc.out.2 e)
            refine wp_region_inv (fun L vs w' => (JB wc [sEq (.bool true), sEq (.bool true), sEq (.slice (some ⟨g, 0, none⟩) n cap), sEq (.int .i64 (i : Int)), sEq (.pointer (some ⟨g, i * 2, none⟩)), sEq (.agg #[.slice q1 l1 e1, .slice q2 l2 e2]), sEq (.slice (some ⟨g, 0, none⟩) n cap), sEq (.pointer (some ⟨g, 0, none⟩)), sEq (.agg #[.slice q3 l3 e3, .slice q4 l4 e4]), sEq (.int .i64 zc), sEq (.bool false), sEq (.bool false), sEq (.bool false)] []) L vs w' ∧ (L 12 = true → L 0 = true)) 131 (by kernel_rfl) rfl (by kernel_rfl) ⟨JB.start _ _ _, fun h => by cases h⟩ (fun HG HN => ⟨?_, ?_, ?_, ?_, ?_, ?_, ?_, ?_, ?_, ?_, ?_, ?_, ?_, trivial⟩) ?_
            · intro L vs a w' hJ hF hP hL
              have hC := hJ.2
              replace hJ := hJ.1
              have q10 : (a.tmps[10]?).getD undef = .bool true := hF.oldBut 10 12 (cl_no hC hL) rfl
              exact run_val (v := .bool true) rfl (by simp [execOp, go_sem, q10]) ⟨_, rfl, hJ.step hL rfl (Below.refl _ _) (by exact rfl), fun _ => by simp [updB]⟩
            · intro L vs a w' hJ hF hP hL
              have hC := hJ.2
              replace hJ := hJ.1
              have p0 : L 0 = true := hP ⟨0, .data⟩ (by simp) rfl
              have s0 : vs 0 = .bool true := hJ.sp 0 p0
              have q47 := hF.slot 0 47 rfl p0
              exact run_val (v := .bool true) rfl (by simp [execOp, go_sem, q47, s0]) ⟨_, rfl, hJ.step hL rfl (Below.refl _ _) (by exact rfl), cl_keep hC (by decide) (by decide)⟩
            · intro L vs a w' hJ hF hP hL
              have hC := hJ.2
              replace hJ := hJ.1
              have q5 : (a.tmps[5]?).getD undef = .slice (some ⟨g, 0, none⟩) n cap := hF.old 5 rfl
              exact run_val (v := .slice (some ⟨g, 0, none⟩) n cap) (hF.wants 131 HN HG _ 1 true true rfl rfl (hP ⟨1, .guard⟩ (by simp) rfl) (hJ.sp 1 (hP ⟨1, .guard⟩ (by simp) rfl))) (by simp [execOp, go_sem, q5]) ⟨_, rfl, hJ.step hL rfl (Below.refl _ _) (by exact rfl), cl_keep hC (by decide) (by decide)⟩
            · intro L vs a w' hJ hF hP hL
              have hC := hJ.2
              replace hJ := hJ.1
              have q12 : (a.tmps[12]?).getD undef = .int .i64 (i : Int) := hF.old 12 rfl
              exact run_val (v := .int .i64 (i : Int)) (hF.wants 131 HN HG _ 1 true true rfl rfl (hP ⟨1, .guard⟩ (by simp) rfl) (hJ.sp 1 (hP ⟨1, .guard⟩ (by simp) rfl))) (by simp [execOp, go_sem, q12]) ⟨_, rfl, hJ.step hL rfl (Below.refl _ _) (by exact rfl), cl_keep hC (by decide) (by decide)⟩
            · intro L vs a w' hJ hF hP hL
              have hC := hJ.2
              replace hJ := hJ.1
              have p2 : L 2 = true := hP ⟨2, .data⟩ (by simp) rfl
              have s2 : vs 2 = .slice (some ⟨g, 0, none⟩) n cap := hJ.sp 2 p2
              have q49 := hF.slot 2 49 rfl p2
              have p3 : L 3 = true := hP ⟨3, .data⟩ (by simp) rfl
              have s3 : vs 3 = .int .i64 (i : Int) := hJ.sp 3 p3
              have q50 := hF.slot 3 50 rfl p3
              exact run_val (v := .pointer (some ⟨g, i * 2, none⟩)) (hF.wants 131 HN HG _ 1 true true rfl rfl (hP ⟨1, .guard⟩ (by simp) rfl) (hJ.sp 1 (hP ⟨1, .guard⟩ (by simp) rfl))) (by simp [execOp, go_sem, q49, s2, q50, s3, HI2.out]) ⟨_, rfl, hJ.step hL rfl (Below.refl _ _) (by exact rfl), cl_keep hC (by decide) (by decide)⟩
            · intro L vs a w' hJ hF hP hL
              have hC := hJ.2
              replace hJ := hJ.1
              have p4 : L 4 = true := hP ⟨4, .data⟩ (by simp) rfl
              have s4 : vs 4 = .pointer (some ⟨g, i * 2, none⟩) := hJ.sp 4 p4
              have q51 := hF.slot 4 51 rfl p4
              have cb := cell_later hJ.bel f0
              have cc := cell_later hJ.bel f1
              exact run_val (v := .agg #[.slice q1 l1 e1, .slice q2 l2 e2]) (hF.wants 131 HN HG _ 1 true true rfl rfl (hP ⟨1, .guard⟩ (by simp) rfl) (hJ.sp 1 (hP ⟨1, .guard⟩ (by simp) rfl))) (by simp [execOp, go_sem, q51, s4, cb, cc]) ⟨_, rfl, hJ.step hL rfl (Below.refl _ _) (by exact rfl), cl_keep hC (by decide) (by decide)⟩
            · intro L vs a w' hJ hF hP hL
              have hC := hJ.2
              replace hJ := hJ.1
              have q5 : (a.tmps[5]?).getD undef = .slice (some ⟨g, 0, none⟩) n cap := hF.old 5 rfl
              exact run_val (v := .slice (some ⟨g, 0, none⟩) n cap) (hF.wants 131 HN HG _ 1 true true rfl rfl (hP ⟨1, .guard⟩ (by simp) rfl) (hJ.sp 1 (hP ⟨1, .guard⟩ (by simp) rfl))) (by simp [execOp, go_sem, q5]) ⟨_, rfl, hJ.step hL rfl (Below.refl _ _) (by exact rfl), cl_keep hC (by decide) (by decide)⟩
            · intro L vs a w' hJ hF hP hL
              have hC := hJ.2
              replace hJ := hJ.1
              have p6 : L 6 = true := hP ⟨6, .data⟩ (by simp) rfl
              have s6 : vs 6 = .slice (some ⟨g, 0, none⟩) n cap := hJ.sp 6 p6
              have q53 := hF.slot 6 53 rfl p6
              exact run_val (v := .pointer (some ⟨g, 0, none⟩)) (hF.wants 131 HN HG _ 1 true true rfl rfl (hP ⟨1, .guard⟩ (by simp) rfl) (hJ.sp 1 (hP ⟨1, .guard⟩ (by simp) rfl))) (by simp [execOp, go_sem, q53, s6, HI0.out]) ⟨_, rfl, hJ.step hL rfl (Below.refl _ _) (by exact rfl), cl_keep hC (by decide) (by decide)⟩
            · intro L vs a w' hJ hF hP hL
              have hC := hJ.2
              replace hJ := hJ.1
              have p7 : L 7 = true := hP ⟨7, .data⟩ (by simp) rfl
              have s7 : vs 7 = .pointer (some ⟨g, 0, none⟩) := hJ.sp 7 p7
              have q54 := hF.slot 7 54 rfl p7
              have cb := cell_later hJ.bel f2
              have cc := cell_later hJ.bel f3
              exact run_val (v := .agg #[.slice q3 l3 e3, .slice q4 l4 e4]) (hF.wants 131 HN HG _ 1 true true rfl rfl (hP ⟨1, .guard⟩ (by simp) rfl) (hJ.sp 1 (hP ⟨1, .guard⟩ (by simp) rfl))) (by simp [execOp, go_sem, q54, s7, cb, cc]) ⟨_, rfl, hJ.step hL rfl (Below.refl _ _) (by exact rfl), cl_keep hC (by decide) (by decide)⟩
            · intro L vs a w' hJ hF hP hL
              have hC := hJ.2
              replace hJ := hJ.1
              have p5 : L 5 = true := hP ⟨5, .data⟩ (by simp) rfl
              have s5 : vs 5 = .agg #[.slice q1 l1 e1, .slice q2 l2 e2] := hJ.sp 5 p5
              have q52 := hF.slot 5 52 rfl p5
              have p8 : L 8 = true := hP ⟨8, .data⟩ (by simp) rfl
              have s8 : vs 8 = .agg #[.slice q3 l3 e3, .slice q4 l4 e4] := hJ.sp 8 p8
              have q55 := hF.slot 8 55 rfl p8
              refine run_call (f := 21) (args := #[.agg #[.slice q1 l1 e1, .slice q2 l2 e2], .agg #[.slice q3 l3 e3, .slice q4 l4 e4]]) (hF.wants 131 HN HG _ 1 true true rfl rfl (hP ⟨1, .guard⟩ (by simp) rfl) (hJ.sp 1 (hP ⟨1, .guard⟩ (by simp) rfl))) (by simp [go_sem, q52, s5, q55, s8]) (HC.out _ hJ.bel) ?_
              rintro e w2 ⟨rfl, hb⟩
              exact ⟨_, rfl, _, rfl, hJ.step hL rfl hb (by exact rfl), cl_keep hC (by decide) (by decide)⟩
            · intro L vs a w' hJ hF hP hL
              have hC := hJ.2
              replace hJ := hJ.1
              have p9 : L 9 = true := hP ⟨9, .data⟩ (by simp) rfl
              have s9 : vs 9 = .int .i64 zc := hJ.sp 9 p9
              have q56 := hF.slot 9 56 rfl p9
              exact run_val (v := .bool false) (hF.wants 131 HN HG _ 1 true true rfl rfl (hP ⟨1, .guard⟩ (by simp) rfl) (hJ.sp 1 (hP ⟨1, .guard⟩ (by simp) rfl))) (by simp [execOp, go_sem, q56, s9, hN]) ⟨_, rfl, hJ.step hL rfl (Below.refl _ _) (by exact rfl), cl_keep hC (by decide) (by decide)⟩
            · intro L vs a w' hJ hF hP hL
              have hC := hJ.2
              replace hJ := hJ.1
              have p1 : L 1 = true := hP ⟨1, .data⟩ (by simp) rfl
              have s1 : vs 1 = .bool true := hJ.sp 1 p1
              have q48 := hF.slot 1 48 rfl p1
              have p10 : L 10 = true := hP ⟨10, .data⟩ (by simp) rfl
              have s10 : vs 10 = .bool false := hJ.sp 10 p10
              have q57 := hF.slot 10 57 rfl p10
              exact run_val (v := .bool false) rfl (by simp [execOp, go_sem, q48, s1, q57, s10]) ⟨_, rfl, hJ.step hL rfl (Below.refl _ _) (by exact rfl), cl_keep hC (by decide) (by decide)⟩
            · intro L vs a w' hJ hF hP hL
              have hC := hJ.2
              replace hJ := hJ.1
              have p11 : L 11 = true := hP ⟨11, .data⟩ (by simp) rfl
              have s11 : vs 11 = .bool false := hJ.sp 11 p11
              have q58 := hF.slot 11 58 rfl p11
              exact run_val (v := .bool false) rfl (by simp [execOp, go_sem, q58, s11]) ⟨_, rfl, hJ.step hL rfl (Below.refl _ _) (by exact rfl), (cl_last (hP ⟨0, .phase⟩ (by simp) rfl))⟩
            intro L vs w' hA hJ
            replace hJ := hJ.1
            have s12 : vs 12 = .bool false := hJ.sp 12 (hA 12 (by simp))
            simp only [putL, Act.put, List.setIfInBounds_toArray, List.set_cons_zero, List.set_cons_succ, Nat.reduceAdd]
            simp only [s12]
            have HBL : Hid (Below wc.heap.size wc w') := hJ.bel
            clear s12 hJ hA
            go_wp2_with fail
            go_meet
            exact ⟨by rw [HZ.out, HY.out]; simp [hn], HBL.out⟩
        case rest =>
          obtain ⟨rfl, hcu2⟩ := hcut
          have M3 : Hid (Mb w3 wc u11 Lm i (mX F (1 + z3)) (mY F (1 + z3))) := M2.out.go hcu2.out
          clear hcu2 M2 f0 f1 f2 f3 hzc cF
          obtain ⟨f0, f1, _, _⟩ := KK.out wc M3.out.bel
          have CMI : Hid (Calls Tryz.prog 24 #[.agg #[.slice q1 l1 e1, .slice q2 l2 e2], .int .i64 (1 + (z3 : Int))] wc (MakesRB wc (mX F (1 + z3) i) (mY F (1 + z3) i) true)) := by
            have h := mul_sh F (1 + z3) i (by omega) _ wc (HR.out.1.mono M3.out.bel) (HT.out.go (bel_go S3.out.bel M3.out.bel))
            rw [show ((1 + z3 : Nat) : Int) = 1 + (z3 : Int) by omega] at h
            exact h
          go_upto_region 12 with (go_at_call 24; (with_reducible refine Calls.mono CMI.out ?_); rintro e w5 ⟨v5, rfl, hv5, hb5⟩; obtain ⟨q5, l5, e5, q6, l6, e6, rfl⟩ := rt_slices hv5)
          have bl5 := bel_al (o := .cells #[.slice q5 l5 e5, .slice q6 l6 e6] 47) (bel_refl w5)
          obtain ⟨w6, hw6⟩ : ∃ w6, w6 = w5.alloc (.cells #[.slice q5 l5 e5, .slice q6 l6 e6] 47) := ⟨_, rfl⟩
          obtain ⟨b13, hb13⟩ : ∃ b13, b13 = w5.heap.size := ⟨_, rfl⟩
          have g0 : w6.cell? ⟨b13, 0, none⟩ = some (.slice q5 l5 e5) := by rw [hw6, hb13]; simp [go_sem]
          have g1 : w6.cell? ⟨b13, 1, none⟩ = some (.slice q6 l6 e6) := by rw [hw6, hb13]; simp [go_sem]
          rw [← hw6] at bl5
          have M5 : Hid (Mb w3 w6 u11 Lm i (mX F (1 + z3)) (mY F (1 + z3))) := (M3.out.go hb5).go bl5
          have R5 : Hid (Rt w6 (.agg #[.slice q5 l5 e5, .slice q6 l6 e6]) (mX F (1 + z3) i) (mY F (1 + z3) i)) := hv5.mono bl5
          rw [← hw6, ← hb13]
          clear hw6 hb13 bl5 hb5 hv5 M3 CMI f0 f1
          have bl6 := bel_al (o := .cells #[.slice q5 l5 e5, .slice q6 l6 e6] 47) (bel_refl w6)
          have M6 : Hid (Mb w3 (w6.alloc (.cells #[.slice q5 l5 e5, .slice q6 l6 e6] 47)) u11 Lm i (mX F (1 + z3)) (mY F (1 + z3))) := M5.out.go bl6
          have R6 : Hid (Rt (w6.alloc (.cells #[.slice q5 l5 e5, .slice q6 l6 e6] 47)) (.agg #[.slice q5 l5 e5, .slice q6 l6 e6]) (mX F (1 + z3) i) (mY F (1 + z3) i)) := R5.out.mono bl6
          have hlm := M5.out.len
          clear bl6 M5 R5
          go_wp2_with (refine (id ?_ : wpList Tryz.prog _ _ (⟨some 73, _, _, _, _, _⟩ :: _) _ _); refine wp_appF rfl (.tmp 70) (.tmp 72) rfl w3.heap.size u11 Lm rfl M6.out.row w6.heap.size (.slice q5 l5 e5, .slice q6 l6 e6) rfl (by simp [go_sem]) (by simp [go_sem]) ⟨_, _, _, rfl⟩ ⟨_, _, _, rfl⟩ (by omega) M6.out.bel.size ?_; intro v7 w7 HG7)
          go_roundw
          case rel => exact ⟨i + 1, _, by omega, by go_num, rfl, rfl, M6.out.app R6.out HG7.out⟩
          case measure => simp [intOf]; omega
    obtain rfl : i = n := by omega
    have hz : zB F i = !ok := by
      have h1 := JN.out.1
      have h2 := (zB_iff F i).trans (sh_zero F i).symm
      rw [h1]
      by_cases e : nu2 (shN F) (shD F) i = 0
      · rw [h2.2 e, e]; rfl
      have h3 : zB F i = false := by
        cases h : zB F i
        · rfl
        exact absurd (h2.1 h) e
      rw [h3, decide_eq_true (show 0 < nu2 (shN F) (shD F) i by omega)]
      rfl
    have SX0 : Hid _ := (((sx_start w3).addF X3.out).addC K7.out.2).addC K7.out.1
    have SX1 : Hid _ := SX0.out.go M1.out.bel
    have BW : Hid (Below w.heap.size w wr) := bel_go S3.out.bel M1.out.bel
    have ST : Hid (∀ w', Below wr.heap.size wr w' → Calls Tryz.prog 16 #[] w' fun e w9 => e = .returned (.bool true) ∧ Below w'.heap.size w' w9) := fun w' h' => started18 w' (HT.out.go (bel_go BW.out h'))
    have y0 := SX1.out.cel b7 0 (.slice p1 n1 c1)
    have y1 := SX1.out.cel b7 1 (.slice p2 n2 c2)
    rw [hz]
    clear hz SX0
    cases ok with
    | false =>
      have hnu : nu2 (shN F) (shD F) i = 0 := by
        have h1 := JN.out.1
        by_cases e : nu2 (shN F) (shD F) i = 0
        · exact e
        rw [decide_eq_true (show 0 < nu2 (shN F) (shD F) i by omega)] at h1
        cases h1
      obtain ⟨rfl, rfl⟩ := JN.out.2.2.2.1 hnu
      have CZ : Hid (Calls Tryz.prog 21 #[.agg #[.slice p1 n1 c1, .slice p2 n2 c2], .agg #[.slice none 0 0, .slice none 0 0]] wr fun e w' => e = .returned (.int .i64 0) ∧ Below wr.heap.size wr w') := (fc_nought 1 (by omega)).cmp (fc_nought 1 (by omega)) (by omega) (by omega) (cmpI_same rfl) _ _ wr (SX1.out.fr (.agg #[.slice p1 n1 c1, .slice p2 n2 c2]) 0 1) (rt_zero wr)
      clear hnu JN
      go_wp2_with fail
      with_reducible refine Calls.mono CZ.out ?_
      rintro e w5 ⟨rfl, hb5⟩
      have ST5 := ST.out w5 hb5
      have HB5 : Hid (Below wr.heap.size wr w5) := hb5
      clear hb5
      go_wp2_with fail
      refine Calls.mono ST5 ?_
      rintro e w6 ⟨rfl, hb6⟩
      go_wp2_with fail
      go_ret
      exact ⟨rfl, bel_go (bel_go BW.out HB5.out) hb6⟩
    | true =>
      have hnu : 0 < nu2 (shN F) (shD F) i := by
        have h1 := JN.out.1
        exact of_decide_eq_true h1.symm
      have hi0 : 0 < i := Nat.pos_of_ne_zero fun e => by rw [e] at hnu; simp [nu2] at hnu
      have f : Fc x y (nu1 (shN F) (shD F) i * nu1 (shN F) (shD F) i) (nu2 (shN F) (shD F) i * i) 64 := JN.out.2.2.2.2 hnu
      have hnu' : 0 < nu2 (fun j => shN F j * (1 + z3)) (shD F) i := by
        rw [(nu_shk F (1 + z3) i).2]
        rw [(nu_sh F i).2] at hnu
        exact Nat.mul_pos hnu (Nat.mul_pos (by omega) (by omega))
      have HF : Hid (0 < nu2 (shN F) (shD F) i ∧ Fc x y (nu1 (shN F) (shD F) i * nu1 (shN F) (shD F) i) (nu2 (shN F) (shD F) i * i) 64 ∧ 0 < nu2 (fun j => shN F j * (1 + z3)) (shD F) i ∧ 0 < i) := ⟨hnu, f, hnu', hi0⟩
      clear hnu f hnu' y0 y1 JN
      have O1 : Hid (Calls Tryz.prog 20 #[.int .i64 1, .int .i64 1] wr (MakesRB wr 1 1 true)) := ratOf_yes 1 1 wr (by omega) (by omega) (by omega) (HT.out.go BW.out)
      go_upto_region 18 with (go_at_call 20; (with_reducible refine Calls.mono O1.out ?_); rintro e w5 ⟨v5, rfl, hv5, hb5⟩; obtain ⟨q5, l5, e5, q6, l6, e6, rfl⟩ := rt_slices hv5)
      have bl5 := bel_al (o := .cells #[.slice q5 l5 e5, .slice q6 l6 e6] 47) (bel_refl w5)
      have S5 : Hid _ := ((SX1.out.go hb5).addF hv5).box (.slice q5 l5 e5) (.slice q6 l6 e6) 47 _ rfl
      obtain ⟨w6, hw6⟩ : ∃ w6, w6 = w5.alloc (.cells #[.slice q5 l5 e5, .slice q6 l6 e6] 47) := ⟨_, rfl⟩
      obtain ⟨b15, hb15⟩ : ∃ b15, b15 = w5.heap.size := ⟨_, rfl⟩
      rw [← hw6] at bl5
      rw [← hw6, ← hb15] at S5
      have B6 : Hid (Below wr.heap.size wr w6) := bel_go hb5 bl5
      rw [← hw6, ← hb15]
      clear hw6 hb15 bl5 hb5 hv5 SX1 O1
      have O2 : Hid (Calls Tryz.prog 20 #[.int .i64 1, .int .i64 (i : Int)] w6 (MakesRB w6 1 i true)) := by
        have h := ratOf_yes 1 i w6 (by omega) (by omega) HF.out.2.2.2 (HT.out.go (bel_go BW.out B6.out))
        rw [Nat.gcd_one_left, Nat.div_one, Nat.div_one] at h
        exact h
      go_upto_region 19 with (go_at_call 20; (with_reducible refine Calls.mono O2.out ?_); rintro e w7 ⟨v7, rfl, hv7, hb7⟩; obtain ⟨q7, l7, e7, q8, l8, e8, rfl⟩ := rt_slices hv7)
      have bl7 := bel_al (o := .cells #[.slice q7 l7 e7, .slice q8 l8 e8] 47) (bel_refl w7)
      have S7 : Hid _ := ((S5.out.go hb7).addF hv7).box (.slice q7 l7 e7) (.slice q8 l8 e8) 47 _ rfl
      obtain ⟨w8, hw8⟩ : ∃ w8, w8 = w7.alloc (.cells #[.slice q7 l7 e7, .slice q8 l8 e8] 47) := ⟨_, rfl⟩
      obtain ⟨b17, hb17⟩ : ∃ b17, b17 = w7.heap.size := ⟨_, rfl⟩
      rw [← hw8] at bl7
      rw [← hw8, ← hb17] at S7
      have B8 : Hid (Below wr.heap.size wr w8) := bel_go B6.out (bel_go hb7 bl7)
      rw [← hw8, ← hb17]
      clear hw8 hb17 bl7 hb7 hv7 S5 O2 B6
      have CJ2 : Hid (Calls Tryz.prog 13 #[u11] w8 fun e w' => ∃ x y ok, JnP (fun j => shN F j * (1 + z3)) (shD F) i x y ok ∧ MakesRB w8 x y ok e w') := by
        have hM := M1.out.go B8.out
        exact jain_row _ u11 Lm i _ _ _ _ w8 hM.len hM.row (fq_mul F (1 + z3) i (by omega) (by omega)) hM.ent (HT.out.go (bel_go BW.out B8.out))
      go_upto_region 20 with (go_at_call 13; (with_reducible refine Calls.mono CJ2.out ?_); rintro e w9 ⟨x', y', ok', hjn, v9, rfl, hv9, hb9⟩; obtain ⟨q9, l9, e9, qa, la, ea, rfl⟩ := rt_slices hv9)
      obtain rfl : ok' = true := by rw [hjn.1]; exact decide_eq_true HF.out.2.2.1
      obtain ⟨rfl, rfl, t1, t2, t3⟩ := jain_tells F i (1 + z3) (by omega) HF.out.1 HF.out.2.1 (hjn.2.2.2.2 HF.out.2.2.1)
      have S9 : Hid _ := ((S7.out.go hb9).addF hv9).box (.slice q9 l9 e9) (.slice qa la ea) 47 _ rfl
      obtain ⟨wa, hwa⟩ : ∃ wa, wa = w9.alloc (.cells #[.slice q9 l9 e9, .slice qa la ea] 47) := ⟨_, rfl⟩
      obtain ⟨b19, hb19⟩ : ∃ b19, b19 = w9.heap.size := ⟨_, rfl⟩
      have bl9 := bel_al (o := .cells #[.slice q9 l9 e9, .slice qa la ea] 47) (bel_refl w9)
      rw [← hwa] at bl9
      rw [← hwa, ← hb19] at S9
      have BA : Hid (Below wr.heap.size wr wa) := bel_go B8.out (bel_go hb9 bl9)
      rw [← hwa, ← hb19]
      clear hwa hb19 bl9 hb9 hv9 S7 CJ2 B8 hjn
      obtain ⟨N, hN⟩ : ∃ N, N = nu1 (shN F) (shD F) i * nu1 (shN F) (shD F) i := ⟨_, rfl⟩
      obtain ⟨D, hD⟩ : ∃ D, D = nu2 (shN F) (shD F) i * i := ⟨_, rfl⟩
      have HT3 : Hid (N ≤ D ∧ D ≤ N * i ∧ (sB F i = true ↔ N = D)) := by
        rw [hN, hD]
        exact ⟨t1, t2, (sB_iff F i).trans t3.symm⟩
      have HFc : Hid (Fc x' y' N D 64) := by rw [hN, hD]; exact HF.out.2.1
      clear t1 t2 t3 hN hD
      have RX := S9.out.fr (.agg #[.slice p1 n1 c1, .slice p2 n2 c2]) x' y'
      have RY := S9.out.fr (.agg #[.slice q9 l9 e9, .slice qa la ea]) x' y'
      have R1 := S9.out.fr (.agg #[.slice q5 l5 e5, .slice q6 l6 e6]) 1 1
      have RL := S9.out.fr (.agg #[.slice q7 l7 e7, .slice q8 l8 e8]) 1 i
      have f1 : Fc 1 1 1 1 1 := ⟨by simp, by omega, by omega, rfl, by rw [P_one]; omega, by rw [P_one]; omega⟩
      have fi : Fc 1 i 1 i 1 := ⟨by simp, HF.out.2.2.2, HF.out.2.2.2, rfl, by rw [P_one]; omega, by rw [P_one]; omega⟩
      have C1 : Hid (∀ w', Below wa.heap.size wa w' → Calls Tryz.prog 21 #[.agg #[.slice q9 l9 e9, .slice qa la ea], .agg #[.slice p1 n1 c1, .slice p2 n2 c2]] w' fun e w9 => e = .returned (.int .i64 0) ∧ Hid (Below w'.heap.size w' w9)) := fun w' h' => HFc.out.cmp HFc.out (by omega) (by omega) (cmpI_same rfl) _ _ w' (RY.mono h') (RX.mono h')
      obtain ⟨za, hza⟩ : ∃ za, za = cmpI (N * 1) (1 * D) := ⟨_, rfl⟩
      obtain ⟨zb, hzb⟩ : ∃ zb, zb = cmpI (N * i) (1 * D) := ⟨_, rfl⟩
      have C2 : Hid (∀ w', Below wa.heap.size wa w' → Calls Tryz.prog 21 #[.agg #[.slice p1 n1 c1, .slice p2 n2 c2], .agg #[.slice q5 l5 e5, .slice q6 l6 e6]] w' fun e w9 => e = .returned (.int .i64 za) ∧ Hid (Below w'.heap.size w' w9)) := fun w' h' => HFc.out.cmp f1 (by omega) (by omega) hza.symm _ _ w' (RX.mono h') (R1.mono h')
      have C3 : Hid (∀ w', Below wa.heap.size wa w' → Calls Tryz.prog 21 #[.agg #[.slice p1 n1 c1, .slice p2 n2 c2], .agg #[.slice q7 l7 e7, .slice q8 l8 e8]] w' fun e w9 => e = .returned (.int .i64 zb) ∧ Hid (Below w'.heap.size w' w9)) := fun w' h' => HFc.out.cmp fi (by omega) (by omega) hzb.symm _ _ w' (RX.mono h') (RL.mono h')
      have ha1 : za ≤ 0 := by
        have := HT3.out.1
        rw [hza]; unfold cmpI; split <;> first | omega | (split <;> omega)
      have hb1 : zb ≥ 0 := by
        have := HT3.out.2.1
        rw [hzb]; unfold cmpI; split <;> first | omega | (split <;> omega)
      have ha2 : za = 0 ↔ sB F i = true := by
        rw [HT3.out.2.2, hza]; unfold cmpI; split <;> first | omega | (split <;> omega)
      have HA2 : Hid (za = 0 ↔ sB F i = true) := ha2
      have y0 := S9.out.cel b7 0 (.slice p1 n1 c1)
      have y1 := S9.out.cel b7 1 (.slice p2 n2 c2)
      have y2 := S9.out.cel b15 0 (.slice q5 l5 e5)
      have y3 := S9.out.cel b15 1 (.slice q6 l6 e6)
      have y4 := S9.out.cel b17 0 (.slice q7 l7 e7)
      have y5 := S9.out.cel b17 1 (.slice q8 l8 e8)
      have y6 := S9.out.cel b19 0 (.slice q9 l9 e9)
      have y7 := S9.out.cel b19 1 (.slice qa la ea)
      clear RX RY R1 RL f1 fi hza hzb ha2 HT3 HFc S9
      go_wp2_with fail
      with_reducible refine Calls.mono (C1.out wa (Below.refl _ _)) ?_
      rintro e wb ⟨rfl, hbb⟩
      have Bb : Hid (Below wa.heap.size wa wb) := hbb.out
      have a0 := cell_later hbb.out y0
      have a1 := cell_later hbb.out y1
      have a2 := cell_later hbb.out y2
      have a3 := cell_later hbb.out y3
      clear hbb
      go_wp2_with fail
      with_reducible refine Calls.mono (C2.out wb Bb.out) ?_
      rintro e wc2 ⟨rfl, hbc⟩
      have Bc : Hid (Below wa.heap.size wa wc2) := bel_go Bb.out hbc.out
      have d0 := cell_later Bc.out y0
      have d1 := cell_later Bc.out y1
      have d2 := cell_later Bc.out y4
      have d3 := cell_later Bc.out y5
      clear hbc a0 a1 a2 a3
      go_wp2_with fail
      with_reducible refine Calls.mono (C3.out wc2 Bc.out) ?_
      rintro e wd ⟨rfl, hbd⟩
      have Bd : Hid (Below wa.heap.size wa wd) := bel_go Bc.out hbd.out
      have g0 := cell_later Bd.out y0
      have g1 := cell_later Bd.out y1
      have g2 := cell_later Bd.out y2
      have g3 := cell_later Bd.out y3
      clear hbd d0 d1 d2 d3
      go_wp2_with fail
      with_reducible refine Calls.mono (C2.out wd Bd.out) ?_
      rintro e we ⟨rfl, hbe⟩
      have Be : Hid (Below wa.heap.size wa we) := bel_go Bd.out hbe.out
      clear hbe g0 g1 g2 g3 y0 y1 y2 y3 y4 y5 y6 y7
      have STe : Hid (Calls Tryz.prog 16 #[] we fun e w9 => e = .returned (.bool true) ∧ Below we.heap.size we w9) := ST.out we (bel_go BA.out Be.out)
      rcases Classical.em (za = 0) with h0 | h0
      · have hs : sB F i = true := HA2.out.1 h0
        rw [hs]
        clear hs HA2 C2
        subst h0
        go_wp2_with fail
        with_reducible refine Calls.mono STe.out ?_
        rintro e wf ⟨rfl, hbf⟩
        go_wp2_with fail
        go_ret
        exact ⟨rfl, bel_go (bel_go BW.out (bel_go BA.out Be.out)) hbf⟩
      have hs : sB F i = false := by
        cases e : sB F i
        · rfl
        exact absurd (HA2.out.2 e) h0
      rw [hs]
      clear hs HA2
      have hd : (za == 0) = false := by simp [h0]
      go_wp2_with fail
      with_reducible refine Calls.mono STe.out ?_
      rintro e wf ⟨rfl, hbf⟩
      go_wp2_with fail
      go_ret
      exact ⟨rfl, bel_go (bel_go BW.out (bel_go BA.out Be.out)) hbf⟩
end Go.Proofs.YtfkkomppfghagaaGreatDoor
namespace Go.Proofs.YtfkkomppfghagaaGreatDoor
open Go.RowKit Go.ChangeShapes
set_option maxRecDepth 100000
set_option linter.unusedVariables false
theorem ownD : ownKnob Tryz.prog.godebug = none := by kernel_rfl
theorem laidOutD : laidOutB Tryz.prog = true := by kernel_rfl
def AbC (w : World) (a : Option Addr) (len cap : Nat) (F : Nat → Nat → Int) : Prop := AbIn w a len F ∧ len ≤ 9223372036854775807
theorem pairs_c {H : Type} {enc : TypeId × Value → H} {w : World} {base : Nat} {spare : Nat → Bool} {held : Bool} {fuel : Nat} {a : Option Addr} {len cap : Nat} {x : DataW H × List MemPlace} (h : DataW.trod enc Tryz.prog w base spare held fuel 23 (Value.slice a len cap).cells.toList = some x) : ∃ F, AbC w a len cap F := by
  obtain ⟨⟨F, hF⟩, h1, h2⟩ := pairs_of h
  simp only [maxLen] at h2
  exact ⟨F, hF, by omega⟩
end Go.Proofs.YtfkkomppfghagaaGreatDoor
