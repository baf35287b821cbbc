/- Contracts of the program's functions, part 8: own work, joined in build order. -/
import Derived.Test.YtcndbmccediknaaJ7
namespace Go.Proofs.Ytcndbmccediknaa
open Go.RowKit Go.Shelf
set_option maxRecDepth 100000
set_option linter.unusedVariables false
attribute [local go_sem] Oper.semAt_some
def flatP (L : List Pk) : List Value := L.flatMap fun x => (List.range 6).map (encPk x)
theorem flatP_len (L : List Pk) : (flatP L).length = L.length * 6 := by
  unfold flatP
  induction L with
  | nil => rfl
  | cons x L ih => simp [List.flatMap_cons] at ih ⊢; omega
theorem flatP_app (L M : List Pk) : flatP (L ++ M) = flatP L ++ flatP M := by simp [flatP]
theorem flatP_at (L : List Pk) (i j : Nat) (hi : i < L.length) (hj : j < 6) : (flatP L)[i * 6 + j]? = some (encPk (L.getD i Pk.zero) j) := by
  unfold flatP
  induction L generalizing i with
  | nil => simp at hi
  | cons x L ih =>
    rw [List.flatMap_cons]
    rcases i with _ | i
    · rw [List.getElem?_append_left (by simp; omega)]
      simp [hj]
    rw [List.getElem?_append_right (by simp; omega)]
    simp only [List.length_map, List.length_range]
    rw [show (i + 1) * 6 + j - 6 = i * 6 + j by omega]
    exact ih i (by simpa using hi)
theorem flatP_q (L : List Pk) (q : Nat) (hq : q < L.length * 6) : (flatP L)[q]? = some (encPk (L.getD (q / 6) Pk.zero) (q % 6)) := by
  have := flatP_at L (q / 6) (q % 6) (by omega) (by omega)
  rw [show q / 6 * 6 + q % 6 = q by omega] at this
  exact this
structure Lq (n0 c : Nat) (w : World) (xs : List Pk) (k : Nat) (A : World) : Prop where
  box : Boxed A (n0 + 1) 33 (.slice (some ⟨n0, 0, none⟩) k c)
  row : A.ownsRow n0 49 6 (.slice (some ⟨n0, 0, none⟩) k c) k (flatP (xs.take k))
  bel : Below n0 w A
theorem ownsRow_below {A B : World} {base : Nat} {e : TypeId} {size : Nat} {v : Value} {k : Nat} {ys : List Value} (h : A.ownsRow base e size v k ys) (hB : Below A.heap.size A B) : B.ownsRow base e size v k ys :=
  h.kept (row := none) ⟨hB.os, hB.tape, hB.output, hB.size, fun k hk _ => hB.block k hk⟩ (by
    cases v.ownBlock
    · exact .inl rfl
    exact .inr (by simp))
theorem Lq.go {n0 c : Nat} {w : World} {xs : List Pk} {k : Nat} {A B : World} (h : Lq n0 c w xs k A) (hB : Below A.heap.size A B) : Lq n0 c w xs k B :=
  ⟨(hB.block _ h.box.lt).trans h.box, ownsRow_below h.row hB, h.bel.trans (hB.mono (by have := h.box.lt; omega))⟩
theorem Lq.put {n0 c : Nat} {w : World} {xs : List Pk} {k : Nat} {A : World} (h : Lq n0 c w xs k A) {l : Nat} {o : Obj} (o' : Obj) (ho : A.heap[l]? = some o) (hc : o.isCells = false) (hl : n0 ≤ l) : Lq n0 c w xs k (A.putObj l o') :=
  ⟨putC o' ho hc h.box, ownsRow_putObj h.row o' ho hc, ⟨h.bel.os, h.bel.tape, h.bel.output, by simpa using h.bel.size, fun i hi => (World.putObj_heap_other (by omega)).trans (h.bel.block i hi)⟩⟩
theorem Try.infoPk : (Try.prog.info? 49).map (fun i => (i.zero, i.size, i.bytes)) = some (some (.agg #[.int .i64 0, .int .i64 0, .int .i64 0, .int .i64 0, .int .i64 0, .int .i64 0]), 6, 48) := by kernel_rfl
theorem madeP (m : Nat) : ∀ i, i < m * 6 → (madeCells #[.int .i64 0, .int .i64 0, .int .i64 0, .int .i64 0, .int .i64 0, .int .i64 0] (m * 6))[i]? = some (encPk Pk.zero (i % 6)) := by
  intro i hi
  have h6 := encPk_zero (i % 6) (by omega)
  rw [← h6]
  simp [madeCells, hi]
theorem cellsP (w : World) {a0 a1 a2 a3 a4 a5 : Int} {j : Nat} {u : Value} (h : ([.int .i64 a0, .int .i64 a1, .int .i64 a2, .int .i64 a3, .int .i64 a4, .int .i64 a5] : List Value)[j]? = some u) : (w.alloc (.cells #[.int .i64 a0, .int .i64 a1, .int .i64 a2, .int .i64 a3, .int .i64 a4, .int .i64 a5] 49)).cell? ((⟨w.heap.size, 0, none⟩ : Addr).add j) = some u := by
  have hn : (w.alloc (.cells #[.int .i64 a0, .int .i64 a1, .int .i64 a2, .int .i64 a3, .int .i64 a4, .int .i64 a5] 49)).heap[w.heap.size]? = some (.cells #[.int .i64 a0, .int .i64 a1, .int .i64 a2, .int .i64 a3, .int .i64 a4, .int .i64 a5] 49) := World.alloc_heap_new _ _
  rw [addr_add]
  generalize (w.alloc (.cells #[.int .i64 a0, .int .i64 a1, .int .i64 a2, .int .i64 a3, .int .i64 a4, .int .i64 a5] 49)) = W at hn ⊢
  generalize w.heap.size = z at hn ⊢
  rcases j with _ | _ | _ | _ | _ | _ | j
  all_goals first
    | (simp at h; subst h; simp [World.cell?, hn]; done)
    | (simp at h; done)
set_option maxHeartbeats 4000000 in
theorem listP_any (r g N f c : Nat) (xs : List Pk) (w : World) (h : RP w r g N f c xs) (hx : xs.length = c) :
    Calls Try.prog 38 #[.pointer (some ⟨r, 0, none⟩)] w fun e w' => e = .returned (.slice (some ⟨w.heap.size, 0, none⟩) c c) ∧ w'.rowIs w.heap.size 49 (c * 6) (fun q => encPk (xs.getD (q / 6) Pk.zero) (q % 6)) ∧ Below w.heap.size w w' := by
  have c2 := h.c2
  have hcl := h.cl
  have hl := h.lim
  obtain ⟨n0, en0⟩ : ∃ n0, n0 = w.heap.size := ⟨_, rfl⟩
  have HR : Hid (RP w r g N f c xs ∧ xs.length = c ∧ n0 = w.heap.size) := ⟨h, hx, en0⟩
  have mk := makeP_at 0 (c : Int) 0 c rfl rfl (Nat.zero_le _) (by omega)
  obtain ⟨i0, hi, hz0, hz1, hz2⟩ := info_parts Try.infoPk
  clear h hx
  refine (callsIn_wide (n := 9)).1 ?_
  refine callsIn_of_wp_marks Try.func38 rfl trivial ?_ rfl
  simp only [Try.ntmps38, List.size_toArray, List.length_cons, List.length_nil, Nat.reduceAdd, Nat.reduceSub, Array.replicate_succ, Array.replicate_zero, List.push_toArray, List.append_toArray, List.nil_append, List.cons_append]
  gi_wp2_with (refine ⟨trivial, ?_⟩; refine (callsIn_wide.2 (allP_any r _)).mono ?_; rintro e w1 ⟨rfl, rfl⟩)
  obtain ⟨W0, hW0⟩ : ∃ W0, W0 = ((w.alloc (.cells (madeCells #[.int .i64 0, .int .i64 0, .int .i64 0, .int .i64 0, .int .i64 0, .int .i64 0] (c * 6)) 49)).alloc (.cells #[.slice (some ⟨w.heap.size, 0, none⟩) 0 c] 33)).alloc (.cells #[.pointer (some ⟨r, 0, none⟩)] 72) := ⟨_, rfl⟩
  have hsz : W0.heap.size = n0 + 3 := by rw [hW0, en0]; simp
  have B0 : Below w.heap.size w W0 := by rw [hW0]; exact (((Below.refl _ w).alloc (Nat.le_refl _) _).alloc (by simp) _).alloc (by simp; omega) _
  have b1 : Boxed W0 (n0 + 1) 33 (.slice (some ⟨n0, 0, none⟩) 0 c) := by
    have := (Boxed.new (w.alloc (.cells (madeCells #[.int .i64 0, .int .i64 0, .int .i64 0, .int .i64 0, .int .i64 0, .int .i64 0] (c * 6)) 49)) 33 (.slice (some ⟨w.heap.size, 0, none⟩) 0 c)).alloc (.cells #[.pointer (some ⟨r, 0, none⟩)] 72)
    rw [World.size_alloc] at this
    rw [hW0, en0]
    exact this
  have cBs : W0.cell? ⟨n0 + 2, 0, none⟩ = some (.pointer (some ⟨r, 0, none⟩)) := by
    have : W0.cell? ⟨w.heap.size + 1 + 1, 0, none⟩ = some (.pointer (some ⟨r, 0, none⟩)) := by rw [hW0]; simp [go_sem]
    rw [en0]
    exact this
  have own0 : W0.ownsRow n0 49 6 (.slice (some ⟨n0, 0, none⟩) 0 c) 0 (flatP (xs.take 0)) := by
    have hr : W0.rowIs w.heap.size 49 (c * 6) (fun i => encPk Pk.zero (i % 6)) := by
      rw [hW0]
      exact ((World.rowIs_alloc w (madeCells #[.int .i64 0, .int .i64 0, .int .i64 0, .int .i64 0, .int .i64 0, .int .i64 0] (c * 6)) 49 _ (fun i hi => madeP c i (by rw [size_madeCells] at hi; simpa using hi)) |> fun h => (by have e := size_madeCells #[.int .i64 0, .int .i64 0, .int .i64 0, .int .i64 0, .int .i64 0, .int .i64 0] (c * 6); rw [e] at h; simpa using h) : (w.alloc (.cells (madeCells #[.int .i64 0, .int .i64 0, .int .i64 0, .int .i64 0, .int .i64 0, .int .i64 0] (c * 6)) 49)).rowIs w.heap.size 49 (c * 6) _).alloc _).alloc _
    obtain ⟨cur, q1, q2, _⟩ := hr
    rw [← en0] at q1
    exact ⟨rfl, .inr ⟨_, c, cur, rfl, Nat.le_refl _, q1, Nat.zero_le _, by simp only [maxLen]; omega, by omega, by simp [flatP]⟩⟩
  rw [show w.heap.size + 1 + 1 = n0 + 2 by omega, ← hW0, ← en0]
  have HS : Hid (W0.heap.size = n0 + 3 ∧ n0 = w.heap.size ∧ Below w.heap.size w W0) := ⟨hsz, en0, B0⟩
  have hls : n0 ≤ W0.heap.size := by omega
  have SQ := allP_at 8 (by omega) (n0 + 2) (W0.heap.size + 2) r g N f c xs HR.out.2.1 W0 cBs (HR.out.1.mono B0)
  have L0 : Lq n0 c w xs 0 W0 := ⟨b1, own0, by rw [en0]; exact B0⟩
  clear hW0 B0 en0 hsz b1 own0 mk
  refine range_atA (n := 9) (P := Try.prog) rfl (by omega) (gf := 67) (lb := #[.pointer (some ⟨n0 + 2, 0, none⟩)]) rfl trivial (enters_of Try.func67 (by kernel_rfl) rfl)
    SQ (fun h k => h.trans k) (fun A o o' h1 h2 => Kpx.putObj _ _ _ _ A _ o o' h1 h2) (Below.refl _ _) (fun _ => rfl)
    (fun k A => Lq n0 c w xs k A) (fun _ _ => False)
    (fun k A B hA hB => hA.go hB)
    (fun k A l o o' hA hl ho hc hw => hA.put o' ho hc (by omega))
    (fun _ _ _ _ _ h _ _ _ _ => h.elim)
    L0
    (fun A B hB => Kpx.of_below hB)
    (fun k a' A => ∃ q, a' = { tmps := #[.pointer (some ⟨r, 0, none⟩), undef, .slice none 0 0, .pointer (some ⟨n0 + 1, 0, none⟩), undef, .pointer (some ⟨q, 0, none⟩), .pointer (some ⟨r, 0, none⟩), .pointer (some ⟨r, 0, none⟩), .pointer (some ⟨r, 2, none⟩), .int .i64 (c : Int), .slice (some ⟨n0, 0, none⟩) 0 c, .pointer (some ⟨r, 0, none⟩), .func (.func 67) #[] #[.pointer (some ⟨n0 + 2, 0, none⟩)], .int .i64 (k : Int), (xs.getD k Pk.zero).val, undef, undef, undef, undef, undef], defers := [] } ∧ A.heap[q]? = some (.cells #[.int .i64 (xs.getD k Pk.zero).slot, .int .i64 (xs.getD k Pk.zero).gen, .int .i64 (xs.getD k Pk.zero).id, .int .i64 (xs.getD k Pk.zero).size, .int .i64 (xs.getD k Pk.zero).seq, .int .i64 (xs.getD k Pk.zero).came] 49))
    (fun k a' A l o o' ⟨q, h1, h2⟩ hl ho hc hw => ⟨q, h1, putC o' ho hc h2⟩) ?assign ?body ?done ?stop
  case assign =>
    intro l' k A K hk hi' hK
    have HK : Hid _ := hK _ (A.alloc (.cells #[.int .i64 (xs.getD k Pk.zero).slot, .int .i64 (xs.getD k Pk.zero).gen, .int .i64 (xs.getD k Pk.zero).id, .int .i64 (xs.getD k Pk.zero).size, .int .i64 (xs.getD k Pk.zero).seq, .int .i64 (xs.getD k Pk.zero).came] 49)) ((Below.refl _ _).alloc (Nat.le_refl _) _) ⟨A.heap.size, rfl, World.alloc_heap_new _ _⟩
    unfold encQ
    generalize xs.getD k Pk.zero = x at HK ⊢
    obtain ⟨a0, a1, a2, a3, a4, a5⟩ := x
    unfold Pk.val at HK ⊢
    simp only at HK ⊢
    clear hK hi'
    gi_wp2_with fail
    exact HK.out
  case body =>
    rintro l' k a' A hk hl' hlr hi' ⟨q, rfl, hq⟩
    obtain ⟨x, ex⟩ : ∃ x, x = xs.getD k Pk.zero := ⟨_, rfl⟩
    rw [← ex] at hq ⊢
    obtain ⟨a0, a1, a2, a3, a4, a5⟩ := x
    unfold Pk.val
    simp only at hq ⊢
    have hc := hi'.box.cell
    have q0 : A.cell? ⟨q, 0, none⟩ = some (.int .i64 a0) := by simp [World.cell?, hq]
    have q1 : A.cell? ⟨q, 1, none⟩ = some (.int .i64 a1) := by simp [World.cell?, hq]
    have q2 : A.cell? ⟨q, 2, none⟩ = some (.int .i64 a2) := by simp [World.cell?, hq]
    have q3 : A.cell? ⟨q, 3, none⟩ = some (.int .i64 a3) := by simp [World.cell?, hq]
    have q4 : A.cell? ⟨q, 4, none⟩ = some (.int .i64 a4) := by simp [World.cell?, hq]
    have q5 : A.cell? ⟨q, 5, none⟩ = some (.int .i64 a5) := by simp [World.cell?, hq]
    have HX : Hid ((⟨a0, a1, a2, a3, a4, a5⟩ : Pk) = xs.getD k Pk.zero ∧ xs.length = c) := ⟨ex, HR.out.2.1⟩
    have HI : Hid (Lq n0 c w xs k A) := hi'
    clear hq ex hi'
    gi_wp2_with (gi_at_builtin; refine wpListIn_append_fits _ rfl (.tmp 15) (.tmp 17) 33 rfl n0 49 i0 6 Try.underlying33 hi hz1 n0 k c _ rfl (HI.out.row.alloc _) ⟨A.heap.size, 0, none⟩ 1 1 [.int .i64 a0, .int .i64 a1, .int .i64 a2, .int .i64 a3, .int .i64 a4, .int .i64 a5] rfl rfl (fun j u hj => cellsP A hj) (fun u hu => by simp at hu; rcases hu with rfl | rfl | rfl | rfl | rfl | rfl <;> rfl) (by omega) ?_; intro w2 hown' hgrow; obtain ⟨hv1, hv2, hr2, hk2, hb2⟩ := HI.out.box.appended (by decide) HI.out.row (Nat.le_trans (Nat.le_succ n0) (Nat.le_of_lt HI.out.box.lt)) (by omega) hown' hgrow; have hc1 := hv1.cell; have hf1 := hv1.frozen)
    refine ⟨KeepsL.of_from (hk2.from _), ?_, hv2, ?_, HI.out.bel.trans hb2⟩
    · exact ((Kpx.grown (World.grownBy_alloc A _ none) (fun k e => by cases e)).trans (Kpx.grown hgrow (fun k e => by cases e; omega))).trans (Kpx.grown (grownBy_setCell' w2 (n0 + 1) _) (fun k e => by cases e; omega))
    have e9 : xs.take (k + 1) = xs.take k ++ [⟨a0, a1, a2, a3, a4, a5⟩] := by
      rw [HX.out.1]
      have hk' : k < xs.length := by have := HX.out.2; omega
      rw [List.take_add_one, List.getElem?_eq_getElem hk']
      simp [List.getD_eq_getElem?_getD, hk']
    rw [e9, flatP_app]
    exact hr2
  case done =>
    intro D W hD hI hK
    have hc := hI.box.cell
    have hown := ownsRow_putObj hI.row (.deferred none) hK rfl
    have hlen := HR.out.2.1
    have hrow2 : (W.putObj D (.deferred none)).rowIs n0 49 (c * 6) (fun q => encPk (xs.getD (q / 6) Pk.zero) (q % 6)) := by
      rcases hown.2 with ⟨e, _⟩ | ⟨g1, cap, cur, e, _, q1, _, _, q2, q3⟩
      · cases e
      cases e
      refine ⟨cur, q1, by omega, fun i hi => ?_⟩
      have q4 := congrArg (fun l => l[i]?) q3
      rw [List.getElem?_take_of_lt hi] at q4
      rw [← Array.getElem?_toList, q4, List.take_of_length_le (by omega)]
      exact flatP_q xs i (by omega)
    have HD : Hid ((W.putObj D (.deferred none)).rowIs n0 49 (c * 6) (fun q => encPk (xs.getD (q / 6) Pk.zero) (q % 6)) ∧ Lq n0 c w xs c W) := ⟨hrow2, hI⟩
    clear hrow2 hown hI
    gi_wp2_with fail
    refine ⟨by simp, .inl ⟨_, _, rfl, run_takeDeferred hK, ?_⟩⟩
    refine ⟨_, results_tmp rfl _ _ _, ?_, ?_, ?_⟩
    · rw [HS.out.2.1]
      rfl
    · rw [← HS.out.2.1]; exact HD.out.1
    rw [← HS.out.2.1]; exact (HD.out.2.put (.deferred none) hK rfl (by omega)).bel
  case stop =>
    intro D c' W hD h _
    exact h.elim
end Go.Proofs.Ytcndbmccediknaa
namespace Go.Proofs.Ytcndbmccediknaa
open Go.RowKit
set_option maxRecDepth 100000
set_option linter.unusedVariables false
def Sd.shut (s : Sd) (i : Int) : Sd := { s with F := updI s.F i none }
theorem DSM.shut {w : World} {d : Nat} {s : Sd} {i : Int} {b : Nat} (h : DSM (updI s.F i none) w d s) (hF : s.F i = some b) (hb : b ∉ s.R) : DS w d (s.shut i) := by
  have old : ∀ j c, updI s.F i none j = some c → s.F j = some c := by
    intro j c hj
    unfold updI at hj
    split at hj
    · cases hj
    exact hj
  refine ⟨h.dr, h.mp, h.rg, fun j c hj => h.fl j c (old j c hj), fun j c hj => h.sl j c (old j c hj), fun j c hj => h.qu j c (old j c hj), fun j k c e hj hk => h.ap j k c e (old j c hj) (old k e hk), fun c hc => ?_⟩
  obtain ⟨j, hj⟩ := h.inr c hc
  refine ⟨j, ?_⟩
  show updI s.F i none j = some c
  unfold updI
  rw [if_neg]
  · exact hj
  rintro rfl
  rw [hF] at hj
  injection hj with hj
  exact hb (by rw [hj]; exact hc)
theorem not_mem_erase {R : List Nat} (h : R.Nodup) {k : Nat} (hk : k < R.length) : R.getD k 0 ∉ R.eraseIdx k := by
  induction R generalizing k with
  | nil => simp at hk
  | cons x R ih =>
    obtain ⟨h1, h2⟩ := List.nodup_cons.1 h
    rcases k with _ | k
    · exact h1
    have hk' : k < R.length := by simpa using hk
    rw [List.eraseIdx_cons_succ, List.getD_cons_succ]
    intro hm
    rcases List.mem_cons.1 hm with e | e
    · refine h1 ?_
      rw [← e, List.getD_eq_getElem?_getD, List.getElem?_eq_getElem hk']
      exact List.getElem_mem hk'
    exact ih h2 hk' e
theorem mine_shut {d : Nat} {s : Sd} {i : Int} {k : Nat} (h : Mine d (s.shut i) k) : Mine d s k := by
  rcases h with e | e | e | e | ⟨j, c, hj, e⟩
  · exact .inl e
  · exact .inr (.inl e)
  · exact .inr (.inr (.inl e))
  · exact .inr (.inr (.inr (.inl e)))
  refine .inr (.inr (.inr (.inr ⟨j, c, ?_, e⟩)))
  have hj : updI s.F i none j = some c := hj
  unfold updI at hj
  split at hj
  · cases hj
  exact hj
theorem Fm.shut {w w' : World} {d : Nat} {s s' : Sd} {i : Int} (h : Fm d s s' w w') : Fm d s (s'.shut i) w w' :=
  ⟨h.os, h.tape, h.output, h.size, h.block, fun k hm => h.mine k (by
    rcases hm with e | e | e | e | ⟨j, c, hj, e⟩
    · exact .inl e
    · exact .inr (.inl e)
    · exact .inr (.inr (.inl e))
    · exact .inr (.inr (.inr (.inl e)))
    refine .inr (.inr (.inr (.inr ⟨j, c, ?_, e⟩)))
    have hj : updI s'.F i none j = some c := hj
    unfold updI at hj
    split at hj
    · cases hj
    exact hj)⟩
theorem DFM.shut {w w' : World} {d : Nat} {s s' : Sd} {i : Int} {b : Nat} (h : DFM (updI s'.F i none) d s s' w w') (hF : s'.F i = some b) (hb : b ∉ s'.R) : DF d s (s'.shut i) w w' := ⟨h.1.shut hF hb, h.2.shut⟩
set_option maxHeartbeats 4000000 in
theorem leaveD_empty (d : Nat) (s : Sd) (sl gn t : Int) (b : Nat) (w : World) (h : DS w d s) (h1 : -9223372036854775808 ≤ sl) (h2 : sl ≤ 9223372036854775807) (hF : s.F sl = some b) (hg : (s.Y b).gen = gn) (hw1 : -4611686018427387904 ≤ s.x.weight - (s.Y b).weight) (hw2 : s.x.weight - (s.Y b).weight ≤ 4611686018427387904) (hQ : s.Q b = []) (hb : b ∉ s.R) :
    Calls Try.prog 20 #[.pointer (some ⟨d, 0, none⟩), .agg #[.int .i64 sl, .int .i64 gn], .int .i64 t] w fun e w' => e = .returned (.tuple #[.slice none 0 0, .int .i64 0]) ∧ DF d s (({ s with x := { s.x with weight := s.x.weight - (s.Y b).weight } } : Sd).shut sl) w w' := by
  obtain ⟨W, hW⟩ : ∃ W, W = w.alloc (.cells #[.int .i64 sl, .int .i64 gn] 41) := ⟨_, rfl⟩
  obtain ⟨v, ev⟩ : ∃ v, v = w.heap.size := ⟨_, rfl⟩
  have B0 : Below w.heap.size w W := by rw [hW]; exact (Below.refl _ _).alloc (Nat.le_refl _) _
  have hB : W.heap[v]? = some (.cells #[.int .i64 sl, .int .i64 gn] 41) := by rw [hW, ev]; exact (MapKept.heap_alloc _ _).1
  have D0 : DF d s s w W := h.df.below B0
  have HO : Hid (Calls Try.prog 24 #[.pointer (some ⟨d, 0, none⟩), .agg #[.int .i64 sl, .int .i64 gn]] W fun e w' => e = .returned (.tuple #[.pointer (some ⟨b, 0, none⟩), .int .i64 0]) ∧ Below W.heap.size W w') := openD_yes d s.x s.nn s.F sl gn W D0.1.dr D0.1.mp h1 h2 b (s.Y b) hF (D0.1.fl _ _ hF) (D0.1.sl _ _ hF) hg
  have hnv : ¬ Mine d s v := h.fresh (by omega)
  obtain ⟨q, eq⟩ : ∃ q, q = (s.Y b).queue := ⟨_, rfl⟩
  obtain ⟨wt, ewt⟩ : ∃ x, x = s.x.weight := ⟨_, rfl⟩
  obtain ⟨fw, efw⟩ : ∃ x, x = (s.Y b).weight := ⟨_, rfl⟩
  obtain ⟨m, em⟩ : ∃ m, m = s.x.flows := ⟨_, rfl⟩
  have c0 : (w.alloc (.cells #[.int .i64 sl, .int .i64 gn] 41)).cell? ⟨v, 0, none⟩ = some (.int .i64 sl) := by rw [← hW]; simp [World.cell?, hB]
  have c1 : (w.alloc (.cells #[.int .i64 sl, .int .i64 gn] 41)).cell? ⟨v, 1, none⟩ = some (.int .i64 gn) := by rw [← hW]; simp [World.cell?, hB]
  rw [ev] at c0 c1
  have hww : IntKind.i64.wrap (wt - fw) = wt - fw := by rw [IntKind.wrap_i64, ewt, efw]; omega
  have hbd : b ≠ d := ne_cls (h.cb hF) h.cd (by decide)
  have hbd' := Ne.symm hbd
  have hdv : d ≠ v := by have := h.dl; omega
  have hvd := Ne.symm hdv
  have HW : Hid (w.alloc (.cells #[.int .i64 sl, .int .i64 gn] 41) = W ∧ w.heap.size = v) := ⟨hW.symm, ev.symm⟩
  have HD0 : Hid (DF d s s w W ∧ W.heap[v]? = some (.cells #[.int .i64 sl, .int .i64 gn] 41) ∧ v < W.heap.size ∧ s.F sl = some b ∧ q = (s.Y b).queue ∧ ¬ Mine d s v ∧ wt = s.x.weight ∧ fw = (s.Y b).weight ∧ m = s.x.flows ∧ -9223372036854775808 ≤ sl ∧ sl ≤ 9223372036854775807) := ⟨D0, hB, (Array.getElem?_eq_some_iff.1 hB).1, hF, eq, hnv, ewt, efw, em, h1, h2⟩
  have HS : Hid (s.Q b = [] ∧ b ∉ s.R) := ⟨hQ, hb⟩
  clear hQ hb
  clear h h1 h2 hF hg hw1 hw2 D0 B0 hB hW ev hnv eq ewt efw em
  go_enter Try.func20, Try.ntmps20
  go_wp2_with fail
  rw [HW.out.1, HW.out.2]
  clear c0 c1
  refine HO.out.mono ?_
  rintro e w1 ⟨rfl, hb⟩
  have D1 := HD0.out.1.below hb
  have hv1 : w1.heap[v]? = some (.cells #[.int .i64 sl, .int .i64 gn] 41) := (hb.block v HD0.out.2.2.1).trans HD0.out.2.1
  have d0 : w1.cell? ⟨d, 0, none⟩ = some (.map (some m)) := by rw [HD0.out.2.2.2.2.2.2.2.2.1]; exact World.rowIs.cell D1.1.dr (i := 0) (by omega)
  have v0 : w1.cell? ⟨v, 0, none⟩ = some (.int .i64 sl) := by simp [World.cell?, hv1]
  have EX : ∃ W', (Builtin.delete_ #[66, 3] 0 #[.map (some m), .int .i64 sl]).run Try.prog w1.drew = .ok (.tuple #[]) W' ∧ DFM (updI s.F sl none) d s s w1.drew W' := by
    have D2 := D1.drew
    have mp' : Mp w1.drew m s.nn s.F := by rw [HD0.out.2.2.2.2.2.2.2.2.1]; exact D2.1.mp
    obtain ⟨W', r1, r2, r3⟩ := mp'.drop Try.underlying66 HD0.out.2.2.2.2.2.2.2.2.2.1 HD0.out.2.2.2.2.2.2.2.2.2.2 0
    refine ⟨W', r1, ?_⟩
    rw [HD0.out.2.2.2.2.2.2.2.2.1] at r2 r3
    have k1 : ∀ k n, k < w1.drew.heap.size → cls w1.drew k = n → n ≠ 1 → W'.heap[k]? = w1.drew.heap[k]? := fun k n hk hn h4 => r3.block k hk (fun e => ne_cls hn D2.1.cm h4 (by injection e))
    refine ⟨⟨World.rowIs.of_block D2.1.dr (k1 _ 0 D2.1.dl D2.1.cd (by decide)), r2, ?_, fun j c hj => World.rowIs.of_block (D2.1.fl j c hj) (k1 _ 3 (D2.1.bl hj) (D2.1.cb hj) (by decide)), D2.1.sl, fun j c hj => ?_, D2.1.ap, D2.1.inr⟩, ⟨r3.os, r3.tape, r3.output, r3.size, fun k hk hm => r3.block k hk (fun e => hm (.inr (.inl (by injection e)))), fun _ hm => .inl hm⟩⟩
    · obtain ⟨N, f, hr⟩ := D2.1.rg
      exact ⟨N, f, hr.of_blocks (k1 _ 2 D2.1.rl D2.1.cr (by decide)) (k1 _ 2 D2.1.gl D2.1.cg (by decide))⟩
    obtain ⟨N, f, hr⟩ := D2.1.qu j c hj
    exact ⟨N, f, hr.of_blocks (k1 _ 4 (D2.1.ql hj) (D2.1.cq hj) (by decide)) (k1 _ 4 (D2.1.Gl hj) (D2.1.cG hj) (by decide))⟩
  obtain ⟨W3, HM, hE3⟩ := EX
  have hD3 : DFM (updI s.F sl none) d s s w W3 := D1.drew.trans hE3
  have s0 : W3.cell? ⟨d, 0, none⟩ = some (.map (some m)) := by rw [HD0.out.2.2.2.2.2.2.2.2.1]; exact World.rowIs.cell hD3.1.dr (i := 0) (by omega)
  have s1 : W3.cell? ⟨v, 0, none⟩ = some (.int .i64 sl) := by
    have h9 : W3.heap[v]? = some (.cells #[.int .i64 sl, .int .i64 gn] 41) := (hE3.2.block v (Array.getElem?_eq_some_iff.1 hv1).1 HD0.out.2.2.2.2.2.1).trans hv1
    simp [World.cell?, h9]
  have HW3 : Hid (DFM (updI s.F sl none) d s s w W3) := hD3
  clear hb D1 hv1 hD3 hE3
  go_wp2_with fail
  rename_i hz
  go_region_held3 (fun w9 => w9.cell? ⟨d, 0, none⟩ = some (.map (some m)) ∧ w9.cell? ⟨v, 0, none⟩ = some (.int .i64 sl)) (first | (simp [go_sem, *]; done) | (trace_state; fail)) (fail)
  refine hz _ _ ?_
  clear hz HM s0 s1 d0 v0 HO
  have d3 : W3.cell? ⟨d, 3, none⟩ = some (.int .i64 wt) := by rw [HD0.out.2.2.2.2.2.2.1]; exact World.rowIs.cell HW3.out.1.dr (i := 3) (by omega)
  have z3 : W3.frozen? ⟨d, 3, none⟩ = false := World.rowIs.frozen HW3.out.1.dr 3
  have b2 : W3.cell? ⟨b, 2, none⟩ = some (.int .i64 fw) := by rw [HD0.out.2.2.2.2.2.2.2.1]; exact World.rowIs.cell (HW3.out.1.fl _ _ HD0.out.2.2.2.1) (i := 2) (by omega)
  have b4 : W3.cell? ⟨b, 4, none⟩ = some (.pointer (some ⟨q, 0, none⟩)) := by rw [HD0.out.2.2.2.2.1]; exact World.rowIs.cell (HW3.out.1.fl _ _ HD0.out.2.2.2.1) (i := 4) (by omega)
  have X3 : Hid (DFM (updI s.F sl none) d s { s with x := { s.x with weight := s.x.weight - (s.Y b).weight } } w ((W3.setCell ⟨d, 3, none⟩ (.int .i64 (wt - fw))).drew)) := by
    have X := HW3.out.setD 3 (.int .i64 (wt - fw)) { s.x with weight := wt - fw } (by
      intro j hj
      rcases j with _ | _ | _ | _ | _ | _ | _ | j <;> first | rfl | omega) rfl rfl
    have e1 := HD0.out.2.2.2.2.2.2.1
    have e2 := HD0.out.2.2.2.2.2.2.2.1
    rw [← e1, ← e2]
    exact X.drew
  go_wp2_with fail
  go_region
  go_wp2_with fail
  obtain ⟨W4, hW4⟩ : ∃ W4, W4 = (W3.setCell ⟨d, 3, none⟩ (.int .i64 (wt - fw))).drew := ⟨_, rfl⟩
  rw [← hW4] at X3 ⊢
  clear hW4 d3 z3 b2 b4
  have LP : Hid (Calls Try.prog 28 #[.pointer (some ⟨q, 0, none⟩)] W4 fun e w' => e = .returned (.int .i64 (0 : Int)) ∧ w' = W4) := by
    obtain ⟨N, f, hr⟩ := X3.out.1.qu _ _ HD0.out.2.2.2.1
    have hr : RP W4 q (s.G b) N f (s.Q b).length (s.Q b) := by rw [HD0.out.2.2.2.2.1]; exact hr
    have := lenP_any q (s.G b) N f _ _ W4 hr
    rw [HS.out.1] at this
    skip
    exact this
  refine LP.out.mono ?_
  rintro e w9 ⟨rfl, e9⟩
  rw [e9]
  clear e9 w9
  go_wp2_with fail
  refine bodyPost_ret (v := .tuple #[.slice none 0 0, .int .i64 0]) (by simp [results, Try.results20, go_sem]) rfl ⟨rfl, ?_⟩
  exact X3.out.shut HD0.out.2.2.2.1 HS.out.2
set_option maxHeartbeats 4000000 in
theorem leaveD_some (d : Nat) (s : Sd) (sl gn t : Int) (b : Nat) (xs : List Pk) (w : World) (h : DS w d s) (h1 : -9223372036854775808 ≤ sl) (h2 : sl ≤ 9223372036854775807) (hF : s.F sl = some b) (hg : (s.Y b).gen = gn) (hw1 : -4611686018427387904 ≤ s.x.weight - (s.Y b).weight) (hw2 : s.x.weight - (s.Y b).weight ≤ 4611686018427387904) (hQ : s.Q b = xs) (hne : xs ≠ []) (hc1 : -4611686018427387904 ≤ s.x.count) (hc2 : s.x.count ≤ 4611686018427387904) (hl : xs.length ≤ 4294967296) (hn : s.R.length ≤ 1073741824) (hdu : s.R.Nodup) (k : Nat) (hk : k < s.R.length) (hnb : s.nth k = b) :
    Calls Try.prog 20 #[.pointer (some ⟨d, 0, none⟩), .agg #[.int .i64 sl, .int .i64 gn], .int .i64 t] w fun e w' => ∃ g g', e = .returned (.tuple #[.slice (some ⟨g, 0, none⟩) xs.length xs.length, .int .i64 0]) ∧ w.heap.size ≤ g ∧ w'.rowIs g 49 (xs.length * 6) (fun q => encPk (xs.getD (q / 6) Pk.zero) (q % 6)) ∧ ¬ Mine d (({ s with x := { s.x with weight := s.x.weight - (s.Y b).weight, count := s.x.count - (xs.length : Int) } } : Sd).outOf b k g' |>.shut sl) g ∧ DF d s (({ s with x := { s.x with weight := s.x.weight - (s.Y b).weight, count := s.x.count - (xs.length : Int) } } : Sd).outOf b k g' |>.shut sl) w w' := by
  obtain ⟨W, hW⟩ : ∃ W, W = w.alloc (.cells #[.int .i64 sl, .int .i64 gn] 41) := ⟨_, rfl⟩
  obtain ⟨v, ev⟩ : ∃ v, v = w.heap.size := ⟨_, rfl⟩
  have B0 : Below w.heap.size w W := by rw [hW]; exact (Below.refl _ _).alloc (Nat.le_refl _) _
  have hB : W.heap[v]? = some (.cells #[.int .i64 sl, .int .i64 gn] 41) := by rw [hW, ev]; exact (MapKept.heap_alloc _ _).1
  have D0 : DF d s s w W := h.df.below B0
  have HO : Hid (Calls Try.prog 24 #[.pointer (some ⟨d, 0, none⟩), .agg #[.int .i64 sl, .int .i64 gn]] W fun e w' => e = .returned (.tuple #[.pointer (some ⟨b, 0, none⟩), .int .i64 0]) ∧ Below W.heap.size W w') := openD_yes d s.x s.nn s.F sl gn W D0.1.dr D0.1.mp h1 h2 b (s.Y b) hF (D0.1.fl _ _ hF) (D0.1.sl _ _ hF) hg
  have hnv : ¬ Mine d s v := h.fresh (by omega)
  obtain ⟨q, eq⟩ : ∃ q, q = (s.Y b).queue := ⟨_, rfl⟩
  obtain ⟨wt, ewt⟩ : ∃ x, x = s.x.weight := ⟨_, rfl⟩
  obtain ⟨fw, efw⟩ : ∃ x, x = (s.Y b).weight := ⟨_, rfl⟩
  obtain ⟨m, em⟩ : ∃ m, m = s.x.flows := ⟨_, rfl⟩
  have c0 : (w.alloc (.cells #[.int .i64 sl, .int .i64 gn] 41)).cell? ⟨v, 0, none⟩ = some (.int .i64 sl) := by rw [← hW]; simp [World.cell?, hB]
  have c1 : (w.alloc (.cells #[.int .i64 sl, .int .i64 gn] 41)).cell? ⟨v, 1, none⟩ = some (.int .i64 gn) := by rw [← hW]; simp [World.cell?, hB]
  rw [ev] at c0 c1
  have hww : IntKind.i64.wrap (wt - fw) = wt - fw := by rw [IntKind.wrap_i64, ewt, efw]; omega
  have hbd : b ≠ d := ne_cls (h.cb hF) h.cd (by decide)
  have hbd' := Ne.symm hbd
  have hdv : d ≠ v := by have := h.dl; omega
  have hvd := Ne.symm hdv
  have HW : Hid (w.alloc (.cells #[.int .i64 sl, .int .i64 gn] 41) = W ∧ w.heap.size = v) := ⟨hW.symm, ev.symm⟩
  have HD0 : Hid (DF d s s w W ∧ W.heap[v]? = some (.cells #[.int .i64 sl, .int .i64 gn] 41) ∧ v < W.heap.size ∧ s.F sl = some b ∧ q = (s.Y b).queue ∧ ¬ Mine d s v ∧ wt = s.x.weight ∧ fw = (s.Y b).weight ∧ m = s.x.flows ∧ -9223372036854775808 ≤ sl ∧ sl ≤ 9223372036854775807) := ⟨D0, hB, (Array.getElem?_eq_some_iff.1 hB).1, hF, eq, hnv, ewt, efw, em, h1, h2⟩
  obtain ⟨n, en⟩ : ∃ n, n = xs.length := ⟨_, rfl⟩
  have hn0 : ¬ ((n : Int) = 0) := by
    have := List.length_pos_iff.2 hne
    omega
  obtain ⟨ct, ect⟩ : ∃ x, x = s.x.count := ⟨_, rfl⟩
  have hwc : IntKind.i64.wrap (ct - (n : Int)) = ct - (n : Int) := by rw [IntKind.wrap_i64, ect]; omega
  have HS : Hid (s.Q b = xs ∧ n = xs.length ∧ ct = s.x.count ∧ s.R.length ≤ 1073741824 ∧ s.R.Nodup ∧ k < s.R.length ∧ s.nth k = b) := ⟨hQ, en, ect, hn, hdu, hk, hnb⟩
  rw [← en]
  clear hQ hne hc1 hc2 hl hn hdu hk hnb en ect
  clear h h1 h2 hF hg hw1 hw2 D0 B0 hB hW ev hnv eq ewt efw em
  go_enter Try.func20, Try.ntmps20
  go_wp2_with fail
  rw [HW.out.1, HW.out.2]
  clear c0 c1
  refine HO.out.mono ?_
  rintro e w1 ⟨rfl, hb⟩
  have D1 := HD0.out.1.below hb
  have hv1 : w1.heap[v]? = some (.cells #[.int .i64 sl, .int .i64 gn] 41) := (hb.block v HD0.out.2.2.1).trans HD0.out.2.1
  have d0 : w1.cell? ⟨d, 0, none⟩ = some (.map (some m)) := by rw [HD0.out.2.2.2.2.2.2.2.2.1]; exact World.rowIs.cell D1.1.dr (i := 0) (by omega)
  have v0 : w1.cell? ⟨v, 0, none⟩ = some (.int .i64 sl) := by simp [World.cell?, hv1]
  have EX : ∃ W', (Builtin.delete_ #[66, 3] 0 #[.map (some m), .int .i64 sl]).run Try.prog w1.drew = .ok (.tuple #[]) W' ∧ DFM (updI s.F sl none) d s s w1.drew W' := by
    have D2 := D1.drew
    have mp' : Mp w1.drew m s.nn s.F := by rw [HD0.out.2.2.2.2.2.2.2.2.1]; exact D2.1.mp
    obtain ⟨W', r1, r2, r3⟩ := mp'.drop Try.underlying66 HD0.out.2.2.2.2.2.2.2.2.2.1 HD0.out.2.2.2.2.2.2.2.2.2.2 0
    refine ⟨W', r1, ?_⟩
    rw [HD0.out.2.2.2.2.2.2.2.2.1] at r2 r3
    have k1 : ∀ k n, k < w1.drew.heap.size → cls w1.drew k = n → n ≠ 1 → W'.heap[k]? = w1.drew.heap[k]? := fun k n hk hn h4 => r3.block k hk (fun e => ne_cls hn D2.1.cm h4 (by injection e))
    refine ⟨⟨World.rowIs.of_block D2.1.dr (k1 _ 0 D2.1.dl D2.1.cd (by decide)), r2, ?_, fun j c hj => World.rowIs.of_block (D2.1.fl j c hj) (k1 _ 3 (D2.1.bl hj) (D2.1.cb hj) (by decide)), D2.1.sl, fun j c hj => ?_, D2.1.ap, D2.1.inr⟩, ⟨r3.os, r3.tape, r3.output, r3.size, fun k hk hm => r3.block k hk (fun e => hm (.inr (.inl (by injection e)))), fun _ hm => .inl hm⟩⟩
    · obtain ⟨N, f, hr⟩ := D2.1.rg
      exact ⟨N, f, hr.of_blocks (k1 _ 2 D2.1.rl D2.1.cr (by decide)) (k1 _ 2 D2.1.gl D2.1.cg (by decide))⟩
    obtain ⟨N, f, hr⟩ := D2.1.qu j c hj
    exact ⟨N, f, hr.of_blocks (k1 _ 4 (D2.1.ql hj) (D2.1.cq hj) (by decide)) (k1 _ 4 (D2.1.Gl hj) (D2.1.cG hj) (by decide))⟩
  obtain ⟨W3, HM, hE3⟩ := EX
  have hD3 : DFM (updI s.F sl none) d s s w W3 := D1.drew.trans hE3
  have s0 : W3.cell? ⟨d, 0, none⟩ = some (.map (some m)) := by rw [HD0.out.2.2.2.2.2.2.2.2.1]; exact World.rowIs.cell hD3.1.dr (i := 0) (by omega)
  have s1 : W3.cell? ⟨v, 0, none⟩ = some (.int .i64 sl) := by
    have h9 : W3.heap[v]? = some (.cells #[.int .i64 sl, .int .i64 gn] 41) := (hE3.2.block v (Array.getElem?_eq_some_iff.1 hv1).1 HD0.out.2.2.2.2.2.1).trans hv1
    simp [World.cell?, h9]
  have HW3 : Hid (DFM (updI s.F sl none) d s s w W3) := hD3
  clear hb D1 hv1 hD3 hE3
  go_wp2_with fail
  rename_i hz
  go_region_held3 (fun w9 => w9.cell? ⟨d, 0, none⟩ = some (.map (some m)) ∧ w9.cell? ⟨v, 0, none⟩ = some (.int .i64 sl)) (first | (simp [go_sem, *]; done) | (trace_state; fail)) (fail)
  refine hz _ _ ?_
  clear hz HM s0 s1 d0 v0 HO
  have d3 : W3.cell? ⟨d, 3, none⟩ = some (.int .i64 wt) := by rw [HD0.out.2.2.2.2.2.2.1]; exact World.rowIs.cell HW3.out.1.dr (i := 3) (by omega)
  have z3 : W3.frozen? ⟨d, 3, none⟩ = false := World.rowIs.frozen HW3.out.1.dr 3
  have b2 : W3.cell? ⟨b, 2, none⟩ = some (.int .i64 fw) := by rw [HD0.out.2.2.2.2.2.2.2.1]; exact World.rowIs.cell (HW3.out.1.fl _ _ HD0.out.2.2.2.1) (i := 2) (by omega)
  have b4 : W3.cell? ⟨b, 4, none⟩ = some (.pointer (some ⟨q, 0, none⟩)) := by rw [HD0.out.2.2.2.2.1]; exact World.rowIs.cell (HW3.out.1.fl _ _ HD0.out.2.2.2.1) (i := 4) (by omega)
  have X3 : Hid (DFM (updI s.F sl none) d s { s with x := { s.x with weight := s.x.weight - (s.Y b).weight } } w ((W3.setCell ⟨d, 3, none⟩ (.int .i64 (wt - fw))).drew)) := by
    have X := HW3.out.setD 3 (.int .i64 (wt - fw)) { s.x with weight := wt - fw } (by
      intro j hj
      rcases j with _ | _ | _ | _ | _ | _ | _ | j <;> first | rfl | omega) rfl rfl
    have e1 := HD0.out.2.2.2.2.2.2.1
    have e2 := HD0.out.2.2.2.2.2.2.2.1
    rw [← e1, ← e2]
    exact X.drew
  go_wp2_with fail
  go_region
  go_wp2_with fail
  obtain ⟨W4, hW4⟩ : ∃ W4, W4 = (W3.setCell ⟨d, 3, none⟩ (.int .i64 (wt - fw))).drew := ⟨_, rfl⟩
  rw [← hW4] at X3 ⊢
  clear hW4 d3 z3 b2 b4
  have LP : Hid (Calls Try.prog 28 #[.pointer (some ⟨q, 0, none⟩)] W4 fun e w' => e = .returned (.int .i64 (n : Int)) ∧ w' = W4) := by
    obtain ⟨N, f, hr⟩ := X3.out.1.qu _ _ HD0.out.2.2.2.1
    have hr : RP W4 q (s.G b) N f (s.Q b).length (s.Q b) := by rw [HD0.out.2.2.2.2.1]; exact hr
    have := lenP_any q (s.G b) N f _ _ W4 hr
    rw [HS.out.1] at this
    rw [← HS.out.2.1] at this
    exact this
  refine LP.out.mono ?_
  rintro e w9 ⟨rfl, e9⟩
  rw [e9]
  clear e9 w9
  have d4 : W4.cell? ⟨d, 4, none⟩ = some (.int .i64 ct) := by rw [HS.out.2.2.1]; exact World.rowIs.cell X3.out.1.dr (i := 4) (by omega)
  have z4 : W4.frozen? ⟨d, 4, none⟩ = false := World.rowIs.frozen X3.out.1.dr 4
  have b4 : W4.cell? ⟨b, 4, none⟩ = some (.pointer (some ⟨q, 0, none⟩)) := by rw [HD0.out.2.2.2.2.1]; exact World.rowIs.cell (X3.out.1.fl _ _ HD0.out.2.2.2.1) (i := 4) (by omega)
  have LPd : Hid (∀ nd, Calls Try.prog 28 #[.pointer (some ⟨q, 0, none⟩)] (W4.drewN nd) fun e w' => e = .returned (.int .i64 (n : Int)) ∧ w' = W4.drewN nd) := fun nd => by
    obtain ⟨N, f, hr⟩ := X3.out.1.qu _ _ HD0.out.2.2.2.1
    have hr : RP (W4.drewN nd) q (s.G b) N f (s.Q b).length (s.Q b) := by rw [HD0.out.2.2.2.2.1]; exact hr.of_blocks rfl rfl
    have := lenP_any q (s.G b) N f _ _ (W4.drewN nd) hr
    rw [HS.out.1, ← HS.out.2.1] at this
    exact this
  clear LP
  obtain ⟨W5, hW5⟩ : ∃ W5, W5 = (W4.drewN 1).setCell ⟨d, 4, none⟩ (.int .i64 (ct - (n : Int))) := ⟨_, rfl⟩
  have X5 : DFM (updI s.F sl none) d s { s with x := { s.x with weight := s.x.weight - (s.Y b).weight, count := s.x.count - (n : Int) } } w W5 := by
    have X := (X3.out.drewN 1).setD 4 (.int .i64 (ct - (n : Int))) { s.x with weight := s.x.weight - (s.Y b).weight, count := ct - (n : Int) } (by
      intro j hj
      rcases j with _ | _ | _ | _ | _ | _ | _ | j <;> first | rfl | omega) rfl rfl
    rw [hW5, ← HS.out.2.2.1]
    exact X
  have TK : Hid (Calls Try.prog 37 #[.pointer (some ⟨d, 0, none⟩), .pointer (some ⟨b, 0, none⟩)] W5 fun e w' => e = .returned (.tuple #[]) ∧ ∃ g', DFM (updI s.F sl none) d s (Sd.outOf { s with x := { s.x with weight := s.x.weight - (s.Y b).weight, count := s.x.count - (n : Int) } } b k g') w w') := by
    refine (takeOutD_any d _ b k W5 X5.1 HS.out.2.2.2.1 HS.out.2.2.2.2.1 HS.out.2.2.2.2.2.1 HS.out.2.2.2.2.2.2).mono ?_
    rintro e w6 ⟨rfl, g', X6⟩
    exact ⟨rfl, g', X5.trans X6⟩
  have HW5 : Hid ((W4.drewN 1).setCell ⟨d, 4, none⟩ (.int .i64 (ct - (n : Int))) = W5) := hW5.symm
  clear hW5 X5
  go_wp2_with fail
  rename_i hz
  go_region_with (first | (go_at_call 28; refine Calls.mono (LPd.out 1) ?_; rintro e w9 ⟨rfl, rfl⟩))
  all_goals
    refine hz _ _ ?_
    rw [HW5.out]
    clear hz LPd d4 z4 b4 X3
    go_wp2_with fail
    refine TK.out.mono ?_
    rintro e w6 ⟨rfl, g', X6⟩
    clear TK
    have b4 : w6.cell? ⟨b, 4, none⟩ = some (.pointer (some ⟨q, 0, none⟩)) := by
      have := World.rowIs.cell (X6.1.fl _ _ HD0.out.2.2.2.1) (i := 4) (by omega)
      have e : (updN s.Y b { s.Y b with kept := 0 } b).queue = q := by rw [updN_eq, HD0.out.2.2.2.2.1]
      rw [← e]
      exact this
    have LS : Hid (Calls Try.prog 38 #[.pointer (some ⟨q, 0, none⟩)] w6 fun e w' => e = .returned (.slice (some ⟨w6.heap.size, 0, none⟩) n n) ∧ w'.rowIs w6.heap.size 49 (n * 6) (fun q => encPk (xs.getD (q / 6) Pk.zero) (q % 6)) ∧ Below w6.heap.size w6 w') := by
      obtain ⟨N, f, hr⟩ := X6.1.qu _ _ HD0.out.2.2.2.1
      have hr : RP w6 q (s.G b) N f (s.Q b).length (s.Q b) := by
        have e : (updN s.Y b { s.Y b with kept := 0 } b).queue = q := by rw [updN_eq, HD0.out.2.2.2.2.1]
        rw [← e]
        exact hr
      rw [HS.out.1, ← HS.out.2.1] at hr
      exact listP_any q (s.G b) N f n xs w6 hr HS.out.2.1.symm
    have HX6 : Hid (DFM (updI s.F sl none) d s (Sd.outOf { s with x := { s.x with weight := s.x.weight - (s.Y b).weight, count := s.x.count - (n : Int) } } b k g') w w6) := X6
    clear X6
    go_wp2_with fail
    refine LS.out.mono ?_
    rintro e w7 ⟨rfl, hrow, hbel⟩
    have X7 : DF d s (Sd.shut (Sd.outOf { s with x := { s.x with weight := s.x.weight - (s.Y b).weight, count := s.x.count - (n : Int) } } b k g') sl) w w7 := (HX6.out.below hbel).shut HD0.out.2.2.2.1 (by
      show b ∉ s.R.eraseIdx k
      obtain ⟨_, _, _, _, h5, h6, h7⟩ := HS.out
      intro hm
      rw [← h7] at hm
      exact not_mem_erase h5 h6 hm)
    have hnm : ¬ Mine d (Sd.shut (Sd.outOf { s with x := { s.x with weight := s.x.weight - (s.Y b).weight, count := s.x.count - (n : Int) } } b k g') sl) w6.heap.size := fun hm => by
      have h9 := mine_shut hm
      exact HX6.out.1.fresh (Nat.le_refl _) h9
    have HF : Hid _ := (⟨hrow, X7, hnm, HX6.out.2.size⟩ : _ ∧ _ ∧ _ ∧ _)
    clear hrow hbel X7 hnm LS b4
    go_wp2_with fail
    refine bodyPost_ret (v := .tuple #[.slice (some ⟨w6.heap.size, 0, none⟩) n n, .int .i64 0]) (by simp [results, Try.results20, go_sem]) rfl ⟨w6.heap.size, g', rfl, HF.out.2.2.2, HF.out.1, HF.out.2.2.1, HF.out.2.1⟩
end Go.Proofs.Ytcndbmccediknaa
