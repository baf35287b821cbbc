/- Contracts of the program's functions, part 36: own work, joined in build order. -/
import Derived.Test.YtmghkkaoblkmpaaJ35
import Derived.Maps.OwnIn
namespace Go.Proofs.Ytmghkkaoblkmpaa
open Go.RowKit Go.Shelf
set_option maxRecDepth 100000
set_option linter.unusedVariables false
attribute [local go_sem] Oper.semAt_some
/-- The box gb holds a slice that begins in the block k. -/
def Pt (gb : Nat) (W : World) (k : Nat) : Prop := ∃ o n c, W.cell? ⟨gb, 0, none⟩ = some (.slice (some ⟨k, o, none⟩) n c)
/-- Rows from block B on that are just f stay what they are, but for the one that gb points at. -/
structure Kq (gb B : Nat) (t : TypeId) (m : Nat) (f : Nat → Value) (W W' : World) : Prop where
  size : W.heap.size ≤ W'.heap.size
  keep : ∀ k, B ≤ k → ¬ Pt gb W k → W.rowIs k t m f → W'.rowIs k t m f
  pt : ∀ k, k < W.heap.size → Pt gb W' k → Pt gb W k
theorem Kq.refl (gb B : Nat) (t : TypeId) (m : Nat) (f : Nat → Value) (W : World) : Kq gb B t m f W W := ⟨Nat.le_refl _, fun _ _ _ h => h, fun _ _ h => h⟩
theorem Kq.trans {gb B : Nat} {t : TypeId} {m : Nat} {f : Nat → Value} {X Y Z : World} (h : Kq gb B t m f X Y) (k : Kq gb B t m f Y Z) : Kq gb B t m f X Z :=
  ⟨Nat.le_trans h.size k.size, fun i hi hp hr => k.keep i hi (fun hq => hp (h.pt i hr.lt hq)) (h.keep i hi hp hr), fun i hi hq => h.pt i hi (k.pt i (Nat.lt_of_lt_of_le hi h.size) hq)⟩
theorem Kq.putObj (gb B : Nat) (t : TypeId) (m : Nat) (f : Nat → Value) (W : World) (l : Nat) (o o' : Obj) (hg : gb ≠ l) (hl : W.heap[l]? = some o) (ho : o.isCells = false) : Kq gb B t m f W (W.putObj l o') := by
  have h := Kpx.putObj B t m f W l o o' hl ho
  refine ⟨h.size, fun k hk _ hr => h.keep k hk hr, fun k hk hq => ?_⟩
  obtain ⟨p, n, c, e⟩ := hq
  have hlt : gb < W.heap.size := by
    rcases Nat.lt_or_ge gb W.heap.size with h1 | h1
    · exact h1
    · have hz : (W.putObj l o').heap.size = W.heap.size := by simp [World.putObj]
      have hn : (W.putObj l o').heap[gb]? = none := Array.getElem?_eq_none (by omega)
      simp [World.cell?, hn] at e
  refine ⟨p, n, c, ?_⟩
  rwa [World.cell?_of_block ((grownBy_putObj' W l o').block gb hlt (fun e => hg (by injection e)))] at e
set_option maxHeartbeats 2000000 in
theorem all1Q_in (n : Nat) (hn : 1 ≤ n) (l Bs gb B r g N f c : Nat) (xs : List Int) (hx : xs.length = c) (J Jx : List (Nat × Int) → World → Prop) (W : World) (hJ : AbidesFrom W.heap.size J)
    (hY : ∀ pre x W, J pre W → pre.length < c → YieldAt Fence.wide (n - 1) Try.prog l #[.int .i64 (x.1 : Int), Value.int .i64 x.2] W fun e W' =>
      (e = .returned (.bool true) ∧ J (pre ++ [x]) W' ∧ Kq gb B 3 c (fun j => Value.int .i64 (xs.getD j (0 : Int))) W W') ∨ (e = .returned (.bool false) ∧ Jx (pre ++ [x]) W'))
    (hBs : W.cell? ⟨Bs, 0, none⟩ = some (.pointer (some ⟨r, 0, none⟩))) (h : RI W r g N f c xs) (hB : B ≤ W.heap.size) (hgb : gb < W.heap.size) (hpt : ∀ k, Pt gb W k → k < W.heap.size) (h0 : J [] W) :
    CallsIn Fence.wide n Try.prog 36 #[.func (.yield l) #[] #[], .pointer (some ⟨Bs, 0, none⟩)] W fun e W' => (∃ v, e = .returned v) ∧
      ((∃ ys, ys = pairsI xs c ∧ J ys W') ∨ (∃ pre, (∃ k, k ≤ c ∧ pre = pairsI xs k) ∧ Jx pre W')) := by
  have c2 := h.c2
  have hcl := h.cl
  have hl := h.lim
  have HR : Hid (RI W r g N f c xs ∧ xs.length = c ∧ AbidesFrom W.heap.size J ∧ J [] W) := ⟨h, hx, hJ, h0⟩
  have HG : Hid (gb < W.heap.size ∧ ∀ k, Pt gb W k → k < W.heap.size) := ⟨hgb, hpt⟩
  clear h hx hJ h0 hgb hpt
  refine callsIn_of_wp Try.func36 rfl trivial ?_ rfl
  simp only [Try.ntmps36, List.size_toArray, List.length_cons, List.length_nil, Nat.reduceAdd, Nat.reduceSub, Array.replicate_succ, Array.replicate_zero, List.push_toArray, List.append_toArray, List.nil_append, List.cons_append]
  gi_wp2_with fail
  gi_region_with (first | (refine ⟨trivial, ?_⟩; refine (callsIn_wide.2 (rowI_any r g N f c c xs W.drew (HR.out.1.of_blocks rfl rfl) HR.out.2.1 (Nat.le_refl _) (by omega))).mono ?_; rintro e w1 ⟨rfl, h1, h2⟩))
  all_goals (
    have hJ1 : J [] w1 := HR.out.2.2.1 [] W w1 none HR.out.2.2.2 ⟨h2.os, h2.tape, h2.output, h2.size, fun k hk _ => h2.block k hk⟩ (fun r e => by cases e)
    have hn1 : ¬ Pt gb w1 W.heap.size := fun ⟨o9, n9, c9, e9⟩ => by
      rw [World.cell?_of_block (h2.block gb HG.out.1)] at e9
      exact Nat.lt_irrefl _ (HG.out.2 _ ⟨o9, n9, c9, e9⟩)
    have H1 : Hid ((w1.rowIs W.heap.size 3 c (fun j => Value.int .i64 (xs.getD j (0 : Int))) ∧ ¬ Pt gb w1 W.heap.size) ∧ J [] w1) := ⟨⟨h1, hn1⟩, hJ1⟩
    clear h1 h2 hJ1 hn1
    gi_wp2_with fail
    gi_loopw [12] (fun i wr => ∃ k : Nat, k ≤ c ∧ i = .int .i64 (k : Int) ∧ Hid (J (pairsI xs k) wr) ∧ Hid (wr.rowIs W.heap.size 3 c (fun j => Value.int .i64 (xs.getD j (0 : Int))) ∧ ¬ Pt gb wr W.heap.size)) (fun i _ => c - (intOf i).toNat)
    case atStart => exact ⟨0, Nat.zero_le _, rfl, H1.out.2, H1.out.1⟩
    case round =>
      obtain ⟨k, hk, rfl, hJs, hrow⟩ := hrel
      by_cases hlt : k < c
      · obtain ⟨x, ex⟩ : ∃ x, x = xs.getD k (0 : Int) := ⟨_, rfl⟩
        obtain ⟨fn, tmps, assign, body, hy, hR⟩ := hY _ (k, x) wr hJs.out (by rw [pairsI_length]; exact hlt)
        dsimp only at hy
        have hcx : wr.cell? ⟨W.heap.size, k, none⟩ = some (Value.int .i64 x) := by rw [ex]; exact hrow.out.1.cell hlt
        have EX : Hid (x = xs.getD k (0 : Int)) := ex
        clear ex
        gi_wp2_with fail
        refine hR.mono ?_
        rintro e W3 (⟨rfl, hJ3, hk3⟩ | ⟨rfl, hJx3⟩)
        · have H3 : Hid (J (pairsI xs (k + 1)) W3 ∧ W3.rowIs W.heap.size 3 c (fun j => Value.int .i64 (xs.getD j (0 : Int))) ∧ ¬ Pt gb W3 W.heap.size) := ⟨by rw [pairsI_succ, ← EX.out]; exact hJ3, hk3.keep _ hB hrow.out.2 hrow.out.1, fun h => hrow.out.2 (hk3.pt _ hrow.out.1.lt h)⟩
          clear hJ3 hk3
          gi_wp2_with fail
          go_roundw
          case rel => exact ⟨k + 1, by omega, by simp, H3.out.1, H3.out.2⟩
          case measure => simp [intOf]; omega
        · have H3 : Hid (Jx (pairsI xs (k + 1)) W3) := by
            show Jx _ _
            rw [pairsI_succ, ← EX.out]
            exact hJx3
          clear hJx3
          gi_wp2_with fail
          refine bodyPost_ret (results_none rfl _ _ _) rfl ?_
          exact ⟨⟨_, rfl⟩, .inr ⟨_, ⟨k + 1, by omega, rfl⟩, H3.out⟩⟩
      · obtain rfl : k = c := by omega
        gi_wp2_with fail
        go_end0
        exact ⟨⟨_, rfl⟩, .inl ⟨_, rfl, hJs.out⟩⟩)
theorem allQ_stops (n : Nat) (hn : 1 ≤ n) (Bs gb B r g N f c : Nat) (xs : List Int) (hx : xs.length = c) (w : World) (hBs : w.cell? ⟨Bs, 0, none⟩ = some (.pointer (some ⟨r, 0, none⟩))) (h : RI w r g N f c xs) (hB : B ≤ w.heap.size) (hgb : gb < w.heap.size) (hpt : ∀ k, Pt gb w k → k < w.heap.size) :
    SeqStopsK Fence.wide n Try.prog 36 #[.pointer (some ⟨Bs, 0, none⟩)] (fun x : Nat × Int => #[Value.int .i64 (x.1 : Int), Value.int .i64 x.2]) (Kq gb B 3 c (fun j => Value.int .i64 (xs.getD j (0 : Int)))) (fun ys => ys = pairsI xs c) (fun pre => ∃ k, k ≤ c ∧ pre = pairsI xs k) c w := fun l J Jx W hW hJ _ hY h0 =>
  all1Q_in n hn l Bs gb B r g N f c xs hx J Jx W hJ hY (cell_later hW hBs) (h.mono hW) (Nat.le_trans hB hW.size) (Nat.lt_of_lt_of_le hgb hW.size) (fun k ⟨o9, n9, c9, e9⟩ => by
    rw [World.cell?_of_block (hW.block gb hgb)] at e9
    exact Nat.lt_of_lt_of_le (hpt k ⟨o9, n9, c9, e9⟩) hW.size) h0
/-- The frame of a round of a range whose first variable is left out. -/
def av (a : Act) (p1 p2 q2 : Nat) (v1 v2 : Value) : Act := { tmps := (((a.tmps.setIfInBounds p1 v1).setIfInBounds p2 v2).setIfInBounds q2 v2), defers := [] }
theorem range_valH {α : Type} {g : Operand} {assign body : Code} {Q : Exit → Act → World → Prop} {a : Act} {w : World} (p1 p2 q2 : Nat)
    {gf : Nat} {lb : Array Value} (hg : a.eval g = .func (.func gf) #[] lb) (eg : ∀ args w, (callFunc gf args).run Try.prog w = .ok (.enter gf args) w)
    {e1 e2 : α → Value} {Kp : World → World → Prop} {S Sp : List α → Prop} {N : Nat} (hseq : SeqStopsK Fence.wide 8 Try.prog gf lb (fun x => #[e1 x, e2 x]) Kp S Sp N w)
    (hKr : ∀ W, Kp W W) (hKt : ∀ {A B C : World}, Kp A B → Kp B C → Kp A C) (hKb : ∀ (W : World) (l : Nat) (o o' : Obj), w.heap.size ≤ l → W.heap[l]? = some o → o.isCells = false → o.isWalk = false → Kp W (W.putObj l o'))
    (I : List α → World → Prop) (Ix : Code → List α → World → Prop) (hI : OwnFrom w.heap.size I) (hIx : ∀ c, OwnFrom w.heap.size (Ix c)) (h0 : I [] w)
    (hassign : ∀ (l : Nat) (x : α) (W : World) (K : Act → World → Prop), K (av a p1 p2 q2 (e1 x) (e2 x)) W →
      assign.wpIn (Fence.wide.inRound l) (9 - 1 - 1) Try.prog (Exit.then K (fun _ _ _ => False)) { tmps := (#[p1, p2].zip #[e1 x, e2 x]).foldl (fun t (p, v) => t.setIfInBounds p v) a.tmps, defers := [] } W)
    (hbody : ∀ (l : Nat) (pre : List α) (x : α) (W : World), w.heap.size ≤ l → (∃ rr, W.heap[l]? = some (.loop rr)) → I pre W → pre.length < N → body.wpIn (Fence.wide.inRound l) (9 - 1 - 1) Try.prog (ownPostG w.heap.size Kp I Ix (pre ++ [x]) W) (av a p1 p2 q2 (e1 x) (e2 x)) W)
    (hdone : ∀ (D : Nat) (xs : List α) (W : World), w.heap.size ≤ D → S xs → I xs W → W.heap[D]? = some (.deferred (some [])) → Q .normal { a with defers := { target := .collected D, args := #[] } :: a.defers } W)
    (hstop : ∀ (D : Nat) (c : Code) (pre : List α) (W : World), w.heap.size ≤ D → Sp pre → Ix c pre W → W.heap[D]? = some (.deferred (some [])) → c.wpIn Fence.wide 9 Try.prog Q { a with defers := { target := .collected D, args := #[] } :: a.defers } W) :
    (Code.rangeFunc g #[p1, p2] assign body).wpIn Fence.wide 9 Try.prog Q a w :=
  wpIn_rangeFunc_ownH rfl (by omega) hg trivial eg hseq hKt hKb (Below.refl _ _) (fun _ => rfl) I Ix hI hIx h0 (fun x a' _ => a' = av a p1 p2 q2 (e1 x) (e2 x)) (fun x a' s W W' row hs _ _ => hs)
    (fun l pre x W K hi hK => hassign l x W K (hK _ W (KeepsFrom.refl _ _) (hKr W) hi rfl)) (fun l pre x a' W hl hr hi ha hlt => by subst ha; exact hbody l pre x W hl hr hi hlt) hdone hstop
theorem wp_app2In {F : Fence} {nF : Nat} {w : World} {ops : Array Oper} {rest : List Oper} {o : Oper} {a : Act} {Q : Exit → Act → World → Prop} (hgd : o.guard = none) (s x : Operand)
    (ho : o.op = .call { callee := .builtin .append, args := #[s, x], argTypes := #[27, 27] }) (base : Nat) (v : Value) (xs : List Int) (hs : a.eval s = v) (hown : Ow base w v xs)
    (ad : Addr) (n cap : Nat) (ys : List Int) (hx : a.eval x = .slice (some ad) n cap) (hS : ISx w (some ad) n cap ys) (hlim : xs.length + n ≤ 4294967296) (hb : base ≤ w.heap.size)
    (h : ∀ v' w', Hid (Ow base w' v' (xs ++ ys) ∧ w.grownBy w' v.ownBlock ∧ (v'.ownBlock = v.ownBlock ∨ v'.ownBlock = some w.heap.size)) → wpListIn F nF Try.prog ops Q rest (a.put o.dst v') w') : wpListIn F nF Try.prog ops Q (o :: rest) a w := by
  obtain ⟨i, hi, hz, hsz, hby⟩ := info_parts Try.infoI
  have hlen := hS.sl.len
  have hcells : ∀ j u, (ys.map (Value.int .i64))[j]? = some u → w.cell? (ad.add j) = some u := by
    intro j u hj
    have hjn : j < ys.length := by
      rcases Nat.lt_or_ge j ys.length with h' | h'
      · exact h'
      · rw [List.getElem?_eq_none (by simpa using h')] at hj
        cases hj
    obtain ⟨b, o', e, hc⟩ := hS.sl.at (by omega)
    cases e
    rw [addr_add, hc j (by omega)]
    simpa [List.getD_eq_getElem?_getD, hjn] using hj
  refine wpListIn_append_own_at w hgd s x 27 ho base 3 i _ 1 8 Try.underlying27 hi hz hsz hby rfl (by omega) v _ _ hs hown ad n cap (ys.map (Value.int .i64)) hx (by simp [hlen]) hcells (fun u hu => by simp at hu; obtain ⟨j, _, rfl⟩ := hu; rfl) (by simp only [maxLen]; omega) (by omega) hb ?_
  intro v' w' h1 h2 _ h4
  refine h v' w' ⟨?_, h2, h4⟩
  show w'.ownsRow _ _ _ _ _ _
  rw [List.length_append, List.map_append, hlen]
  exact h1
theorem got_step {W1 W7 w2 : World} {gb : Nat} {u u' : Value} {xs : List Int} {y : Int} {t : TypeId} {m : Nat} {f : Nat → Value} (hz : W1.heap.size = gb) (hb : Boxed W7 gb 27 u) (hO : Ow (gb + 1) W7 u xs) (hBl : Below W1.heap.size W1 W7) (hg : (W7.alloc (.cells #[.int .i64 y] 3)).grownBy w2 u.ownBlock) (hat : u'.ownBlock = u.ownBlock ∨ u'.ownBlock = some (W7.alloc (.cells #[.int .i64 y] 3)).heap.size) (hO' : Ow (gb + 1) w2 u' (xs ++ [y])) :
    KeepsFrom (gb + 1) W7 (w2.setCell ⟨gb, 0, none⟩ u') ∧ Kq gb (gb + 1) t m f W7 (w2.setCell ⟨gb, 0, none⟩ u') ∧ Boxed (w2.setCell ⟨gb, 0, none⟩ u') gb 27 u' ∧ Ow (gb + 1) (w2.setCell ⟨gb, 0, none⟩ u') u' (xs ++ [y]) ∧ Below W1.heap.size W1 (w2.setCell ⟨gb, 0, none⟩ u') := by
  have hs1 : (W7.alloc (.cells #[.int .i64 y] 3)).heap.size = W7.heap.size + 1 := by simp
  have hs2 := hg.size
  have hlt := hb.lt
  have hs3 : (w2.setCell ⟨gb, 0, none⟩ u').heap.size = w2.heap.size := by simp
  have own : ∀ k, u.ownBlock = some k → gb + 1 ≤ k ∧ k < W7.heap.size ∧ (∃ cs t z, W7.heap[k]? = some (.cells cs t z)) ∧ ∃ o n c, u = .slice (some ⟨k, o, none⟩) n c := fun k hk => by
    rcases hO.2 with ⟨e, _⟩ | ⟨g9, cap, cur, e, hb9, hg9, _⟩
    · rw [e] at hk; cases hk
    · rw [e] at hk
      cases hk
      exact ⟨hb9, (Array.getElem?_eq_some_iff.1 hg9).1, ⟨_, _, _, hg9⟩, _, _, _, e⟩
  have kept : ∀ k, k < W7.heap.size → k ≠ gb → u.ownBlock ≠ some k → (w2.setCell ⟨gb, 0, none⟩ u').heap[k]? = W7.heap[k]? := fun k h1 h2 h3 =>
    (Below.heap_setCell _ _ _ _ h2).trans ((hg.block k (by omega) (fun e => h3 e.symm)).trans (Below.heap_alloc _ _ _ h1))
  have bx : Boxed w2 gb 27 u := ((hg.block gb (by omega) (fun e => by have := (own gb e.symm).1; omega)).trans (Below.heap_alloc _ _ _ hlt)).trans hb
  refine ⟨⟨by omega, fun k o hk ho hc => ?_⟩, ⟨by omega, fun k hk hp hr => ?_, fun k hk hq => ?_⟩, bx.set _, ownsRow_setCell_below hO' (by show gb < gb + 1; omega) _, ?_⟩
  · refine (kept k (Array.getElem?_eq_some_iff.1 ho).1 (by omega) fun e => ?_).trans ho
    obtain ⟨_, _, ⟨cs, t, z, e2⟩, _⟩ := own k e
    rw [e2] at ho
    cases ho
    cases hc
  · refine hr.of_block (kept k hr.lt (by omega) fun e => hp ?_)
    obtain ⟨_, _, _, o, n, c, e2⟩ := own k e
    exact ⟨o, n, c, by rw [← e2]; exact hb.cell⟩
  · obtain ⟨o, n, c, e⟩ := hq
    rw [(bx.set u').cell] at e
    injection e with e
    have e3 : u'.ownBlock = some k := by rw [e]; rfl
    rcases hat with h | h
    · obtain ⟨_, _, _, o, n, c, e2⟩ := own k (h.symm.trans e3)
      exact ⟨o, n, c, by rw [← e2]; exact hb.cell⟩
    · rw [h] at e3
      injection e3 with e3
      omega
  · refine ⟨hg.os.trans hBl.os, hg.tape.trans hBl.tape, hg.output.trans hBl.output, by have := hBl.size; omega, fun k hk => (kept k (by have := hBl.size; omega) (by omega) fun e => ?_).trans (hBl.block k hk)⟩
    have := (own k e).1
    omega
theorem pairs_snd (xs : List Int) : ((pairsI xs xs.length).map fun x => x.2) = xs := by
  refine List.ext_getElem? fun i => ?_
  rcases Nat.lt_or_ge i xs.length with h | h
  · simp [pairsI, h, List.getD_eq_getElem?_getD]
  · rw [List.getElem?_eq_none (by simp [pairsI]; omega), List.getElem?_eq_none h]
end Go.Proofs.Ytmghkkaoblkmpaa
