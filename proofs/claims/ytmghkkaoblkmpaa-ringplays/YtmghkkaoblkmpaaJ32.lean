/- Contracts of the program's functions, part 32: own work, joined in build order. -/
import Derived.Test.YtmghkkaoblkmpaaJ31
import Derived.Maps.AppendAt
namespace Go.Proofs.Ytmghkkaoblkmpaa
open Go.RowKit
set_option maxRecDepth 100000
set_option linter.unusedVariables false
theorem Ow.of_row {W : World} {g c b : Nat} {xs : List Int} (h : W.rowIs g 3 c (fun j => Value.int .i64 (xs.getD j (0 : Int)))) (hx : xs.length = c) (hc : c ≤ 4294967296) (hb : b ≤ g) : Ow b W (.slice (some ⟨g, 0, none⟩) c c) xs := by
  obtain ⟨cs, h1, h2, h3⟩ := h
  refine ⟨by simp, .inr ⟨g, c, cs, by rw [hx], hb, h1, by omega, by simp only [maxLen]; omega, by omega, ?_⟩⟩
  refine List.ext_getElem? fun i => ?_
  rw [List.getElem?_take]
  split
  · rename_i hi
    have := h3 i (by omega)
    rw [Array.getElem?_toList, this]
    have hl : i < xs.length := by omega
    simp [List.getD_eq_getElem?_getD, hl]
  · rename_i hi
    rw [List.getElem?_eq_none (by simp; omega)]
theorem Ow.put {base : Nat} {w : World} {v : Value} {xs : List Int} (h : Ow base w v xs) (k : Nat) (hk : k < xs.length) : ∃ g cap, v = .slice (some ⟨g, 0, none⟩) xs.length cap ∧ base ≤ g ∧ w.cell? ⟨g, k, none⟩ = some (.int .i64 (xs.getD k 0)) ∧ w.frozen? ⟨g, k, none⟩ = false ∧ ∀ x, Ow base (w.setCell ⟨g, k, none⟩ (.int .i64 x)) v (xs.set k x) := by
  rcases h.2 with ⟨e, e0⟩ | ⟨g, cap, cur, e, hb, hg, hn, hc, hsz, htk⟩
  · omega
  · have q4 := congrArg (fun l => l[k]?) htk
    simp only [Nat.mul_one] at q4
    rw [List.getElem?_take_of_lt hk] at q4
    have q5 : cur[k]? = some (.int .i64 (xs.getD k 0)) := by
      rw [← Array.getElem?_toList, q4]
      simp [List.getD_eq_getElem?_getD, hk]
    refine ⟨g, cap, e, hb, by simp [World.cell?, hg, q5], by simp [World.frozen?, hg], fun x => ⟨by simp, .inr ⟨g, cap, _, by rw [e]; simp, hb, heap_setCell_same w g k cur _ _ hg, by simpa using hn, hc, by simpa using hsz, ?_⟩⟩⟩
    rw [Array.toList_setIfInBounds, List.map_set, ← htk]
    simp [List.take_set]
theorem grown_put {w wr : World} {g k : Nat} {u : Value} (h : w.grownBy wr (some g)) : w.grownBy (wr.setCell ⟨g, k, none⟩ u) (some g) :=
  ⟨h.os, h.tape, h.output, by simpa using h.size, fun j hj hne => (Below.heap_setCell _ _ _ _ (by show j ≠ g; intro e; exact hne (by rw [e]))).trans (h.block j hj hne)⟩
theorem grown_trans {w w1 w2 : World} {row row' : Option Nat} (h : w.grownBy w1 row) (k : w1.grownBy w2 row') (hr : ∀ g, row' = some g → row = some g ∨ w.heap.size ≤ g) : w.grownBy w2 row :=
  ⟨k.os.trans h.os, k.tape.trans h.tape, k.output.trans h.output, Nat.le_trans h.size k.size, fun j hj hne => (k.block j (Nat.lt_of_lt_of_le hj h.size) (fun e => by rcases hr j e.symm with e2 | e2; exact hne e2.symm; omega)).trans (h.block j hj hne)⟩
theorem isx_two (w : World) (v : Int) : ISx (w.alloc (.cells #[.int .i64 v, .int .i64 v] 3)) (some ⟨w.heap.size, 0, none⟩) 2 2 [v, v] :=
  ⟨⟨Nat.le_refl _, by omega, rfl, .inr ⟨_, 0, rfl, fun i hi => by
    rcases i with _ | _ | i
    · simp [go_sem]
    · simp [go_sem]
    · omega⟩⟩, fun e => by cases e⟩
/-- Behind filled: only the list's own block is written. -/
def Fills (base : Nat) (w : World) (v : Value) (xs : List Int) (mark : Int) (e : Ending) (w' : World) : Prop :=
  ∃ v', e = .returned v' ∧ Ow base w' v' (List.replicate (xs.length + 2) mark) ∧ w.grownBy w' v.ownBlock ∧ (v'.ownBlock = v.ownBlock ∨ ∃ k, v'.ownBlock = some k ∧ w.heap.size ≤ k)
theorem wp_app2 {w : World} {ops : Array Oper} {rest : List Oper} {o : Oper} {a : Act} {Q : Exit → Act → World → Prop} (hgd : o.guard = none) (s x : Operand)
    (ho : o.op = .call { callee := .builtin .append, args := #[s, x], argTypes := #[27, 27] }) (base : Nat) (v : Value) (xs : List Int) (hs : a.eval s = v) (hown : Ow base w v xs)
    (ad : Addr) (n cap : Nat) (ys : List Int) (hx : a.eval x = .slice (some ad) n cap) (hS : ISx w (some ad) n cap ys) (hlim : xs.length + n ≤ 4294967296) (hb : base ≤ w.heap.size)
    (h : ∀ v' w', Hid (Ow base w' v' (xs ++ ys) ∧ w.grownBy w' v.ownBlock ∧ (v'.ownBlock = v.ownBlock ∨ v'.ownBlock = some w.heap.size)) → wpList Try.prog ops Q rest (a.put o.dst v') w') : wpList Try.prog ops Q (o :: rest) a w := by
  obtain ⟨i, hi, hz, hsz, hby⟩ := info_parts Try.infoI
  have hlen := hS.sl.len
  have hcells : ∀ j u, (ys.map (Value.int .i64))[j]? = some u → w.cell? (ad.add j) = some u := by
    intro j u hj
    have hjn : j < ys.length := by
      rcases Nat.lt_or_ge j ys.length with h' | h'
      · exact h'
      · rw [List.getElem?_eq_none (by simpa using h')] at hj
        cases hj
    obtain ⟨b, o', e, hc⟩ := hS.sl.at (by omega)
    cases e
    rw [addr_add, hc j (by omega)]
    simpa [List.getD_eq_getElem?_getD, hjn] using hj
  refine wpList_append_own_at w hgd s x 27 ho base 3 i _ 1 8 Try.underlying27 hi hz hsz hby rfl (by omega) v _ _ hs hown ad n cap (ys.map (Value.int .i64)) hx (by simp [hlen]) hcells (fun u hu => by simp at hu; obtain ⟨j, _, rfl⟩ := hu; rfl) (by simp only [maxLen]; omega) (by omega) hb ?_
  intro v' w' h1 h2 _ h4
  refine h v' w' ⟨?_, h2, h4⟩
  show w'.ownsRow _ _ _ _ _ _
  rw [List.length_append, List.map_append, hlen]
  exact h1
set_option maxHeartbeats 2000000 in
theorem filled_any (base : Nat) (v : Value) (xs : List Int) (mark : Int) (w : World) (h : Ow base w v xs) (hb : base ≤ w.heap.size) (hl : xs.length ≤ 1073741824) :
    Calls Try.prog 13 #[v, .int .i64 mark] w (Fills base w v xs mark) := by
  obtain ⟨n, en⟩ : ∃ n, n = xs.length := ⟨_, rfl⟩
  have HN : Hid (n = xs.length) := en
  obtain ⟨a, cap, ev, hx, ha⟩ := h.isx
  have hcap := hx.sl.lim
  have hle := hx.sl.le
  rw [← en] at ev hle hl
  have H0 : Hid (Ow base w v (List.replicate 0 mark ++ xs.drop 0) ∧ w.grownBy w v.ownBlock) := ⟨by simpa using h, ⟨rfl, rfl, rfl, Nat.le_refl _, fun _ _ _ => rfl⟩⟩
  clear h hx ha en
  subst ev
  go_enter Try.func13, Try.ntmps13
  go_wp2_with fail
  go_loopw [5] (fun t wr => ∃ (k : Nat), k ≤ n ∧ t = .int .i64 (k : Int) ∧ Hid (Ow base wr (.slice a n cap) (List.replicate k mark ++ xs.drop k) ∧ w.grownBy wr (Value.slice a n cap).ownBlock)) (fun t _ => n - (intOf t).toNat)
  case atStart => exact ⟨0, by omega, rfl, H0⟩
  case round =>
    clear H0
    obtain ⟨k, hk, rfl, hO⟩ := hrel
    have hlk : (List.replicate k mark ++ xs.drop k).length = n := by
      rw [List.length_append, List.length_replicate, List.length_drop, ← HN.out]
      omega
    by_cases hkn : k < n
    · obtain ⟨g, cap', e, hbg, hc, hf, hput⟩ := hO.out.1.put k (by omega)
      injection e with e1 e2 e3
      subst e1 e3
      have HP : Hid (Ow base (wr.setCell ⟨g, k, none⟩ (.int .i64 mark)) (.slice (some ⟨g, 0, none⟩) n cap) (List.replicate (k + 1) mark ++ xs.drop (k + 1)) ∧ w.grownBy (wr.setCell ⟨g, k, none⟩ (.int .i64 mark)) (some g)) := by
        refine ⟨?_, grown_put hO.out.2⟩
        have := hput mark
        rw [List.set_append_right _ _ (by simp), List.length_replicate, Nat.sub_self, List.drop_eq_getElem_cons (by have := HN.out; omega), List.set_cons_zero] at this
        rw [List.replicate_succ', List.append_assoc]
        exact this
      clear hput hO hlk e2
      go_wp2_with fail
      go_roundw
      case rel => exact ⟨k + 1, by omega, by go_num, HP⟩
      case measure => simp [intOf]; omega
    · obtain rfl : k = n := by omega
      have H1 : Hid (Ow base wr (.slice a k cap) (List.replicate k mark) ∧ w.grownBy wr (Value.slice a k cap).ownBlock) := by
        refine ⟨?_, hO.out.2⟩
        have := hO.out.1
        rw [List.drop_eq_nil_of_le (by have := HN.out; omega), List.append_nil] at this
        exact this
      clear hO hlk
      go_wp2_with (refine (id ?_ : wpList Try.prog _ _ (⟨some 20, _, _, _, _, _⟩ :: _) _ _); refine hold ?_)
      intro _
      have hgs := H1.out.2.size
      refine wp_app2 rfl (.tmp 16) (.tmp 19) rfl base (.slice a k cap) (List.replicate k mark) rfl (H1.out.1.below (b2 := 0) ((Below.refl _ _).alloc (Nat.le_refl _) _)) _ 2 2 [mark, mark] rfl (isx_two wr mark) (by simp; omega) (by simp; omega) ?_
      intro v' w' H2
      go_wp2_with fail
      go_ret
      refine ⟨v', rfl, ?_, ?_, ?_⟩
      · have := H2.out.1
        rw [← HN.out, List.replicate_succ', List.replicate_succ', List.append_assoc]
        exact this
      · have ga : wr.grownBy (wr.alloc (.cells #[.int .i64 mark, .int .i64 mark] 3)) none := ⟨rfl, rfl, rfl, by simp, fun k hk _ => Below.heap_alloc _ _ _ hk⟩
        exact grown_trans (grown_trans H1.out.2 ga (fun g e => by cases e)) H2.out.2.1 (fun g e => .inl e)
      · rcases H2.out.2.2 with e | e
        · exact .inl e
        · exact .inr ⟨_, e, by simp; omega⟩
end Go.Proofs.Ytmghkkaoblkmpaa
