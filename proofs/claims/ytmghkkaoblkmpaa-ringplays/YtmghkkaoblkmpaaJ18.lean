/- Contracts of the program's functions, part 18: own work, joined in build order. -/
import Derived.Test.YtmghkkaoblkmpaaJ17
import Derived.Laws.AppendOwnNone
namespace Go.Proofs.Ytmghkkaoblkmpaa
open Go.RowKit
set_option maxRecDepth 100000
set_option linter.unusedVariables false
/-- A slice of numbers; nil has no room. -/
structure ISx (w : World) (a : Option Addr) (n cap : Nat) (xs : List Int) : Prop where
  sl : ISl w a n cap xs
  nil : a = none → cap = 0
theorem ISx.mono {w w' : World} {a : Option Addr} {n cap : Nat} {xs : List Int} (h : ISx w a n cap xs) (hb : Below w.heap.size w w') : ISx w' a n cap xs := ⟨h.sl.mono hb, h.nil⟩
/-- v is a slice of xs in memory of the call's own. -/
def Ow (base : Nat) (w : World) (v : Value) (xs : List Int) : Prop := w.ownsRow base 3 1 v xs.length (xs.map (Value.int .i64))
theorem Ow.nil (base : Nat) (w : World) : Ow base w (.slice none 0 0) [] := World.ownsRow_nil _ _ _ _
theorem Ow.isx {base : Nat} {w : World} {v : Value} {xs : List Int} (h : Ow base w v xs) : ∃ a cap, v = .slice a xs.length cap ∧ ISx w a xs.length cap xs ∧ (a = none ∨ ∃ g, a = some ⟨g, 0, none⟩ ∧ base ≤ g ∧ g < w.heap.size) := by
  rcases h.2 with ⟨e, e0⟩ | ⟨g, cap, cur, e, hb, hg, hn, hc, hsz, htk⟩
  · refine ⟨none, 0, by rw [e, e0], ⟨⟨by omega, by omega, rfl, .inl e0⟩, fun _ => rfl⟩, .inl rfl⟩
  · have hlt : g < w.heap.size := (Array.getElem?_eq_some_iff.1 hg).1
    refine ⟨_, cap, e, ⟨⟨hn, by simp only [maxLen] at hc; omega, rfl, .inr ⟨g, 0, rfl, fun i hi => ?_⟩⟩, fun e => by cases e⟩, .inr ⟨g, rfl, hb, hlt⟩⟩
    have q4 := congrArg (fun l => l[i]?) htk
    simp only [Nat.mul_one] at q4
    rw [List.getElem?_take_of_lt hi] at q4
    have q5 : cur[i]? = some (.int .i64 (xs.getD i 0)) := by
      rw [← Array.getElem?_toList, q4]
      simp [List.getD_eq_getElem?_getD, hi]
    rw [Nat.zero_add]
    simp [World.cell?, hg, q5]
theorem Ow.below {base b2 : Nat} {w w' : World} {v : Value} {xs : List Int} (h : Ow base w v xs) (hb : Below w.heap.size w w') : Ow base w' v xs := by
  refine ⟨h.1, h.2.imp id ?_⟩
  rintro ⟨g, cap, cur, e, hb2, hg, rest⟩
  exact ⟨g, cap, cur, e, hb2, (hb.block g (Array.getElem?_eq_some_iff.1 hg).1).trans hg, rest⟩
theorem wp_app {w : World} {ops : Array Oper} {rest : List Oper} {o : Oper} {a : Act} {Q : Exit → Act → World → Prop} (hgd : o.guard = none) (s x : Operand)
    (ho : o.op = .call { callee := .builtin .append, args := #[s, x], argTypes := #[27, 27] }) (base : Nat) (v : Value) (xs : List Int) (hs : a.eval s = v) (hown : Ow base w v xs)
    (sp : Option Addr) (n cap : Nat) (ys : List Int) (hx : a.eval x = .slice sp n cap) (hS : ISx w sp n cap ys) (hlim : xs.length + n ≤ 4294967296) (hb : base ≤ w.heap.size)
    (h : ∀ v' w', Hid (Ow base w' v' (xs ++ ys) ∧ Below base w w') → wpList Try.prog ops Q rest (a.put o.dst v') w') : wpList Try.prog ops Q (o :: rest) a w := by
  obtain ⟨i, hi, hz, hsz, hby⟩ := info_parts Try.infoI
  have hlen := hS.sl.len
  rcases sp with _ | ad
  · have e0 : n = 0 := by
      rcases hS.sl.at' with e | ⟨b, o', e, _⟩
      · exact e
      · cases e
    have ec := hS.nil rfl
    subst e0 ec
    have ey : ys = [] := List.eq_nil_of_length_eq_zero hlen
    subst ey
    refine wpList_append_own_none hgd s x 27 ho base 3 i 1 Try.underlying27 hi v _ _ hs hown hx ?_
    exact h v w ⟨by rw [List.append_nil]; exact hown, Below.refl _ _⟩
  · have hcells : ∀ j u, (ys.map (Value.int .i64))[j]? = some u → w.cell? (ad.add j) = some u := by
      intro j u hj
      have hjn : j < ys.length := by
        rcases Nat.lt_or_ge j ys.length with h' | h'
        · exact h'
        · rw [List.getElem?_eq_none (by simpa using h')] at hj
          cases hj
      obtain ⟨b, o', e, hc⟩ := hS.sl.at (by omega)
      cases e
      rw [addr_add, hc j (by omega)]
      simpa [List.getD_eq_getElem?_getD, hjn] using hj
    refine wpList_append_own w hgd s x 27 ho base 3 i _ 1 8 Try.underlying27 hi hz hsz hby rfl (by omega) v _ _ hs hown ad n cap (ys.map (Value.int .i64)) hx (by simp [hlen]) hcells (fun u hu => by simp at hu; obtain ⟨j, _, rfl⟩ := hu; rfl) (by simp only [maxLen]; omega) (by omega) hb ?_
    intro v' w' h1 h2 _
    refine h v' w' ⟨?_, ?_⟩
    · show w'.ownsRow _ _ _ _ _ _
      rw [List.length_append, List.map_append, hlen]
      exact h1
    · refine (Below.refl base w).grown h2 hb fun k hk => ?_
      rcases hown.2 with ⟨e, _⟩ | ⟨g, cap', cur, e, hbg, _⟩
      · rw [e] at hk; cases hk
      · rw [e] at hk; cases hk; exact hbg
theorem cut_lo {w : World} {p : Option Addr} {n cap : Nat} {xs : List Int} (h : ISx w p n cap xs) (l : Nat) (hl : l ≤ n) : ∃ q c, ISx w q (n - l) c (xs.drop l) ∧
    ∀ (w' : World), (Instr.slice 27 (.slice p n cap) (some (.int .i64 (l : Int))) none none).run Try.prog w' = .ok (.slice q (n - l) c) w' := by
  have hle := h.sl.le
  have hlen := h.sl.len
  refine ⟨if cap = l then p else p.map (·.add l), cap - l, ⟨⟨by omega, by have := h.sl.lim; omega, by rw [List.length_drop]; omega, ?_⟩, fun e => ?_⟩, fun w' => ?_⟩
  · rcases Nat.eq_zero_or_pos (n - l) with e | e
    · exact .inl e
    · obtain ⟨b, o, ha, hc⟩ := h.sl.at (by omega)
      subst ha
      refine .inr ⟨b, o + l, ?_, fun i hi => ?_⟩
      · rw [if_neg (by omega), Option.map_some, addr_add]
      · rw [Nat.add_assoc, hc (l + i) (by omega)]
        simp [List.getD_eq_getElem?_getD]
  · split at e
    · omega
    · rcases p with _ | ad
      · have := h.nil rfl; omega
      · cases e
  · rw [run_slice_l (P := Try.prog) (kl := .i64) (l := (l : Int)) (ht := by kernel_rfl) (h0 := by omega) (h1 := by omega)]
    have hz : (sizeOf (Try.prog.elem 27)).run Try.prog w' = .ok 1 w' := by kernel_rfl
    rw [hz]
    simp only [Result.andThen, sliced, Int.toNat_natCast, Nat.mul_one]
theorem cut_hi {w : World} {p : Option Addr} {n cap : Nat} {xs : List Int} (h : ISx w p n cap xs) (l : Nat) (hl : l ≤ n) : ∃ q, ISx w q l cap (xs.take l) ∧
    ∀ (w' : World), (Instr.slice 27 (.slice p n cap) none (some (.int .i64 (l : Int))) none).run Try.prog w' = .ok (.slice q l cap) w' := by
  have hle := h.sl.le
  have e9 : (if cap = 0 then p else p.map (fun x => x.add (0 * 1))) = p := by
    split
    · rfl
    · cases p
      · rfl
      · simp [Addr.add]
  refine ⟨p, ⟨h.sl.take hl, h.nil⟩, fun w' => ?_⟩
  rw [run_slice_h (P := Try.prog) (kh := .i64) (h := (l : Int)) (ht := by kernel_rfl) (h0 := by omega) (h2 := by omega)]
  have hz : (sizeOf (Try.prog.elem 27)).run Try.prog w' = .ok 1 w' := by kernel_rfl
  rw [hz]
  simp only [Result.andThen, sliced, Int.toNat_natCast, Nat.sub_zero, e9]
theorem hold {p : Prop} (h : True → p) : p := h trivial
end Go.Proofs.Ytmghkkaoblkmpaa
