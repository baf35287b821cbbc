/- Contracts of the program's functions, part 31: own work, joined in build order. -/
import Derived.Test.YtacgpipccpmloaaJ30
namespace Go.Proofs.Ytacgpipccpmloaa
open Go.RowKit
set_option maxRecDepth 100000
set_option linter.unusedVariables false
/-- Both rings, apart, all of them from block n0 on, and what lay below. -/
structure MixAt (n0 : Nat) (bs : List Nat) (w0 w : World) (r s g h : Nat) (xs : List Int) (ys : List ByteArray) : Prop where
  a : ∃ N f, RI w r g N f xs.length xs
  b : ∃ N f, RS w s h N f ys.length ys
  hr : n0 ≤ r
  hs : n0 ≤ s
  hg : n0 ≤ g
  hh : n0 ≤ h
  ne : r ≠ s ∧ r ≠ h ∧ g ≠ s ∧ g ≠ h
  bel : Below n0 w0 w
  le : n0 ≤ w0.heap.size
  wt : ∀ k ∈ bs, (k ≠ r ∧ k ≠ g ∧ k ≠ s ∧ k ≠ h) ∧ k < w.heap.size
def Mix (n0 : Nat) (bs : List Nat) (w0 w : World) (r s : Nat) (xs : List Int) (ys : List ByteArray) : Prop := ∃ g h, MixAt n0 bs w0 w r s g h xs ys
section
variable {n0 r s : Nat} {bs : List Nat} {w0 w : World} {xs : List Int} {ys : List ByteArray}
theorem Mix.bel (h : Mix n0 bs w0 w r s xs ys) : Below n0 w0 w := by obtain ⟨_, _, k⟩ := h; exact k.bel
theorem Mix.mono {w' : World} (h : Mix n0 bs w0 w r s xs ys) (hb : Below w.heap.size w w') : Mix n0 bs w0 w' r s xs ys := by
  obtain ⟨g, k, m⟩ := h
  obtain ⟨N, f, ha⟩ := m.a
  obtain ⟨M, p, hbb⟩ := m.b
  exact ⟨g, k, ⟨N, f, ha.mono hb⟩, ⟨M, p, hbb.mono hb⟩, m.hr, m.hs, m.hg, m.hh, m.ne, m.bel.trans (hb.mono (Nat.le_trans m.le m.bel.size)), m.le, fun j hj => ⟨(m.wt j hj).1, Nat.lt_of_lt_of_le (m.wt j hj).2 hb.size⟩⟩
theorem Mix.forget (h : Mix n0 bs w0 w r s xs ys) : Mix n0 [] w0 w r s xs ys := by
  obtain ⟨g, k, m⟩ := h
  exact ⟨g, k, m.a, m.b, m.hr, m.hs, m.hg, m.hh, m.ne, m.bel, m.le, fun j hj => by cases hj⟩
theorem Mix.watch {w' : World} {k : Nat} (h : Mix n0 [] w0 w r s xs ys) (hb : Below w.heap.size w w') (hk : w.heap.size ≤ k) (hk2 : k < w'.heap.size) : Mix n0 [k] w0 w' r s xs ys := by
  obtain ⟨g, k', m⟩ := h.mono hb
  obtain ⟨g, k', m0⟩ := h
  obtain ⟨N, f, ha⟩ := m0.a
  obtain ⟨M, p, hbb⟩ := m0.b
  have l1 := ha.rlt
  have l2 := ha.glt
  have l3 := hbb.rlt
  have l4 := hbb.glt
  refine ⟨g, k', ⟨N, f, ha.mono hb⟩, ⟨M, p, hbb.mono hb⟩, m0.hr, m0.hs, m0.hg, m0.hh, m0.ne, m.bel, m0.le, fun j hj => ?_⟩
  obtain rfl : j = k := by simpa using hj
  exact ⟨⟨by omega, by omega, by omega, by omega⟩, hk2⟩
theorem Mix.liftI {xs' : List Int} (h : Mix n0 bs w0 w r s xs ys) {F : FuncId} {args : Array Value} {E : Ending} (C : ∀ g N f, RI w r g N f xs.length xs → Calls Try.prog F args w fun e w' => e = E ∧ RingsI w r g xs' w') :
    Calls Try.prog F args w fun e w' => e = E ∧ Hid (Mix n0 bs w0 w' r s xs' ys ∧ Same bs w w') := by
  obtain ⟨g, k, m⟩ := h
  obtain ⟨N, f, ha⟩ := m.a
  refine (C g N f ha).mono fun _ _ ⟨he, h5⟩ => ⟨he, ?_⟩
  obtain ⟨g', N', f', h6, h7, h8⟩ := h5
  obtain ⟨M, p, hb⟩ := m.b
  have l2 := hb.glt
  have l3 := hb.rlt
  obtain ⟨a, b, c, d⟩ := m.ne
  have hr := m.hr
  have hg := m.hg
  have hle := Nat.le_trans m.le m.bel.size
  refine ⟨⟨g', k, ⟨N', f', h6⟩, ⟨M, p, hb.chg h7 (Ne.symm a) (Ne.symm c) (Ne.symm b) (Ne.symm d)⟩, m.hr, m.hs, by rcases h8 with e | e | e <;> omega, m.hh, ⟨a, b, by rcases h8 with e | e | e <;> omega, by rcases h8 with e | e | e <;> omega⟩, m.bel.trans (h7.below hr hg hle), m.le, fun j hj => ?_⟩, fun j hj => h7.block j (m.wt j hj).2 (m.wt j hj).1.1 (m.wt j hj).1.2.1⟩
  obtain ⟨⟨q1, q2, q3, q4⟩, q5⟩ := m.wt j hj
  have := h7.size
  exact ⟨⟨q1, by rcases h8 with e | e | e <;> omega, q3, q4⟩, by omega⟩
theorem Mix.liftS {ys' : List ByteArray} (h : Mix n0 bs w0 w r s xs ys) {F : FuncId} {args : Array Value} {E : Ending} (C : ∀ g N f, RS w s g N f ys.length ys → Calls Try.prog F args w fun e w' => e = E ∧ RingsS w s g ys' w') :
    Calls Try.prog F args w fun e w' => e = E ∧ Hid (Mix n0 bs w0 w' r s xs ys' ∧ Same bs w w') := by
  obtain ⟨g, k, m⟩ := h
  obtain ⟨M, p, hb⟩ := m.b
  refine (C k M p hb).mono fun _ _ ⟨he, h5⟩ => ⟨he, ?_⟩
  obtain ⟨k', M', p', h6, h7, h8⟩ := h5
  obtain ⟨N, f, ha⟩ := m.a
  have l2 := ha.glt
  have l3 := ha.rlt
  obtain ⟨a, b, c, d⟩ := m.ne
  have hs := m.hs
  have hh := m.hh
  have hle := Nat.le_trans m.le m.bel.size
  refine ⟨⟨g, k', ⟨N, f, ha.chg h7 a b c d⟩, ⟨M', p', h6⟩, m.hr, m.hs, m.hg, by rcases h8 with e | e | e <;> omega, ⟨a, by rcases h8 with e | e | e <;> omega, c, by rcases h8 with e | e | e <;> omega⟩, m.bel.trans (h7.below hs hh hle), m.le, fun j hj => ?_⟩, fun j hj => h7.block j (m.wt j hj).2 (m.wt j hj).1.2.2.1 (m.wt j hj).1.2.2.2⟩
  obtain ⟨⟨q1, q2, q3, q4⟩, q5⟩ := m.wt j hj
  have := h7.size
  exact ⟨⟨q1, q2, q3, by rcases h8 with e | e | e <;> omega⟩, by omega⟩
theorem Mix.pushBackI (h : Mix n0 bs w0 w r s xs ys) (hx : xs.length ≤ 4294967296) (v : Int) : Calls Try.prog 17 #[.pointer (some ⟨r, 0, none⟩), Value.int .i64 v] w fun e w' => e = .returned (.tuple #[]) ∧ Hid (Mix n0 bs w0 w' r s (xs ++ [v]) ys ∧ Same bs w w') :=
  h.liftI (E := .returned (.tuple #[])) fun g N f kk => pushBackI_any r g N f xs v w kk hx
theorem Mix.pushBackS (h : Mix n0 bs w0 w r s xs ys) (hx : ys.length ≤ 4294967296) (v : ByteArray) : Calls Try.prog 18 #[.pointer (some ⟨s, 0, none⟩), Value.string v] w fun e w' => e = .returned (.tuple #[]) ∧ Hid (Mix n0 bs w0 w' r s xs (ys ++ [v]) ∧ Same bs w w') :=
  h.liftS (E := .returned (.tuple #[])) fun g N f kk => pushBackS_any s g N f ys v w kk hx
theorem Mix.pushFrontI (h : Mix n0 bs w0 w r s xs ys) (hx : xs.length ≤ 4294967296) (v : Int) : Calls Try.prog 19 #[.pointer (some ⟨r, 0, none⟩), Value.int .i64 v] w fun e w' => e = .returned (.tuple #[]) ∧ Hid (Mix n0 bs w0 w' r s (v :: xs) ys ∧ Same bs w w') :=
  h.liftI (E := .returned (.tuple #[])) fun g N f kk => pushFrontI_any r g N f xs v w kk hx
theorem Mix.pushFrontS (h : Mix n0 bs w0 w r s xs ys) (hx : ys.length ≤ 4294967296) (v : ByteArray) : Calls Try.prog 20 #[.pointer (some ⟨s, 0, none⟩), Value.string v] w fun e w' => e = .returned (.tuple #[]) ∧ Hid (Mix n0 bs w0 w' r s xs (v :: ys) ∧ Same bs w w') :=
  h.liftS (E := .returned (.tuple #[])) fun g N f kk => pushFrontS_any s g N f ys v w kk hx
theorem Mix.turnI (h : Mix n0 bs w0 w r s xs ys) (hx : xs.length ≤ 4294967296) (n : Int) (hn : -9223372036854775808 ≤ n) (hn2 : n ≤ 9223372036854775807) : Calls Try.prog 29 #[.pointer (some ⟨r, 0, none⟩), .int .i64 n] w fun e w' => e = .returned (.tuple #[]) ∧ Hid (Mix n0 bs w0 w' r s (rt n xs) ys ∧ Same bs w w') :=
  h.liftI (E := .returned (.tuple #[])) fun g N f kk => turnI_any r g N f xs n w kk hx hn hn2
theorem Mix.turnS (h : Mix n0 bs w0 w r s xs ys) (hx : ys.length ≤ 4294967296) (n : Int) (hn : -9223372036854775808 ≤ n) (hn2 : n ≤ 9223372036854775807) : Calls Try.prog 30 #[.pointer (some ⟨s, 0, none⟩), .int .i64 n] w fun e w' => e = .returned (.tuple #[]) ∧ Hid (Mix n0 bs w0 w' r s xs (rt n ys) ∧ Same bs w w') :=
  h.liftS (E := .returned (.tuple #[])) fun g N f kk => turnS_any s g N f ys n w kk hx hn hn2
theorem Mix.popFrontI (h : Mix n0 bs w0 w r s xs ys)  : Calls Try.prog 21 #[.pointer (some ⟨r, 0, none⟩)] w fun e w' => e = .returned (.tuple #[Value.int .i64 (getI 0 xs (0 : Int)), .bool (inR 0 xs.length)]) ∧ Hid (Mix n0 bs w0 w' r s (delI 0 xs) ys ∧ Same bs w w') :=
  h.liftI (E := .returned (.tuple #[Value.int .i64 (getI 0 xs (0 : Int)), .bool (inR 0 xs.length)])) fun g N f kk => popFrontI_u r g N f xs w kk
theorem Mix.popFrontS (h : Mix n0 bs w0 w r s xs ys)  : Calls Try.prog 22 #[.pointer (some ⟨s, 0, none⟩)] w fun e w' => e = .returned (.tuple #[Value.string (getI 0 ys (⟨#[]⟩ : ByteArray)), .bool (inR 0 ys.length)]) ∧ Hid (Mix n0 bs w0 w' r s xs (delI 0 ys) ∧ Same bs w w') :=
  h.liftS (E := .returned (.tuple #[Value.string (getI 0 ys (⟨#[]⟩ : ByteArray)), .bool (inR 0 ys.length)])) fun g N f kk => popFrontS_u s g N f ys w kk
theorem Mix.popBackI (h : Mix n0 bs w0 w r s xs ys)  : Calls Try.prog 23 #[.pointer (some ⟨r, 0, none⟩)] w fun e w' => e = .returned (.tuple #[Value.int .i64 (getI ((xs.length : Int) - 1) xs (0 : Int)), .bool (inR ((xs.length : Int) - 1) xs.length)]) ∧ Hid (Mix n0 bs w0 w' r s (delI ((xs.length : Int) - 1) xs) ys ∧ Same bs w w') :=
  h.liftI (E := .returned (.tuple #[Value.int .i64 (getI ((xs.length : Int) - 1) xs (0 : Int)), .bool (inR ((xs.length : Int) - 1) xs.length)])) fun g N f kk => popBackI_u r g N f xs w kk
theorem Mix.popBackS (h : Mix n0 bs w0 w r s xs ys)  : Calls Try.prog 24 #[.pointer (some ⟨s, 0, none⟩)] w fun e w' => e = .returned (.tuple #[Value.string (getI ((ys.length : Int) - 1) ys (⟨#[]⟩ : ByteArray)), .bool (inR ((ys.length : Int) - 1) ys.length)]) ∧ Hid (Mix n0 bs w0 w' r s xs (delI ((ys.length : Int) - 1) ys) ∧ Same bs w w') :=
  h.liftS (E := .returned (.tuple #[Value.string (getI ((ys.length : Int) - 1) ys (⟨#[]⟩ : ByteArray)), .bool (inR ((ys.length : Int) - 1) ys.length)])) fun g N f kk => popBackS_u s g N f ys w kk
theorem Mix.takeI (h : Mix n0 bs w0 w r s xs ys) (i : Int) : Calls Try.prog 27 #[.pointer (some ⟨r, 0, none⟩), .int .i64 i] w fun e w' => e = .returned (.tuple #[Value.int .i64 (getI i xs (0 : Int)), .bool (inR i xs.length)]) ∧ Hid (Mix n0 bs w0 w' r s (delI i xs) ys ∧ Same bs w w') :=
  h.liftI (E := .returned (.tuple #[Value.int .i64 (getI i xs (0 : Int)), .bool (inR i xs.length)])) fun g N f kk => takeI_u r g N f xs i w kk
theorem Mix.takeS (h : Mix n0 bs w0 w r s xs ys) (i : Int) : Calls Try.prog 28 #[.pointer (some ⟨s, 0, none⟩), .int .i64 i] w fun e w' => e = .returned (.tuple #[Value.string (getI i ys (⟨#[]⟩ : ByteArray)), .bool (inR i ys.length)]) ∧ Hid (Mix n0 bs w0 w' r s xs (delI i ys) ∧ Same bs w w') :=
  h.liftS (E := .returned (.tuple #[Value.string (getI i ys (⟨#[]⟩ : ByteArray)), .bool (inR i ys.length)])) fun g N f kk => takeS_u s g N f ys i w kk
theorem Mix.atI (h : Mix n0 bs w0 w r s xs ys) (i : Int) : Calls Try.prog 31 #[.pointer (some ⟨r, 0, none⟩), .int .i64 i] w fun e w' => e = .returned (.tuple #[Value.int .i64 (getI i xs (0 : Int)), .bool (inR i xs.length)]) ∧ Hid (Mix n0 bs w0 w' r s xs ys ∧ Same bs w w') :=
  h.liftI (E := .returned (.tuple #[Value.int .i64 (getI i xs (0 : Int)), .bool (inR i xs.length)])) fun g N f kk => atI_u r g N f xs i w kk
theorem Mix.atS (h : Mix n0 bs w0 w r s xs ys) (i : Int) : Calls Try.prog 32 #[.pointer (some ⟨s, 0, none⟩), .int .i64 i] w fun e w' => e = .returned (.tuple #[Value.string (getI i ys (⟨#[]⟩ : ByteArray)), .bool (inR i ys.length)]) ∧ Hid (Mix n0 bs w0 w' r s xs ys ∧ Same bs w w') :=
  h.liftS (E := .returned (.tuple #[Value.string (getI i ys (⟨#[]⟩ : ByteArray)), .bool (inR i ys.length)])) fun g N f kk => atS_u s g N f ys i w kk
theorem Mix.putI (h : Mix n0 bs w0 w r s xs ys) (i : Int) (v : Int) : Calls Try.prog 25 #[.pointer (some ⟨r, 0, none⟩), .int .i64 i, Value.int .i64 v] w fun e w' => e = .returned (.bool (inR i xs.length)) ∧ Hid (Mix n0 bs w0 w' r s (setI i v xs) ys ∧ Same bs w w') :=
  h.liftI (E := .returned (.bool (inR i xs.length))) fun g N f kk => setI_u r g N f xs i v w kk
theorem Mix.putS (h : Mix n0 bs w0 w r s xs ys) (i : Int) (v : ByteArray) : Calls Try.prog 26 #[.pointer (some ⟨s, 0, none⟩), .int .i64 i, Value.string v] w fun e w' => e = .returned (.bool (inR i ys.length)) ∧ Hid (Mix n0 bs w0 w' r s xs (setI i v ys) ∧ Same bs w w') :=
  h.liftS (E := .returned (.bool (inR i ys.length))) fun g N f kk => setS_u s g N f ys i v w kk
theorem Mix.lenI (h : Mix n0 bs w0 w r s xs ys) (c : Nat) (hc : xs.length = c) : Calls Try.prog 33 #[.pointer (some ⟨r, 0, none⟩)] w fun e w' => e = .returned (.int .i64 (c : Int)) ∧ w' = w := by
  obtain ⟨g, k, m⟩ := h
  obtain ⟨N, f, kk⟩ := m.a
  rw [← hc]
  exact lenI_any r g N f _ xs w kk
theorem Mix.listI (h : Mix n0 bs w0 w r s xs ys) (c : Nat) (hc : xs.length = c) : Calls Try.prog 12 #[.pointer (some ⟨r, 0, none⟩)] w fun e w' => e = .returned (.slice (some ⟨w.heap.size, 0, none⟩) c c) ∧ Hid (w'.rowIs w.heap.size 3 c (fun j => Value.int .i64 (xs.getD j (0 : Int))) ∧ Mix n0 bs w0 w' r s xs ys ∧ Below w.heap.size w w') := by
  have h' := h
  obtain ⟨g, k, m⟩ := h
  obtain ⟨N, f, kk⟩ := m.a
  exact (listI_any r g N f c xs w (hc ▸ kk) hc).mono fun _ _ ⟨he, h5, h6⟩ => ⟨he, h5, h'.mono h6, h6⟩
theorem Mix.lenS (h : Mix n0 bs w0 w r s xs ys) (c : Nat) (hc : ys.length = c) : Calls Try.prog 34 #[.pointer (some ⟨s, 0, none⟩)] w fun e w' => e = .returned (.int .i64 (c : Int)) ∧ w' = w := by
  obtain ⟨g, k, m⟩ := h
  obtain ⟨N, f, kk⟩ := m.b
  rw [← hc]
  exact lenS_any s k N f _ ys w kk
theorem Mix.listS (h : Mix n0 bs w0 w r s xs ys) (c : Nat) (hc : ys.length = c) : Calls Try.prog 35 #[.pointer (some ⟨s, 0, none⟩)] w fun e w' => e = .returned (.slice (some ⟨w.heap.size, 0, none⟩) c c) ∧ Hid (w'.rowIs w.heap.size 9 c (fun j => Value.string (ys.getD j (⟨#[]⟩ : ByteArray))) ∧ Mix n0 bs w0 w' r s xs ys ∧ Below w.heap.size w w') := by
  have h' := h
  obtain ⟨g, k, m⟩ := h
  obtain ⟨N, f, kk⟩ := m.b
  exact (listS_any s k N f c ys w (hc ▸ kk) hc).mono fun _ _ ⟨he, h5, h6⟩ => ⟨he, h5, h'.mono h6, h6⟩
end
end Go.Proofs.Ytacgpipccpmloaa
