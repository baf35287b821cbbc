/- Contracts of the program's functions, part 23: own work, joined in build order. -/
import Derived.Test.YtmghkkaoblkmpaaJ22
namespace Go.Proofs.Ytmghkkaoblkmpaa
open Go.RowKit
set_option maxRecDepth 100000
set_option linter.unusedVariables false
/-- Behind a step: the ring and the list hold the same; what else lay is as it was. -/
structure Did (w : World) (r g : Nat) (v0 : Value) (xs : List Int) (v : Value) (w' : World) : Prop where
  ring : ∃ ys g' N' f', RI w' r g' N' f' ys.length ys ∧ (g' = g ∨ g' = r ∨ w.heap.size ≤ g') ∧ ys.length ≤ xs.length + 1 ∧ ((v = v0 ∧ ys = xs) ∨ ∃ b0, w.heap.size ≤ b0 ∧ r < b0 ∧ g' < b0 ∧ Ow b0 w' v ys)
  chg : Chg w w' r g
theorem Did.mk1 {w w1 w2 : World} {r g : Nat} {v0 v : Value} {xs ys : List Int} (h1 : RingsI w r g ys w1) (h2 : Gl w1 v0 xs ys v w2) (hl : ys.length ≤ xs.length + 1) : Did w r g v0 xs v w2 := by
  obtain ⟨g', N', f', hR, hC, hg⟩ := h1
  have l1 := hR.rlt
  have l2 := hR.glt
  refine ⟨⟨ys, g', N', f', hR.mono h2.2, hg, hl, ?_⟩, hC.trans (Chg.of_below h2.2 r g) (.inl rfl)⟩
  rcases h2.1 with e | e
  · exact .inl e
  · exact .inr ⟨w1.heap.size, hC.size, l1, l2, e⟩
theorem Did.up {w w0 w' : World} {r g : Nat} {v0 v : Value} {xs : List Int} (h : Did w0 r g v0 xs v w') (hb : Below w.heap.size w w0) : Did w r g v0 xs v w' := by
  obtain ⟨⟨ys, g', N', f', h1, h2, h3, h4⟩, hC⟩ := h
  have := hb.size
  refine ⟨⟨ys, g', N', f', h1, ?_, h3, ?_⟩, (Chg.of_below hb r g).trans hC (.inl rfl)⟩
  · rcases h2 with e | e | e
    · exact .inl e
    · exact .inr (.inl e)
    · exact .inr (.inr (by omega))
  · rcases h4 with e | ⟨b0, q1, q2⟩
    · exact .inl e
    · exact .inr ⟨b0, by omega, q2⟩
/-- What a step starts from. -/
structure Doing (w : World) (r g N f : Nat) (a : Option Addr) (c cap : Nat) (xs : List Int) : Prop where
  ring : RI w r g N f xs.length xs
  lst : ISx w a c cap xs
  ap : ∀ b o, a = some ⟨b, o, none⟩ → b ≠ r ∧ b ≠ g ∧ b < w.heap.size
  lim : c ≤ 1048576
theorem Doing.lst_at {w w' : World} {r g N f : Nat} {a : Option Addr} {c cap : Nat} {xs : List Int} (h : Doing w r g N f a c cap xs) (hC : Chg w w' r g) : ISx w' a c cap xs := by
  refine ⟨⟨h.lst.sl.le, h.lst.sl.lim, h.lst.sl.len, h.lst.sl.at'.imp id ?_⟩, h.lst.nil⟩
  rintro ⟨b, o, e, hc⟩
  obtain ⟨h1, h2, _⟩ := h.ap b o e
  exact ⟨b, o, e, fun i hi => hC.cell (hc i hi) h1 h2⟩
theorem Doing.alloc {w : World} {r g N f : Nat} {a : Option Addr} {c cap : Nat} {xs : List Int} (h : Doing w r g N f a c cap xs) {w' : World} (hb : Below w.heap.size w w') : Doing w' r g N f a c cap xs :=
  ⟨h.ring.mono hb, h.lst.mono hb, fun b o e => ⟨(h.ap b o e).1, (h.ap b o e).2.1, Nat.lt_of_lt_of_le (h.ap b o e).2.2 hb.size⟩, h.lim⟩
theorem rings_chg {w w1 : World} {r g : Nat} {ys : List Int} (h : RingsI w r g ys w1) : Chg w w1 r g := by obtain ⟨_, _, _, _, h2, _⟩ := h; exact h2
theorem set_list (xs : List Int) (j : Nat) (v : Int) (h : j < xs.length) : (xs.take j ++ xs.drop (j + 1)).take j ++ [v] ++ (xs.take j ++ xs.drop (j + 1)).drop j = xs.set j v := by
  have e : (xs.take j).length = j := by rw [List.length_take]; omega
  rw [List.take_append_of_le_length (by omega), List.drop_append_of_le_length (by omega), List.take_of_length_le (by omega), List.drop_eq_nil_of_le (by omega), List.set_eq_take_append_cons_drop, if_pos h]
  simp
set_option maxHeartbeats 4000000 in
theorem do_back (r g N0 f0 : Nat) (a : Option Addr) (c cap : Nat) (xs : List Int) (K O N V : Int) (w : World) (h : Doing w r g N0 f0 a c cap xs) (hk : K = 0) (hn : -9223372036854775808 ≤ N) (hn2 : N ≤ 9223372036854775807) :
    Calls Try.prog 14 #[.pointer (some ⟨r, 0, none⟩), .slice a c cap, .agg #[.int .i64 K, .int .i64 O, .int .i64 N, .int .i64 V]] w fun e w' => ∃ v, e = .returned (.tuple #[v, .bool true]) ∧ Did w r g (.slice a c cap) xs v w' := by
  subst hk
  obtain ⟨bx, ebx⟩ : ∃ bx, bx = w.heap.size := ⟨_, rfl⟩
  obtain ⟨w0, hw0⟩ : ∃ w0, w0 = w.alloc (.cells #[.int .i64 0, .int .i64 O, .int .i64 N, .int .i64 V] 34) := ⟨_, rfl⟩
  have B0 : Below w.heap.size w w0 := by rw [hw0]; exact (Below.refl _ _).alloc (Nat.le_refl _) _
  have y0 : w0.cell? ⟨bx, 0, none⟩ = some (.int .i64 0) := by rw [hw0, ebx]; simp [go_sem]
  have y2 : w0.cell? ⟨bx, 2, none⟩ = some (.int .i64 N) := by rw [hw0, ebx]; simp [go_sem]
  have y3 : w0.cell? ⟨bx, 3, none⟩ = some (.int .i64 V) := by rw [hw0, ebx]; simp [go_sem]
  have hlen := h.lst.sl.len
  have hle := h.lst.sl.le
  have hlim := h.lst.sl.lim
  have hcl := h.lim
  have HD : Hid (Doing w0 r g N0 f0 a c cap xs ∧ Below w.heap.size w w0 ∧ xs.length = c) := ⟨h.alloc B0, B0, hlen⟩
  have hbr : bx ≠ r := by have := h.ring.rlt; omega
  have hbg : bx ≠ g := by have := h.ring.glt; omega
  have HW0 : Hid (w0 = w.alloc (.cells #[.int .i64 0, .int .i64 O, .int .i64 N, .int .i64 V] 34)) := hw0
  have HBX : Hid (bx = w.heap.size) := ebx
  clear h hw0 B0 ebx hlen
  go_enter Try.func14, Try.ntmps14
  go_wp2_with fail
  rw [← HW0.out, ← HBX.out]
  refine (pushBackI_any r g N0 f0 xs V w0 HD.out.1.ring (by have := HD.out.2.2; omega)).mono ?_
  rintro e w1 ⟨rfl, h1⟩
  have H1 : Hid (RingsI w0 r g (xs ++ [V]) w1) := h1
  have C1 := rings_chg h1
  have z0 := C1.cell y0 hbr hbg
  have z2 := C1.cell y2 hbr hbg
  have z3 := C1.cell y3 hbr hbg
  have HL1 : Hid (ISx w1 a c cap xs) := HD.out.1.lst_at C1
  clear h1 C1
  go_wp2_with fail
  refine (with_any a c cap xs c (c : Int) V w1 HL1.out rfl (Nat.le_refl _) (by omega)).mono ?_
  rintro e w2 ⟨v2, rfl, h2a, h2b⟩
  have h2 : Gl w1 (.slice a c cap) xs (xs ++ [V]) v2 w2 := by
    refine ⟨.inr ?_, h2b⟩
    have e9 : xs.take c ++ [V] ++ xs.drop c = (xs ++ [V]) := by have := HD.out.2.2; rw [List.take_of_length_le (by omega), List.drop_eq_nil_of_le (by omega), List.append_nil]
    rw [← e9]
    exact h2a
  clear h2a h2b
  have FIN : Hid (Did w0 r g (.slice a c cap) xs v2 w2) := Did.mk1 H1.out h2 (by simp)
  clear h2
  go_wp2_with fail
  exact bodyPost_ret (v := .tuple #[v2, .bool true]) (by simp [results, Try.results14, go_sem]) rfl ⟨v2, rfl, Did.up FIN.out HD.out.2.1⟩
set_option maxHeartbeats 4000000 in
theorem do_front (r g N0 f0 : Nat) (a : Option Addr) (c cap : Nat) (xs : List Int) (K O N V : Int) (w : World) (h : Doing w r g N0 f0 a c cap xs) (hk : K = 1) (hn : -9223372036854775808 ≤ N) (hn2 : N ≤ 9223372036854775807) :
    Calls Try.prog 14 #[.pointer (some ⟨r, 0, none⟩), .slice a c cap, .agg #[.int .i64 K, .int .i64 O, .int .i64 N, .int .i64 V]] w fun e w' => ∃ v, e = .returned (.tuple #[v, .bool true]) ∧ Did w r g (.slice a c cap) xs v w' := by
  subst hk
  obtain ⟨bx, ebx⟩ : ∃ bx, bx = w.heap.size := ⟨_, rfl⟩
  obtain ⟨w0, hw0⟩ : ∃ w0, w0 = w.alloc (.cells #[.int .i64 1, .int .i64 O, .int .i64 N, .int .i64 V] 34) := ⟨_, rfl⟩
  have B0 : Below w.heap.size w w0 := by rw [hw0]; exact (Below.refl _ _).alloc (Nat.le_refl _) _
  have y0 : w0.cell? ⟨bx, 0, none⟩ = some (.int .i64 1) := by rw [hw0, ebx]; simp [go_sem]
  have y2 : w0.cell? ⟨bx, 2, none⟩ = some (.int .i64 N) := by rw [hw0, ebx]; simp [go_sem]
  have y3 : w0.cell? ⟨bx, 3, none⟩ = some (.int .i64 V) := by rw [hw0, ebx]; simp [go_sem]
  have hlen := h.lst.sl.len
  have hle := h.lst.sl.le
  have hlim := h.lst.sl.lim
  have hcl := h.lim
  have HD : Hid (Doing w0 r g N0 f0 a c cap xs ∧ Below w.heap.size w w0 ∧ xs.length = c) := ⟨h.alloc B0, B0, hlen⟩
  have hbr : bx ≠ r := by have := h.ring.rlt; omega
  have hbg : bx ≠ g := by have := h.ring.glt; omega
  have HW0 : Hid (w0 = w.alloc (.cells #[.int .i64 1, .int .i64 O, .int .i64 N, .int .i64 V] 34)) := hw0
  have HBX : Hid (bx = w.heap.size) := ebx
  clear h hw0 B0 ebx hlen
  go_enter Try.func14, Try.ntmps14
  go_wp2_with fail
  rw [← HW0.out, ← HBX.out]
  refine (pushFrontI_any r g N0 f0 xs V w0 HD.out.1.ring (by have := HD.out.2.2; omega)).mono ?_
  rintro e w1 ⟨rfl, h1⟩
  have H1 : Hid (RingsI w0 r g (V :: xs) w1) := h1
  have C1 := rings_chg h1
  have z0 := C1.cell y0 hbr hbg
  have z2 := C1.cell y2 hbr hbg
  have z3 := C1.cell y3 hbr hbg
  have HL1 : Hid (ISx w1 a c cap xs) := HD.out.1.lst_at C1
  clear h1 C1
  go_wp2_with fail
  refine (with_any a c cap xs 0 0 V w1 HL1.out rfl (Nat.zero_le _) (by omega)).mono ?_
  rintro e w2 ⟨v2, rfl, h2a, h2b⟩
  have h2 : Gl w1 (.slice a c cap) xs (V :: xs) v2 w2 := by
    refine ⟨.inr ?_, h2b⟩
    have e9 : xs.take 0 ++ [V] ++ xs.drop 0 = (V :: xs) := by simp
    rw [← e9]
    exact h2a
  clear h2a h2b
  have FIN : Hid (Did w0 r g (.slice a c cap) xs v2 w2) := Did.mk1 H1.out h2 (by simp)
  clear h2
  go_wp2_with fail
  exact bodyPost_ret (v := .tuple #[v2, .bool true]) (by simp [results, Try.results14, go_sem]) rfl ⟨v2, rfl, Did.up FIN.out HD.out.2.1⟩
set_option maxHeartbeats 4000000 in
theorem do_popF (r g N0 f0 : Nat) (a : Option Addr) (c cap : Nat) (xs : List Int) (K O N V : Int) (w : World) (h : Doing w r g N0 f0 a c cap xs) (hk : K = 2) (hn : -9223372036854775808 ≤ N) (hn2 : N ≤ 9223372036854775807) :
    Calls Try.prog 14 #[.pointer (some ⟨r, 0, none⟩), .slice a c cap, .agg #[.int .i64 K, .int .i64 O, .int .i64 N, .int .i64 V]] w fun e w' => ∃ v, e = .returned (.tuple #[v, .bool true]) ∧ Did w r g (.slice a c cap) xs v w' := by
  subst hk
  obtain ⟨bx, ebx⟩ : ∃ bx, bx = w.heap.size := ⟨_, rfl⟩
  obtain ⟨w0, hw0⟩ : ∃ w0, w0 = w.alloc (.cells #[.int .i64 2, .int .i64 O, .int .i64 N, .int .i64 V] 34) := ⟨_, rfl⟩
  have B0 : Below w.heap.size w w0 := by rw [hw0]; exact (Below.refl _ _).alloc (Nat.le_refl _) _
  have y0 : w0.cell? ⟨bx, 0, none⟩ = some (.int .i64 2) := by rw [hw0, ebx]; simp [go_sem]
  have y2 : w0.cell? ⟨bx, 2, none⟩ = some (.int .i64 N) := by rw [hw0, ebx]; simp [go_sem]
  have y3 : w0.cell? ⟨bx, 3, none⟩ = some (.int .i64 V) := by rw [hw0, ebx]; simp [go_sem]
  have hlen := h.lst.sl.len
  have hle := h.lst.sl.le
  have hlim := h.lst.sl.lim
  have hcl := h.lim
  have HD : Hid (Doing w0 r g N0 f0 a c cap xs ∧ Below w.heap.size w w0 ∧ xs.length = c) := ⟨h.alloc B0, B0, hlen⟩
  have hbr : bx ≠ r := by have := h.ring.rlt; omega
  have hbg : bx ≠ g := by have := h.ring.glt; omega
  have HW0 : Hid (w0 = w.alloc (.cells #[.int .i64 2, .int .i64 O, .int .i64 N, .int .i64 V] 34)) := hw0
  have HBX : Hid (bx = w.heap.size) := ebx
  clear h hw0 B0 ebx hlen
  go_enter Try.func14, Try.ntmps14
  go_wp2_with fail
  rw [← HW0.out, ← HBX.out]
  refine (popFrontI_u r g N0 f0 xs w0 HD.out.1.ring).mono ?_
  rintro e w1 ⟨rfl, h1⟩
  obtain ⟨v, ev⟩ : ∃ v, getI (0) xs (0 : Int) = v := ⟨_, rfl⟩
  obtain ⟨ok, eok⟩ : ∃ ok, inR (0) xs.length = ok := ⟨_, rfl⟩
  rw [ev, eok]
  have HV : Hid (getI (0) xs (0 : Int) = v ∧ inR (0) xs.length = ok) := ⟨ev, eok⟩
  clear ev eok
  have H1 : Hid (RingsI w0 r g (delI (0) xs) w1) := h1
  have C1 := rings_chg h1
  have z0 := C1.cell y0 hbr hbg
  have z2 := C1.cell y2 hbr hbg
  have z3 := C1.cell y3 hbr hbg
  have HL1 : Hid (ISx w1 a c cap xs) := HD.out.1.lst_at C1
  clear h1 C1
  have GA : Hid (Calls Try.prog 39 #[.slice a c cap, .int .i64 0] w1 fun e w' => ∃ v, e = .returned v ∧ Gl w1 (.slice a c cap) xs (delI (0) xs) v w') := gone_any a c cap xs 0 w1 HL1.out (by omega)
  have TK : Hid (∀ w2, Below w1.heap.size w1 w2 → Calls Try.prog 40 #[.int .i64 v, .bool ok, .slice a c cap, .int .i64 0] w2 fun e w' => e = .returned (.bool true) ∧ w' = w2) := fun w2 hb => took_any a c cap xs 0 v ok w2 (HL1.out.mono hb) HV.out.1 HV.out.2
  go_wp2_with fail
  refine Calls.mono GA.out ?_
  rintro e w2 ⟨v2, rfl, h2⟩
  have B2 : Hid (Below w1.heap.size w1 w2) := h2.2
  have FIN : Hid (Did w0 r g (.slice a c cap) xs v2 w2) := Did.mk1 H1.out h2 (by have := delI_len (0) xs; omega)
  clear h2
  go_wp2_with fail
  refine Calls.mono (TK.out w2 B2.out) ?_
  rintro e w3 ⟨rfl, e3⟩
  rw [e3]
  clear e3
  go_wp2_with fail
  exact bodyPost_ret (v := .tuple #[v2, .bool true]) (by simp [results, Try.results14, go_sem]) rfl ⟨v2, rfl, Did.up FIN.out HD.out.2.1⟩
set_option maxHeartbeats 4000000 in
theorem do_popB (r g N0 f0 : Nat) (a : Option Addr) (c cap : Nat) (xs : List Int) (K O N V : Int) (w : World) (h : Doing w r g N0 f0 a c cap xs) (hk : K = 3) (hn : -9223372036854775808 ≤ N) (hn2 : N ≤ 9223372036854775807) :
    Calls Try.prog 14 #[.pointer (some ⟨r, 0, none⟩), .slice a c cap, .agg #[.int .i64 K, .int .i64 O, .int .i64 N, .int .i64 V]] w fun e w' => ∃ v, e = .returned (.tuple #[v, .bool true]) ∧ Did w r g (.slice a c cap) xs v w' := by
  subst hk
  obtain ⟨bx, ebx⟩ : ∃ bx, bx = w.heap.size := ⟨_, rfl⟩
  obtain ⟨w0, hw0⟩ : ∃ w0, w0 = w.alloc (.cells #[.int .i64 3, .int .i64 O, .int .i64 N, .int .i64 V] 34) := ⟨_, rfl⟩
  have B0 : Below w.heap.size w w0 := by rw [hw0]; exact (Below.refl _ _).alloc (Nat.le_refl _) _
  have y0 : w0.cell? ⟨bx, 0, none⟩ = some (.int .i64 3) := by rw [hw0, ebx]; simp [go_sem]
  have y2 : w0.cell? ⟨bx, 2, none⟩ = some (.int .i64 N) := by rw [hw0, ebx]; simp [go_sem]
  have y3 : w0.cell? ⟨bx, 3, none⟩ = some (.int .i64 V) := by rw [hw0, ebx]; simp [go_sem]
  have hlen := h.lst.sl.len
  have hle := h.lst.sl.le
  have hlim := h.lst.sl.lim
  have hcl := h.lim
  have HD : Hid (Doing w0 r g N0 f0 a c cap xs ∧ Below w.heap.size w w0 ∧ xs.length = c) := ⟨h.alloc B0, B0, hlen⟩
  have hbr : bx ≠ r := by have := h.ring.rlt; omega
  have hbg : bx ≠ g := by have := h.ring.glt; omega
  have HW0 : Hid (w0 = w.alloc (.cells #[.int .i64 3, .int .i64 O, .int .i64 N, .int .i64 V] 34)) := hw0
  have HBX : Hid (bx = w.heap.size) := ebx
  clear h hw0 B0 ebx hlen
  go_enter Try.func14, Try.ntmps14
  go_wp2_with fail
  rw [← HW0.out, ← HBX.out]
  refine (popBackI_u r g N0 f0 xs w0 HD.out.1.ring).mono ?_
  rintro e w1 ⟨rfl, h1⟩
  obtain ⟨v, ev⟩ : ∃ v, getI ((xs.length : Int) - 1) xs (0 : Int) = v := ⟨_, rfl⟩
  obtain ⟨ok, eok⟩ : ∃ ok, inR ((xs.length : Int) - 1) xs.length = ok := ⟨_, rfl⟩
  rw [ev, eok]
  have HV : Hid (getI ((xs.length : Int) - 1) xs (0 : Int) = v ∧ inR ((xs.length : Int) - 1) xs.length = ok) := ⟨ev, eok⟩
  clear ev eok
  have H1 : Hid (RingsI w0 r g (delI ((xs.length : Int) - 1) xs) w1) := h1
  have C1 := rings_chg h1
  have z0 := C1.cell y0 hbr hbg
  have z2 := C1.cell y2 hbr hbg
  have z3 := C1.cell y3 hbr hbg
  have HL1 : Hid (ISx w1 a c cap xs) := HD.out.1.lst_at C1
  clear h1 C1
  have hix : ((c : Int) - 1) = (xs.length : Int) - 1 := by have := HD.out.2.2; omega
  have GA : Hid (Calls Try.prog 39 #[.slice a c cap, .int .i64 ((c : Int) - 1)] w1 fun e w' => ∃ v, e = .returned v ∧ Gl w1 (.slice a c cap) xs (delI ((xs.length : Int) - 1) xs) v w') := by
    have := gone_any a c cap xs ((c : Int) - 1) w1 HL1.out (by omega)
    rw [hix] at this ⊢
    exact this
  have TK : Hid (∀ w2, Below w1.heap.size w1 w2 → Calls Try.prog 40 #[.int .i64 v, .bool ok, .slice a c cap, .int .i64 ((c : Int) - 1)] w2 fun e w' => e = .returned (.bool true) ∧ w' = w2) := fun w2 hb => by
    have := took_any a c cap xs ((c : Int) - 1) v ok w2 (HL1.out.mono hb) (by rw [hix]; exact HV.out.1) (by rw [hix]; exact HV.out.2)
    exact this
  clear hix
  go_wp2_with fail
  refine Calls.mono GA.out ?_
  rintro e w2 ⟨v2, rfl, h2⟩
  have B2 : Hid (Below w1.heap.size w1 w2) := h2.2
  have FIN : Hid (Did w0 r g (.slice a c cap) xs v2 w2) := Did.mk1 H1.out h2 (by have := delI_len ((xs.length : Int) - 1) xs; omega)
  clear h2
  go_wp2_with fail
  refine Calls.mono (TK.out w2 B2.out) ?_
  rintro e w3 ⟨rfl, e3⟩
  rw [e3]
  clear e3
  go_wp2_with fail
  exact bodyPost_ret (v := .tuple #[v2, .bool true]) (by simp [results, Try.results14, go_sem]) rfl ⟨v2, rfl, Did.up FIN.out HD.out.2.1⟩
set_option maxHeartbeats 4000000 in
theorem do_take (r g N0 f0 : Nat) (a : Option Addr) (c cap : Nat) (xs : List Int) (K O N V : Int) (w : World) (h : Doing w r g N0 f0 a c cap xs) (hk : K = 6) (hn : -9223372036854775808 ≤ N) (hn2 : N ≤ 9223372036854775807) :
    Calls Try.prog 14 #[.pointer (some ⟨r, 0, none⟩), .slice a c cap, .agg #[.int .i64 K, .int .i64 O, .int .i64 N, .int .i64 V]] w fun e w' => ∃ v, e = .returned (.tuple #[v, .bool true]) ∧ Did w r g (.slice a c cap) xs v w' := by
  subst hk
  obtain ⟨bx, ebx⟩ : ∃ bx, bx = w.heap.size := ⟨_, rfl⟩
  obtain ⟨w0, hw0⟩ : ∃ w0, w0 = w.alloc (.cells #[.int .i64 6, .int .i64 O, .int .i64 N, .int .i64 V] 34) := ⟨_, rfl⟩
  have B0 : Below w.heap.size w w0 := by rw [hw0]; exact (Below.refl _ _).alloc (Nat.le_refl _) _
  have y0 : w0.cell? ⟨bx, 0, none⟩ = some (.int .i64 6) := by rw [hw0, ebx]; simp [go_sem]
  have y2 : w0.cell? ⟨bx, 2, none⟩ = some (.int .i64 N) := by rw [hw0, ebx]; simp [go_sem]
  have y3 : w0.cell? ⟨bx, 3, none⟩ = some (.int .i64 V) := by rw [hw0, ebx]; simp [go_sem]
  have hlen := h.lst.sl.len
  have hle := h.lst.sl.le
  have hlim := h.lst.sl.lim
  have hcl := h.lim
  have HD : Hid (Doing w0 r g N0 f0 a c cap xs ∧ Below w.heap.size w w0 ∧ xs.length = c) := ⟨h.alloc B0, B0, hlen⟩
  have hbr : bx ≠ r := by have := h.ring.rlt; omega
  have hbg : bx ≠ g := by have := h.ring.glt; omega
  have HW0 : Hid (w0 = w.alloc (.cells #[.int .i64 6, .int .i64 O, .int .i64 N, .int .i64 V] 34)) := hw0
  have HBX : Hid (bx = w.heap.size) := ebx
  clear h hw0 B0 ebx hlen
  go_enter Try.func14, Try.ntmps14
  go_wp2_with fail
  rw [← HW0.out, ← HBX.out]
  refine (takeI_u r g N0 f0 xs N w0 HD.out.1.ring).mono ?_
  rintro e w1 ⟨rfl, h1⟩
  obtain ⟨v, ev⟩ : ∃ v, getI (N) xs (0 : Int) = v := ⟨_, rfl⟩
  obtain ⟨ok, eok⟩ : ∃ ok, inR (N) xs.length = ok := ⟨_, rfl⟩
  rw [ev, eok]
  have HV : Hid (getI (N) xs (0 : Int) = v ∧ inR (N) xs.length = ok) := ⟨ev, eok⟩
  clear ev eok
  have H1 : Hid (RingsI w0 r g (delI (N) xs) w1) := h1
  have C1 := rings_chg h1
  have z0 := C1.cell y0 hbr hbg
  have z2 := C1.cell y2 hbr hbg
  have z3 := C1.cell y3 hbr hbg
  have HL1 : Hid (ISx w1 a c cap xs) := HD.out.1.lst_at C1
  clear h1 C1
  have GA : Hid (Calls Try.prog 39 #[.slice a c cap, .int .i64 N] w1 fun e w' => ∃ v, e = .returned v ∧ Gl w1 (.slice a c cap) xs (delI (N) xs) v w') := gone_any a c cap xs N w1 HL1.out (by omega)
  have TK : Hid (∀ w2, Below w1.heap.size w1 w2 → Calls Try.prog 40 #[.int .i64 v, .bool ok, .slice a c cap, .int .i64 N] w2 fun e w' => e = .returned (.bool true) ∧ w' = w2) := fun w2 hb => took_any a c cap xs N v ok w2 (HL1.out.mono hb) HV.out.1 HV.out.2
  go_wp2_with fail
  go_region_held3 (fun w' => w'.cell? ⟨bx, 2, none⟩ = some (.int .i64 N)) (first | (simp [go_sem, *]; done) | (trace_state; fail))
    (first
      | (go_at_call 39; refine Calls.mono (gone_any a c cap xs N w1.drew (HL1.out.mono (bel_drew (Below.refl _ _))) (by omega)) ?_; rintro e w2 ⟨v2, rfl, h2⟩; have B2 : Hid (Below w1.heap.size w1 w2) := ⟨h2.2.os, h2.2.tape, h2.2.output, h2.2.size, h2.2.block⟩; have FIN : Hid (Did w0 r g (.slice a c cap) xs v2 w2) := Did.mk1 H1.out ⟨h2.1, B2.out⟩ (by have := delI_len N xs; omega); have q2 := cell_later B2.out z2; clear h2)
      | (go_at_call 40; refine Calls.mono (TK.out w2 B2.out) ?_; rintro e w3 ⟨rfl, rfl⟩))
  go_wp2_with fail
  exact bodyPost_ret (v := .tuple #[v2, .bool true]) (by simp [results, Try.results14, go_sem]) rfl ⟨v2, rfl, Did.up FIN.out HD.out.2.1⟩
set_option maxHeartbeats 4000000 in
theorem do_turn (r g N0 f0 : Nat) (a : Option Addr) (c cap : Nat) (xs : List Int) (K O N V : Int) (w : World) (h : Doing w r g N0 f0 a c cap xs) (hk : K = 7) (hn : -9223372036854775808 ≤ N) (hn2 : N ≤ 9223372036854775807) :
    Calls Try.prog 14 #[.pointer (some ⟨r, 0, none⟩), .slice a c cap, .agg #[.int .i64 K, .int .i64 O, .int .i64 N, .int .i64 V]] w fun e w' => ∃ v, e = .returned (.tuple #[v, .bool true]) ∧ Did w r g (.slice a c cap) xs v w' := by
  subst hk
  obtain ⟨bx, ebx⟩ : ∃ bx, bx = w.heap.size := ⟨_, rfl⟩
  obtain ⟨w0, hw0⟩ : ∃ w0, w0 = w.alloc (.cells #[.int .i64 7, .int .i64 O, .int .i64 N, .int .i64 V] 34) := ⟨_, rfl⟩
  have B0 : Below w.heap.size w w0 := by rw [hw0]; exact (Below.refl _ _).alloc (Nat.le_refl _) _
  have y0 : w0.cell? ⟨bx, 0, none⟩ = some (.int .i64 7) := by rw [hw0, ebx]; simp [go_sem]
  have y2 : w0.cell? ⟨bx, 2, none⟩ = some (.int .i64 N) := by rw [hw0, ebx]; simp [go_sem]
  have y3 : w0.cell? ⟨bx, 3, none⟩ = some (.int .i64 V) := by rw [hw0, ebx]; simp [go_sem]
  have hlen := h.lst.sl.len
  have hle := h.lst.sl.le
  have hlim := h.lst.sl.lim
  have hcl := h.lim
  have HD : Hid (Doing w0 r g N0 f0 a c cap xs ∧ Below w.heap.size w w0 ∧ xs.length = c) := ⟨h.alloc B0, B0, hlen⟩
  have hbr : bx ≠ r := by have := h.ring.rlt; omega
  have hbg : bx ≠ g := by have := h.ring.glt; omega
  have HW0 : Hid (w0 = w.alloc (.cells #[.int .i64 7, .int .i64 O, .int .i64 N, .int .i64 V] 34)) := hw0
  have HBX : Hid (bx = w.heap.size) := ebx
  clear h hw0 B0 ebx hlen
  go_enter Try.func14, Try.ntmps14
  go_wp2_with fail
  rw [← HW0.out, ← HBX.out]
  refine (turnI_any r g N0 f0 xs N w0 HD.out.1.ring (by have := HD.out.2.2; omega) hn hn2).mono ?_
  rintro e w1 ⟨rfl, h1⟩
  have H1 : Hid (RingsI w0 r g (rt N xs) w1) := h1
  have C1 := rings_chg h1
  have z0 := C1.cell y0 hbr hbg
  have z2 := C1.cell y2 hbr hbg
  have z3 := C1.cell y3 hbr hbg
  have HL1 : Hid (ISx w1 a c cap xs) := HD.out.1.lst_at C1
  clear h1 C1
  go_wp2_with fail
  refine (turned_any a c cap xs N w1 HL1.out hn hn2 (by omega)).mono ?_
  rintro e w2 ⟨v2, rfl, h2⟩
  have FIN : Hid (Did w0 r g (.slice a c cap) xs v2 w2) := Did.mk1 H1.out h2 (by rw [rt_length]; omega)
  clear h2
  go_wp2_with fail
  exact bodyPost_ret (v := .tuple #[v2, .bool true]) (by simp [results, Try.results14, go_sem]) rfl ⟨v2, rfl, Did.up FIN.out HD.out.2.1⟩
set_option maxHeartbeats 4000000 in
theorem do_look (r g N0 f0 : Nat) (a : Option Addr) (c cap : Nat) (xs : List Int) (K O N V : Int) (w : World) (h : Doing w r g N0 f0 a c cap xs) (hk : (K == 0) = false ∧ (K == 1) = false ∧ (K == 2) = false ∧ (K == 3) = false ∧ (K == 5) = false ∧ (K == 6) = false ∧ (K == 7) = false) (hn : -9223372036854775808 ≤ N) (hn2 : N ≤ 9223372036854775807) :
    Calls Try.prog 14 #[.pointer (some ⟨r, 0, none⟩), .slice a c cap, .agg #[.int .i64 K, .int .i64 O, .int .i64 N, .int .i64 V]] w fun e w' => ∃ v, e = .returned (.tuple #[v, .bool true]) ∧ Did w r g (.slice a c cap) xs v w' := by
  obtain ⟨k0, k1, k2, k3, k5, k6, k7⟩ := hk
  obtain ⟨bx, ebx⟩ : ∃ bx, bx = w.heap.size := ⟨_, rfl⟩
  obtain ⟨w0, hw0⟩ : ∃ w0, w0 = w.alloc (.cells #[.int .i64 K, .int .i64 O, .int .i64 N, .int .i64 V] 34) := ⟨_, rfl⟩
  have B0 : Below w.heap.size w w0 := by rw [hw0]; exact (Below.refl _ _).alloc (Nat.le_refl _) _
  have y0 : w0.cell? ⟨bx, 0, none⟩ = some (.int .i64 K) := by rw [hw0, ebx]; simp [go_sem]
  have y2 : w0.cell? ⟨bx, 2, none⟩ = some (.int .i64 N) := by rw [hw0, ebx]; simp [go_sem]
  have y3 : w0.cell? ⟨bx, 3, none⟩ = some (.int .i64 V) := by rw [hw0, ebx]; simp [go_sem]
  have hlen := h.lst.sl.len
  have hle := h.lst.sl.le
  have hlim := h.lst.sl.lim
  have hcl := h.lim
  have HD : Hid (Doing w0 r g N0 f0 a c cap xs ∧ Below w.heap.size w w0 ∧ xs.length = c) := ⟨h.alloc B0, B0, hlen⟩
  have hbr : bx ≠ r := by have := h.ring.rlt; omega
  have hbg : bx ≠ g := by have := h.ring.glt; omega
  have HW0 : Hid (w0 = w.alloc (.cells #[.int .i64 K, .int .i64 O, .int .i64 N, .int .i64 V] 34)) := hw0
  have HBX : Hid (bx = w.heap.size) := ebx
  clear h hw0 B0 ebx hlen
  go_enter Try.func14, Try.ntmps14
  go_wp2_with fail
  rw [← HW0.out, ← HBX.out]
  refine (ends_any a c cap xs N r g N0 f0 w0 HD.out.1.ring HD.out.1.lst).mono ?_
  rintro e w1 ⟨rfl, nd, rfl⟩
  have FIN : Hid (Did w0 r g (.slice a c cap) xs (.slice a c cap) (w0.drewN nd)) := ⟨⟨xs, g, N0, f0, HD.out.1.ring.of_blocks rfl rfl, .inl rfl, by omega, .inl ⟨rfl, rfl⟩⟩, (Chg.refl w0 r g).drewN nd⟩
  go_wp2_with fail
  exact bodyPost_ret (v := .tuple #[(.slice a c cap), .bool true]) (by simp [results, Try.results14, go_sem]) rfl ⟨_, rfl, Did.up FIN.out HD.out.2.1⟩
end Go.Proofs.Ytmghkkaoblkmpaa
