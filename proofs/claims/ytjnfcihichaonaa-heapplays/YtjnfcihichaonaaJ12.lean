/- Contracts of the program's functions, part 12: own work, joined in build order. -/
import Derived.Test.YtjnfcihichaonaaJ11
namespace Go.Proofs.Ytjnfcihichaonaa
open Go.RowKit
set_option maxRecDepth 100000
set_option linter.unusedVariables false
theorem HsI.drewN {w : World} {base hb ob : Nat} {a : Option Addr} {n cap mb nn : Nat} {pu : Int} {f : Nat → Nat} {it ke : Nat → Int} {va : Nat → Int} (h : HsI w base hb ob a n cap mb nn pu f it ke va) (m : Nat) : HsI (w.drewN m) base hb ob a n cap mb nn pu f it ke va :=
  { h with hd := h.hd, row := own_kept h.row fun _ _ => rfl, pl := h.pl, mp := by obtain ⟨g, h1, h2⟩ := h.mp; exact ⟨g, h1.kept rfl, h2⟩ }
theorem TakI.drewN {w w1 : World} {base hb ob : Nat} {a : Option Addr} {n cap mb : Nat} {pu : Int} {f : Nat → Nat} {it ke : Nat → Int} {va : Nat → Int} {lv : Value} {nx mod : Int} {tur : Bool} {lies : Int} {N x : Nat} (h : TakI w base hb ob a n cap mb pu f it ke va lv nx mod tur lies N x w1) (m : Nat) : TakI w base hb ob a n cap mb pu f it ke va lv nx mod tur lies N x (w1.drewN m) := by
  obtain ⟨a', cap', mb', nn', f', M, q1, q2, q3, q4, q5, q6, q7, q8⟩ := h
  exact ⟨a', cap', mb', nn', f', M, q1.drewN m, q2.kept rfl, q3, q4, q5, q6, { q7.toTn.drewN m with new := q7.new }, q8⟩
theorem takeI_none (hb : Nat) (w : World) : Calls Try.prog 40 #[.pointer (some ⟨hb, 0, none⟩), .pointer none] w fun e w' => e = .returned (.pointer none) ∧ w' = w := by
  go_enter Try.func40, Try.ntmps40
  go_wp2_with fail
  go_ret
  exact ⟨rfl, rfl⟩
set_option maxHeartbeats 1000000 in
theorem popMaxI_none {base hb ob : Nat} {a : Option Addr} {cap mb nn : Nat} {pu : Int} {f : Nat → Nat} {it ke : Nat → Int} {va : Nat → Int} (w : World) (h : HsI w base hb ob a 0 cap mb nn pu f it ke va) :
    Calls Try.prog 21 #[.pointer (some ⟨hb, 0, none⟩)] w fun e w' => e = .returned (.tuple #[.int .i64 0, .int .i64 0, .int .i64 (0 : Int), .bool false]) ∧ ∃ m, w' = w.drewN m := by
  have FI : Hid (Calls Try.prog 45 #[.pointer (some ⟨hb, 0, none⟩)] w fun e w' => e = .returned (.pointer none) ∧ w' = w) := lastI_any w h
  have TA : Hid (Calls Try.prog 40 #[.pointer (some ⟨hb, 0, none⟩), .pointer none] w fun e w' => e = .returned (.pointer none) ∧ w' = w) := takeI_none hb w
  have TE : Hid (Calls Try.prog 41 #[.pointer none] w fun e w' => e = .returned (.tuple #[.int .i64 0, .int .i64 0, .int .i64 (0 : Int), .bool false]) ∧ ∃ m, w' = w.drewN m) := tellI_any (it := it) (ke := ke) (va := va) none w (fun b e => by cases e)
  clear h
  go_enter Try.func21, Try.ntmps21
  go_wp2_with (first | (go_at_call 45; refine Calls.mono FI.out ?_; rintro e w8 ⟨rfl, rfl⟩) | (go_at_call 40; refine Calls.mono TA.out ?_; rintro e w9 ⟨rfl, rfl⟩) | (go_at_call 41; refine Calls.mono TE.out ?_; rintro e w7 ⟨rfl, m, rfl⟩))
  (try simp only [Exit.inBlock, Exit.then]); refine bodyPost_ret (results_tmp4I rfl _ _ _) rfl ?_
  exact ⟨rfl, _, rfl⟩
set_option maxHeartbeats 1000000 in
theorem popMaxI_any {base hb ob : Nat} {a : Option Addr} {n cap mb nn : Nat} {pu : Int} {f : Nat → Nat} {it ke : Nat → Int} {va : Nat → Int} {lv : Value} {nx mod : Int} {tur : Bool} {lies : Int} {N : Nat} (w : World) (h : HsI w base hb ob a (n + 1) cap mb nn pu f it ke va) (ho : Ordr w ob lv nx mod tur lies N) (hN : N < 999999999700) (hb0 : base ≤ w.heap.size) :
    Calls Try.prog 21 #[.pointer (some ⟨hb, 0, none⟩)] w fun e w' => e = .returned (.tuple #[.int .i64 (it (f (if n = 0 then 0 else 1))), .int .i64 (ke (f (if n = 0 then 0 else 1))), .int .i64 (va (f (if n = 0 then 0 else 1))), .bool true]) ∧ TakI w base hb ob a n cap mb pu f it ke va lv nx mod tur lies N (f (if n = 0 then 0 else 1)) w' := by
  obtain ⟨gp, rfl, _⟩ := h.some' (by omega)
  have FI : Hid (Calls Try.prog 45 #[.pointer (some ⟨hb, 0, none⟩)] w fun e w' => e = .returned (.pointer (some ⟨f (if n = 0 then 0 else 1), 0, none⟩)) ∧ w' = w) := by
    have := lastI_any w h
    rw [show lst? (n + 1) f = some (f (if n = 0 then 0 else 1)) by unfold lst?; rw [if_neg (by omega)]; split <;> split <;> first | rfl | omega] at this
    exact this
  have TA : Hid (Calls Try.prog 40 #[.pointer (some ⟨hb, 0, none⟩), .pointer (some ⟨f (if n = 0 then 0 else 1), 0, none⟩)] w fun e w' => e = .returned (.pointer (some ⟨f (if n = 0 then 0 else 1), 0, none⟩)) ∧ TakI w base hb ob (some ⟨gp, 0, none⟩) n cap mb pu f it ke va lv nx mod tur lies N (f (if n = 0 then 0 else 1)) w') := takeI_any (if n = 0 then 0 else 1) w h ho hN (by split <;> omega) hb0
  clear h ho
  generalize f (if n = 0 then 0 else 1) = x at *
  go_enter Try.func21, Try.ntmps21
  go_wp2_with (first | (go_at_call 45; refine Calls.mono FI.out ?_; rintro e w8 ⟨rfl, rfl⟩))
  refine Calls.mono TA.out ?_
  rintro e w9 ⟨rfl, hT⟩
  have TE : Hid (Calls Try.prog 41 #[.pointer (some ⟨x, 0, none⟩)] w9 fun e w' => e = .returned (.tuple #[.int .i64 (it x), .int .i64 (ke x), .int .i64 (va x), .bool true]) ∧ ∃ m, w' = w9.drewN m) := tellI_any (some x) w9 (fun b e => by
    cases e
    obtain ⟨a', cap', mb', nn', f', M, _, _, _, _, _, _, _, q8⟩ := hT
    exact q8)
  have HT : Hid _ := hT
  clear hT
  go_wp2_with (first | (go_at_call 41; refine Calls.mono TE.out ?_; rintro e w7 ⟨rfl, m, rfl⟩))
  (try simp only [Exit.inBlock, Exit.then]); refine bodyPost_ret (results_tmp4I rfl _ _ _) rfl ?_
  exact ⟨rfl, TakI.drewN HT.out _⟩
theorem updateI_none {base hb ob : Nat} {a : Option Addr} {n cap mb nn : Nat} {pu : Int} {f : Nat → Nat} {it ke : Nat → Int} {va : Nat → Int} (i k : Int) (w : World) (h : HsI w base hb ob a n cap mb nn pu f it ke va) (h1 : -9223372036854775808 ≤ i) (h2 : i ≤ 9223372036854775807) (hn : ∀ b, Img n f n b → it b ≠ i) :
    Calls Try.prog 16 #[.pointer (some ⟨hb, 0, none⟩), .int .i64 i, .int .i64 k] w fun e w' => e = .returned (.int .i64 50) ∧ w' = w := by
  obtain ⟨c1, c2, c3, c4⟩ := h.cells
  obtain ⟨g, hm, hg⟩ := h.map
  have hr := hm.look Try.underlying67 (by rfl) (i := i) h1 h2
  have e0 : g i = none := by
    cases e : g i with
    | none => rfl
    | some b => exact absurd ((hg i b).1 e).2 (hn b ((hg i b).1 e).1)
  rw [e0] at hr
  simp only [pV] at hr
  clear h hm hg
  go_enter Try.func16, Try.ntmps16
  go_wp2_with fail
  go_ret
  exact ⟨rfl, rfl⟩
theorem fn_nilI (ob : Nat) (w : World) : (binOp .eql 66 (.func (.func 28) #[.pointer (some ⟨ob, 0, none⟩)] #[]) .nilFunc).run Try.prog w = .ok (.bool false) w := by kernel_rfl
theorem newI_any (ob : Nat) (base : Nat) (w : World) (hb : base ≤ w.heap.size) (ho : base ≤ ob) :
    Calls Try.prog 10 #[.func (.func 28) #[.pointer (some ⟨ob, 0, none⟩)] #[]] w fun e w' => e = .returned (.pointer (some ⟨w.heap.size + 1, 0, none⟩)) ∧ HsI w' base (w.heap.size + 1) ob none 0 0 w.heap.size 0 0 (fun _ => 0) (fun _ => 0) (fun _ => 0) (fun _ => (0 : Int)) ∧ Below w.heap.size w w' := by
  have hmm := @run_makeMap Try.prog
  have hfn := fn_nilI ob w
  go_enter Try.func10, Try.ntmps10
  go_wp2_with fail
  go_ret
  have s1 : (w.alloc (.map #[] 0)).heap.size = w.heap.size + 1 := by simp
  refine ⟨rfl, ?_, ((Below.refl _ _).alloc (Nat.le_refl _) _).alloc (by simp) _⟩
  have e1 := (MapKept.heap_alloc (w.alloc (.map #[] 0)) (.cells #[.func (.func 28) #[.pointer (some ⟨ob, 0, none⟩)] #[], .slice none 0 0, .map (some w.heap.size), .int .i64 0] 70)).1
  rw [s1] at e1
  refine { hd := e1, row := World.ownsRow_nil _ _ _ _, lim := by omega, pl := fun i hi => by omega, wf := fun i hi => by omega, itr := fun i hi => by omega, iti := fun i j hi => by omega, pu0 := Int.le_refl _, pu1 := by omega, nn1 := by omega, mp := ⟨fun _ => none, (Mp.made w).kept (Below.heap_alloc _ _ _ (by simp)), fun i b => ⟨fun e => (by cases e), fun e => (by obtain ⟨j, hj, _⟩ := e; omega)⟩⟩, ge := ⟨by omega, ho, hb, fun i hi => by omega⟩ }
end Go.Proofs.Ytjnfcihichaonaa
namespace Go.Proofs.Ytjnfcihichaonaa
open Go.RowKit
set_option maxRecDepth 100000
set_option linter.unusedVariables false
theorem anc_root : ∀ j, Anc 0 j := by
  intro j
  induction j using Nat.strongRecOn with
  | _ j ih =>
    rcases Nat.eq_zero_or_pos j with rfl | h
    · exact .refl
    · exact .step h (ih _ (by omega))
theorem ord_min {le : Nat → Nat → Prop} (T : Total le) {n : Nat} {f : Nat → Nat} (h : Ord le n f n) {b : Nat} (hb : Img n f n b) : le (f 0) b := by
  obtain ⟨i, hi, _, rfl⟩ := hb
  by_cases c : i = 0
  · subst c
    exact T.refl _
  · refine h 0 i (by omega) hi (Ne.symm c) (by omega) (by omega) ?_
    rcases Nat.mod_two_eq_zero_or_one i with e | e
    · exact .inl ⟨rfl, e, anc_root _⟩
    · exact .inr (.inr ⟨rfl, e, .inl (anc_root _)⟩)
theorem ord_max {le : Nat → Nat → Prop} (T : Total le) {n : Nat} {f : Nat → Nat} (h : Ord le (n + 1) f (n + 1)) {b : Nat} (hb : Img (n + 1) f (n + 1) b) : le b (f (if n = 0 then 0 else 1)) := by
  obtain ⟨i, hi, _, rfl⟩ := hb
  split
  · have : i = 0 := by omega
    subst this
    exact T.refl _
  · by_cases c : i = 1
    · subst c
      exact T.refl _
    · refine h i 1 hi (by omega) c (by omega) (by omega) ?_
      rcases Nat.mod_two_eq_zero_or_one i with e | e
      · exact .inr (.inr ⟨e, rfl, .inr (anc_root _)⟩)
      · exact .inr (.inl ⟨e, rfl, anc_root _⟩)
theorem asked_any (n : Nat) (hn : n ≤ 1000000) (w : World) : Calls Try.prog 26 #[.int .i64 (n : Int)] w fun e w' => (∃ d : Nat, e = .returned (.int .i64 ((12 * d + 12 : Nat) : Int)) ∧ n < 2 ^ d ∧ d ≤ 20) ∧ w' = w := by
  go_enter Try.func26, Try.ntmps26
  go_wp2_with fail
  go_loopw [0, 3] (fun t s wr => ∃ (m d : Nat), t = .int .i64 (m : Int) ∧ s = .int .i64 (d : Int) ∧ wr = w ∧ Hid (n < 2 ^ d * (m + 1) ∧ d ≤ 20 ∧ m * 2 ^ d ≤ 1000000)) (fun t _ _ => (intOf t).toNat)
  case atStart => exact ⟨n, 0, rfl, rfl, rfl, ⟨by omega, by omega, by omega⟩⟩
  case round =>
    obtain ⟨m, d, rfl, rfl, rfl, hH⟩ := hrel
    by_cases c : 0 < m
    · have hd : d ≤ 19 := by
        rcases Nat.lt_or_ge 19 d with h | h
        · have h5 : 2 ^ 20 ≤ 2 ^ d := Nat.pow_le_pow_right (by decide) h
          have h6 : 1 * 2 ^ d ≤ m * 2 ^ d := Nat.mul_le_mul_right _ c
          have h3 := hH.out.2.2
          have : (2 : Nat) ^ 20 = 1048576 := by decide
          omega
        · exact h
      have hm : m ≤ 1000000 := by
        have h6 : m * 1 ≤ m * 2 ^ d := Nat.mul_le_mul_left _ (Nat.one_le_two_pow)
        have h3 := hH.out.2.2
        omega
      have e1 : (m : Int).tdiv 2 = ((m / 2 : Nat) : Int) := by rw [Int.tdiv_eq_ediv_of_nonneg (by omega)]; omega
      have e2 : (m : Int) / 2 = ((m / 2 : Nat) : Int) := by omega
      have w1 : IntKind.i64.wrap ((m / 2 : Nat) : Int) = ((m / 2 : Nat) : Int) := by rw [IntKind.wrap_i64]; omega
      have w2 : IntKind.i64.wrap ((d : Int) + 1) = (d : Int) + 1 := by rw [IntKind.wrap_i64]; omega
      obtain ⟨q, eq⟩ : ∃ q, q = m / 2 := ⟨_, rfl⟩
      rw [← eq] at e1 e2 w1
      have HQ : Hid (q = m / 2) := eq
      clear eq
      go_wp2_with fail
      go_roundw
      case rel =>
        obtain ⟨h1, h2, h3⟩ := hH.out
        have eq := HQ.out
        refine ⟨q, d + 1, rfl, by go_num, by first | rfl | trivial, ⟨?_, by omega, ?_⟩⟩
        · rw [Nat.pow_succ, Nat.mul_assoc]
          have : 2 ^ d * (m + 1) ≤ 2 ^ d * (2 * (q + 1)) := Nat.mul_le_mul_left _ (by omega)
          omega
        · rw [Nat.pow_succ, Nat.mul_comm (2 ^ d) 2, ← Nat.mul_assoc]
          have : q * 2 * 2 ^ d ≤ m * 2 ^ d := Nat.mul_le_mul_right _ (by omega)
          omega
      case measure =>
        have eq := HQ.out
        simp [intOf]
        omega
    · obtain rfl : m = 0 := by omega
      have hd : d ≤ 20 := hH.out.2.1
      have w3 : IntKind.i64.wrap (12 * (d : Int)) = 12 * (d : Int) := by rw [IntKind.wrap_i64]; omega
      have w4 : IntKind.i64.wrap (12 * (d : Int) + 12) = ((12 * d + 12 : Nat) : Int) := by rw [IntKind.wrap_i64]; omega
      go_wp2_with fail
      go_ret
      exact ⟨⟨d, by simp, by have := hH.out.1; omega, hd⟩, rfl⟩
/-- So seldom is it asked. -/
theorem few_asked {M n d : Nat} (h : 2 ^ M ≤ 4 * (n + 1) * (n + 1)) (hd : n < 2 ^ d) : M ≤ 12 * d + 12 := by
  rcases Nat.lt_or_ge (2 * d + 2) M with h1 | h1
  · have h2 : 2 ^ (2 * d + 3) ≤ 2 ^ M := Nat.pow_le_pow_right (by decide) h1
    have h3 : (n + 1) * (n + 1) ≤ 2 ^ d * 2 ^ d := Nat.mul_le_mul hd hd
    have h4 : 2 ^ (2 * d + 3) = 8 * (2 ^ d * 2 ^ d) := by rw [Nat.pow_add, Nat.two_mul, Nat.pow_add]; omega
    rw [Nat.mul_assoc] at h
    have h5 : 0 < 2 ^ d * 2 ^ d := Nat.mul_pos (Nat.two_pow_pos _) (Nat.two_pow_pos _)
    omega
  · omega
theorem few_pushed {M n d : Nat} (h : 2 ^ M ≤ 4 * (n + 1)) (hd : n < 2 ^ d) : M ≤ 12 * d + 12 := by
  refine few_asked (n := n) (Nat.le_trans h ?_) hd
  exact Nat.le_mul_of_pos_right _ (by omega)
end Go.Proofs.Ytjnfcihichaonaa
namespace Go.Proofs.Ytjnfcihichaonaa
open Go.RowKit
set_option maxRecDepth 100000
set_option linter.unusedVariables false
/-- A heap whose place hole is empty: what lies in the others. -/
structure MeS (W : World) (hb ob gp n cap mb : Nat) (pu : Int) (f : Nat → Nat) (B : Nat → Prop) (it ke : Nat → Int) (va : Nat → ByteArray) (hole : Nat) : Prop where
  hd : W.heap[hb]? = some (.cells #[.func (.func 28) #[.pointer (some ⟨ob, 0, none⟩)] #[], .slice (some ⟨gp, 0, none⟩) n cap, .map (some mb), .int .i64 pu] 95)
  row : ∃ cs : Array Value, W.heap[gp]? = some (.cells cs 96) ∧ cs.size = cap ∧ ∀ i, i < n → cs[i]? = some (.pointer (some ⟨f i, 0, none⟩))
  le : n ≤ cap
  lim : n ≤ 1099511627776
  th : ∀ b, B b → ∃ q : Int, W.heap[b]? = some (.cells #[.int .i64 (it b), .int .i64 (ke b), .string (va b), .int .i64 q] 98)
  fB : ∀ i, i < n → i ≠ hole → B (f i)
  pl : ∀ i, i < n → i ≠ hole → W.heap[f i]? = some (.cells #[.int .i64 (it (f i)), .int .i64 (ke (f i)), .string (va (f i)), .int .i64 (i : Int)] 98)
  wf : ∀ b, B b → (-9223372036854775808 ≤ it b ∧ it b ≤ 9223372036854775807) ∧ -9223372036854775808 ≤ ke b ∧ ke b ≤ 9223372036854775807
theorem MeS.keep {W W' : World} {hb ob gp n cap mb : Nat} {pu : Int} {f : Nat → Nat} {B : Nat → Prop} {it ke : Nat → Int} {va : Nat → ByteArray} {hole : Nat} (h : MeS W hb ob gp n cap mb pu f B it ke va hole) (hk : ∀ (k : Nat) (cs : Array Value) (t : TypeId), W.heap[k]? = some (.cells cs t) → t ≠ 57 → W'.heap[k]? = W.heap[k]?) : MeS W' hb ob gp n cap mb pu f B it ke va hole := by
  refine { h with hd := (hk _ _ _ h.hd (by decide)).trans h.hd, row := ?_, th := fun b hb => ?_, pl := fun i hi hn => (hk _ _ _ (h.pl i hi hn) (by decide)).trans (h.pl i hi hn) }
  · obtain ⟨cs, e, r⟩ := h.row
    exact ⟨cs, (hk _ _ _ e (by decide)).trans e, r⟩
  · obtain ⟨q, e⟩ := h.th b hb
    exact ⟨q, (hk _ _ _ e (by decide)).trans e⟩
set_option maxHeartbeats 1000000 in
theorem aheadS_any {hb ob gp n cap mb : Nat} {pu : Int} {f : Nat → Nat} {B : Nat → Prop} {it ke : Nat → Int} {va : Nat → ByteArray} {hole : Nat} {lv : Value} {nx mod : Int} {tur : Bool} {lies : Int} {N : Nat} (x y : Nat) (w : World) (h : MeS w hb ob gp n cap mb pu f B it ke va hole) (ho : Ordr w ob lv nx mod tur lies N) (hN : N < 1000000000000) (hx : B x) (hy : B y) :
    Calls Try.prog 79 #[.pointer (some ⟨hb, 0, none⟩), .pointer (some ⟨x, 0, none⟩), .pointer (some ⟨y, 0, none⟩)] w (Asks w ob lv nx mod tur lies N (fun t => (t = true → leB mod tur it ke x y) ∧ (t = false → leB mod tur it ke y x))) := by
  obtain ⟨qx, ex⟩ := h.th x hx
  obtain ⟨qy, ey⟩ := h.th y hy
  have x0 : w.cell? ⟨x, 0, none⟩ = some (.int .i64 (it x)) := by simp [World.cell?, ex]
  have x1 : w.cell? ⟨x, 1, none⟩ = some (.int .i64 (ke x)) := by simp [World.cell?, ex]
  have y0 : w.cell? ⟨y, 0, none⟩ = some (.int .i64 (it y)) := by simp [World.cell?, ey]
  have y1 : w.cell? ⟨y, 1, none⟩ = some (.int .i64 (ke y)) := by simp [World.cell?, ey]
  have b0 : w.cell? ⟨hb, 0, none⟩ = some (.func (.func 28) #[.pointer (some ⟨ob, 0, none⟩)] #[]) := by simp [World.cell?, h.hd]
  obtain ⟨⟨wx1, wx2⟩, wx3, wx4⟩ := h.wf x hx
  obtain ⟨⟨wy1, wy2⟩, wy3, wy4⟩ := h.wf y hy
  have HO : Hid (Ordr w ob lv nx mod tur lies N ∧ (w.heap[hb]? = some (.cells #[.func (.func 28) #[.pointer (some ⟨ob, 0, none⟩)] #[], .slice (some ⟨gp, 0, none⟩) n cap, .map (some mb), .int .i64 pu] 95)) ∧ (w.heap[x]? = some (.cells #[.int .i64 (it x), .int .i64 (ke x), .string (va x), .int .i64 qx] 98)) ∧ w.heap[y]? = some (.cells #[.int .i64 (it y), .int .i64 (ke y), .string (va y), .int .i64 qy] 98)) := ⟨ho, h.hd, ex, ey⟩
  clear ex ey h ho
  go_enter Try.func79, Try.ntmps79
  by_cases c : it x < it y
  · go_wp2_with fail
    go_quiet (fail)
    go_wp2_with fail
    rename_i hz
    obtain ⟨W, hW⟩ : ∃ W, W = w.drewN nq := ⟨_, rfl⟩
    have HO2 : Hid (Ordr W ob lv nx mod tur lies N ∧ (W.heap[hb]? = some (.cells #[.func (.func 28) #[.pointer (some ⟨ob, 0, none⟩)] #[], .slice (some ⟨gp, 0, none⟩) n cap, .map (some mb), .int .i64 pu] 95)) ∧ (W.heap[x]? = some (.cells #[.int .i64 (it x), .int .i64 (ke x), .string (va x), .int .i64 qx] 98)) ∧ W.heap[y]? = some (.cells #[.int .i64 (it y), .int .i64 (ke y), .string (va y), .int .i64 qy] 98)) := by rw [hW]; exact ⟨HO.out.1.kept rfl, HO.out.2⟩
    have HTn : Hid (Tn (fun k => k = ob) w W) := by rw [hW]; exact (Tn.refl _ _).drewN _
    rw [← hW]
    clear hW HO x0 x1 y0 y1 b0
    have x1 : W.cell? ⟨x, 1, none⟩ = some (.int .i64 (ke x)) := by simp [World.cell?, HO2.out.2.2.1]
    have y1 : W.cell? ⟨y, 1, none⟩ = some (.int .i64 (ke y)) := by simp [World.cell?, HO2.out.2.2.2]
    have b0 : W.cell? ⟨hb, 0, none⟩ = some (.func (.func 28) #[.pointer (some ⟨ob, 0, none⟩)] #[]) := by simp [World.cell?, HO2.out.2.1]
    have BF : Hid (Calls Try.prog 28 #[.pointer (some ⟨ob, 0, none⟩), .int .i64 (ke y), .int .i64 (ke x)] W.drew (Asks W.drew ob lv nx mod tur lies N (fun t => t = decide (rk mod tur (ke y) < rk mod tur (ke x))))) := before_any ob lv nx mod tur lies N (ke y) (ke x) W.drew (HO2.out.1.kept rfl) hN wy3 wy4 wx3 wx4
    go_region_held3 (fun w9 => w9.cell? ⟨hb, 0, none⟩ = some (.func (.func 28) #[.pointer (some ⟨ob, 0, none⟩)] #[]) ∧ w9.cell? ⟨x, 1, none⟩ = some (.int .i64 (ke x)) ∧ w9.cell? ⟨y, 1, none⟩ = some (.int .i64 (ke y))) (first | (simp [go_sem, *]; done) | (trace_state; fail))
      (first
        | (go_at_call 28; refine Calls.mono BF.out ?_; rintro e w5 ⟨t, rfl, hp, h5, hT⟩; have H5 : Hid ((lies = 0 → t = decide (rk mod tur (ke y) < rk mod tur (ke x))) ∧ Ordr w5 ob lv nx mod tur lies (N + 1) ∧ Tn (fun k => k = ob) W w5) := ⟨hp, h5, ⟨hT.os, hT.tape, hT.output, hT.size, hT.block⟩⟩; have m0 := (HO2.out.1.held H5.out.2.2 HO2.out.2.1 (i := 0) (by decide)).trans b0; have m1 := (HO2.out.1.held H5.out.2.2 HO2.out.2.2.1 (i := 1) (by decide)).trans x1; have m2 := (HO2.out.1.held H5.out.2.2 HO2.out.2.2.2 (i := 1) (by decide)).trans y1; clear hp h5 hT))
    refine hz _ _ ?_
    go_wp2_with fail
    go_ret
    refine ⟨_, rfl, fun e0 => ?_, H5.out.2.1, HTn.out.trans (S' := fun k => k = ob) H5.out.2.2 (fun _ _ e => e)⟩
    have ht := H5.out.1 e0
    unfold leB
    subst ht
    constructor
    · intro e1
      simp at e1
      omega
    · intro e1
      simp at e1
      omega
  · go_wp2_with fail
    go_quiet (fail)
    go_wp2_with fail
    rename_i hz
    obtain ⟨W, hW⟩ : ∃ W, W = w.drewN nq := ⟨_, rfl⟩
    have HO2 : Hid (Ordr W ob lv nx mod tur lies N ∧ (W.heap[hb]? = some (.cells #[.func (.func 28) #[.pointer (some ⟨ob, 0, none⟩)] #[], .slice (some ⟨gp, 0, none⟩) n cap, .map (some mb), .int .i64 pu] 95)) ∧ (W.heap[x]? = some (.cells #[.int .i64 (it x), .int .i64 (ke x), .string (va x), .int .i64 qx] 98)) ∧ W.heap[y]? = some (.cells #[.int .i64 (it y), .int .i64 (ke y), .string (va y), .int .i64 qy] 98)) := by rw [hW]; exact ⟨HO.out.1.kept rfl, HO.out.2⟩
    have HTn : Hid (Tn (fun k => k = ob) w W) := by rw [hW]; exact (Tn.refl _ _).drewN _
    rw [← hW]
    clear hW HO x0 x1 y0 y1 b0
    have x1 : W.cell? ⟨x, 1, none⟩ = some (.int .i64 (ke x)) := by simp [World.cell?, HO2.out.2.2.1]
    have y1 : W.cell? ⟨y, 1, none⟩ = some (.int .i64 (ke y)) := by simp [World.cell?, HO2.out.2.2.2]
    have b0 : W.cell? ⟨hb, 0, none⟩ = some (.func (.func 28) #[.pointer (some ⟨ob, 0, none⟩)] #[]) := by simp [World.cell?, HO2.out.2.1]
    have BF : Hid (Calls Try.prog 28 #[.pointer (some ⟨ob, 0, none⟩), .int .i64 (ke x), .int .i64 (ke y)] W.drew (Asks W.drew ob lv nx mod tur lies N (fun t => t = decide (rk mod tur (ke x) < rk mod tur (ke y))))) := before_any ob lv nx mod tur lies N (ke x) (ke y) W.drew (HO2.out.1.kept rfl) hN wx3 wx4 wy3 wy4
    go_region_held3 (fun w9 => w9.cell? ⟨hb, 0, none⟩ = some (.func (.func 28) #[.pointer (some ⟨ob, 0, none⟩)] #[]) ∧ w9.cell? ⟨x, 1, none⟩ = some (.int .i64 (ke x)) ∧ w9.cell? ⟨y, 1, none⟩ = some (.int .i64 (ke y))) (first | (simp [go_sem, *]; done) | (trace_state; fail))
      (first
        | (go_at_call 28; refine Calls.mono BF.out ?_; rintro e w5 ⟨t, rfl, hp, h5, hT⟩; have H5 : Hid ((lies = 0 → t = decide (rk mod tur (ke x) < rk mod tur (ke y))) ∧ Ordr w5 ob lv nx mod tur lies (N + 1) ∧ Tn (fun k => k = ob) W w5) := ⟨hp, h5, ⟨hT.os, hT.tape, hT.output, hT.size, hT.block⟩⟩; have m0 := (HO2.out.1.held H5.out.2.2 HO2.out.2.1 (i := 0) (by decide)).trans b0; have m1 := (HO2.out.1.held H5.out.2.2 HO2.out.2.2.1 (i := 1) (by decide)).trans x1; have m2 := (HO2.out.1.held H5.out.2.2 HO2.out.2.2.2 (i := 1) (by decide)).trans y1; clear hp h5 hT))
    refine hz _ _ ?_
    go_wp2_with fail
    go_ret
    refine ⟨_, rfl, fun e0 => ?_, H5.out.2.1, HTn.out.trans (S' := fun k => k = ob) H5.out.2.2 (fun _ _ e => e)⟩
    have ht := H5.out.1 e0
    unfold leB
    subst ht
    constructor
    · intro e1
      simp at e1
      omega
    · intro e1
      simp at e1
      omega
end Go.Proofs.Ytjnfcihichaonaa
