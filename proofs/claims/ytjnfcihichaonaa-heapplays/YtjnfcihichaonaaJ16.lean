/- Contracts of the program's functions, part 16: own work, joined in build order. -/
import Derived.Test.YtjnfcihichaonaaJ15
namespace Go.Proofs.Ytjnfcihichaonaa
open Go.RowKit
set_option maxRecDepth 100000
set_option linter.unusedVariables false
/-- A heap: n things, at the places f. -/
structure HsS (W : World) (base hb ob : Nat) (a : Option Addr) (n cap mb nn : Nat) (pu : Int) (f : Nat → Nat) (it ke : Nat → Int) (va : Nat → ByteArray) : Prop where
  hd : W.heap[hb]? = some (.cells #[.func (.func 28) #[.pointer (some ⟨ob, 0, none⟩)] #[], .slice a n cap, .map (some mb), .int .i64 pu] 95)
  row : W.ownsRow base 96 1 (.slice a n cap) n ((List.range n).map fun i => .pointer (some ⟨f i, 0, none⟩))
  lim : n ≤ 1000000000
  pl : ∀ i, i < n → W.heap[f i]? = some (.cells #[.int .i64 (it (f i)), .int .i64 (ke (f i)), .string (va (f i)), .int .i64 (i : Int)] 98)
  wf : ∀ i, i < n → -9223372036854775808 ≤ ke (f i) ∧ ke (f i) ≤ 9223372036854775807
  itr : ∀ i, i < n → 1 ≤ it (f i) ∧ it (f i) ≤ pu
  iti : ∀ i j, i < n → j < n → it (f i) = it (f j) → i = j
  pu0 : 0 ≤ pu
  pu1 : pu ≤ 1000000000
  nn1 : (nn : Int) ≤ pu + 1000000000
  mp : ∃ g, Mp W mb nn g ∧ ∀ i b, g i = some b ↔ ∃ j, j < n ∧ f j = b ∧ it b = i
  ge : base ≤ hb ∧ base ≤ ob ∧ base ≤ mb ∧ ∀ i, i < n → base ≤ f i
theorem HsS.inj {W : World} {base hb ob : Nat} {a : Option Addr} {n cap mb nn : Nat} {pu : Int} {f : Nat → Nat} {it ke : Nat → Int} {va : Nat → ByteArray} (h : HsS W base hb ob a n cap mb nn pu f it ke va) {i j : Nat} (hi : i < n) (hj : j < n) (e : f i = f j) : i = j := h.iti i j hi hj (by rw [e])
theorem HsS.cells {W : World} {base hb ob : Nat} {a : Option Addr} {n cap mb nn : Nat} {pu : Int} {f : Nat → Nat} {it ke : Nat → Int} {va : Nat → ByteArray} (h : HsS W base hb ob a n cap mb nn pu f it ke va) : W.cell? ⟨hb, 1, none⟩ = some (.slice a n cap) ∧ W.cell? ⟨hb, 2, none⟩ = some (.map (some mb)) ∧ W.cell? ⟨hb, 3, none⟩ = some (.int .i64 pu) ∧ (∀ i, W.frozen? ⟨hb, i, none⟩ = false) := by
  simp [World.cell?, World.frozen?, h.hd]
/-- With something in it. -/
theorem HsS.some' {W : World} {base hb ob : Nat} {a : Option Addr} {n cap mb nn : Nat} {pu : Int} {f : Nat → Nat} {it ke : Nat → Int} {va : Nat → ByteArray} (h : HsS W base hb ob a n cap mb nn pu f it ke va) (hn : 0 < n) : ∃ gp, a = some ⟨gp, 0, none⟩ ∧ base ≤ gp ∧ n ≤ cap ∧ cap ≤ maxLen ∧ ∃ cs : Array Value, W.heap[gp]? = some (.cells cs 96) ∧ cs.size = cap ∧ ∀ i, i < n → cs[i]? = some (.pointer (some ⟨f i, 0, none⟩)) := by
  rcases h.row.2 with ⟨e, e0⟩ | ⟨g, cap', cur, e, hb', hg, h1, h2, h3, h4⟩
  · omega
  · injection e with e1 _ e3
    subst e1 e3
    refine ⟨g, rfl, hb', by omega, by omega, cur, hg, by omega, fun i hi => ?_⟩
    have q4 := congrArg (fun l => l[i]?) h4
    simp only [Nat.mul_one] at q4
    rw [List.getElem?_take_of_lt hi] at q4
    rw [← Array.getElem?_toList, q4]
    simp [hi]
/-- A hole at the place p, x beside. -/
theorem HsS.me {W : World} {base hb ob : Nat} {gp n cap mb nn : Nat} {pu : Int} {f : Nat → Nat} {it ke : Nat → Int} {va : Nat → ByteArray} (h : HsS W base hb ob (some ⟨gp, 0, none⟩) n cap mb nn pu f it ke va) (p : Nat) (hn : 0 < n) : MeS W hb ob gp n cap mb pu f (fun b => Img n f n b) it ke va p := by
  obtain ⟨gp', e, _, h1, h2, cs, h3, h4, h5⟩ := h.some' hn
  cases e
  have hl := h.lim
  refine ⟨h.hd, ⟨cs, h3, h4, h5⟩, h1, by omega, ?_, fun i hi _ => ⟨i, hi, by omega, rfl⟩, fun i hi _ => h.pl i hi, ?_⟩
  · rintro b ⟨i, hi, _, rfl⟩
    exact ⟨_, h.pl i hi⟩
  · rintro b ⟨i, hi, _, rfl⟩
    have h6 := h.itr i hi
    have h7 := h.wf i hi
    have h8 := h.pu1
    omega
def FilS (w0 : World) (hb ob gp n cap mb : Nat) (pu : Int) (f0 : Nat → Nat) (B : Nat → Prop) (it ke : Nat → Int) (va : Nat → ByteArray) (lv : Value) (nx mod : Int) (tur : Bool) (lies : Int) (N0 p0 x : Nat) (w : World) (f : Nat → Nat) (N : Nat) : Prop :=
  MeS w hb ob gp n cap mb pu f B it ke va n ∧ Ordr w ob lv nx mod tur lies N ∧ N0 ≤ N ∧ 2 ^ (N - N0) ≤ 4 * (n + 1) * (n + 1) ∧ (lies = 0 → Ord (leB mod tur it ke) n f0 p0 → Ord (leB mod tur it ke) n f n) ∧ (∀ b, Img n f n b ↔ Img n f0 p0 b ∨ b = x) ∧ Tn (fun k => k = ob ∨ k = gp ∨ B k) w0 w
theorem fillS_any {hb ob gp n cap mb : Nat} {pu : Int} {f : Nat → Nat} {B : Nat → Prop} {it ke : Nat → Int} {va : Nat → ByteArray} {lv : Value} {nx mod : Int} {tur : Bool} {lies : Int} {N : Nat} (p x : Nat) (w : World) (h : MeS w hb ob gp n cap mb pu f B it ke va p) (ho : Ordr w ob lv nx mod tur lies N) (hN : N < 999999999800) (hp : p < n) (hB : B x) (hx : ¬ Img n f p x) :
    Calls Try.prog 57 #[.pointer (some ⟨hb, 0, none⟩), .int .i64 (p : Int), .pointer (some ⟨x, 0, none⟩)] w fun e w' => e = .returned (.tuple #[]) ∧ ∃ f' M, FilS w hb ob gp n cap mb pu f B it ke va lv nx mod tur lies N p x w' f' M := by
  have SI : Hid (Calls Try.prog 72 #[.pointer (some ⟨hb, 0, none⟩), .int .i64 (p : Int)] w (SinksS w hb ob gp n cap mb pu f B it ke va lv nx mod tur lies N p)) := sinkS_any p w h ho (by omega) hp
  have hlim := h.lim
  clear h ho
  go_enter Try.func57, Try.ntmps57
  go_wp2_with (first | (go_at_call 72; refine Calls.mono SI.out ?_; rintro e w1 ⟨p1, f1, N1, rfl, hS, hlast⟩))
  have hs : N1 - N ≤ 40 := pow_lt_many hS.many (by have := hS.lt; omega)
  refine Calls.mono (riseS_any p1 x w1 hS.me hS.od (by have := hS.ge; omega) hS.lt hlast hB (fun hi => hx ((hS.img x).1 hi))) ?_
  rintro e w2 ⟨rfl, f2, N2, hL⟩
  have HF : Hid (FilS w hb ob gp n cap mb pu f B it ke va lv nx mod tur lies N p x w2 f2 N2) := by
    refine ⟨hL.me, hL.od, Nat.le_trans hS.ge hL.ge, ?_, fun e0 h0 => hL.ord e0 (hS.ord e0 h0), fun b => (hL.img b).trans (or_congr (hS.img b) Iff.rfl), hS.tn.trans hL.tn (fun k _ e => e)⟩
    have h1 := hS.many
    have h2 := hL.few
    have h3 := hS.ge
    have h4 := hL.ge
    have h5 := hS.lt
    have e1 : N2 - N = (N1 - N) + (N2 - N1) := by omega
    rw [e1, Nat.pow_add]
    have h6 : 2 ^ (N1 - N) * 1 ≤ 2 ^ (N1 - N) * (p / 2 + 1) := Nat.mul_le_mul_left _ (by omega)
    calc 2 ^ (N1 - N) * 2 ^ (N2 - N1) ≤ (n + 1) * (4 * (n + 1)) := Nat.mul_le_mul (by omega) (by omega)
      _ = 4 * (n + 1) * (n + 1) := by rw [Nat.mul_comm]
  clear hS hL
  go_wp2_with fail
  refine bodyPost_end (results_none rfl _ _ _) rfl ?_
  exact ⟨rfl, _, _, HF.out⟩
end Go.Proofs.Ytjnfcihichaonaa
namespace Go.Proofs.Ytjnfcihichaonaa
open Go.RowKit
set_option maxRecDepth 100000
set_option linter.unusedVariables false
theorem lenS_any {base hb ob : Nat} {a : Option Addr} {n cap mb nn : Nat} {pu : Int} {f : Nat → Nat} {it ke : Nat → Int} {va : Nat → ByteArray} (w : World) (h : HsS w base hb ob a n cap mb nn pu f it ke va) :
    Calls Try.prog 34 #[.pointer (some ⟨hb, 0, none⟩)] w fun e w' => e = .returned (.int .i64 (n : Int)) ∧ w' = w := by
  obtain ⟨c1, c2, c3, c4⟩ := h.cells
  clear h
  go_enter Try.func34, Try.ntmps34
  go_wp2_with fail
  go_ret
  exact ⟨rfl, rfl⟩
theorem firstS_any {base hb ob : Nat} {a : Option Addr} {n cap mb nn : Nat} {pu : Int} {f : Nat → Nat} {it ke : Nat → Int} {va : Nat → ByteArray} (w : World) (h : HsS w base hb ob a n cap mb nn pu f it ke va) :
    Calls Try.prog 56 #[.pointer (some ⟨hb, 0, none⟩)] w fun e w' => e = .returned (pV (fst? n f)) ∧ w' = w := by
  obtain ⟨c1, c2, c3, c4⟩ := h.cells
  by_cases c : n = 0
  · subst c
    clear h
    go_enter Try.func56, Try.ntmps56
    go_wp2_with fail
    go_ret
    exact ⟨rfl, rfl⟩
  · obtain ⟨gp, rfl, _, hle, _, cs, e1, e2, e3⟩ := h.some' (by omega)
    have c0 : w.cell? ⟨gp, 0, none⟩ = some (.pointer (some ⟨f 0, 0, none⟩)) := by simp [World.cell?, e1, e3 0 (by omega)]
    have hn : 0 < n := by omega
    have hl := h.lim
    rw [show fst? n f = some (f 0) by unfold fst?; rw [if_neg c]]
    clear h e1 e2 e3
    go_enter Try.func56, Try.ntmps56
    go_wp2_with fail
    go_ret
    exact ⟨rfl, rfl⟩
theorem lastS_any {base hb ob : Nat} {a : Option Addr} {n cap mb nn : Nat} {pu : Int} {f : Nat → Nat} {it ke : Nat → Int} {va : Nat → ByteArray} (w : World) (h : HsS w base hb ob a n cap mb nn pu f it ke va) :
    Calls Try.prog 54 #[.pointer (some ⟨hb, 0, none⟩)] w fun e w' => e = .returned (pV (lst? n f)) ∧ w' = w := by
  obtain ⟨c1, c2, c3, c4⟩ := h.cells
  have hl := h.lim
  by_cases c : n < 2
  · have F : Hid (Calls Try.prog 56 #[.pointer (some ⟨hb, 0, none⟩)] w fun e w' => e = .returned (pV (fst? n f)) ∧ w' = w) := firstS_any w h
    rw [show lst? n f = fst? n f by unfold lst? fst?; split; rfl; rw [if_pos (by omega)]]
    clear h
    go_enter Try.func54, Try.ntmps54
    go_wp2_with (first | (go_at_call 56; refine Calls.mono F.out ?_; rintro e w8 ⟨rfl, rfl⟩))
    go_ret
    exact ⟨rfl, rfl⟩
  · obtain ⟨gp, rfl, _, hle, _, cs, e1, e2, e3⟩ := h.some' (by omega)
    have c0 : w.cell? ⟨gp, 1, none⟩ = some (.pointer (some ⟨f 1, 0, none⟩)) := by simp [World.cell?, e1, e3 1 (by omega)]
    have hn : 1 < n := by omega
    rw [show lst? n f = some (f 1) by unfold lst?; rw [if_neg (by omega), if_neg (by omega)]]
    clear h e1 e2 e3
    go_enter Try.func54, Try.ntmps54
    go_wp2_with fail
    go_ret
    exact ⟨rfl, rfl⟩
theorem results_tmp4S {fn : Func} {t u v x : Tmp} (h : fn.results = #[.tmp t, .tmp u, .tmp v, .tmp x]) (tmps : Array Value) (P : Program) (w : World) :
    (results fn tmps).run P w = .ok (.tuple #[tmps.getD t undef, tmps.getD u undef, tmps.getD v undef, tmps.getD x undef]) w := by
  simp [results, h]
/-- What is told of a thing, or of none. -/
def telS (it ke : Nat → Int) (va : Nat → ByteArray) : Option Nat → Value
  | none => .tuple #[.int .i64 0, .int .i64 0, .string (⟨#[]⟩ : ByteArray), .bool false]
  | some b => .tuple #[.int .i64 (it b), .int .i64 (ke b), .string (va b), .bool true]
theorem tellS_any {it ke : Nat → Int} {va : Nat → ByteArray} (o : Option Nat) (w : World) (h : ∀ b, o = some b → ∃ q : Int, w.heap[b]? = some (.cells #[.int .i64 (it b), .int .i64 (ke b), .string (va b), .int .i64 q] 98)) :
    Calls Try.prog 55 #[pV o] w fun e w' => e = .returned (telS it ke va o) ∧ ∃ m, w' = w.drewN m := by
  cases o with
  | none =>
    clear h
    simp only [pV]
    go_enter Try.func55, Try.ntmps55
    go_wp2_with fail
    (try simp only [Exit.inBlock, Exit.then]); refine bodyPost_ret (results_tmp4S rfl _ _ _) rfl ?_
    exact ⟨rfl, 0, rfl⟩
  | some b =>
    obtain ⟨q, e⟩ := h b rfl
    have x0 : w.cell? ⟨b, 0, none⟩ = some (.int .i64 (it b)) := by simp [World.cell?, e]
    have x1 : w.cell? ⟨b, 1, none⟩ = some (.int .i64 (ke b)) := by simp [World.cell?, e]
    have x2 : w.cell? ⟨b, 2, none⟩ = some (.string (va b)) := by simp [World.cell?, e]
    clear h e
    simp only [pV]
    go_enter Try.func55, Try.ntmps55
    go_wp2_with fail
    go_quiet (fail)
    go_wp2_with fail
    (try simp only [Exit.inBlock, Exit.then]); refine bodyPost_ret (results_tmp4S rfl _ _ _) rfl ?_
    exact ⟨rfl, _, rfl⟩
theorem HsS.thing {W : World} {base hb ob : Nat} {a : Option Addr} {n cap mb nn : Nat} {pu : Int} {f : Nat → Nat} {it ke : Nat → Int} {va : Nat → ByteArray} (h : HsS W base hb ob a n cap mb nn pu f it ke va) (o : Option Nat) (ho : ∀ b, o = some b → Img n f n b) : ∀ b, o = some b → ∃ q : Int, W.heap[b]? = some (.cells #[.int .i64 (it b), .int .i64 (ke b), .string (va b), .int .i64 q] 98) := fun b e => by
  obtain ⟨i, hi, _, rfl⟩ := ho b e
  exact ⟨_, h.pl i hi⟩
theorem minS_any {base hb ob : Nat} {a : Option Addr} {n cap mb nn : Nat} {pu : Int} {f : Nat → Nat} {it ke : Nat → Int} {va : Nat → ByteArray} (w : World) (h : HsS w base hb ob a n cap mb nn pu f it ke va) :
    Calls Try.prog 33 #[.pointer (some ⟨hb, 0, none⟩)] w fun e w' => e = .returned (telS it ke va (fst? n f)) ∧ ∃ m, w' = w.drewN m := by
  have F : Hid (Calls Try.prog 56 #[.pointer (some ⟨hb, 0, none⟩)] w fun e w' => e = .returned (pV (fst? n f)) ∧ w' = w) := firstS_any w h
  have T : Hid (Calls Try.prog 55 #[pV (fst? n f)] w fun e w' => e = .returned (telS it ke va (fst? n f)) ∧ ∃ m, w' = w.drewN m) := tellS_any _ w (h.thing _ fst_in)
  clear h
  generalize fst? n f = o at *
  cases o <;> simp only [telS] at T ⊢ <;>
  · go_enter Try.func33, Try.ntmps33
    go_wp2_with (first | (go_at_call 56; refine Calls.mono F.out ?_; rintro e w8 ⟨rfl, rfl⟩) | (go_at_call 55; refine Calls.mono T.out ?_; rintro e w9 ⟨rfl, m, rfl⟩))
    (try simp only [Exit.inBlock, Exit.then]); refine bodyPost_ret (results_tmp4S rfl _ _ _) rfl ?_
    exact ⟨rfl, _, rfl⟩
end Go.Proofs.Ytjnfcihichaonaa
