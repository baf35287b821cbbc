/- Contracts of the program's functions, part 26: own work, joined in build order. -/
import Derived.Test.YtjnfcihichaonaaJ25
namespace Go.Proofs.Ytjnfcihichaonaa
open Go.RowKit
set_option maxRecDepth 100000
set_option linter.unusedVariables false
/-- A heap: n things, at the places f. -/
structure HsS (W : World) (base hb ob : Nat) (a : Option Addr) (n cap mb nn : Nat) (pu : Int) (f : Nat → Nat) (it ke : Nat → Int) (va : Nat → ByteArray) : Prop where
  hd : W.heap[hb]? = some (.cells #[.func (.func 28) #[.pointer (some ⟨ob, 0, none⟩)] #[], .slice a n cap, .map (some mb), .int .i64 pu] 95)
  row : W.ownsRow base 96 1 (.slice a n cap) n ((List.range n).map fun i => .pointer (some ⟨f i, 0, none⟩))
  lim : n ≤ 1000000000
  pl : ∀ i, i < n → W.heap[f i]? = some (.cells #[.int .i64 (it (f i)), .int .i64 (ke (f i)), .string (va (f i)), .int .i64 (i : Int)] 98)
  wf : ∀ i, i < n → -9223372036854775808 ≤ ke (f i) ∧ ke (f i) ≤ 9223372036854775807
  itr : ∀ i, i < n → 1 ≤ it (f i) ∧ it (f i) ≤ pu
  iti : ∀ i j, i < n → j < n → it (f i) = it (f j) → i = j
  pu0 : 0 ≤ pu
  pu1 : pu ≤ 1000000000
  nn1 : (nn : Int) ≤ pu + 1000000000
  mp : ∃ g, Mp W mb nn g ∧ ∀ i b, g i = some b ↔ ∃ j, j < n ∧ f j = b ∧ it b = i
  ge : base ≤ hb ∧ base ≤ ob ∧ base ≤ mb ∧ ∀ i, i < n → base ≤ f i
theorem HsS.inj {W : World} {base hb ob : Nat} {a : Option Addr} {n cap mb nn : Nat} {pu : Int} {f : Nat → Nat} {it ke : Nat → Int} {va : Nat → ByteArray} (h : HsS W base hb ob a n cap mb nn pu f it ke va) {i j : Nat} (hi : i < n) (hj : j < n) (e : f i = f j) : i = j := h.iti i j hi hj (by rw [e])
theorem HsS.cells {W : World} {base hb ob : Nat} {a : Option Addr} {n cap mb nn : Nat} {pu : Int} {f : Nat → Nat} {it ke : Nat → Int} {va : Nat → ByteArray} (h : HsS W base hb ob a n cap mb nn pu f it ke va) : W.cell? ⟨hb, 1, none⟩ = some (.slice a n cap) ∧ W.cell? ⟨hb, 2, none⟩ = some (.map (some mb)) ∧ W.cell? ⟨hb, 3, none⟩ = some (.int .i64 pu) ∧ (∀ i, W.frozen? ⟨hb, i, none⟩ = false) := by
  simp [World.cell?, World.frozen?, h.hd]
/-- With something in it. -/
theorem HsS.some' {W : World} {base hb ob : Nat} {a : Option Addr} {n cap mb nn : Nat} {pu : Int} {f : Nat → Nat} {it ke : Nat → Int} {va : Nat → ByteArray} (h : HsS W base hb ob a n cap mb nn pu f it ke va) (hn : 0 < n) : ∃ gp, a = some ⟨gp, 0, none⟩ ∧ base ≤ gp ∧ n ≤ cap ∧ cap ≤ maxLen ∧ ∃ cs : Array Value, W.heap[gp]? = some (.cells cs 96) ∧ cs.size = cap ∧ ∀ i, i < n → cs[i]? = some (.pointer (some ⟨f i, 0, none⟩)) := by
  rcases h.row.2 with ⟨e, e0⟩ | ⟨g, cap', cur, e, hb', hg, h1, h2, h3, h4⟩
  · omega
  · injection e with e1 _ e3
    subst e1 e3
    refine ⟨g, rfl, hb', by omega, by omega, cur, hg, by omega, fun i hi => ?_⟩
    have q4 := congrArg (fun l => l[i]?) h4
    simp only [Nat.mul_one] at q4
    rw [List.getElem?_take_of_lt hi] at q4
    rw [← Array.getElem?_toList, q4]
    simp [hi]
/-- A hole at the place p, x beside. -/
theorem HsS.me {W : World} {base hb ob : Nat} {gp n cap mb nn : Nat} {pu : Int} {f : Nat → Nat} {it ke : Nat → Int} {va : Nat → ByteArray} (h : HsS W base hb ob (some ⟨gp, 0, none⟩) n cap mb nn pu f it ke va) (p : Nat) (hn : 0 < n) : MeS W hb ob gp n cap mb pu f (fun b => Img n f n b) it ke va p := by
  obtain ⟨gp', e, _, h1, h2, cs, h3, h4, h5⟩ := h.some' hn
  cases e
  have hl := h.lim
  refine ⟨h.hd, ⟨cs, h3, h4, h5⟩, h1, by omega, ?_, fun i hi _ => ⟨i, hi, by omega, rfl⟩, fun i hi _ => h.pl i hi, ?_⟩
  · rintro b ⟨i, hi, _, rfl⟩
    exact ⟨_, h.pl i hi⟩
  · rintro b ⟨i, hi, _, rfl⟩
    have h6 := h.itr i hi
    have h7 := h.wf i hi
    have h8 := h.pu1
    omega
def FilS (w0 : World) (hb ob gp n cap mb : Nat) (pu : Int) (f0 : Nat → Nat) (B : Nat → Prop) (it ke : Nat → Int) (va : Nat → ByteArray) (lv : Value) (nx mod : Int) (tur : Bool) (lies : Int) (N0 p0 x : Nat) (w : World) (f : Nat → Nat) (N : Nat) : Prop :=
  MeS w hb ob gp n cap mb pu f B it ke va n ∧ Ordr w ob lv nx mod tur lies N ∧ N0 ≤ N ∧ 2 ^ (N - N0) ≤ 4 * (n + 1) * (n + 1) ∧ (lies = 0 → Ord (leB mod tur it ke) n f0 p0 → Ord (leB mod tur it ke) n f n) ∧ (∀ b, Img n f n b ↔ Img n f0 p0 b ∨ b = x) ∧ Tn (fun k => k = ob ∨ k = gp ∨ B k) w0 w
theorem fillS_any {hb ob gp n cap mb : Nat} {pu : Int} {f : Nat → Nat} {B : Nat → Prop} {it ke : Nat → Int} {va : Nat → ByteArray} {lv : Value} {nx mod : Int} {tur : Bool} {lies : Int} {N : Nat} (p x : Nat) (w : World) (h : MeS w hb ob gp n cap mb pu f B it ke va p) (ho : Ordr w ob lv nx mod tur lies N) (hN : N < 999999999800) (hp : p < n) (hB : B x) (hx : ¬ Img n f p x) :
    Calls Try.prog 57 #[.pointer (some ⟨hb, 0, none⟩), .int .i64 (p : Int), .pointer (some ⟨x, 0, none⟩)] w fun e w' => e = .returned (.tuple #[]) ∧ ∃ f' M, FilS w hb ob gp n cap mb pu f B it ke va lv nx mod tur lies N p x w' f' M := by
  have SI : Hid (Calls Try.prog 72 #[.pointer (some ⟨hb, 0, none⟩), .int .i64 (p : Int)] w (SinksS w hb ob gp n cap mb pu f B it ke va lv nx mod tur lies N p)) := sinkS_any p w h ho (by omega) hp
  have hlim := h.lim
  clear h ho
  go_enter Try.func57, Try.ntmps57
  go_wp2_with (first | (go_at_call 72; refine Calls.mono SI.out ?_; rintro e w1 ⟨p1, f1, N1, rfl, hS, hlast⟩))
  have hs : N1 - N ≤ 40 := pow_lt_many hS.many (by have := hS.lt; omega)
  refine Calls.mono (riseS_any p1 x w1 hS.me hS.od (by have := hS.ge; omega) hS.lt hlast hB (fun hi => hx ((hS.img x).1 hi))) ?_
  rintro e w2 ⟨rfl, f2, N2, hL⟩
  have HF : Hid (FilS w hb ob gp n cap mb pu f B it ke va lv nx mod tur lies N p x w2 f2 N2) := by
    refine ⟨hL.me, hL.od, Nat.le_trans hS.ge hL.ge, ?_, fun e0 h0 => hL.ord e0 (hS.ord e0 h0), fun b => (hL.img b).trans (or_congr (hS.img b) Iff.rfl), hS.tn.trans hL.tn (fun k _ e => e)⟩
    have h1 := hS.many
    have h2 := hL.few
    have h3 := hS.ge
    have h4 := hL.ge
    have h5 := hS.lt
    have e1 : N2 - N = (N1 - N) + (N2 - N1) := by omega
    rw [e1, Nat.pow_add]
    have h6 : 2 ^ (N1 - N) * 1 ≤ 2 ^ (N1 - N) * (p / 2 + 1) := Nat.mul_le_mul_left _ (by omega)
    calc 2 ^ (N1 - N) * 2 ^ (N2 - N1) ≤ (n + 1) * (4 * (n + 1)) := Nat.mul_le_mul (by omega) (by omega)
      _ = 4 * (n + 1) * (n + 1) := by rw [Nat.mul_comm]
  clear hS hL
  go_wp2_with fail
  refine bodyPost_end (results_none rfl _ _ _) rfl ?_
  exact ⟨rfl, _, _, HF.out⟩
end Go.Proofs.Ytjnfcihichaonaa
