/- Contracts of the program's functions, part 11: own work, joined in build order. -/
import Derived.Test.YtjnfcihichaonaaJ10
import Derived.Maps.OwnSet
import Derived.Maps.Views
namespace Go.Proofs.Ytjnfcihichaonaa
open Go.RowKit
set_option maxRecDepth 100000
set_option linter.unusedVariables false
def Rp (v : Value) : Option (DataW Unit × List MemPlace) := match v with
  | .pointer none => some (.lit (.bool false), [])
  | .pointer (some ⟨b, 0, none⟩) => some (.lit (.int .i64 (b : Int)), [])
  | _ => none
def pV : Option Nat → Value
  | none => .pointer none
  | some b => .pointer (some ⟨b, 0, none⟩)
def pD : Option Nat → DataW Unit
  | none => .lit (.bool false)
  | some b => .lit (.int .i64 (b : Int))
theorem Rp_mk (o : Option Nat) : Rp (pV o) = some (pD o, []) := by cases o <;> rfl
theorem Rp_inv {v : Value} {o : Option Nat} {ps : List MemPlace} (h : Rp v = some (pD o, ps)) : v = pV o := by
  unfold Rp at h
  split at h
  · cases o with
    | none => rfl
    | some b => simp [pD] at h
  · cases o with
    | none => simp [pD] at h
    | some b =>
      simp [pD] at h
      simp [pV]
  · cases h
def updI {α : Type} (g : Int → α) (i : Int) (x : α) : Int → α := fun j => if j = i then x else g j
/-- The map at the block mb: of each number the thing. -/
def Mp (W : World) (mb nn : Nat) (g : Int → Option Nat) : Prop :=
  ∃ D : DataW Unit, W.ownsMap Try.prog 3 Rp mb nn D ∧ ∀ i : Int, D.atKey (.int .i64 i) (.lit (.bool false)) = pD (g i)
theorem wf64 {i : Int} (h : -9223372036854775808 ≤ i) (h2 : i ≤ 9223372036854775807) : (Lit.int .i64 i).wf = true := by
  have hmin : IntKind.i64.min = -9223372036854775808 := rfl
  have hmax : IntKind.i64.max = 9223372036854775807 := rfl
  have : IntKind.i64.min ≤ i ∧ i ≤ IntKind.i64.max := by rw [hmin, hmax]; exact ⟨h, h2⟩
  simpa [Lit.wf] using this
theorem Mp.kept {W W' : World} {mb nn : Nat} {g : Int → Option Nat} (h : Mp W mb nn g) (hk : W'.heap[mb]? = W.heap[mb]?) : Mp W' mb nn g := by
  obtain ⟨D, ⟨es, clock, hb, r⟩, hD⟩ := h
  exact ⟨D, ⟨es, clock, hk.trans hb, r⟩, hD⟩
theorem Mp.block {W : World} {mb nn : Nat} {g : Int → Option Nat} (h : Mp W mb nn g) : ∃ es clock, W.heap[mb]? = some (.map es clock) := by
  obtain ⟨D, ⟨es, clock, hb, r⟩, hD⟩ := h
  exact ⟨_, _, hb⟩
theorem Mp.mono {W : World} {mb nn n' : Nat} {g : Int → Option Nat} (h : Mp W mb nn g) (hn : nn ≤ n') : Mp W mb n' g := by
  obtain ⟨D, hD, r⟩ := h
  exact ⟨D, hD.mono hn, r⟩
theorem Mp.made (W : World) : Mp (W.alloc (.map #[] 0)) W.heap.size 0 (fun _ => none) := ⟨.map [], World.ownsMap_made _ _ _ _, fun _ => rfl⟩
theorem Mp.look {W : World} {mb nn : Nat} {g : Int → Option Nat} (h : Mp W mb nn g) {t e : TypeId} (ht : Try.prog.underlying t = some (.map 3 e)) (hz : (zeroValue e).run Try.prog W = .ok (.pointer none) W) {i : Int} (h1 : -9223372036854775808 ≤ i) (h2 : i ≤ 9223372036854775807) :
    (Instr.lookup t (.map (some mb)) (.int .i64 i) false).run Try.prog W = .ok (pV (g i)) W := by
  obtain ⟨D, hD, r⟩ := h
  obtain ⟨v, ps, hr, hv⟩ := hD.lookup (Maps.int_keyed Try.underlying3) ht hz (zd := .lit (.bool false)) (zp := []) rfl (Maps.keyOf_int_mk Try.underlying3 (wf64 h1 h2))
  rw [r i] at hv
  rw [hr, Rp_inv hv]
theorem Mp.store {W : World} {mb nn : Nat} {g : Int → Option Nat} (h : Mp W mb nn g) (hn : nn < 1099511627776) {t e : TypeId} (ht : Try.prog.underlying t = some (.map 3 e)) {i : Int} (h1 : -9223372036854775808 ≤ i) (h2 : i ≤ 9223372036854775807) (b : Nat) :
    ∃ W', (Instr.mapUpdate t (.map (some mb)) (.int .i64 i) (.pointer (some ⟨b, 0, none⟩))).run Try.prog W = .ok () W' ∧ Mp W' mb (nn + 1) (updI g i (some b)) ∧ W.grownBy W' (some mb) := by
  obtain ⟨D, hD, r⟩ := h
  obtain ⟨W', hr, h3, h4⟩ := hD.store (Maps.int_keyed Try.underlying3) ht (by simp only [maxLen]; omega) (Maps.keyOf_int_mk Try.underlying3 (wf64 h1 h2)) (Rp_mk (some b))
  refine ⟨W', hr, ⟨_, h3, fun j => ?_⟩, h4.grown⟩
  unfold updI
  split <;> rename_i c
  · rw [c]
    exact Maps.atKey_put_same hD.isMap (by simp [WideAt.IsKeyLit]) _ _
  · rw [Maps.atKey_put_other (by intro e; injection e with _ e; exact c e)]
    exact r j
theorem Mp.drop {W : World} {mb nn : Nat} {g : Int → Option Nat} (h : Mp W mb nn g) {t e : TypeId} (ht : Try.prog.underlying t = some (.map 3 e)) {i : Int} (h1 : -9223372036854775808 ≤ i) (h2 : i ≤ 9223372036854775807) (ty : TypeId) :
    ∃ W', (Builtin.delete_ #[t, 3] ty #[.map (some mb), .int .i64 i]).run Try.prog W = .ok (.tuple #[]) W' ∧ Mp W' mb nn (updI g i none) ∧ W.grownBy W' (some mb) := by
  obtain ⟨D, hD, r⟩ := h
  obtain ⟨W', hr, h3, h4⟩ := hD.drop (Maps.int_keyed Try.underlying3) ht (Maps.keyOf_int_mk Try.underlying3 (wf64 h1 h2)) ty
  refine ⟨W', hr, ⟨_, h3, fun j => ?_⟩, h4.grown⟩
  unfold updI
  split <;> rename_i c
  · rw [c]
    exact Maps.atKey_del_same _
  · rw [Maps.atKey_del_other (by intro e; injection e with _ e; exact c e)]
    exact r j
end Go.Proofs.Ytjnfcihichaonaa
namespace Go.Proofs.Ytjnfcihichaonaa
open Go.RowKit
set_option maxRecDepth 100000
set_option linter.unusedVariables false
/-- A heap: n things, at the places f. -/
structure HsI (W : World) (base hb ob : Nat) (a : Option Addr) (n cap mb nn : Nat) (pu : Int) (f : Nat → Nat) (it ke : Nat → Int) (va : Nat → Int) : Prop where
  hd : W.heap[hb]? = some (.cells #[.func (.func 28) #[.pointer (some ⟨ob, 0, none⟩)] #[], .slice a n cap, .map (some mb), .int .i64 pu] 70)
  row : W.ownsRow base 77 1 (.slice a n cap) n ((List.range n).map fun i => .pointer (some ⟨f i, 0, none⟩))
  lim : n ≤ 1000000000
  pl : ∀ i, i < n → W.heap[f i]? = some (.cells #[.int .i64 (it (f i)), .int .i64 (ke (f i)), .int .i64 (va (f i)), .int .i64 (i : Int)] 81)
  wf : ∀ i, i < n → -9223372036854775808 ≤ ke (f i) ∧ ke (f i) ≤ 9223372036854775807
  itr : ∀ i, i < n → 1 ≤ it (f i) ∧ it (f i) ≤ pu
  iti : ∀ i j, i < n → j < n → it (f i) = it (f j) → i = j
  pu0 : 0 ≤ pu
  pu1 : pu ≤ 1000000000
  nn1 : (nn : Int) ≤ pu + 1000000000
  mp : ∃ g, Mp W mb nn g ∧ ∀ i b, g i = some b ↔ ∃ j, j < n ∧ f j = b ∧ it b = i
  ge : base ≤ hb ∧ base ≤ ob ∧ base ≤ mb ∧ ∀ i, i < n → base ≤ f i
theorem HsI.inj {W : World} {base hb ob : Nat} {a : Option Addr} {n cap mb nn : Nat} {pu : Int} {f : Nat → Nat} {it ke : Nat → Int} {va : Nat → Int} (h : HsI W base hb ob a n cap mb nn pu f it ke va) {i j : Nat} (hi : i < n) (hj : j < n) (e : f i = f j) : i = j := h.iti i j hi hj (by rw [e])
theorem HsI.cells {W : World} {base hb ob : Nat} {a : Option Addr} {n cap mb nn : Nat} {pu : Int} {f : Nat → Nat} {it ke : Nat → Int} {va : Nat → Int} (h : HsI W base hb ob a n cap mb nn pu f it ke va) : W.cell? ⟨hb, 1, none⟩ = some (.slice a n cap) ∧ W.cell? ⟨hb, 2, none⟩ = some (.map (some mb)) ∧ W.cell? ⟨hb, 3, none⟩ = some (.int .i64 pu) ∧ (∀ i, W.frozen? ⟨hb, i, none⟩ = false) := by
  simp [World.cell?, World.frozen?, h.hd]
/-- With something in it. -/
theorem HsI.some' {W : World} {base hb ob : Nat} {a : Option Addr} {n cap mb nn : Nat} {pu : Int} {f : Nat → Nat} {it ke : Nat → Int} {va : Nat → Int} (h : HsI W base hb ob a n cap mb nn pu f it ke va) (hn : 0 < n) : ∃ gp, a = some ⟨gp, 0, none⟩ ∧ base ≤ gp ∧ n ≤ cap ∧ cap ≤ maxLen ∧ ∃ cs : Array Value, W.heap[gp]? = some (.cells cs 77) ∧ cs.size = cap ∧ ∀ i, i < n → cs[i]? = some (.pointer (some ⟨f i, 0, none⟩)) := by
  rcases h.row.2 with ⟨e, e0⟩ | ⟨g, cap', cur, e, hb', hg, h1, h2, h3, h4⟩
  · omega
  · injection e with e1 _ e3
    subst e1 e3
    refine ⟨g, rfl, hb', by omega, by omega, cur, hg, by omega, fun i hi => ?_⟩
    have q4 := congrArg (fun l => l[i]?) h4
    simp only [Nat.mul_one] at q4
    rw [List.getElem?_take_of_lt hi] at q4
    rw [← Array.getElem?_toList, q4]
    simp [hi]
/-- A hole at the place p, x beside. -/
theorem HsI.me {W : World} {base hb ob : Nat} {gp n cap mb nn : Nat} {pu : Int} {f : Nat → Nat} {it ke : Nat → Int} {va : Nat → Int} (h : HsI W base hb ob (some ⟨gp, 0, none⟩) n cap mb nn pu f it ke va) (p : Nat) (hn : 0 < n) : MeI W hb ob gp n cap mb pu f (fun b => Img n f n b) it ke va p := by
  obtain ⟨gp', e, _, h1, h2, cs, h3, h4, h5⟩ := h.some' hn
  cases e
  have hl := h.lim
  refine ⟨h.hd, ⟨cs, h3, h4, h5⟩, h1, by omega, ?_, fun i hi _ => ⟨i, hi, by omega, rfl⟩, fun i hi _ => h.pl i hi, ?_⟩
  · rintro b ⟨i, hi, _, rfl⟩
    exact ⟨_, h.pl i hi⟩
  · rintro b ⟨i, hi, _, rfl⟩
    have h6 := h.itr i hi
    have h7 := h.wf i hi
    have h8 := h.pu1
    omega
def FilI (w0 : World) (hb ob gp n cap mb : Nat) (pu : Int) (f0 : Nat → Nat) (B : Nat → Prop) (it ke : Nat → Int) (va : Nat → Int) (lv : Value) (nx mod : Int) (tur : Bool) (lies : Int) (N0 p0 x : Nat) (w : World) (f : Nat → Nat) (N : Nat) : Prop :=
  MeI w hb ob gp n cap mb pu f B it ke va n ∧ Ordr w ob lv nx mod tur lies N ∧ N0 ≤ N ∧ 2 ^ (N - N0) ≤ 4 * (n + 1) * (n + 1) ∧ (lies = 0 → Ord (leB mod tur it ke) n f0 p0 → Ord (leB mod tur it ke) n f n) ∧ (∀ b, Img n f n b ↔ Img n f0 p0 b ∨ b = x) ∧ Tn (fun k => k = ob ∨ k = gp ∨ B k) w0 w
theorem fillI_any {hb ob gp n cap mb : Nat} {pu : Int} {f : Nat → Nat} {B : Nat → Prop} {it ke : Nat → Int} {va : Nat → Int} {lv : Value} {nx mod : Int} {tur : Bool} {lies : Int} {N : Nat} (p x : Nat) (w : World) (h : MeI w hb ob gp n cap mb pu f B it ke va p) (ho : Ordr w ob lv nx mod tur lies N) (hN : N < 999999999800) (hp : p < n) (hB : B x) (hx : ¬ Img n f p x) :
    Calls Try.prog 42 #[.pointer (some ⟨hb, 0, none⟩), .int .i64 (p : Int), .pointer (some ⟨x, 0, none⟩)] w fun e w' => e = .returned (.tuple #[]) ∧ ∃ f' M, FilI w hb ob gp n cap mb pu f B it ke va lv nx mod tur lies N p x w' f' M := by
  have SI : Hid (Calls Try.prog 66 #[.pointer (some ⟨hb, 0, none⟩), .int .i64 (p : Int)] w (SinksI w hb ob gp n cap mb pu f B it ke va lv nx mod tur lies N p)) := sinkI_any p w h ho (by omega) hp
  have hlim := h.lim
  clear h ho
  go_enter Try.func42, Try.ntmps42
  go_wp2_with (first | (go_at_call 66; refine Calls.mono SI.out ?_; rintro e w1 ⟨p1, f1, N1, rfl, hS, hlast⟩))
  have hs : N1 - N ≤ 40 := pow_lt_many hS.many (by have := hS.lt; omega)
  refine Calls.mono (riseI_any p1 x w1 hS.me hS.od (by have := hS.ge; omega) hS.lt hlast hB (fun hi => hx ((hS.img x).1 hi))) ?_
  rintro e w2 ⟨rfl, f2, N2, hL⟩
  have HF : Hid (FilI w hb ob gp n cap mb pu f B it ke va lv nx mod tur lies N p x w2 f2 N2) := by
    refine ⟨hL.me, hL.od, Nat.le_trans hS.ge hL.ge, ?_, fun e0 h0 => hL.ord e0 (hS.ord e0 h0), fun b => (hL.img b).trans (or_congr (hS.img b) Iff.rfl), hS.tn.trans hL.tn (fun k _ e => e)⟩
    have h1 := hS.many
    have h2 := hL.few
    have h3 := hS.ge
    have h4 := hL.ge
    have h5 := hS.lt
    have e1 : N2 - N = (N1 - N) + (N2 - N1) := by omega
    rw [e1, Nat.pow_add]
    have h6 : 2 ^ (N1 - N) * 1 ≤ 2 ^ (N1 - N) * (p / 2 + 1) := Nat.mul_le_mul_left _ (by omega)
    calc 2 ^ (N1 - N) * 2 ^ (N2 - N1) ≤ (n + 1) * (4 * (n + 1)) := Nat.mul_le_mul (by omega) (by omega)
      _ = 4 * (n + 1) * (n + 1) := by rw [Nat.mul_comm]
  clear hS hL
  go_wp2_with fail
  refine bodyPost_end (results_none rfl _ _ _) rfl ?_
  exact ⟨rfl, _, _, HF.out⟩
end Go.Proofs.Ytjnfcihichaonaa
