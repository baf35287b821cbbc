/- Contracts of the program's functions, part 13: own work, joined in build order. -/
import Derived.Test.YtfkkomppfghagaaGreatDoorJ12
import Derived.Test.YtfkkomppfghagaaGreatDoorRows
import Derived.WalkKit
import Derived.WalkMore
import Derived.ScopeJumps
import Derived.Handy
import Derived.Laws.Bits64b
import Derived.Laws.Cover1
import Derived.Maps.OwnSet
import Derived.Maps.Views
import Derived.Lib.SlKeysI
import Derived.Deep.OwnRows
import Derived.Deep.Cut
import Derived.Shelf.SlIterI.Nil
import Derived.Shelf.SortM.Plain
import Derived.Shelf.SortM.SortNone
import Derived.Ground.GgzProg
import Derived.Ground.SlgmProg
namespace Go.Proofs.YtfkkomppfghagaaGreatDoor
open Go.RowKit
set_option maxRecDepth 100000
set_option linter.unusedVariables false
set_option maxHeartbeats 2000000 in
theorem near_any (v : Value) (p q : Nat) (w : World) (h : Rt w v p q) (hp : RS p) (hq : RS q) :
    Calls Tryz.prog 50 #[v] w fun e w' => e = .returned (.float .f64 (tfV p q)) ∧ Below w.heap.size w w' := by
  obtain ⟨a, n, c, a', n', c', rfl⟩ := rt_slices h
  have bl := bel_al (o := .cells #[.slice a n c, .slice a' n' c'] 47) (bel_refl w)
  have cT : Hid (Calls Tryz.prog 80 #[.agg #[.slice a n c, .slice a' n' c']] (w.alloc (.cells #[.slice a n c, .slice a' n' c'] 47)) fun e w' => e = .returned (.tuple #[.float .f64 (tfV p q), .bool (tfOk p q)]) ∧ Below (w.alloc (.cells #[.slice a n c, .slice a' n' c'] 47)).heap.size (w.alloc (.cells #[.slice a n c, .slice a' n' c'] 47)) w') := toFloat_any _ p q _ (h.mono bl) hp hq h.pos
  have B1 : Hid _ := bl
  clear h hp hq bl
  go_enter Tryz.func50, Tryz.ntmps50
  go_wp2_with fail
  refine cT.out.mono ?_
  rintro e w1 ⟨rfl, hb⟩
  go_wp2_with fail
  go_ret
  exact ⟨rfl, bel_go B1.out hb⟩
set_option maxHeartbeats 2000000 in
theorem gwhole_any (k : Nat) (w : World) (hk : k ≤ 9223372036854775807) (hT : Tab w) : Calls Tryz.prog 49 #[.int .i64 (k : Int)] w (MakesR w k 1) := by
  have S0 : Hid _ := (sx_start w).box (.slice none 0 0) (.slice none 0 0) 47 _ rfl
  obtain ⟨w0, hw0⟩ : ∃ w0, w0 = w.alloc (.cells #[.slice none 0 0, .slice none 0 0] 47) := ⟨_, rfl⟩
  have f6 : w0.frozen? ⟨w.heap.size, 0, none⟩ = false := by rw [hw0]; simp [go_sem]
  have f7 : w0.frozen? ⟨w.heap.size, 1, none⟩ = false := by rw [hw0]; simp [go_sem]
  rw [← hw0] at S0
  have cO : Hid (Calls Tryz.prog 20 #[.int .i64 (k : Int), .int .i64 1] w0 (MakesRB w0 k 1 true)) := by
    have h := ratOf_yes k 1 w0 hk (by omega) (by omega) (hT.go S0.out.bel)
    rw [Nat.gcd_one_right, Nat.div_one] at h
    exact h
  clear hT
  go_enter Tryz.func49, Tryz.ntmps49
  go_wp2_with fail
  rw [← hw0]
  obtain ⟨b, hb⟩ : ∃ b, b = w.heap.size := ⟨_, rfl⟩
  have HB : Hid (w.heap.size ≤ b) := by show _ ≤ _; omega
  rw [← hb] at S0 f6 f7
  rw [← hb]
  clear hw0 hb
  refine cO.out.mono ?_
  rintro e w1 ⟨v, rfl, hv, hb⟩
  obtain ⟨a, n, c, a', n', c', rfl⟩ := rt_slices hv
  have S1 : Hid _ := ((S0.out.go hb).addF hv).box (.slice a n c) (.slice a' n' c') 47 _ rfl
  have bl := bel_al (o := .cells #[.slice a n c, .slice a' n' c'] 47) (bel_refl w1)
  have y0 := S1.out.cel b 0 (.slice none 0 0)
  have y1 := S1.out.cel b 1 (.slice none 0 0)
  have g6 := ((bel_go hb bl).frozen (World.block_lt_of_cell? _ _ (S0.out.cel b 0 (.slice none 0 0)))).trans f6
  have g7 := ((bel_go hb bl).frozen (World.block_lt_of_cell? _ _ (S0.out.cel b 1 (.slice none 0 0)))).trans f7
  have Z : Hid _ := rat_put (w0 := w) (v := .slice a n c) (u := .slice a' n' c') y0 y1 (S1.out.fr (.agg #[.slice a n c, .slice a' n' c']) k 1) S1.out.bel HB.out
  clear hb hv bl S0 f6 f7 HB
  obtain ⟨c3, hc3⟩ : ∃ c3, c3 = w1.heap.size := ⟨_, rfl⟩
  have l0 := S1.out.cel w1.heap.size 0 (.slice a n c)
  have l1 := S1.out.cel w1.heap.size 1 (.slice a' n' c')
  clear S1
  go_wp2_with fail
  exact bodyPost_ret (v := .agg #[.slice a n c, .slice a' n' c']) (by simp [results, Tryz.results49, go_sem, y0, y1]) rfl ⟨_, rfl, Z.out.1, Z.out.2⟩
def em : ByteArray := ⟨#[]⟩
def FC (s : ByteArray) (b i f : Nat) (u : Nat → Value) : Act := { tmps := #[.string s, u 1, .pointer (some ⟨b, 0, none⟩), u 3, .int .i64 (i : Int), .int .i64 (f : Int), u 6, u 7, u 8, u 9, u 10, u 11, u 12, u 13, u 14, u 15, u 16, u 17, u 18, u 19, u 20, u 21, u 22, u 23, u 24, u 25, u 26, u 27, u 28, u 29, u 30, u 31, u 32, u 33, u 34, u 35, u 36, u 37, u 38, u 39, u 40, u 41, u 42, u 43, u 44, u 45, u 46, u 47, u 48, u 49, u 50, u 51, u 52, u 53, u 54, u 55, u 56, u 57, u 58, u 59, u 60, u 61, u 62, u 63, u 64, u 65, u 66, u 67, u 68, u 69, u 70, u 71, u 72, u 73, u 74, u 75, u 76, u 77, u 78, u 79, u 80, u 81, u 82, u 83, u 84, u 85, u 86, u 87, u 88, u 89, u 90, u 91, u 92, u 93, u 94, u 95, u 96, u 97, u 98, u 99, u 100, u 101, u 102, u 103, u 104, u 105, u 106, u 107, u 108, u 109, u 110, u 111, u 112, u 113, u 114, u 115, u 116, u 117, u 118, u 119, u 120, u 121, u 122, u 123, u 124], defers := [] }
def dst (a b : Nat) : Nat := (a - b) + (b - a)
theorem tf_mono {p q r s : Nat} (hq : 0 < q) (hs : 0 < s) (h : p * s ≤ r * q) (hk : tfOk r s = true) : tfOk p q = true ∧ tfV p q ≤ tfV r s := by
  rcases Nat.eq_zero_or_pos p with hp | hp
  · unfold tfOk tfV
    rw [if_pos hp, decide_eq_true hp]
    exact ⟨rfl, Nat.zero_le _⟩
  have hr : 0 < r := by
    rcases Nat.eq_zero_or_pos r with e | e
    · rw [e, Nat.zero_mul] at h
      have := Nat.mul_pos hp hs
      omega
    exact e
  have hb : tfB r s < 9218868437227405312 := by
    unfold tfOk at hk
    simp at hk
    omega
  have hm : tfB p q ≤ tfB r s := bits_mono (sz_at hp hq) (sz_at hr hs) hq hs h
  obtain ⟨e1, e2⟩ := tf_in (q := q) hp (by omega)
  obtain ⟨e3, e4⟩ := tf_in (q := s) hr hb
  rw [e1, e3]
  exact ⟨e2, hm⟩
def RiG (v : Value) : Option (DataW Unit × List MemPlace) := match v with
  | .int .i64 n => some (.lit (.int .i64 n), [])
  | _ => none
theorem RiG_mk (n : Int) : RiG (.int .i64 n) = some (.lit (.int .i64 n), []) := rfl
theorem RiG_inv {v : Value} {n : Int} {ps : List MemPlace} (h : RiG v = some (.lit (.int .i64 n), ps)) : v = .int .i64 n := by
  unfold RiG at h
  split at h
  · simp at h
    rw [h.1]
  cases h
theorem wf_64g {i : Int} (h : -9223372036854775808 ≤ i) (h2 : i ≤ 9223372036854775807) : (Lit.int .i64 i).wf = true := by
  have hmin : IntKind.i64.min = -9223372036854775808 := rfl
  have hmax : IntKind.i64.max = 9223372036854775807 := rfl
  have : IntKind.i64.min ≤ i ∧ i ≤ IntKind.i64.max := by rw [hmin, hmax]; exact ⟨h, h2⟩
  simpa [Lit.wf] using this
def cntL (L : List Nat) (i : Int) : Nat := L.countP fun (d : Nat) => decide ((d : Int) = i)
theorem cntL_le (L : List Nat) (i : Int) : cntL L i ≤ L.length := List.countP_le_length
theorem cntL_app (L : List Nat) (d : Nat) (i : Int) : cntL (L ++ [d]) i = cntL L i + if (d : Int) = i then 1 else 0 := by
  unfold cntL
  rw [List.countP_append]
  congr 1
  by_cases h : (d : Int) = i <;> simp [h]
theorem cntL_pos {L : List Nat} {i : Int} : 0 < cntL L i ↔ ∃ d ∈ L, (d : Int) = i := by
  unfold cntL
  rw [List.countP_pos_iff]
  simp
def McG (W : World) (mb : Nat) (L : List Nat) : Prop :=
  ∃ (D : DataW Unit) (n : Nat), W.ownsMap Tryz.prog 3 RiG mb n D ∧ n ≤ L.length ∧ (∀ i : Int, D.atKey (.int .i64 i) (.lit (.int .i64 0)) = .lit (.int .i64 (cntL L i))) ∧ ∀ i : Int, Maps.has D (.int .i64 i) = true ↔ 0 < cntL L i
theorem McG.kept {W W' : World} {mb : Nat} {L : List Nat} (h : McG W mb L) (hk : W'.heap[mb]? = W.heap[mb]?) : McG W' mb L := by
  obtain ⟨D, n, ⟨es, clock, hb, r⟩, hD⟩ := h
  exact ⟨D, n, ⟨es, clock, hk.trans hb, r⟩, hD⟩
theorem McG.block {W : World} {mb : Nat} {L : List Nat} (h : McG W mb L) : ∃ es clock, W.heap[mb]? = some (.map es clock) := by
  obtain ⟨D, n, ⟨es, clock, hb, r⟩, hD⟩ := h
  exact ⟨_, _, hb⟩
theorem McG.lt {W : World} {mb : Nat} {L : List Nat} (h : McG W mb L) : mb < W.heap.size := by
  obtain ⟨es, clock, hb⟩ := h.block
  exact (Array.getElem?_eq_some_iff.1 hb).1
theorem McG.go {W W' : World} {mb : Nat} {L : List Nat} (h : McG W mb L) (hb : Below W.heap.size W W') : McG W' mb L := h.kept (hb.block _ h.lt)
theorem McG.made (W : World) : McG (W.alloc (.map #[] 0)) W.heap.size [] := ⟨.map [], 0, World.ownsMap_made _ _ _ _, Nat.le_refl _, fun _ => rfl, fun _ => by simp [Maps.has_eq, cntL]⟩
theorem McG.look {W : World} {mb : Nat} {L : List Nat} (h : McG W mb L) {t e : TypeId} (ht : Tryz.prog.underlying t = some (.map 3 e)) (hz : (zeroValue e).run Tryz.prog W = .ok (.int .i64 0) W) {i : Int} (h1 : -9223372036854775808 ≤ i) (h2 : i ≤ 9223372036854775807) :
    (Instr.lookup t (.map (some mb)) (.int .i64 i) false).run Tryz.prog W = .ok (.int .i64 (cntL L i)) W := by
  obtain ⟨D, n, hD, hn, r, _⟩ := h
  obtain ⟨v, ps, hr, hv⟩ := hD.lookup (Maps.int_keyed Tryz.underlying3) ht hz (zd := .lit (.int .i64 0)) (zp := []) rfl (Maps.keyOf_int_mk Tryz.underlying3 (wf_64g h1 h2))
  rw [r i] at hv
  rw [hr, RiG_inv hv]
theorem McG.store {W : World} {mb : Nat} {L : List Nat} (h : McG W mb L) (hn : L.length < 1099511627776) {t e : TypeId} (ht : Tryz.prog.underlying t = some (.map 3 e)) {d : Nat} (h2 : d ≤ 9223372036854775807) {z : Int} (hz : z = (cntL L d : Int) + 1) :
    ∃ W', (Instr.mapUpdate t (.map (some mb)) (.int .i64 (d : Int)) (.int .i64 z)).run Tryz.prog W = .ok () W' ∧ McG W' mb (L ++ [d]) ∧ W.grownBy W' (some mb) := by
  obtain ⟨D, n, hD, hln, r, hh⟩ := h
  obtain ⟨W', hr, h3, h4⟩ := hD.store (Maps.int_keyed Tryz.underlying3) ht (by simp only [maxLen]; omega) (Maps.keyOf_int_mk Tryz.underlying3 (a := (d : Int)) (wf_64g (by omega) (by omega))) (RiG_mk z)
  refine ⟨W', hr, ⟨_, _, h3, by rw [List.length_append, List.length_singleton]; omega, fun j => ?_, fun j => ?_⟩, h4.grown⟩
  · rw [cntL_app]
    by_cases c : j = (d : Int)
    · rw [c, Maps.atKey_put_same hD.isMap (by simp [WideAt.IsKeyLit]) _ _, if_pos rfl, hz]
      push_cast
      rfl
    rw [Maps.atKey_put_other (by intro e; injection e with _ e; exact c e), if_neg (fun e => c e.symm)]
    exact r j
  rw [cntL_app]
  by_cases c : j = (d : Int)
  · rw [c, Maps.has_put_same hD.isMap (by simp [WideAt.IsKeyLit]), if_pos rfl]
    simp
  rw [Maps.has_put_other (by intro e; injection e with _ e; exact c e), if_neg (fun e => c e.symm)]
  exact hh j
structure KeysG (L : List Nat) (ss : List Int) : Prop where
  mem : ∀ x, x ∈ ss ↔ 0 < cntL L x
  asc : ss.Pairwise (· < ·)
  len : ss.length ≤ L.length
def sumG : List Nat → Nat
  | [] => 0
  | d :: r => d + sumG r
theorem sumG_app (L M : List Nat) : sumG (L ++ M) = sumG L + sumG M := by
  induction L with
  | nil => simp [sumG]
  | cons d r ih => simp only [List.cons_append, sumG, ih]; omega
theorem sumG_le {L : List Nat} {m : Nat} (h : ∀ d ∈ L, d ≤ m) : sumG L ≤ L.length * m := by
  induction L with
  | nil => simp [sumG]
  | cons d r ih =>
    have h1 := ih fun x hx => h x (List.mem_cons_of_mem _ hx)
    have h2 := h d (List.mem_cons_self ..)
    rw [sumG, List.length_cons, Nat.add_mul, Nat.one_mul]
    omega
def gaF (n b : Nat) (v : Value) (mb : Nat) : Nat → Value := fun i => if i = 0 then .int .i64 (n : Int) else if i = 1 then .int .i64 (b : Int) else if i = 2 then v else .map (some mb)
structure Gau (W : World) (g mb : Nat) (L : List Nat) (B : Nat) : Prop where
  row : ∃ a n c, W.rowIs g 77 4 (gaF L.length B (.slice a n c) mb) ∧ IsNat W (.agg #[.slice a n c]) (sumG L)
  mp : McG W mb L
  few : L.length ≤ 1000
  del : ∀ d ∈ L, d ≤ 9223372036854775807
  byt : B ≤ 65536 * L.length
theorem Gau.lt {W : World} {g mb : Nat} {L : List Nat} {B : Nat} (h : Gau W g mb L B) : g < W.heap.size ∧ mb < W.heap.size := by
  obtain ⟨a, n, c, h1, _⟩ := h.row
  exact ⟨h1.lt, h.mp.lt⟩
theorem Gau.go {W W' : World} {g mb : Nat} {L : List Nat} {B : Nat} (h : Gau W g mb L B) (hb : Below W.heap.size W W') : Gau W' g mb L B := by
  obtain ⟨a, n, c, h1, h2⟩ := h.row
  exact ⟨⟨a, n, c, h1.of_block (hb.block _ h1.lt), h2.mono hb⟩, h.mp.go hb, h.few, h.del, h.byt⟩
theorem Gau.fb {S : Nat → Prop} {W W' : World} {g mb : Nat} {L : List Nat} {B : Nat} (h : Gau W g mb L B) (f : Fb S W W') (hn : ∀ k, S k → Odd W k) (h1 : ¬ S g) (h2 : ¬ S mb) : Gau W' g mb L B := by
  obtain ⟨a, n, c, k1, k2⟩ := h.row
  exact ⟨⟨a, n, c, k1.of_block (f.block _ k1.lt h1), k2.fb f hn⟩, h.mp.kept (f.block _ h.mp.lt h2), h.few, h.del, h.byt⟩
theorem gaRow_odd {W : World} {g n b mb : Nat} {v : Value} (hv : isSl v) (h1 : W.rowIs g 77 4 (gaF n b v mb)) : Odd W g := by
  obtain ⟨v1, v2, v3, rfl⟩ := hv
  intro i q z hc
  obtain ⟨cs, hb, hs, hf⟩ := h1
  simp only [World.cell?, hb] at hc
  have hi : i < 4 := by
    rcases Nat.lt_or_ge i 4 with e | e
    · exact e
    simp [Array.getElem?_eq_none (show cs.size ≤ i by omega)] at hc
  have e := hf i hi
  simp [e] at hc
  unfold gaF at hc
  split at hc
  · cases hc; rfl
  split at hc
  · cases hc; rfl
  split at hc <;> cases hc
theorem Gau.odd {W : World} {g mb : Nat} {L : List Nat} {B : Nat} (h : Gau W g mb L B) : ∀ k, k = g ∨ k = mb → Odd W k := by
  obtain ⟨a, n, c, h1, _⟩ := h.row
  rintro k (rfl | rfl)
  · exact gaRow_odd ⟨_, _, _, rfl⟩ h1
  intro i q z hc
  obtain ⟨es, cl, hb⟩ := h.mp.block
  simp [World.cell?, hb] at hc
theorem Gau.ne {W : World} {g mb : Nat} {L : List Nat} {B : Nat} (h : Gau W g mb L B) : g ≠ mb := by
  rintro rfl
  obtain ⟨a, n, c, ⟨cs, hb, _⟩, _⟩ := h.row
  obtain ⟨es, cl, hb'⟩ := h.mp.block
  rw [hb] at hb'
  cases hb'
set_option maxHeartbeats 1000000 in
theorem gnew_any (w : World) : Calls Tryz.prog 7 #[] w fun e w' => ∃ g mb, e = .returned (.pointer (some ⟨g, 0, none⟩)) ∧ w.heap.size ≤ g ∧ w.heap.size ≤ mb ∧ Gau w' g mb [] 0 ∧ Below w.heap.size w w' := by
  have hmm := @run_makeMap Tryz.prog
  go_enter Tryz.func7, Tryz.ntmps7
  go_wp2_with fail
  go_ret
  have hs1 : (w.alloc (.map #[] 0)).heap.size = w.heap.size + 1 := Array.size_push _
  have B0 : Below w.heap.size w (w.alloc (.map #[] 0)) := (Below.refl _ _).alloc (Nat.le_refl _) _
  have M0 := McG.made w
  have B1 : Below (w.alloc (.map #[] 0)).heap.size (w.alloc (.map #[] 0)) ((w.alloc (.map #[] 0)).alloc (.cells #[.int .i64 0, .int .i64 0, .slice none 0 0, .map (some w.heap.size)] 77)) := (Below.refl _ _).alloc (Nat.le_refl _) _
  refine ⟨_, w.heap.size, rfl, by omega, Nat.le_refl _, ⟨⟨none, 0, 0, ?_, isNat_zero _⟩, M0.go B1, Nat.zero_le _, (fun d hd => by cases hd), Nat.zero_le _⟩, bel_go B0 B1⟩
  have h := World.rowIs_alloc (w.alloc (.map #[] 0)) #[.int .i64 0, .int .i64 0, .slice none 0 0, .map (some w.heap.size)] 77 (gaF 0 0 (.slice none 0 0) w.heap.size) (fun i hi => by
    match i, hi with
    | 0, _ => rfl
    | 1, _ => rfl
    | 2, _ => rfl
    | 3, _ => rfl)
  rw [hs1] at h
  exact h
theorem gaF_put {n' b' : Nat} {v' : Value} {mb : Nat} {f : Nat → Value} (h : ∀ i, i < 4 → f i = gaF n' b' v' mb i) {W : World} {g : Nat} (r : W.rowIs g 77 4 f) : W.rowIs g 77 4 (gaF n' b' v' mb) := r.congr h
theorem fits_few {x : Nat} (h : x < 340282366920938463463374607431768211456) : Fits x := (RS.mk (Nat.lt_of_lt_of_le (show x < P 2 from h) (P_le (by omega)))).fits
theorem gadd_end {w W2 w7 : World} {g mb n b x : Nat} {v : Value} (hv : isSl v) (h : Hid (W2.rowIs g 77 4 (gaF n b v mb) ∧ Fb (fun k => k = g) w W2)) {r : Option Addr} {k j : Nat} (hA : Hid (IsNat w7 (.agg #[.slice r k j]) x ∧ Below W2.heap.size W2 w7)) :
    Hid ((w7.setCell ⟨g, 2, none⟩ (.slice r k j)).rowIs g 77 4 (gaF n b (.slice r k j) mb) ∧ IsNat (w7.setCell ⟨g, 2, none⟩ (.slice r k j)) (.agg #[.slice r k j]) x ∧ Fb (fun k => k = g) w (w7.setCell ⟨g, 2, none⟩ (.slice r k j))) := by
  have r7 := h.out.1.of_block (hA.out.2.block _ h.out.1.lt)
  have f7 : Fb (fun k => k = g) w7 (w7.setCell ⟨g, 2, none⟩ (.slice r k j)) := (Fb.refl (fun k => k = g) w7).set (x := ⟨g, 2, none⟩) rfl _
  refine ⟨gaF_put (fun i hi => ?_) (r7.set 2 (.slice r k j)), hA.out.1.fb f7 (fun k' e => e ▸ gaRow_odd hv r7), (h.out.2.go hA.out.2).trans f7⟩
  match i, hi with
  | 0, _ => simp [gaF]
  | 1, _ => simp [gaF]
  | 2, _ => simp [gaF]
  | 3, _ => simp [gaF]
theorem gadd_fin {w wc W' : World} {g mb d s : Nat} {L : List Nat} {B : Nat} {r : Option Addr} {k j : Nat} (GA : Hid (Gau w g mb L B)) (hcu : Hid (wc.rowIs g 77 4 (gaF (L.length + 1) (B + s) (.slice r k j) mb) ∧ IsNat wc (.agg #[.slice r k j]) (sumG L + d) ∧ Fb (fun k => k = g) w wc)) (HM : Hid (McG wc mb L ∧ McG W' mb (L ++ [d]) ∧ wc.grownBy W' (some mb))) (hl : L.length < 1000) (hd : d ≤ 9223372036854775807) (hs : s ≤ 65536) : Gau W' g mb (L ++ [d]) (B + s) := by
  obtain ⟨h1, h2, h3⟩ := hcu.out
  obtain ⟨m1, m2, m3⟩ := HM.out
  have hfb : Fb (fun x => x = mb) wc W' := ⟨m3.os, m3.tape, m3.output, m3.size, fun i hi hn => m3.block i hi fun e => hn (by cases e; rfl)⟩
  have hodd : ∀ x, x = mb → Odd wc x := by
    rintro x rfl i q z hc
    obtain ⟨es, cl, hb⟩ := m1.block
    simp [World.cell?, hb] at hc
  refine ⟨⟨r, k, j, ?_, ?_⟩, m2, by simp; omega, fun x hx => ?_, ?_⟩
  · rw [List.length_append, List.length_singleton]
    exact h1.of_block (hfb.block _ h1.lt GA.out.ne)
  · rw [sumG_app]
    exact h2.fb hfb hodd
  · rcases List.mem_append.1 hx with e | e
    · exact GA.out.del x e
    rw [List.mem_singleton.1 e]; exact hd
  have := GA.out.byt
  rw [List.length_append, List.length_singleton]
  omega
set_option maxHeartbeats 4000000 in
theorem gadd_yes (g mb d s : Nat) (L : List Nat) (B : Nat) (w : World) (h : Gau w g mb L B) (hd : d ≤ 9223372036854775807) (hs : 1 ≤ s) (hs2 : s ≤ 65536) (hl : L.length < 1000) :
    Calls Tryz.prog 11 #[.pointer (some ⟨g, 0, none⟩), .int .i64 (d : Int), .int .i64 (s : Int)] w fun e w' => e = .returned (.int .i64 0) ∧ Gau w' g mb (L ++ [d]) (B + s) ∧ Fb (fun k => k = g ∨ k = mb) w w' := by
  obtain ⟨a, n, c, hr, hn⟩ := h.row
  have hby := h.byt
  have c0 := hr.cell (i := 0) (by omega)
  have c1 := hr.cell (i := 1) (by omega)
  have f0 := hr.frozen 0
  have f1 := hr.frozen 1
  simp only [gaF, if_true, if_false, Nat.one_ne_zero] at c0 c1
  have GA : Hid (Gau w g mb L B) := h
  have d0 : ¬ ((d : Int) < 0) := by omega
  have s0 : ¬ ((s : Int) < 1) := by omega
  have s1 : ¬ ((s : Int) > 65536) := by omega
  obtain ⟨W2, hW2⟩ : ∃ W2, W2 = (w.setCell ⟨g, 0, none⟩ (.int .i64 ((L.length : Int) + 1))).setCell ⟨g, 1, none⟩ (.int .i64 ((B : Int) + (s : Int))) := ⟨_, rfl⟩
  have F2 : Fb (fun k => k = g) w W2 := by rw [hW2]; exact ((Fb.refl (fun k => k = g) w).set (x := ⟨g, 0, none⟩) rfl _).set (x := ⟨g, 1, none⟩) rfl _
  have hodd : ∀ k, k = g → Odd w k := fun k e => h.odd k (.inl e)
  have N2 := hn.fb F2 hodd
  have R2 : W2.rowIs g 77 4 (gaF (L.length + 1) (B + s) (.slice a n c) mb) := by
    rw [hW2]
    refine gaF_put (fun i hi => ?_) ((hr.set 0 (.int .i64 ((L.length : Int) + 1))).set 1 (.int .i64 ((B : Int) + (s : Int))))
    match i, hi with
    | 0, _ => simp [gaF]
    | 1, _ => simp [gaF]
    | 2, _ => simp [gaF]
    | 3, _ => simp [gaF]
  have HS : Hid (Fits (sumG L) ∧ Fits d) := by
    have := sumG_le h.del
    have h2 : L.length * 9223372036854775807 ≤ 1000 * 9223372036854775807 := Nat.mul_le_mul (by omega) (Nat.le_refl _)
    exact ⟨fits_few (by omega), fits_few (by omega)⟩
  have KC : Hid (∀ w', Below W2.heap.size W2 w' → w'.cell? ⟨g, 2, none⟩ = some (.slice a n c) ∧ w'.frozen? ⟨g, 2, none⟩ = false) := fun w' h' => by
    have r := R2.of_block (h'.block _ R2.lt)
    exact ⟨r.cell (i := 2) (by omega), r.frozen 2⟩
  have hwr : IntKind.u64.wrap (d : Int) = (d : Int) := by rw [IntKind.wrap_u64]; omega
  have CO : Hid (∀ w', Below W2.heap.size W2 w' → Calls Tryz.prog 27 #[.int .u64 (IntKind.u64.wrap (d : Int))] w' fun e w9 => ∃ (r : Option Addr) (k j : Nat), e = .returned (.agg #[.slice r k j]) ∧ Hid (IsNat w9 (.agg #[.slice r k j]) d ∧ Below W2.heap.size W2 w9)) := fun w' h' => by
    rw [hwr]
    refine (of_any d w' (by omega)).mono fun e w9 ⟨v, ev, hv, hb⟩ => ?_
    obtain ⟨r, k, j, e1⟩ := hv.isAgg
    subst e1
    exact ⟨r, k, j, ev, hv, bel_go h' hb⟩
  have CA : Hid (∀ (r : Option Addr) (k j : Nat) w', Hid (IsNat w' (.agg #[.slice r k j]) d ∧ Below W2.heap.size W2 w') → Calls Tryz.prog 26 #[.agg #[.slice a n c], .agg #[.slice r k j]] w' fun e w9 => ∃ (r : Option Addr) (k j : Nat), e = .returned (.agg #[.slice r k j]) ∧ Hid (IsNat w9 (.agg #[.slice r k j]) (sumG L + d) ∧ Below W2.heap.size W2 w9)) := fun r k j w' h' => (add_any _ _ (sumG L) d w' (N2.mono h'.out.2) h'.out.1 HS.out.1 HS.out.2).mono fun e w9 ⟨v, ev, hv, hb⟩ => by
    obtain ⟨r, k, j, e1⟩ := hv.isAgg
    subst e1
    exact ⟨r, k, j, ev, hv, bel_go h'.out.2 hb⟩
  have HR2 : Hid (W2.rowIs g 77 4 (gaF (L.length + 1) (B + s) (.slice a n c) mb) ∧ Fb (fun k => k = g) w W2) := ⟨R2, F2⟩
  have q2 := R2.cell (i := 2) (by omega)
  have p2 := R2.frozen 2
  have k2 : gaF (L.length + 1) (B + s) (.slice a n c) mb 2 = .slice a n c := rfl
  rw [k2] at q2
  clear h hr hn F2 hodd N2 R2 HS k2 hwr
  go_enter Tryz.func11, Tryz.ntmps11
  go_upto_region 7 with fail
  rw [← hW2]
  clear hW2 c0 c1 f0 f1
  go_cut [6] from 34 to 44 (fun s6 wx => s6 = .int .i64 0 ∧ ∃ (r : Option Addr) (k j : Nat), Hid (wx.rowIs g 77 4 (gaF (L.length + 1) (B + s) (.slice r k j) mb) ∧ IsNat wx (.agg #[.slice r k j]) (sumG L + d) ∧ Fb (fun k => k = g) w wx))
  case first =>
    go_region_with (first
      | (go_at_call 27; refine Calls.mono (CO.out _ (show Below _ _ _ from (by with_reducible exact bel_drew (Below.refl _ _)))) ?_; rintro e w6 ⟨r1, i1, j1, rfl, hM⟩; obtain ⟨m0, m1⟩ := KC.out _ hM.out.2)
      | (go_at_call 26; refine Calls.mono (CA.out _ _ _ _ hM) ?_; rintro e w7 ⟨r2, i2, j2, rfl, hA⟩; obtain ⟨l0, l1⟩ := KC.out _ hA.out.2))
    all_goals
      go_wp2_with fail
      go_meet
      refine ⟨rfl, r2, i2, j2, ?_⟩
      exact gadd_end ⟨_, _, _, rfl⟩ HR2 hA
  case rest =>
    obtain ⟨rfl, r, k, j, hcu⟩ := hcut
    have hm : McG wc mb L := GA.out.mp.kept (hcu.out.2.2.block mb GA.out.mp.lt (fun e => GA.out.ne e.symm))
    have c3 := hcu.out.1.cell (i := 3) (by omega)
    have k3 : gaF (L.length + 1) (B + s) (.slice r k j) mb 3 = .map (some mb) := rfl
    rw [k3] at c3
    have lk := hm.look Tryz.underlying73 (by rfl) (i := (d : Int)) (by omega) (by omega)
    obtain ⟨W', hst, hm', hg⟩ := hm.store (by omega) Tryz.underlying73 hd (z := (cntL L (d : Int) : Int) + 1) rfl
    have hcl : cntL L (d : Int) ≤ 1000 := Nat.le_trans (cntL_le L _) (by omega)
    have HM : Hid (McG wc mb L ∧ McG W' mb (L ++ [d]) ∧ wc.grownBy W' (some mb)) := ⟨hm, hm', hg⟩
    clear hm hm' hg k3 KC CO CA HR2 q2 p2
    go_wp2_with fail
    go_ret
    refine ⟨rfl, gadd_fin GA hcu HM (by omega) hd (by omega), ?_⟩
    refine ⟨HM.out.2.2.os.trans hcu.out.2.2.os, HM.out.2.2.tape.trans hcu.out.2.2.tape, HM.out.2.2.output.trans hcu.out.2.2.output, Nat.le_trans hcu.out.2.2.size HM.out.2.2.size, fun i hi hn => ?_⟩
    exact (HM.out.2.2.block i (Nat.lt_of_lt_of_le hi hcu.out.2.2.size) (fun e => hn (.inr (by cases e; rfl)))).trans (hcu.out.2.2.block i hi fun e => hn (.inl e))
set_option maxHeartbeats 1000000 in
theorem gadd_arg (g : Nat) (d s : Int) (w : World) (hd : d < 0) :
    Calls Tryz.prog 11 #[.pointer (some ⟨g, 0, none⟩), .int .i64 d, .int .i64 s] w fun e w' => e = .returned (.int .i64 1) ∧ w' = w := by
  go_enter Tryz.func11, Tryz.ntmps11
  go_wp2_with fail
  go_ret
  exact ⟨rfl, rfl⟩
set_option maxHeartbeats 400000 in
theorem num18_any (z : Int) (w : World) : Calls Tryz.prog 10 #[.int .i64 z] w fun e w' => e = .returned (.int .i64 z) ∧ w' = w := by
  go_enter Tryz.func10, Tryz.ntmps10
  go_wp2_with fail
  go_ret
  exact ⟨rfl, rfl⟩
def ZIn (w : World) (a : Option Addr) (n : Nat) (z : Nat → Int) : Prop := n = 0 ∨ ∃ g o, a = some ⟨g, o, none⟩ ∧ ∀ i, i < n → w.cell? ⟨g, o + i, none⟩ = some (.int .i64 (z i))
theorem ZIn.go {w w' : World} {a : Option Addr} {n : Nat} {z : Nat → Int} (h : ZIn w a n z) (hb : Below w.heap.size w w') : ZIn w' a n z := by
  rcases h with e | ⟨g, o, e, h⟩
  · exact .inl e
  exact .inr ⟨g, o, e, fun i hi => cell_later hb (h i hi)⟩
theorem ZIn.at {w : World} {a : Option Addr} {n : Nat} {z : Nat → Int} (h : ZIn w a n z) {i : Nat} (hi : i < n) : ∃ g o, a = some ⟨g, o, none⟩ ∧ w.cell? ⟨g, o + i, none⟩ = some (.int .i64 (z i)) := by
  rcases h with e | ⟨g, o, e, h⟩
  · omega
  exact ⟨g, o, e, h i hi⟩
theorem i64_and62 (n : Int) : bits .and .i64 n 4611686018427387903 = n % 4611686018427387904 := by
  have h127 : (BitVec.ofInt 64 4611686018427387903).toNat = 2 ^ 62 - 1 := by decide
  have key : (BitVec.ofInt 64 n &&& BitVec.ofInt 64 4611686018427387903).toNat = (n % ((2 ^ 64 : Nat) : Int)).toNat % 2 ^ 62 := by
    rw [BitVec.toNat_and, BitVec.toNat_ofInt, h127, Nat.and_two_pow_sub_one_eq_mod]
  show IntKind.i64.wrap ((BitVec.ofInt 64 n &&& BitVec.ofInt 64 4611686018427387903).toNat : Nat) = n % 4611686018427387904
  rw [key, IntKind.wrap_i64]
  omega
def dlN (x : Int) : Nat := (x % 4611686018427387904).toNat
theorem dlN_le (x : Int) : dlN x ≤ 4611686018427387903 := by unfold dlN; omega
def dlL (z : Nat → Int) (i : Nat) : List Nat := (List.range i).map fun j => dlN (z j)
theorem dlL_len (z : Nat → Int) (i : Nat) : (dlL z i).length = i := by simp [dlL]
theorem dlL_succ (z : Nat → Int) (i : Nat) : dlL z (i + 1) = dlL z i ++ [dlN (z i)] := by simp [dlL, List.range_succ]
structure Fil (w0 w : World) (g mb : Nat) (L : List Nat) : Prop where
  ga : Gau w g mb L L.length
  lo : w0.heap.size ≤ g ∧ w0.heap.size ≤ mb
  bel : Below w0.heap.size w0 w
set_option maxHeartbeats 4000000 in
theorem filled_any (a0 : Option Addr) (n cap : Nat) (z : Nat → Int) (w : World) (h : ZIn w a0 n z) (hn : n ≤ 100) :
    Calls Tryz.prog 17 #[.slice a0 n cap] w fun e w' => ∃ g mb, e = .returned (.pointer (some ⟨g, 0, none⟩)) ∧ Fil w w' g mb (dlL z n) := by
  have HI : Hid (ZIn w a0 n z) := h
  clear h
  go_enter Tryz.func17, Tryz.ntmps17
  go_wp2_with fail
  refine Calls.mono (gnew_any w) ?_
  rintro e w1 ⟨g, mb, rfl, hg, hmb, hG1, hb1⟩
  have F1 : Hid (Fil w w1 g mb (dlL z 0)) := ⟨hG1, ⟨hg, hmb⟩, hb1⟩
  clear hg hmb hG1 hb1
  go_wp2_with fail
  go_loopw [4] (fun t wr => ∃ (i : Nat), i ≤ n ∧ t = .int .i64 (i : Int) ∧ Fil w wr g mb (dlL z i)) (fun t _ => n - (RowKit.intOf t).toNat)
  case atStart => exact ⟨0, by omega, rfl, F1.out⟩
  case round =>
    clear F1
    obtain ⟨i, hi, rfl, hF⟩ := hrel
    have F2 : Hid (Fil w wr g mb (dlL z i)) := hF
    clear hF
    by_cases hin : i < n
    · have h100 : i < 100 := by omega
      obtain ⟨gs, o, rfl, c0⟩ := (HI.out.go F2.out.bel).at hin
      have hm : bits .and .i64 (z i) 4611686018427387903 = (dlN (z i) : Int) := by rw [i64_and62]; unfold dlN; omega
      have CA : Hid (Calls Tryz.prog 11 #[.pointer (some ⟨g, 0, none⟩), .int .i64 (dlN (z i) : Int), .int .i64 1] wr fun e w' => e = .returned (.int .i64 0) ∧ Gau w' g mb (dlL z i ++ [dlN (z i)]) ((dlL z i).length + 1) ∧ Fb (fun k => k = g ∨ k = mb) wr w') := gadd_yes g mb (dlN (z i)) 1 (dlL z i) (dlL z i).length wr F2.out.ga (by have := dlN_le (z i); omega) (by omega) (by omega) (by rw [dlL_len]; omega)
      go_wp2_with fail
      with_reducible refine Calls.mono CA.out ?_
      rintro e w2 ⟨rfl, hG, hf⟩
      have F3 : Hid (Fil w w2 g mb (dlL z (i + 1))) := by
        rw [dlL_succ]
        refine ⟨?_, F2.out.lo, Below.trans F2.out.bel (hf.below (lb := w.heap.size) F2.out.bel.size (fun k e => by rcases e with rfl | rfl; exact F2.out.lo.1; exact F2.out.lo.2))⟩
        rw [List.length_append, List.length_singleton]
        exact hG
      clear hG hf CA c0 hm
      go_wp2_with fail
      go_roundw
      case rel => exact ⟨i + 1, by omega, by go_num, F3.out⟩
      case measure => simp [RowKit.intOf]; omega
    obtain rfl : i = n := by omega
    go_wp2_with fail
    go_ret
    exact ⟨g, mb, rfl, F2.out⟩
end Go.Proofs.YtfkkomppfghagaaGreatDoor
namespace Go.Proofs
open Go.Shelf
def Tryz.keysG_ren : Go.Shelf.Ren := ⟨fun | 7 => 79 | 10 => 103 | n => n, fun | 23 => 73 | 26 => 3 | 3 => 3 | 28 => 137 | 0 => 0 | 27 => 136 | 33 => 160 | 4 => 4 | n => n, fun | n => n⟩
theorem Tryz.keysG : Go.Proofs.SlLaysZI.n7 Tryz.prog Tryz.keysG_ren := {
  mixed := by kernel_rfl
  f7 := ⟨Tryz.f79.name, by decide, Tryz.func79.trans (congrArg some (by kernel_rfl))⟩
  f10 := ⟨Tryz.f103.name, by decide, Tryz.func103.trans (congrArg some (by kernel_rfl))⟩
  t0 := Tryz.underlying0
  a0 := Tryz.isAgg0
  z0 := Tryz.sizeOf0
  v0 := Tryz.zeroValue0
  t4 := Tryz.underlying4
  a4 := Tryz.isAgg4
  z4 := Tryz.sizeOf4
  v4 := Tryz.zeroValue4
  t23 := Tryz.underlying73
  a23 := Tryz.isAgg73
  z23 := Tryz.sizeOf73
  v23 := Tryz.zeroValue73
  t26 := Tryz.underlying3
  a26 := Tryz.isAgg3
  z26 := Tryz.sizeOf3
  v26 := Tryz.zeroValue3
  t27 := Tryz.underlying136
  a27 := Tryz.isAgg136
  z27 := Tryz.sizeOf136
  v27 := Tryz.zeroValue136
  t28 := Tryz.underlying137
  a28 := Tryz.isAgg137
  z28 := Tryz.sizeOf137
  v28 := Tryz.zeroValue137
  t33 := Tryz.underlying160
  a33 := Tryz.isAgg160
  z33 := Tryz.sizeOf160
  v33 := Tryz.zeroValue160 }
def Tryz.sortedG_ren : Go.Shelf.Ren := ⟨fun | 6 => 78 | 8 => 101 | 9 => 102 | 11 => 128 | 13 => 54 | 12 => 129 | 23 => 86 | 24 => 87 | 14 => 140 | 15 => 141 | 16 => 142 | 17 => 143 | 18 => 144 | 19 => 145 | 20 => 146 | 21 => 147 | 22 => 148 | 25 => 153 | 26 => 154 | 27 => 155 | 28 => 156 | 29 => 157 | 30 => 158 | 31 => 160 | n => n, fun | 26 => 3 | 28 => 137 | 24 => 34 | 0 => 0 | 3 => 3 | 37 => 109 | 48 => 147 | 50 => 82 | 4 => 4 | 40 => 196 | 39 => 195 | 45 => 60 | 5 => 5 | 9 => 9 | 51 => 205 | 55 => 209 | 57 => 211 | 58 => 212 | 33 => 160 | n => n, fun | n => n⟩
theorem Tryz.sortedG : Go.Proofs.SlLaysZI.n6 Tryz.prog Tryz.sortedG_ren := {
  mixed := by kernel_rfl
  f6 := ⟨Tryz.f78.name, by decide, Tryz.func78.trans (congrArg some (by kernel_rfl))⟩
  f8 := ⟨Tryz.f101.name, by decide, Tryz.func101.trans (congrArg some (by kernel_rfl))⟩
  f11 := ⟨Tryz.f128.name, by decide, Tryz.func128.trans (congrArg some (by kernel_rfl))⟩
  t0 := Tryz.underlying0
  a0 := Tryz.isAgg0
  z0 := Tryz.sizeOf0
  v0 := Tryz.zeroValue0
  t24 := Tryz.underlying34
  a24 := Tryz.isAgg34
  z24 := Tryz.sizeOf34
  v24 := Tryz.zeroValue34
  t26 := Tryz.underlying3
  a26 := Tryz.isAgg3
  z26 := Tryz.sizeOf3
  v26 := Tryz.zeroValue3
  t28 := Tryz.underlying137
  a28 := Tryz.isAgg137
  z28 := Tryz.sizeOf137
  v28 := Tryz.zeroValue137
  i26 := by kernel_rfl }
def Tryz.sortG_ren : Go.Shelf.Ren := ⟨fun | 5 => 102 | 8 => 54 | 7 => 129 | 19 => 86 | 20 => 87 | 10 => 140 | 11 => 141 | 12 => 142 | 13 => 143 | 14 => 144 | 15 => 145 | 16 => 146 | 17 => 147 | 18 => 148 | 30 => 153 | 31 => 154 | 32 => 155 | 33 => 156 | 34 => 157 | 35 => 158 | 40 => 160 | n => n, fun | 23 => 34 | 25 => 3 | 3 => 3 | 32 => 109 | 22 => 34 | 0 => 0 | 44 => 147 | 46 => 82 | 4 => 4 | 36 => 196 | 35 => 195 | 41 => 60 | 5 => 5 | 9 => 9 | 53 => 205 | 57 => 209 | 63 => 211 | 64 => 212 | n => n, fun | n => n⟩
theorem Tryz.sortG : Go.Proofs.SlLaysM.n5 Tryz.prog Tryz.sortG_ren := {
  mixed := by kernel_rfl
  f5 := ⟨Tryz.f102.name, by decide, Tryz.func102.trans (congrArg some (by kernel_rfl))⟩
  f7 := ⟨Tryz.f129.name, by decide, Tryz.func129.trans (congrArg some (by kernel_rfl))⟩
  f8 := Tryz.func54.trans (congrArg some (by kernel_rfl))
  f10 := ⟨Tryz.f140.name, by decide, Tryz.func140.trans (congrArg some (by kernel_rfl))⟩
  f11 := ⟨Tryz.f141.name, by decide, Tryz.func141.trans (congrArg some (by kernel_rfl))⟩
  f12 := ⟨Tryz.f142.name, by decide, Tryz.func142.trans (congrArg some (by kernel_rfl))⟩
  f13 := ⟨Tryz.f143.name, by decide, Tryz.func143.trans (congrArg some (by kernel_rfl))⟩
  f14 := ⟨Tryz.f144.name, by decide, Tryz.func144.trans (congrArg some (by kernel_rfl))⟩
  f15 := ⟨Tryz.f145.name, by decide, Tryz.func145.trans (congrArg some (by kernel_rfl))⟩
  f16 := ⟨Tryz.f146.name, by decide, Tryz.func146.trans (congrArg some (by kernel_rfl))⟩
  f17 := ⟨Tryz.f147.name, by decide, Tryz.func147.trans (congrArg some (by kernel_rfl))⟩
  f18 := ⟨Tryz.f148.name, by decide, Tryz.func148.trans (congrArg some (by kernel_rfl))⟩
  f19 := Tryz.func86.trans (congrArg some (by kernel_rfl))
  f20 := Tryz.func87.trans (congrArg some (by kernel_rfl))
  f30 := ⟨Tryz.f153.name, by decide, Tryz.func153.trans (congrArg some (by kernel_rfl))⟩
  f31 := Tryz.func154.trans (congrArg some (by kernel_rfl))
  f32 := Tryz.func155.trans (congrArg some (by kernel_rfl))
  f33 := ⟨Tryz.f156.name, by decide, Tryz.func156.trans (congrArg some (by kernel_rfl))⟩
  f34 := ⟨Tryz.f157.name, by decide, Tryz.func157.trans (congrArg some (by kernel_rfl))⟩
  f35 := ⟨Tryz.f158.name, by decide, Tryz.func158.trans (congrArg some (by kernel_rfl))⟩
  f40 := ⟨Tryz.f160.name, by decide, Tryz.func160.trans (congrArg some (by kernel_rfl))⟩
  t0 := Tryz.underlying0
  a0 := Tryz.isAgg0
  z0 := Tryz.sizeOf0
  v0 := Tryz.zeroValue0
  t3 := Tryz.underlying3
  a3 := Tryz.isAgg3
  z3 := Tryz.sizeOf3
  v3 := Tryz.zeroValue3
  t4 := Tryz.underlying4
  a4 := Tryz.isAgg4
  z4 := Tryz.sizeOf4
  v4 := Tryz.zeroValue4
  t5 := Tryz.underlying5
  a5 := Tryz.isAgg5
  z5 := Tryz.sizeOf5
  v5 := Tryz.zeroValue5
  t9 := Tryz.underlying9
  a9 := Tryz.isAgg9
  z9 := Tryz.sizeOf9
  v9 := Tryz.zeroValue9
  t22 := Tryz.underlying34
  a22 := Tryz.isAgg34
  z22 := Tryz.sizeOf34
  v22 := Tryz.zeroValue34
  t23 := Tryz.underlying34
  a23 := Tryz.isAgg34
  z23 := Tryz.sizeOf34
  v23 := Tryz.zeroValue34
  t25 := Tryz.underlying3
  a25 := Tryz.isAgg3
  z25 := Tryz.sizeOf3
  v25 := Tryz.zeroValue3
  t32 := Tryz.underlying109
  a32 := Tryz.isAgg109
  z32 := Tryz.sizeOf109
  v32 := Tryz.zeroValue109
  t35 := Tryz.underlying195
  a35 := Tryz.isAgg195
  z35 := Tryz.sizeOf195
  v35 := Tryz.zeroValue195
  t36 := Tryz.underlying196
  a36 := Tryz.isAgg196
  z36 := Tryz.sizeOf196
  v36 := Tryz.zeroValue196
  t41 := Tryz.underlying60
  a41 := Tryz.isAgg60
  z41 := Tryz.sizeOf60
  v41 := Tryz.zeroValue60
  t44 := Tryz.underlying147
  a44 := Tryz.isAgg147
  z44 := Tryz.sizeOf147
  v44 := Tryz.zeroValue147
  t46 := Tryz.underlying82
  a46 := Tryz.isAgg82
  z46 := Tryz.sizeOf82
  v46 := Tryz.zeroValue82
  t53 := Tryz.underlying205
  a53 := Tryz.isAgg205
  z53 := Tryz.sizeOf205
  v53 := Tryz.zeroValue205
  t57 := Tryz.underlying209
  a57 := Tryz.isAgg209
  z57 := Tryz.sizeOf209
  v57 := Tryz.zeroValue209
  t63 := Tryz.underlying211
  a63 := Tryz.isAgg211
  z63 := Tryz.sizeOf211
  v63 := Tryz.zeroValue211
  t64 := Tryz.underlying212
  a64 := Tryz.isAgg212
  z64 := Tryz.sizeOf212
  v64 := Tryz.zeroValue212 }
end Go.Proofs
namespace Go.Proofs.YtfkkomppfghagaaGreatDoor
open Go.RowKit Go.Maps Go.Sort Go.Shelf
set_option maxRecDepth 100000
set_option linter.unusedVariables false
theorem Tryz.sortsG (m : Nat) : AnyZI.SortsIn Tryz.prog Tryz.sortedG_ren Fence.wide m :=
  ⟨fun blk off cap ss W hH hblk hsz => callsIn_wide.2 (AnyM.slices_Sort_int Tryz.sortG blk off cap ss W hH hblk hsz),
   fun p cap W => callsIn_wide.2 (AnyM.slices_Sort_int_none Tryz.sortG p cap W)⟩
theorem keysG_of {W : World} {mb n : Nat} {D : DataW Unit} {L : List Nat} (hown : W.ownsMap Tryz.prog 3 RiG mb n D) (hn : n ≤ L.length) (hm : ∀ i : Int, Maps.has D (.int .i64 i) = true ↔ 0 < cntL L i) {ss : List Int} (hp : ss.Perm (intKeys D)) : KeysG L (ss.mergeSort (fun x y => decide (x ≤ y))) ∧ (ss.mergeSort (fun x y => decide (x ≤ y))).length = ss.length := by
  have K := Maps.int_keyed Tryz.underlying3
  obtain ⟨es, hD, hpw, _⟩ := hown.entries K
  obtain ⟨es', hD', hko⟩ := hown.keysOf
  obtain rfl : es = es' := by rw [hD] at hD'; simpa using hD'
  have hsz := hown.size_le
  subst hD
  have hk : ∀ p ∈ es, ∃ x, p.1 = .int .i64 x := fun p hp => by obtain ⟨v, hv⟩ := hko p hp; obtain ⟨x, _, hx, _⟩ := Maps.keyOf_i64 Tryz.underlying3 hv; exact ⟨x, hx⟩
  have hnd : (intKeys (.map es)).Nodup := by
    show (es.map fun p => Go.intOf p.1).Nodup
    refine List.pairwise_map.2 (hpw.imp_of_mem fun {p q} hp' hq' hne e => hne ?_)
    obtain ⟨a, ha⟩ := hk p hp'
    obtain ⟨b, hb⟩ := hk q hq'
    rw [ha, hb] at e ⊢
    exact congrArg _ e
  have hmem : ∀ x, x ∈ intKeys (.map es) ↔ Maps.has (.map es) (.int .i64 x) = true := fun x => by
    rw [has_eq, List.any_eq_true]
    show x ∈ es.map (fun p => Go.intOf p.1) ↔ _
    rw [List.mem_map]
    constructor
    · rintro ⟨p, hp', rfl⟩
      obtain ⟨a, ha⟩ := hk p hp'
      exact ⟨p, hp', by rw [ha]; simp [Lit.sameKey, Go.intOf]⟩
    rintro ⟨p, hp', hs⟩
    obtain ⟨a, ha⟩ := hk p hp'
    rw [ha] at hs
    exact ⟨p, hp', by rw [ha]; simpa [Lit.sameKey, Go.intOf] using hs⟩
  have hpm := (List.mergeSort_perm ss (fun x y => decide (x ≤ y))).trans hp
  have hlen : (ss.mergeSort (fun x y => decide (x ≤ y))).length = ss.length := (List.mergeSort_perm ss _).length_eq
  refine ⟨⟨fun x => by rw [hpm.mem_iff, hmem x, hm x], ?_, ?_⟩, hlen⟩
  · have tr : ∀ a b c : Int, decide (a ≤ b) = true → decide (b ≤ c) = true → decide (a ≤ c) = true := fun a b c h1 h2 => by simp only [decide_eq_true_eq] at *; omega
    have tt : ∀ a b : Int, (decide (a ≤ b) || decide (b ≤ a)) = true := fun a b => by simp only [Bool.or_eq_true, decide_eq_true_eq]; omega
    have h1 := List.pairwise_mergeSort tr tt ss
    have h2 : (ss.mergeSort (fun x y => decide (x ≤ y))).Nodup := hpm.nodup_iff.2 hnd
    refine (h1.and h2).imp fun {a b} ⟨e1, e2⟩ => ?_
    simp only [decide_eq_true_eq] at e1
    omega
  rw [hpm.length_eq]
  have : (intKeys (.map es)).length = Maps.size (.map es) := by
    show (es.map _).length = es.length
    rw [List.length_map]
  omega
set_option maxHeartbeats 2000000 in
theorem ranked_any (g mb : Nat) (L : List Nat) (B : Nat) (w : World) (h : Gau w g mb L B) :
    Calls Tryz.prog 48 #[.pointer (some ⟨g, 0, none⟩)] w fun e w' => ∃ (v : Value) (ss : List Int), e = .returned v ∧ KeysG L ss ∧ w'.ownsRow w.heap.size 3 1 v ss.length (ss.map encZ) ∧ Below w.heap.size w w' := by
  refine (callsIn_wide (n := 6)).1 ?_
  obtain ⟨D, n, hown, hln, hat, hhas⟩ := h.mp
  obtain ⟨a0, n0, c0, hr, _⟩ := h.row
  have c3 := hr.cell (i := 3) (by omega)
  have k3 : gaF L.length B (.slice a0 n0 c0) mb 3 = .map (some mb) := rfl
  rw [k3] at c3
  have hfew := h.few
  have hbl := hown.lt
  have hsz := hown.size_le
  have hmax : Maps.size D ≤ maxLen := by simp only [maxLen]; omega
  have hbytes : Maps.size D * 8 ≤ 140737488355328 := by omega
  have hseq : SeqGives Fence.wide 2 Tryz.prog 103 #[.pointer (some ⟨w.heap.size, 0, none⟩)] encZ (fun ss => ss.Perm (intKeys D)) (Maps.size D) (w.alloc (.cells #[.map (some mb)] 73)) :=
    AnyZI.keys_gives (ρ := Tryz.keysG_ren) { Tryz.keysG with } Fence.wide _ trivial rfl (by omega) w.heap.size mb n D _ (by simp) (by simp) (by
      obtain ⟨es, clock, hb, Ft, hs, hD⟩ := hown
      exact ⟨es, clock, (Below.heap_alloc _ _ mb hbl).trans hb, Ft, hs, hD⟩)
  have cK : ∀ mb W, CallsIn Fence.wide 5 Tryz.prog 79 #[.map mb] W fun e w' => e = .returned (.func (.func 103) #[] #[.pointer (some ⟨W.heap.size, 0, none⟩)]) ∧ w' = W.alloc (.cells #[.map mb] 73) := fun mb W => AnyZI.keys_in Tryz.keysG Fence.wide 5 trivial rfl mb W
  have cS := AnyZI.sorted_in Tryz.sortedG Fence.wide 5 trivial trivial trivial trivial rfl (by omega) (Tryz.sortsG _) (enters_of Tryz.func102 (by kernel_rfl) rfl) 103 #[.pointer (some ⟨w.heap.size, 0, none⟩)] trivial (enters_of Tryz.func103 (by kernel_rfl) rfl) _ _ hmax hbytes _ hseq
  change CallsIn _ _ Tryz.prog 78 _ _ _ at cS
  have hfK : Fence.wide.fn 79 := trivial
  have hfS : Fence.wide.fn 78 := trivial
  have KO : Hid (w.ownsMap Tryz.prog 3 RiG mb n D ∧ n ≤ L.length ∧ (∀ i : Int, Maps.has D (.int .i64 i) = true ↔ 0 < cntL L i)) := ⟨hown, hln, hhas⟩
  clear hr hown h k3 hat hhas hln
  refine callsIn_of_wp Tryz.func48 rfl trivial ?_ rfl
  simp only [Tryz.ntmps48, List.size_toArray, List.length_cons, List.length_nil, Nat.reduceAdd, Nat.reduceSub, Array.replicate_succ, Array.replicate_zero, List.push_toArray, List.append_toArray, List.nil_append, List.cons_append]
  gi_wp2_with (first
    | (gi_at_call 79; refine (cK _ _).mono ?_; rintro e w' ⟨rfl, rfl⟩)
    | (gi_at_call 78; refine cS.mono ?_; rintro e w' ⟨v, ss, rfl, hS, hrow, hnil, hb⟩))
  go_ret
  obtain ⟨hk, hlen⟩ := keysG_of KO.out.1 KO.out.2.1 KO.out.2.2 hS
  exact ⟨v, _, rfl, hk, by rw [hlen]; exact ownsRow_base_a hrow (by simp), ((Below.refl _ w).alloc (Nat.le_refl _) _).trans (hb.mono (by simp))⟩
end Go.Proofs.YtfkkomppfghagaaGreatDoor
namespace Go.Proofs.YtfkkomppfghagaaGreatDoor
open Go.RowKit
set_option maxRecDepth 100000
set_option linter.unusedVariables false
def qfG (c : Int → Nat) : List Int → Int → Int × Bool
  | [], _ => (0, false)
  | d :: r, pl => if pl - (c d : Int) ≤ 0 then (d, true) else qfG c r (pl - (c d : Int))
theorem qfG_cons (c : Int → Nat) (d : Int) (r : List Int) (pl : Int) : qfG c (d :: r) pl = if pl - (c d : Int) ≤ 0 then (d, true) else qfG c r (pl - (c d : Int)) := rfl
def plG (n : Nat) (p q : Int) : Int := max 1 (((n : Int) * p + q - 1) / q)
theorem plG_pos (n : Nat) (p q : Int) : 1 ≤ plG n p q := Int.le_max_left _ _
theorem rowI_sl {base : Nat} {W : World} {v : Value} {ss : List Int} (h : W.ownsRow base 3 1 v ss.length (ss.map encZ)) : ∃ a cap, v = .slice a ss.length cap ∧ ss.length ≤ cap ∧ cap ≤ 9223372036854775807 ∧ (0 < ss.length → ∃ g, a = some ⟨g, 0, none⟩ ∧ ∀ i, (hi : i < ss.length) → W.cell? ⟨g, i, none⟩ = some (.int .i64 (ss[i]))) := by
  rcases h.2 with ⟨e, e0⟩ | ⟨g, cap, cur, e, hb', hg, h1, h2, h3, h4⟩
  · refine ⟨none, 0, by rw [e]; congr 1; omega, by omega, by omega, fun h => by omega⟩
  refine ⟨_, cap, e, h1, by simp only [maxLen] at h2; omega, fun _ => ⟨g, rfl, fun i hi => ?_⟩⟩
  have q4 := congrArg (fun l => l[i]?) h4
  simp only [Nat.mul_one] at q4
  rw [List.getElem?_take_of_lt hi, Array.getElem?_toList] at q4
  simp only [World.cell?, hg]
  simp [q4, hi, encZ]
set_option maxHeartbeats 4000000 in
theorem quantile_any (g mb : Nat) (L : List Nat) (B : Nat) (v : Value) (ss : List Int) (base : Nat) (p q : Int) (w : World) (h : Gau w g mb L B) (hk : KeysG L ss) (hv : w.ownsRow base 3 1 v ss.length (ss.map encZ)) (hp : 0 ≤ p) (hpq : p ≤ 2147483648) (hq : 1 ≤ q) (hq2 : q ≤ 2147483648) :
    Calls Tryz.prog 47 #[.pointer (some ⟨g, 0, none⟩), v, .int .i64 p, .int .i64 q] w fun e w' => e = .returned (.tuple #[.int .i64 (qfG (cntL L) ss (plG L.length p q)).1, .bool (qfG (cntL L) ss (plG L.length p q)).2]) ∧ w' = w := by
  obtain ⟨a, cap, rfl, hc1, hc2, hcel⟩ := rowI_sl hv
  obtain ⟨a0, n0, c0, hr, _⟩ := h.row
  have c3 := hr.cell (i := 3) (by omega)
  have k3 : gaF L.length B (.slice a0 n0 c0) mb 3 = .map (some mb) := rfl
  rw [k3] at c3
  have e0 := hr.cell (i := 0) (by omega)
  have k0 : gaF L.length B (.slice a0 n0 c0) mb 0 = .int .i64 (L.length : Int) := rfl
  rw [k0] at e0
  have hfew := h.few
  have hlen := hk.len
  have HB : Hid (∀ x ∈ ss, -9223372036854775808 ≤ x ∧ x ≤ 9223372036854775807) := fun x hx => by
    obtain ⟨d, hd, e⟩ := cntL_pos.1 ((hk.mem x).1 hx)
    have := h.del d hd
    omega
  have LK : Hid (McG w mb L) := h.mp
  have CE : Hid (0 < ss.length → ∃ g, a = some ⟨g, 0, none⟩ ∧ ∀ i, (hi : i < ss.length) → w.cell? ⟨g, i, none⟩ = some (.int .i64 (ss[i]))) := hcel
  have hmul : (L.length : Int) * p ≤ 1000 * 2147483648 := Int.mul_le_mul (by omega) hpq hp (by omega)
  have hmul0 : 0 ≤ (L.length : Int) * p := Int.mul_nonneg (by omega) hp
  obtain ⟨m, hm⟩ : ∃ m, m = (L.length : Int) * p := ⟨_, rfl⟩
  rw [← hm] at hmul hmul0
  have hq0 : ¬ q = 0 := by omega
  have P0 : Hid (1 ≤ plG L.length p q ∧ plG L.length p q ≤ 3000000000000) := by
    refine ⟨plG_pos _ _ _, ?_⟩
    unfold plG
    rw [← hm]
    have h1 : (m + q - 1) / q ≤ m + q - 1 := Int.ediv_le_self _ (by omega)
    omega
  clear hv h hr hk hcel k3 k0
  go_enter Tryz.func47, Tryz.ntmps47
  go_upto_region 2 with fail
  rw [show max 1 (((L.length : Int) * p + q - 1) / q) = plG L.length p q from rfl]
  obtain ⟨P, hP⟩ : ∃ P, P = plG L.length p q := ⟨_, rfl⟩
  rw [← hP] at P0 ⊢
  have HP : Hid (P = plG L.length p q) := hP
  clear hm hmul hmul0 hP e0
  go_wp2_with fail
  go_loopw [28, 10] (fun t pv wr => ∃ (i : Nat) (pl : Int), i ≤ ss.length ∧ t = .int .i64 (i : Int) ∧ pv = .int .i64 pl ∧ 1 ≤ pl ∧ pl ≤ 3000000000000 ∧ qfG (cntL L) (ss.drop i) pl = qfG (cntL L) ss P ∧ wr = w) (fun t _ _ => ss.length - (intOf t).toNat)
  case atStart => exact ⟨0, P, by omega, rfl, rfl, P0.out.1, P0.out.2, rfl, rfl⟩
  case round =>
    obtain ⟨i, pl, hi, rfl, rfl, hl1, hl2, he, rfl⟩ := hrel
    by_cases hin : i < ss.length
    · obtain ⟨gr, rfl, hcel⟩ := CE.out (by omega)
      have z := hcel i hin
      obtain ⟨d, hd⟩ : ∃ d, d = ss[i] := ⟨_, rfl⟩
      have hb := HB.out d (by rw [hd]; exact List.getElem_mem hin)
      have hdr : ss.drop i = d :: ss.drop (i + 1) := by rw [hd]; exact List.drop_eq_getElem_cons hin
      rw [hdr] at he
      rw [← hd] at z
      have lk := LK.out.look Tryz.underlying73 (by rfl) (i := d) hb.1 hb.2
      have hcl : cntL L d ≤ 1000 := Nat.le_trans (cntL_le L _) hfew
      have HE : Hid (qfG (cntL L) (d :: ss.drop (i + 1)) pl = qfG (cntL L) ss P) := he
      clear he hdr hd hcel
      by_cases hle : pl - (cntL L d : Int) ≤ 0
      · go_wp2_with fail
        have e := HE.out
        rw [qfG_cons, if_pos hle] at e
        exact bodyPost_ret (v := .tuple #[.int .i64 d, .bool true]) (by simp [results, Tryz.results47, go_sem]) rfl ⟨by rw [← HP.out, ← e], rfl⟩
      go_wp2_with fail
      go_roundw
      case rel =>
        have e := HE.out
        rw [qfG_cons, if_neg hle] at e
        exact ⟨i + 1, _, by omega, by go_num, rfl, by omega, by omega, e, by trivial⟩
      case measure => simp [intOf]; omega
    obtain rfl : i = ss.length := by omega
    rw [List.drop_length] at he
    have HE : Hid _ := he
    clear he
    go_wp2_with fail
    exact bodyPost_ret (v := .tuple #[.int .i64 0, .bool false]) (by simp [results, Tryz.results47, go_sem]) rfl ⟨by rw [← HP.out, ← HE.out]; rfl, rfl⟩
theorem keysG_one {L : List Nat} {ss ss' : List Int} (h : KeysG L ss) (k : KeysG L ss') : ss = ss' := by
  have n1 : ss.Nodup := h.asc.imp fun {a b} e => by omega
  have n2 : ss'.Nodup := k.asc.imp fun {a b} e => by omega
  have hp : ss.Perm ss' := (List.perm_ext_iff_of_nodup n1 n2).2 fun x => by rw [h.mem, k.mem]
  exact List.Perm.eq_of_pairwise (le := fun a b => a < b) (fun a b _ _ h1 h2 => by omega) h.asc k.asc hp
set_option maxHeartbeats 2000000 in
theorem quantileP_any (g mb : Nat) (L : List Nat) (B : Nat) (p q : Int) (w : World) (h : Gau w g mb L B) (hp : 0 ≤ p) (hpq : p ≤ q) (hq : 1 ≤ q) (hq2 : q ≤ 2147483648) :
    Calls Tryz.prog 18 #[.pointer (some ⟨g, 0, none⟩), .int .i64 p, .int .i64 q] w fun e w' => ∃ ss, KeysG L ss ∧ e = .returned (.tuple #[.int .i64 (qfG (cntL L) ss (plG L.length p q)).1, .bool (qfG (cntL L) ss (plG L.length p q)).2]) ∧ Below w.heap.size w w' := by
  have G1 : Hid (Gau w g mb L B) := h
  have HP : Hid (0 ≤ p ∧ p ≤ 2147483648 ∧ 1 ≤ q ∧ q ≤ 2147483648) := ⟨hp, by omega, hq, hq2⟩
  have h1 : ¬ q < 1 := by omega
  have h2 : ¬ q > 2147483648 := by omega
  have h3 : ¬ p < 0 := by omega
  have h4 : ¬ p > q := by omega
  clear h hp hpq hq hq2
  go_enter Tryz.func18, Tryz.ntmps18
  go_wp2_with fail
  refine Calls.mono (ranked_any g mb L B _ G1.out) ?_
  rintro e w1 ⟨v, ss, rfl, hk, hrow, hb⟩
  have HK : Hid (KeysG L ss ∧ Below w.heap.size w w1) := ⟨hk, hb⟩
  have CQ : Hid (Calls Tryz.prog 47 #[.pointer (some ⟨g, 0, none⟩), v, .int .i64 p, .int .i64 q] w1 fun e w' => e = .returned (.tuple #[.int .i64 (qfG (cntL L) ss (plG L.length p q)).1, .bool (qfG (cntL L) ss (plG L.length p q)).2]) ∧ w' = w1) := quantile_any g mb L B v ss _ p q w1 (G1.out.go hb) hk hrow HP.out.1 HP.out.2.1 HP.out.2.2.1 HP.out.2.2.2
  clear hk hrow hb
  generalize hz : qfG (cntL L) ss (plG L.length p q) = z at CQ
  obtain ⟨z1, z2⟩ := z
  have HZ : Hid _ := hz
  clear hz
  go_wp2_with fail
  refine Calls.mono CQ.out ?_
  rintro e w2 ⟨rfl, rfl⟩
  go_wp2_with fail
  exact bodyPost_ret (v := .tuple #[.int .i64 z1, .bool z2]) (by simp [results, Tryz.results18, go_sem]) rfl ⟨ss, HK.out.1, by rw [HZ.out], HK.out.2⟩
def mnP (L : List Nat) : Nat := if L.length = 0 then 0 else sumG L / Nat.gcd (sumG L) L.length
def mnQ (L : List Nat) : Nat := if L.length = 0 then 1 else L.length / Nat.gcd (sumG L) L.length
theorem sum_rs {w : World} {g mb : Nat} {L : List Nat} {B : Nat} (h : Gau w g mb L B) : RS (sumG L) ∧ RS L.length := by
  have := sumG_le h.del
  have h1 := h.few
  have h2 : L.length * 9223372036854775807 ≤ 1000 * 9223372036854775807 := Nat.mul_le_mul (by omega) (Nat.le_refl _)
  exact ⟨⟨Nat.lt_of_lt_of_le (show sumG L < P 2 from Nat.lt_of_le_of_lt (Nat.le_trans this h2) (by decide +kernel)) (P_le (by omega))⟩, rs_word (by omega)⟩
theorem mn_rs {w : World} {g mb : Nat} {L : List Nat} {B : Nat} (h : Gau w g mb L B) : RS (mnP L) ∧ RS (mnQ L) := by
  obtain ⟨h1, h2⟩ := sum_rs h
  unfold mnP mnQ
  split
  · exact ⟨rs_few (by omega), rs_few (by omega)⟩
  exact ⟨h1.le (Nat.div_le_self _ _), h2.le (Nat.div_le_self _ _)⟩
theorem gmean_from {w w1 w' : World} {g mb : Nat} {L : List Nat} {B : Nat} (h : Gau w g mb L B) (hb : Below w.heap.size w w1) (hb2 : Below w1.heap.size w1 w') {v u : Value} (hv : IsNat w1 v (sumG L)) (hu : IsNat w' u L.length) (hT : Tab w) : Calls Tryz.prog 51 #[v, u] w' (MakesRB w' (mnP L) (mnQ L) (decide (0 < L.length))) := by
  obtain ⟨h1, h2⟩ := sum_rs h
  by_cases e : L.length = 0
  · have := from_none v u (sumG L) w' (hv.mono hb2) (by rw [← e]; exact hu)
    simpa [mnP, mnQ, e] using this
  have := from_any v u (sumG L) L.length w' (hv.mono hb2) hu h1 h2 (by omega) (hT.go (bel_go hb hb2))
  simpa [mnP, mnQ, e, show 0 < L.length by omega] using this
set_option maxHeartbeats 8000000 in
theorem gmean_any (g mb : Nat) (L : List Nat) (B : Nat) (w : World) (h : Gau w g mb L B) (hT : Tab w) :
    Calls Tryz.prog 28 #[.pointer (some ⟨g, 0, none⟩)] w (MakesRB w (mnP L) (mnQ L) (decide (0 < L.length))) := by
  obtain ⟨a, n, c, hr, hn⟩ := h.row
  obtain ⟨W, hW⟩ : ∃ W, W = w.alloc (.cells #[.slice none 0 0, .slice none 0 0] 47) := ⟨_, rfl⟩
  have B0 : Below w.heap.size w W := by rw [hW]; exact bel_al (bel_refl w)
  have s0 : W.cell? ⟨w.heap.size, 0, none⟩ = some (.slice none 0 0) := by rw [hW]; simp [go_sem]
  have s1 : W.cell? ⟨w.heap.size, 1, none⟩ = some (.slice none 0 0) := by rw [hW]; simp [go_sem]
  have f0 : W.frozen? ⟨w.heap.size, 0, none⟩ = false := by rw [hW]; simp [go_sem]
  have f1 : W.frozen? ⟨w.heap.size, 1, none⟩ = false := by rw [hW]; simp [go_sem]
  have HG : Hid (Gau w g mb L B ∧ Tab w ∧ Below w.heap.size w W) := ⟨h, hT, B0⟩
  have NW : Hid (IsNat W (.agg #[.slice a n c]) (sumG L)) := hn.mono B0
  have RW := hr.of_block (B0.block _ hr.lt)
  have hfew := h.few
  obtain ⟨b, hb⟩ : ∃ b, b = w.heap.size := ⟨_, rfl⟩
  have HB : Hid (w.heap.size ≤ b) := by show _ ≤ _; omega
  rw [← hb] at s0 s1 f0 f1
  have KC : Hid (∀ w', Below W.heap.size W w' → w'.cell? ⟨g, 0, none⟩ = some (.int .i64 (L.length : Int)) ∧ w'.cell? ⟨g, 2, none⟩ = some (.slice a n c) ∧ w'.cell? ⟨b, 0, none⟩ = some (.slice none 0 0) ∧ w'.cell? ⟨b, 1, none⟩ = some (.slice none 0 0) ∧ w'.frozen? ⟨b, 0, none⟩ = false ∧ w'.frozen? ⟨b, 1, none⟩ = false) := fun w' h' => by
    have r := RW.of_block (h'.block _ RW.lt)
    exact ⟨r.cell (i := 0) (by omega), r.cell (i := 2) (by omega), cell_later h' s0, cell_later h' s1, (h'.frozen (World.block_lt_of_cell? _ _ s0)).trans f0, (h'.frozen (World.block_lt_of_cell? _ _ s1)).trans f1⟩
  obtain ⟨k0, k1, _⟩ := KC.out W (Below.refl _ _)
  have CO : Hid (∀ w', Below W.heap.size W w' → Calls Tryz.prog 27 #[.int .u64 (IntKind.u64.wrap (L.length : Int))] w' fun e w9 => ∃ (r : Option Addr) (k j : Nat), e = .returned (.agg #[.slice r k j]) ∧ Hid (IsNat w9 (.agg #[.slice r k j]) L.length ∧ Below W.heap.size W w9)) := fun w' h' => by
    rw [IntKind.wrap_u64, show ((L.length : Int) % 18446744073709551616) = (L.length : Int) by omega]
    refine (of_any L.length w' (by omega)).mono fun e w9 ⟨v, ev, hv, hb⟩ => ?_
    obtain ⟨r, k, j, e1⟩ := hv.isAgg
    subst e1
    exact ⟨r, k, j, ev, hv, bel_go h' hb⟩
  have CF : Hid (∀ (r : Option Addr) (k j : Nat) w', Hid (IsNat w' (.agg #[.slice r k j]) L.length ∧ Below W.heap.size W w') → Calls Tryz.prog 51 #[.agg #[.slice a n c], .agg #[.slice r k j]] w' (MkC W (mnP L) (mnQ L) (decide (0 < L.length)))) := fun r k j w' h' => (gmean_from HG.out.1 HG.out.2.2 h'.out.2 NW.out h'.out.1 HG.out.2.1).mono fun _ _ h => mkc_of h'.out.2 h
  clear h hT hr hn B0 RW
  generalize decide (0 < L.length) = ok at *
  go_enter Tryz.func28, Tryz.ntmps28
  go_upto_region 1 with fail
  rw [← hW, ← hb]
  clear hW hb
  go_region_with (first
    | (go_at_call 27; refine Calls.mono (CO.out _ (show Below _ _ _ from (by with_reducible exact bel_drew (Below.refl _ _)))) ?_; rintro e w6 ⟨r1, i1, j1, rfl, hM⟩; obtain ⟨c0, c1, c2, c3, c4, c5⟩ := KC.out _ hM.out.2)
    | (go_at_call 51; refine Calls.mono (CF.out _ _ _ _ hM) ?_; rintro e w7 ⟨r3, i3, j3, r4, i4, j4, rfl, hA⟩; obtain ⟨d0, d1, d2, d3, d4, d5⟩ := KC.out _ hA.out.2))
  all_goals
    have Z : Hid _ := rat_put (w0 := w) (v := .slice r3 i3 j3) (u := .slice r4 i4 j4) d2 d3 hA.out.1 (bel_go HG.out.2.2 hA.out.2) HB.out
    go_wp2_with fail
    exact bodyPost_ret (v := .tuple #[.agg #[.slice r3 i3 j3, .slice r4 i4 j4], .bool ok]) (by simp [results, Tryz.results28, go_sem, d2, d3]) rfl ⟨_, rfl, Z.out.1, Z.out.2⟩
end Go.Proofs.YtfkkomppfghagaaGreatDoor
