/- Contracts of the program's functions, part 21: own work, joined in build order. -/
import Derived.Test.YtchomkadekikdaaGreatDoorR20
import Derived.Deep.WholeRow
namespace Go.Proofs.YtchomkadekikdaaGreatDoor
open Go.RowKit
set_option maxRecDepth 100000
set_option linter.unusedVariables false
def flV (p : List ByteArray × Bool) (i : Nat) : Int := match i with
  | 0 => nmI (arS ⟨#[119, 101, 105, 103, 104, 116, 32, 113, 117, 97, 110, 116, 117, 109, 32, 99, 108, 97, 115, 115, 32, 115, 112, 97, 110, 32, 98, 117, 114, 115, 116, 32, 114, 97, 116, 101, 32, 112, 101, 114, 32, 110, 111, 100, 101]⟩ p)
  | 1 => nmI (nmS (arS ⟨#[119, 101, 105, 103, 104, 116, 32, 113, 117, 97, 110, 116, 117, 109, 32, 99, 108, 97, 115, 115, 32, 115, 112, 97, 110, 32, 98, 117, 114, 115, 116, 32, 114, 97, 116, 101, 32, 112, 101, 114, 32, 110, 111, 100, 101]⟩ p))
  | 2 => nmI (nmS (nmS (arS ⟨#[119, 101, 105, 103, 104, 116, 32, 113, 117, 97, 110, 116, 117, 109, 32, 99, 108, 97, 115, 115, 32, 115, 112, 97, 110, 32, 98, 117, 114, 115, 116, 32, 114, 97, 116, 101, 32, 112, 101, 114, 32, 110, 111, 100, 101]⟩ p)))
  | 3 => nmI (nmS (nmS (nmS (arS ⟨#[119, 101, 105, 103, 104, 116, 32, 113, 117, 97, 110, 116, 117, 109, 32, 99, 108, 97, 115, 115, 32, 115, 112, 97, 110, 32, 98, 117, 114, 115, 116, 32, 114, 97, 116, 101, 32, 112, 101, 114, 32, 110, 111, 100, 101]⟩ p))))
  | 4 => nmI (nmS (nmS (nmS (nmS (arS ⟨#[119, 101, 105, 103, 104, 116, 32, 113, 117, 97, 110, 116, 117, 109, 32, 99, 108, 97, 115, 115, 32, 115, 112, 97, 110, 32, 98, 117, 114, 115, 116, 32, 114, 97, 116, 101, 32, 112, 101, 114, 32, 110, 111, 100, 101]⟩ p)))))
  | 5 => nmI (woS (nmS (nmS (nmS (nmS (nmS (arS ⟨#[119, 101, 105, 103, 104, 116, 32, 113, 117, 97, 110, 116, 117, 109, 32, 99, 108, 97, 115, 115, 32, 115, 112, 97, 110, 32, 98, 117, 114, 115, 116, 32, 114, 97, 116, 101, 32, 112, 101, 114, 32, 110, 111, 100, 101]⟩ p)))))))
  | 6 => nmI (nmS (woS (nmS (nmS (nmS (nmS (nmS (arS ⟨#[119, 101, 105, 103, 104, 116, 32, 113, 117, 97, 110, 116, 117, 109, 32, 99, 108, 97, 115, 115, 32, 115, 112, 97, 110, 32, 98, 117, 114, 115, 116, 32, 114, 97, 116, 101, 32, 112, 101, 114, 32, 110, 111, 100, 101]⟩ p))))))))
  | _ => 0
def flR (p : List ByteArray × Bool) : ByteArray := hdT (nmS (nmS (nmS (nmS (nmS (arS ⟨#[119, 101, 105, 103, 104, 116, 32, 113, 117, 97, 110, 116, 117, 109, 32, 99, 108, 97, 115, 115, 32, 115, 112, 97, 110, 32, 98, 117, 114, 115, 116, 32, 114, 97, 116, 101, 32, 112, 101, 114, 32, 110, 111, 100, 101]⟩ p)))))).1
def flS (p : List ByteArray × Bool) : List ByteArray × Bool := (nmS (nmS (woS (nmS (nmS (nmS (nmS (nmS (arS ⟨#[119, 101, 105, 103, 104, 116, 32, 113, 117, 97, 110, 116, 117, 109, 32, 99, 108, 97, 115, 115, 32, 115, 112, 97, 110, 32, 98, 117, 114, 115, 116, 32, 114, 97, 116, 101, 32, 112, 101, 114, 32, 110, 111, 100, 101]⟩ p)))))))))
theorem flow_any {lm : Nat} (rb : Nat) (p : List ByteArray × Bool) (w : World) (h : Rp lm w rb p) (hl : p.1.length ≤ 50000) :
    Calls Tryz.prog 56 #[.pointer (some ⟨rb, 0, none⟩)] w fun e w' => e = .returned (.tuple #[.agg #[.int .i64 (flV p 0), .int .i64 (flV p 1), .int .i64 (flV p 2), .int .i64 (flV p 3), .int .i64 (flV p 4), .float .f64 0, .int .i64 (flV p 5), .int .i64 (flV p 6)], .string (flR p)]) ∧ (∃ lm', Rp lm' w' rb (flS p)) ∧ Ob rb w w' :=
  flow_walk rb p _ _ _ _ _ _ _ _ _ _ _ _ _ _ _ _ _ rfl rfl rfl rfl rfl rfl rfl rfl rfl rfl rfl rfl rfl rfl rfl rfl rfl w h hl
set_option maxHeartbeats 1000000 in
theorem parseFlow_good (K R M C Fl A : Int) (a : Option Addr) (n cap : Nat) (G : Nat → Nat → Int) (s rt : ByteArray) (n0 n1 n2 n3 n4 n5 n6 : Int) (p q u : Nat) (w : World) (h : NSl w a n cap G) (hs : s.size ≤ 4096) (he : EV w) (hk : KN w) (hT : Tab w) (hz : checkE K R M C Fl A G n = 0)
    (k0 : flV (wordsL s, false) 0 = n0)
    (k1 : flV (wordsL s, false) 1 = n1)
    (k2 : flV (wordsL s, false) 2 = n2)
    (k3 : flV (wordsL s, false) 3 = n3)
    (k4 : flV (wordsL s, false) 4 = n4)
    (k5 : flV (wordsL s, false) 5 = n5)
    (k6 : flV (wordsL s, false) 6 = n6)
    (kr : flR (wordsL s, false) = rt) (hd : flS (wordsL s, false) = ([], false)) (hrt : rt.size ≤ 4096) (h1 : npE rt = 0) (h2 : npP rt = p) (h3 : npQ rt = q) (hp : RS p) (hq : RS q) (h4 : tfV p q = u) (h5 : tfOk p q = true) (hu : u < 18446744073709551616) (h6 : ffP u = p) (h7 : ffQ u = q)
    (hc : flowE K R M C Fl A G n n0 n1 n2 n3 n4 u n5 n6 = 0) :
    Calls Tryz.prog 21 #[.agg #[.int .i64 K, .int .i64 R, .int .i64 M, .int .i64 C, .int .i64 Fl, .int .i64 A, .slice a n cap], .string s] w fun e w' => e = .returned (.tuple #[.agg #[.int .i64 n0, .int .i64 n1, .int .i64 n2, .int .i64 n3, .int .i64 n4, .float .f64 u, .int .i64 n5, .int .i64 n6], .int .i64 0]) ∧ Below w.heap.size w w' := by
  have HN : Hid _ := h
  have HE : Hid _ := he
  have HK : Hid (KN w) := hk
  have HT : Hid (Tab w) := hT
  have HZ : Hid _ := hz
  have HD : Hid _ := hd
  have HC : Hid _ := hc
  have HX : Hid (∀ W, Tab W → Calls Tryz.prog 57 #[.string rt] W fun e w' => e = .returned (.tuple #[.float .f64 u, .int .i64 0]) ∧ Below W.heap.size W w') := fun W hW => exactly_good rt p q u W hrt hW h1 h2 h3 hp hq h4 h5 hu h6 h7
  have HV : Hid (∀ e : Ending, e = .returned (.tuple #[.agg #[.int .i64 (flV (wordsL s, false) 0), .int .i64 (flV (wordsL s, false) 1), .int .i64 (flV (wordsL s, false) 2), .int .i64 (flV (wordsL s, false) 3), .int .i64 (flV (wordsL s, false) 4), .float .f64 0, .int .i64 (flV (wordsL s, false) 5), .int .i64 (flV (wordsL s, false) 6)], .string (flR (wordsL s, false))]) → e = .returned (.tuple #[.agg #[.int .i64 n0, .int .i64 n1, .int .i64 n2, .int .i64 n3, .int .i64 n4, .float .f64 0, .int .i64 n5, .int .i64 n6], .string rt])) := by
    intro e q
    rw [q, k0, k1, k2, k3, k4, k5, k6, kr]
  have hl0 : n ≤ 9223372036854775807 := Nat.le_trans h.le h.lim
  clear h he hk hT hz hd hc k0 k1 k2 k3 k4 k5 k6 kr hrt h1 h2 h3 hp hq h4 h5 hu h6 h7
  have d0 : ¬ (4096 : Int) < (s.size : Int) := by omega
  go_enter Tryz.func21, Tryz.ntmps21
  go_wp2_with fail
  have S0 : Hid _ := ((ce_start w).box7 (.int .i64 K) (.int .i64 R) (.int .i64 M) (.int .i64 C) (.int .i64 Fl) (.int .i64 A) (.slice a n cap) 24 _ rfl).box8 (.int .i64 0) (.int .i64 0) (.int .i64 0) (.int .i64 0) (.int .i64 0) (.float .f64 0) (.int .i64 0) (.int .i64 0) 27 (w.heap.size + 1) (by rw [World.size_alloc])
  have Z0 : Hid (((w.alloc (.cells #[.int .i64 K, .int .i64 R, .int .i64 M, .int .i64 C, .int .i64 Fl, .int .i64 A, .slice a n cap] 24)).alloc (.cells #[.int .i64 0, .int .i64 0, .int .i64 0, .int .i64 0, .int .i64 0, .float .f64 0, .int .i64 0, .int .i64 0] 27)).heap[w.heap.size + 1]? = some (.cells #[.int .i64 0, .int .i64 0, .int .i64 0, .int .i64 0, .int .i64 0, .float .f64 0, .int .i64 0, .int .i64 0] 27)) := by
    have q := al_at (w.alloc (.cells #[.int .i64 K, .int .i64 R, .int .i64 M, .int .i64 C, .int .i64 Fl, .int .i64 A, .slice a n cap] 24)) (.cells #[.int .i64 0, .int .i64 0, .int .i64 0, .int .i64 0, .int .i64 0, .float .f64 0, .int .i64 0, .int .i64 0] 27)
    rw [World.size_alloc] at q
    exact q
  refine (check_any K R M C Fl A a n cap G _ (HN.out.go S0.out.bel)).mono ?_
  rintro e w1 ⟨rfl, hb⟩
  rw [HZ.out]
  obtain ⟨gA, egA⟩ : ∃ g, g = w.heap.size := ⟨_, rfl⟩
  obtain ⟨gR, egR⟩ : ∃ g, g = w.heap.size + 1 := ⟨_, rfl⟩
  have S1 : Hid _ := S0.out.go hb
  have Z1 : Hid (w1.heap[gR]? = some (.cells #[.int .i64 0, .int .i64 0, .int .i64 0, .int .i64 0, .int .i64 0, .float .f64 0, .int .i64 0, .int .i64 0] 27)) := by
    show _ = _
    rw [egR]
    exact (hb.block _ (by rw [World.size_alloc, World.size_alloc]; omega)).trans Z0.out
  rw [← egR, ← egA] at S1
  rw [← egR, ← egA]
  have HA : Hid (w.heap.size ≤ gA ∧ w.heap.size ≤ gR ∧ gA ≠ gR) := ⟨by omega, by omega, by omega⟩
  clear egA egR hb S0 Z0
  go_wp2_with fail
  refine (words_any s _ (by omega)).mono ?_
  rintro e w2 ⟨v2, rfl, hO, hb2⟩
  have S2 : Hid _ := S1.out.go hb2
  have Z2 : Hid (w2.heap[gR]? = some (.cells #[.int .i64 0, .int .i64 0, .int .i64 0, .int .i64 0, .int .i64 0, .float .f64 0, .int .i64 0, .int .i64 0] 27)) := (hb2.block _ (Array.getElem?_eq_some_iff.1 Z1.out).1).trans Z1.out
  have R2 : Hid _ := rp_start (W0 := w) hs hO (HE.out.go S2.out.bel) (HK.out.go S2.out.bel)
  have e1 : ∃ a n c, v2 = .slice a n c := by
    rcases hO with ⟨q, _⟩ | ⟨g, cap, f, q, _⟩
    · exact ⟨_, _, _, q⟩
    exact ⟨_, _, _, q⟩
  obtain ⟨a2, m2, c2, rfl⟩ := e1
  have hlw : (wordsL s).length ≤ 50000 := by have := words_len s; omega
  have LW : Hid _ := hlw
  obtain ⟨rb, erb⟩ : ∃ g, g = w2.heap.size := ⟨_, rfl⟩
  have S2b : Hid _ := S2.out.go (bc_al (o := .cells #[.slice a2 m2 c2, .bool false] 102) (bel_refl w2))
  have Z2b : Hid ((w2.alloc (.cells #[.slice a2 m2 c2, .bool false] 102)).heap[gR]? = some (.cells #[.int .i64 0, .int .i64 0, .int .i64 0, .int .i64 0, .int .i64 0, .float .f64 0, .int .i64 0, .int .i64 0] 27)) := ((bc_al (bel_refl w2)).block _ (Array.getElem?_eq_some_iff.1 Z2.out).1).trans Z2.out
  have lA := S2.out.lt gA 0 (.int .i64 K)
  have lR : gR < w2.heap.size := (Array.getElem?_eq_some_iff.1 Z2.out).1
  have HNE : Hid (gA ≠ rb ∧ gR ≠ rb ∧ w.heap.size ≤ rb) := ⟨by omega, by omega, by rw [erb]; exact S2.out.bel.size⟩
  clear hO hb2 hlw lA lR
  go_wp2_with fail
  rw [← erb]
  rw [← erb] at R2
  refine (flow_any rb (wordsL s, false) _ R2.out LW.out).mono ?_
  rintro e w3 ⟨he3, ⟨lm3, hr3⟩, ho3⟩
  have he4 := HV.out e he3
  subst he4
  rw [HD.out] at hr3
  have R3 : Hid _ := hr3
  have S3 : Hid (Ce w w3 [(gA, 0, .int .i64 K), (gA, 1, .int .i64 R), (gA, 2, .int .i64 M), (gA, 3, .int .i64 C), (gA, 4, .int .i64 Fl), (gA, 5, .int .i64 A), (gA, 6, .slice a n cap)]) := by
    refine ⟨fun x hx => ?_, ?_⟩
    · have hb : x.1 = gA := by
        simp only [List.mem_cons, List.not_mem_nil, or_false] at hx
        rcases hx with rfl | rfl | rfl | rfl | rfl | rfl | rfl <;> rfl
      refine ho3.cell (S2b.out.cells x ?_) (by show x.1 ≠ rb; rw [hb]; exact HNE.out.1)
      exact List.mem_append_right [(gR, 0, .int .i64 0), (gR, 1, .int .i64 0), (gR, 2, .int .i64 0), (gR, 3, .int .i64 0), (gR, 4, .int .i64 0), (gR, 5, .float .f64 0), (gR, 6, .int .i64 0), (gR, 7, .int .i64 0)] hx
    exact S2b.out.bel.trans (ho3.below S2b.out.bel.size HNE.out.2.2)
  have Z3 : Hid (w3.heap[gR]? = some (.cells #[.int .i64 0, .int .i64 0, .int .i64 0, .int .i64 0, .int .i64 0, .float .f64 0, .int .i64 0, .int .i64 0] 27)) := (ho3.block gR (Array.getElem?_eq_some_iff.1 Z2b.out).1 HNE.out.2.1).trans Z2b.out
  clear he3 hr3 ho3 R2 S2 S2b Z2 Z2b Z1 S1 erb
  have hAL := al_at w3 (.cells #[.int .i64 0, .int .i64 0, .int .i64 0, .int .i64 0, .int .i64 0, .float .f64 0, .int .i64 0, .int .i64 0] 27)
  have HAL : Hid _ := hAL
  clear hAL
  go_wp2_with (refine (id ?_ : wpList Tryz.prog _ _ (⟨none, .store 27 (.tmp 8) (.tmp 27), _, _, _, _⟩ :: _) _ _); refine wpList_store_row rfl 27 (.tmp 8) (.tmp 27) rfl w3.heap.size #[.int .i64 n0, .int .i64 n1, .int .i64 n2, .int .i64 n3, .int .i64 n4, .float .f64 0, .int .i64 n5, .int .i64 n6] rfl rfl 27 #[.int .i64 0, .int .i64 0, .int .i64 0, .int .i64 0, .int .i64 0, .float .f64 0, .int .i64 0, .int .i64 0] HAL.out (by kernel_rfl) (by kernel_rfl) (by kernel_rfl) ?_; rw [World.setRow_alloc_new])
  refine (done_any rb [] false _ (R3.out.rd.go (bc_al (bel_refl w3)))).mono ?_
  rintro e w4 ⟨rfl, rfl⟩
  go_wp2_with fail
  refine (HX.out _ (Tab.go HT.out (bc_al S3.out.bel))).mono ?_
  rintro e w5 ⟨rfl, hb5⟩
  obtain ⟨gP, egP⟩ : ∃ g, g = w3.heap.size := ⟨_, rfl⟩
  have B3 := bc_al (o := .cells #[.int .i64 n0, .int .i64 n1, .int .i64 n2, .int .i64 n3, .int .i64 n4, .float .f64 0, .int .i64 n5, .int .i64 n6] 27) (bel_refl w3)
  have S5 : Hid _ := (S3.out.go B3).go hb5
  have Z5 : Hid (w5.heap[gR]? = some (.cells #[.int .i64 0, .int .i64 0, .int .i64 0, .int .i64 0, .int .i64 0, .float .f64 0, .int .i64 0, .int .i64 0] 27)) := ((bc_go B3 hb5).block gR (Array.getElem?_eq_some_iff.1 Z3.out).1).trans Z3.out
  have P5 : Hid (w5.heap[gP]? = some (.cells #[.int .i64 n0, .int .i64 n1, .int .i64 n2, .int .i64 n3, .int .i64 n4, .float .f64 0, .int .i64 n5, .int .i64 n6] 27)) := by
    show _ = _
    rw [egP]
    exact (hb5.block _ (by rw [World.size_alloc]; omega)).trans (al_at _ _)
  rw [← egP]
  have lR : gR < w3.heap.size := (Array.getElem?_eq_some_iff.1 Z3.out).1
  have lA := S3.out.lt gA 0 (.int .i64 K)
  have HP : Hid (gA ≠ gP ∧ gR ≠ gP ∧ w.heap.size ≤ gP) := ⟨by omega, by omega, by rw [egP]; exact S3.out.bel.size⟩
  have hP := P5.out
  have y0 : w5.cell? ⟨gP, 0, none⟩ = some (.int .i64 n0) := by simp [World.cell?, hP]
  have y1 : w5.cell? ⟨gP, 1, none⟩ = some (.int .i64 n1) := by simp [World.cell?, hP]
  have y2 : w5.cell? ⟨gP, 2, none⟩ = some (.int .i64 n2) := by simp [World.cell?, hP]
  have y3 : w5.cell? ⟨gP, 3, none⟩ = some (.int .i64 n3) := by simp [World.cell?, hP]
  have y4 : w5.cell? ⟨gP, 4, none⟩ = some (.int .i64 n4) := by simp [World.cell?, hP]
  have y5 : w5.cell? ⟨gP, 5, none⟩ = some (.float .f64 0) := by simp [World.cell?, hP]
  have y6 : w5.cell? ⟨gP, 6, none⟩ = some (.int .i64 n5) := by simp [World.cell?, hP]
  have y7 : w5.cell? ⟨gP, 7, none⟩ = some (.int .i64 n6) := by simp [World.cell?, hP]
  have fy : w5.frozen? ⟨gP, 5, none⟩ = false := by simp [World.frozen?, hP]
  have B5 : Hid (Bx1 w5 w5 gP 27 #[.int .i64 n0, .int .i64 n1, .int .i64 n2, .int .i64 n3, .int .i64 n4, .float .f64 0, .int .i64 n5, .int .i64 n6]) := ⟨hP, fun _ _ => rfl, rfl, rfl, rfl, rfl⟩
  clear hP lR lA egP hb5 B3
  have sf := fun (w : World) (a : Addr) (x : Nat) => run_store Tryz.prog w a (.float .f64 x) .plain rfl
  go_wp2_with (refine (id ?_ : wpList Tryz.prog _ _ (⟨some 42, _, _, _, _, _⟩ :: _) _ _); refine wpList_as (fun W => Bx1 w5 W gP 27 #[.int .i64 n0, .int .i64 n1, .int .i64 n2, .int .i64 n3, .int .i64 n4, .float .f64 u, .int .i64 n5, .int .i64 n6]) (B5.out.set 5 (.float .f64 u)) ?_)
  intro w6 B6
  clear y0
  clear y1
  clear y2
  clear y3
  clear y4
  clear y5
  clear y6
  clear y7
  clear fy sf
  have hP := B6.hc
  have y0 : w6.cell? ⟨gP, 0, none⟩ = some (.int .i64 n0) := by simp [World.cell?, hP]
  have y1 : w6.cell? ⟨gP, 1, none⟩ = some (.int .i64 n1) := by simp [World.cell?, hP]
  have y2 : w6.cell? ⟨gP, 2, none⟩ = some (.int .i64 n2) := by simp [World.cell?, hP]
  have y3 : w6.cell? ⟨gP, 3, none⟩ = some (.int .i64 n3) := by simp [World.cell?, hP]
  have y4 : w6.cell? ⟨gP, 4, none⟩ = some (.int .i64 n4) := by simp [World.cell?, hP]
  have y5 : w6.cell? ⟨gP, 5, none⟩ = some (.float .f64 u) := by simp [World.cell?, hP]
  have y6 : w6.cell? ⟨gP, 6, none⟩ = some (.int .i64 n5) := by simp [World.cell?, hP]
  have y7 : w6.cell? ⟨gP, 7, none⟩ = some (.int .i64 n6) := by simp [World.cell?, hP]
  have S6 : Hid (Ce w w6 [(gA, 0, .int .i64 K), (gA, 1, .int .i64 R), (gA, 2, .int .i64 M), (gA, 3, .int .i64 C), (gA, 4, .int .i64 Fl), (gA, 5, .int .i64 A), (gA, 6, .slice a n cap)]) := by
    refine ⟨fun x hx => ?_, ?_⟩
    · have hb : x.1 = gA := by
        simp only [List.mem_cons, List.not_mem_nil, or_false] at hx
        rcases hx with rfl | rfl | rfl | rfl | rfl | rfl | rfl <;> rfl
      exact (World.cell?_of_block (w := w5) (B6.ot _ (by show x.1 ≠ gP; rw [hb]; exact HP.out.1))).trans (S5.out.cells x hx)
    have q := S5.out.bel
    exact ⟨B6.os.trans q.os, B6.tape.trans q.tape, B6.output.trans q.output, by rw [B6.size]; exact q.size, fun k hk => (B6.ot k (by have := HP.out.2.2; omega)).trans (q.block k hk)⟩
  have Z6 : Hid (w6.heap[gR]? = some (.cells #[.int .i64 0, .int .i64 0, .int .i64 0, .int .i64 0, .int .i64 0, .float .f64 0, .int .i64 0, .int .i64 0] 27)) := (B6.ot gR HP.out.2.1).trans Z5.out
  have x0 := S6.out.cel gA 0 (.int .i64 K)
  have x1 := S6.out.cel gA 1 (.int .i64 R)
  have x2 := S6.out.cel gA 2 (.int .i64 M)
  have x3 := S6.out.cel gA 3 (.int .i64 C)
  have x4 := S6.out.cel gA 4 (.int .i64 Fl)
  have x5 := S6.out.cel gA 5 (.int .i64 A)
  have x6 := S6.out.cel gA 6 (.slice a n cap)
  clear hP B6
  go_wp2_with fail
  refine (checkFlow_any K R M C Fl A a n cap G n0 n1 n2 n3 n4 u n5 n6 _ (HN.out.go S6.out.bel)).mono ?_
  rintro e w7 ⟨rfl, hb7⟩
  rw [HC.out]
  have z0 := bc_cell hb7 y0
  have z1 := bc_cell hb7 y1
  have z2 := bc_cell hb7 y2
  have z3 := bc_cell hb7 y3
  have z4 := bc_cell hb7 y4
  have z5 := bc_cell hb7 y5
  have z6 := bc_cell hb7 y6
  have z7 := bc_cell hb7 y7
  have Z7 : Hid (w7.heap[gR]? = some (.cells #[.int .i64 0, .int .i64 0, .int .i64 0, .int .i64 0, .int .i64 0, .float .f64 0, .int .i64 0, .int .i64 0] 27)) := (hb7.block gR (Array.getElem?_eq_some_iff.1 Z6.out).1).trans Z6.out
  have W7 : Hid _ := bc_go S6.out.bel hb7
  clear y0
  clear y1
  clear y2
  clear y3
  clear y4
  clear y5
  clear y6
  clear y7
  clear x0
  clear x1
  clear x2
  clear x3
  clear x4
  clear x5
  clear x6
  clear hb7
  go_wp2_with (refine (id ?_ : wpList Tryz.prog _ _ (⟨none, .store 27 (.tmp 4) (.tmp 49), _, _, _, _⟩ :: _) _ _); refine wpList_store_row rfl 27 (.tmp 4) (.tmp 49) rfl gR #[.int .i64 n0, .int .i64 n1, .int .i64 n2, .int .i64 n3, .int .i64 n4, .float .f64 u, .int .i64 n5, .int .i64 n6] rfl rfl 27 #[.int .i64 0, .int .i64 0, .int .i64 0, .int .i64 0, .int .i64 0, .float .f64 0, .int .i64 0, .int .i64 0] Z7.out (by kernel_rfl) (by kernel_rfl) (by kernel_rfl) ?_; refine wpList_as (fun W => W.heap[gR]? = some (.cells #[.int .i64 n0, .int .i64 n1, .int .i64 n2, .int .i64 n3, .int .i64 n4, .float .f64 u, .int .i64 n5, .int .i64 n6] 27) ∧ Below w.heap.size w W) ⟨setRow_heap _ _ _ _ _ _ Z7.out, ?_⟩ ?_)
  · exact ⟨W7.out.os, W7.out.tape, W7.out.output, by rw [size_setRow]; exact W7.out.size, fun k hk => (setRow_other _ _ _ _ (by have := HA.out.2.1; omega)).trans (W7.out.block k hk)⟩
  intro w8 hR hB
  have W8 : Hid _ := hB
  have y0 : w8.cell? ⟨gR, 0, none⟩ = some (.int .i64 n0) := by simp [World.cell?, hR]
  have y1 : w8.cell? ⟨gR, 1, none⟩ = some (.int .i64 n1) := by simp [World.cell?, hR]
  have y2 : w8.cell? ⟨gR, 2, none⟩ = some (.int .i64 n2) := by simp [World.cell?, hR]
  have y3 : w8.cell? ⟨gR, 3, none⟩ = some (.int .i64 n3) := by simp [World.cell?, hR]
  have y4 : w8.cell? ⟨gR, 4, none⟩ = some (.int .i64 n4) := by simp [World.cell?, hR]
  have y5 : w8.cell? ⟨gR, 5, none⟩ = some (.float .f64 u) := by simp [World.cell?, hR]
  have y6 : w8.cell? ⟨gR, 6, none⟩ = some (.int .i64 n5) := by simp [World.cell?, hR]
  have y7 : w8.cell? ⟨gR, 7, none⟩ = some (.int .i64 n6) := by simp [World.cell?, hR]
  clear hB hR
  go_wp2_with fail
  exact bodyPost_ret (v := .tuple #[.agg #[.int .i64 n0, .int .i64 n1, .int .i64 n2, .int .i64 n3, .int .i64 n4, .float .f64 u, .int .i64 n5, .int .i64 n6], .int .i64 0]) (by simp [results, Tryz.results21, go_sem, y0, y1, y2, y3, y4, y5, y6, y7]) rfl ⟨rfl, W8.out⟩
def pfE (ce : Int) (FE : Int → Int → Int → Int → Int → Nat → Int → Int → Int) (s : ByteArray) : Int :=
  if ce ≠ 0 then ce else if 4096 < s.size then 2 else if (!(flS (wordsL s, false)).2 && (flS (wordsL s, false)).1.isEmpty) = false then 201 else if exE (flR (wordsL s, false)) ≠ 0 then exE (flR (wordsL s, false)) else FE (flV (wordsL s, false) 0) (flV (wordsL s, false) 1) (flV (wordsL s, false) 2) (flV (wordsL s, false) 3) (flV (wordsL s, false) 4) (exU (flR (wordsL s, false))) (flV (wordsL s, false) 5) (flV (wordsL s, false) 6)
def pfV (e : Int) (s : ByteArray) (i : Nat) : Int := if e = 0 then flV (wordsL s, false) i else 0
def pfU (e : Int) (s : ByteArray) : Nat := if e = 0 then exU (flR (wordsL s, false)) else 0
theorem flR_sm (s : ByteArray) (hs : s.size ≤ 4096) : (flR (wordsL s, false)).size ≤ 4096 := by
  have h0 : Sh4 (wordsL s, false).1 := fun x hx => Nat.le_trans (words_sm s x hx) hs
  have h1 : Sh4 (arS ⟨#[119, 101, 105, 103, 104, 116, 32, 113, 117, 97, 110, 116, 117, 109, 32, 99, 108, 97, 115, 115, 32, 115, 112, 97, 110, 32, 98, 117, 114, 115, 116, 32, 114, 97, 116, 101, 32, 112, 101, 114, 32, 110, 111, 100, 101]⟩ (wordsL s, false)).1 := sh4_arr _ _ _ _ (sm_rep _) h0
  exact h1.tail.tail.tail.tail.tail.hd
set_option maxHeartbeats 2000000 in
theorem parseFlow_any (K R M C Fl A : Int) (a : Option Addr) (n cap : Nat) (G : Nat → Nat → Int) (s : ByteArray) (E : Int) (w : World) (h : NSl w a n cap G) (hs : s.size ≤ 9223372036854775807) (he : EV w) (hk : KN w) (hT : Tab w)
    (hE : pfE (checkE K R M C Fl A G n) (fun b0 b1 b2 b3 b4 bu b5 b6 => flowE K R M C Fl A G n b0 b1 b2 b3 b4 bu b5 b6) s = E) :
    Calls Tryz.prog 21 #[.agg #[.int .i64 K, .int .i64 R, .int .i64 M, .int .i64 C, .int .i64 Fl, .int .i64 A, .slice a n cap], .string s] w fun e w' => e = .returned (.tuple #[.agg #[.int .i64 (pfV E s 0), .int .i64 (pfV E s 1), .int .i64 (pfV E s 2), .int .i64 (pfV E s 3), .int .i64 (pfV E s 4), .float .f64 (pfU E s), .int .i64 (pfV E s 5), .int .i64 (pfV E s 6)], .int .i64 E]) ∧ Below w.heap.size w w' := by
  have HN : Hid _ := h
  have HE : Hid _ := he
  have HK : Hid (KN w) := hk
  have HT : Hid (Tab w) := hT
  have HEE : Hid _ := hE
  have HBD : Hid (E ≠ 0 → (∀ k, pfV E s k = 0) ∧ pfU E s = 0) := fun h => ⟨fun k => by unfold pfV; rw [if_neg h], by unfold pfU; rw [if_neg h]⟩
  have HGD : Hid (E = 0 → (∀ k, pfV E s k = flV (wordsL s, false) k) ∧ pfU E s = exU (flR (wordsL s, false))) := fun h => ⟨fun k => by unfold pfV; rw [if_pos h], by unfold pfU; rw [if_pos h]⟩
  have hl0 : n ≤ 9223372036854775807 := Nat.le_trans h.le h.lim
  obtain ⟨ce, hce⟩ : ∃ ce, checkE K R M C Fl A G n = ce := ⟨_, rfl⟩
  have HCE : Hid _ := hce
  clear h he hk hT hE
  go_enter Tryz.func21, Tryz.ntmps21
  go_wp2_with fail
  have S0 : Hid _ := ((ce_start w).box7 (.int .i64 K) (.int .i64 R) (.int .i64 M) (.int .i64 C) (.int .i64 Fl) (.int .i64 A) (.slice a n cap) 24 _ rfl).box8 (.int .i64 0) (.int .i64 0) (.int .i64 0) (.int .i64 0) (.int .i64 0) (.float .f64 0) (.int .i64 0) (.int .i64 0) 27 (w.heap.size + 1) (by rw [World.size_alloc])
  have Z0 : Hid (((w.alloc (.cells #[.int .i64 K, .int .i64 R, .int .i64 M, .int .i64 C, .int .i64 Fl, .int .i64 A, .slice a n cap] 24)).alloc (.cells #[.int .i64 0, .int .i64 0, .int .i64 0, .int .i64 0, .int .i64 0, .float .f64 0, .int .i64 0, .int .i64 0] 27)).heap[w.heap.size + 1]? = some (.cells #[.int .i64 0, .int .i64 0, .int .i64 0, .int .i64 0, .int .i64 0, .float .f64 0, .int .i64 0, .int .i64 0] 27)) := by
    have q := al_at (w.alloc (.cells #[.int .i64 K, .int .i64 R, .int .i64 M, .int .i64 C, .int .i64 Fl, .int .i64 A, .slice a n cap] 24)) (.cells #[.int .i64 0, .int .i64 0, .int .i64 0, .int .i64 0, .int .i64 0, .float .f64 0, .int .i64 0, .int .i64 0] 27)
    rw [World.size_alloc] at q
    exact q
  refine (check_any K R M C Fl A a n cap G _ (HN.out.go S0.out.bel)).mono ?_
  rintro e w1 ⟨rfl, hb⟩
  rw [hce]
  rw [hce] at HEE
  clear hce
  obtain ⟨gA, egA⟩ : ∃ g, g = w.heap.size := ⟨_, rfl⟩
  obtain ⟨gR, egR⟩ : ∃ g, g = w.heap.size + 1 := ⟨_, rfl⟩
  have S1 : Hid _ := S0.out.go hb
  have Z1 : Hid (w1.heap[gR]? = some (.cells #[.int .i64 0, .int .i64 0, .int .i64 0, .int .i64 0, .int .i64 0, .float .f64 0, .int .i64 0, .int .i64 0] 27)) := by
    show _ = _
    rw [egR]
    exact (hb.block _ (by rw [World.size_alloc, World.size_alloc]; omega)).trans Z0.out
  rw [← egR, ← egA] at S1
  rw [← egR, ← egA]
  have HA : Hid (w.heap.size ≤ gA ∧ w.heap.size ≤ gR ∧ gA ≠ gR) := ⟨by omega, by omega, by omega⟩
  have W1 : Hid (Below w.heap.size w w1) := S1.out.bel
  clear egA egR hb S0 Z0
  by_cases c0 : ce = 0
  · subst c0
    by_cases c1 : 4096 < s.size
    · have d1 : (4096 : Int) < (s.size : Int) := by omega
      have HPE : Hid (E = 2) := by show _ = _; rw [← HEE.out]; unfold pfE; rw [if_neg (by decide), if_pos c1]
      clear c1
      go_wp2_with (refine (id ?_ : wpList Tryz.prog _ _ (⟨none, .store 27 (.tmp 4) (.tmp 21), _, _, _, _⟩ :: _) _ _); refine wpList_store_row rfl 27 (.tmp 4) (.tmp 21) rfl gR #[.int .i64 0, .int .i64 0, .int .i64 0, .int .i64 0, .int .i64 0, .float .f64 0, .int .i64 0, .int .i64 0] rfl rfl 27 #[.int .i64 0, .int .i64 0, .int .i64 0, .int .i64 0, .int .i64 0, .float .f64 0, .int .i64 0, .int .i64 0] Z1.out (by kernel_rfl) (by kernel_rfl) (by kernel_rfl) ?_; refine wpList_as (fun W => W.heap[gR]? = some (.cells #[.int .i64 0, .int .i64 0, .int .i64 0, .int .i64 0, .int .i64 0, .float .f64 0, .int .i64 0, .int .i64 0] 27) ∧ Below w.heap.size w W) ⟨setRow_heap _ _ _ _ _ _ Z1.out, ?_⟩ ?_)
      · exact ⟨W1.out.os, W1.out.tape, W1.out.output, by rw [size_setRow]; exact W1.out.size, fun k hk => (setRow_other _ _ _ _ (by have := HA.out.2.1; omega)).trans (W1.out.block k hk)⟩
      intro wz hR hB
      have WZ : Hid _ := hB
      have u0 : wz.cell? ⟨gR, 0, none⟩ = some (.int .i64 0) := by simp [World.cell?, hR]
      have u1 : wz.cell? ⟨gR, 1, none⟩ = some (.int .i64 0) := by simp [World.cell?, hR]
      have u2 : wz.cell? ⟨gR, 2, none⟩ = some (.int .i64 0) := by simp [World.cell?, hR]
      have u3 : wz.cell? ⟨gR, 3, none⟩ = some (.int .i64 0) := by simp [World.cell?, hR]
      have u4 : wz.cell? ⟨gR, 4, none⟩ = some (.int .i64 0) := by simp [World.cell?, hR]
      have u5 : wz.cell? ⟨gR, 5, none⟩ = some (.float .f64 0) := by simp [World.cell?, hR]
      have u6 : wz.cell? ⟨gR, 6, none⟩ = some (.int .i64 0) := by simp [World.cell?, hR]
      have u7 : wz.cell? ⟨gR, 7, none⟩ = some (.int .i64 0) := by simp [World.cell?, hR]
      clear hB hR
      go_wp2_with fail
      refine bodyPost_ret (v := .tuple #[.agg #[.int .i64 0, .int .i64 0, .int .i64 0, .int .i64 0, .int .i64 0, .float .f64 0, .int .i64 0, .int .i64 0], .int .i64 2]) (by simp [results, Tryz.results21, go_sem, u0, u1, u2, u3, u4, u5, u6, u7]) rfl ?_
      have q := HBD.out (by rw [HPE.out]; decide)
      exact ⟨by rw [q.1 0, q.1 1, q.1 2, q.1 3, q.1 4, q.1 5, q.1 6, q.2, HPE.out], WZ.out⟩
    have hs2 : s.size ≤ 4096 := by omega
    have d0 : ¬ (4096 : Int) < (s.size : Int) := by omega
    have HE1 : Hid (E = if (!(flS (wordsL s, false)).2 && (flS (wordsL s, false)).1.isEmpty) = false then 201 else if exE (flR (wordsL s, false)) ≠ 0 then exE (flR (wordsL s, false)) else flowE K R M C Fl A G n (flV (wordsL s, false) 0) (flV (wordsL s, false) 1) (flV (wordsL s, false) 2) (flV (wordsL s, false) 3) (flV (wordsL s, false) 4) (exU (flR (wordsL s, false))) (flV (wordsL s, false) 5) (flV (wordsL s, false) 6)) := by show _ = _; rw [← HEE.out]; unfold pfE; rw [if_neg (by decide), if_neg c1]
    have HRS : Hid _ := flR_sm s hs2
    clear c1
    obtain ⟨rt, hrt⟩ : ∃ rt, flR (wordsL s, false) = rt := ⟨_, rfl⟩
    obtain ⟨n0, hv0⟩ : ∃ x, flV (wordsL s, false) 0 = x := ⟨_, rfl⟩
    obtain ⟨n1, hv1⟩ : ∃ x, flV (wordsL s, false) 1 = x := ⟨_, rfl⟩
    obtain ⟨n2, hv2⟩ : ∃ x, flV (wordsL s, false) 2 = x := ⟨_, rfl⟩
    obtain ⟨n3, hv3⟩ : ∃ x, flV (wordsL s, false) 3 = x := ⟨_, rfl⟩
    obtain ⟨n4, hv4⟩ : ∃ x, flV (wordsL s, false) 4 = x := ⟨_, rfl⟩
    obtain ⟨n5, hv5⟩ : ∃ x, flV (wordsL s, false) 5 = x := ⟨_, rfl⟩
    obtain ⟨n6, hv6⟩ : ∃ x, flV (wordsL s, false) 6 = x := ⟨_, rfl⟩
    obtain ⟨D, hD⟩ : ∃ D, (!(flS (wordsL s, false)).2 && (flS (wordsL s, false)).1.isEmpty) = D := ⟨_, rfl⟩
    have HV : Hid (∀ e : Ending, e = .returned (.tuple #[.agg #[.int .i64 (flV (wordsL s, false) 0), .int .i64 (flV (wordsL s, false) 1), .int .i64 (flV (wordsL s, false) 2), .int .i64 (flV (wordsL s, false) 3), .int .i64 (flV (wordsL s, false) 4), .float .f64 0, .int .i64 (flV (wordsL s, false) 5), .int .i64 (flV (wordsL s, false) 6)], .string (flR (wordsL s, false))]) → e = .returned (.tuple #[.agg #[.int .i64 n0, .int .i64 n1, .int .i64 n2, .int .i64 n3, .int .i64 n4, .float .f64 0, .int .i64 n5, .int .i64 n6], .string rt])) := by
      intro e q
      rw [q, hv0, hv1, hv2, hv3, hv4, hv5, hv6, hrt]
    have HVV : Hid (flV (wordsL s, false) 0 = n0 ∧ flV (wordsL s, false) 1 = n1 ∧ flV (wordsL s, false) 2 = n2 ∧ flV (wordsL s, false) 3 = n3 ∧ flV (wordsL s, false) 4 = n4 ∧ flV (wordsL s, false) 5 = n5 ∧ flV (wordsL s, false) 6 = n6 ∧ flR (wordsL s, false) = rt) := ⟨hv0, hv1, hv2, hv3, hv4, hv5, hv6, hrt⟩
    rw [hv0, hv1, hv2, hv3, hv4, hv5, hv6, hrt, hD] at HE1
    rw [hrt] at HRS
    have HDD : Hid _ := hD
    clear hv0 hv1 hv2 hv3 hv4 hv5 hv6 hrt hD
    go_wp2_with fail
    refine (words_any s _ (by omega)).mono ?_
    rintro e w2 ⟨v2, rfl, hO, hb2⟩
    have S2 : Hid _ := S1.out.go hb2
    have Z2 : Hid (w2.heap[gR]? = some (.cells #[.int .i64 0, .int .i64 0, .int .i64 0, .int .i64 0, .int .i64 0, .float .f64 0, .int .i64 0, .int .i64 0] 27)) := (hb2.block _ (Array.getElem?_eq_some_iff.1 Z1.out).1).trans Z1.out
    have R2 : Hid _ := rp_start (W0 := w) hs2 hO (HE.out.go S2.out.bel) (HK.out.go S2.out.bel)
    have e1 : ∃ a n c, v2 = .slice a n c := by
      rcases hO with ⟨q, _⟩ | ⟨g, cap, f, q, _⟩
      · exact ⟨_, _, _, q⟩
      exact ⟨_, _, _, q⟩
    obtain ⟨a2, m2, c2, rfl⟩ := e1
    have hlw : (wordsL s).length ≤ 50000 := by have := words_len s; omega
    have LW : Hid _ := hlw
    obtain ⟨rb, erb⟩ : ∃ g, g = w2.heap.size := ⟨_, rfl⟩
    have S2b : Hid _ := S2.out.go (bc_al (o := .cells #[.slice a2 m2 c2, .bool false] 102) (bel_refl w2))
    have Z2b : Hid ((w2.alloc (.cells #[.slice a2 m2 c2, .bool false] 102)).heap[gR]? = some (.cells #[.int .i64 0, .int .i64 0, .int .i64 0, .int .i64 0, .int .i64 0, .float .f64 0, .int .i64 0, .int .i64 0] 27)) := ((bc_al (bel_refl w2)).block _ (Array.getElem?_eq_some_iff.1 Z2.out).1).trans Z2.out
    have lA := S2.out.lt gA 0 (.int .i64 K)
    have lR : gR < w2.heap.size := (Array.getElem?_eq_some_iff.1 Z2.out).1
    have HNE : Hid (gA ≠ rb ∧ gR ≠ rb ∧ w.heap.size ≤ rb) := ⟨by omega, by omega, by rw [erb]; exact S2.out.bel.size⟩
    clear hO hb2 hlw lA lR
    go_wp2_with fail
    rw [← erb]
    rw [← erb] at R2
    refine (flow_any rb (wordsL s, false) _ R2.out LW.out).mono ?_
    rintro e w3 ⟨he3, ⟨lm3, hr3⟩, ho3⟩
    have he4 := HV.out e he3
    subst he4
    have R3 : Hid _ := hr3
    have S3 : Hid (Ce w w3 [(gA, 0, .int .i64 K), (gA, 1, .int .i64 R), (gA, 2, .int .i64 M), (gA, 3, .int .i64 C), (gA, 4, .int .i64 Fl), (gA, 5, .int .i64 A), (gA, 6, .slice a n cap)]) := by
      refine ⟨fun x hx => ?_, ?_⟩
      · have hb : x.1 = gA := by
          simp only [List.mem_cons, List.not_mem_nil, or_false] at hx
          rcases hx with rfl | rfl | rfl | rfl | rfl | rfl | rfl <;> rfl
        refine ho3.cell (S2b.out.cells x ?_) (by show x.1 ≠ rb; rw [hb]; exact HNE.out.1)
        exact List.mem_append_right [(gR, 0, .int .i64 0), (gR, 1, .int .i64 0), (gR, 2, .int .i64 0), (gR, 3, .int .i64 0), (gR, 4, .int .i64 0), (gR, 5, .float .f64 0), (gR, 6, .int .i64 0), (gR, 7, .int .i64 0)] hx
      exact S2b.out.bel.trans (ho3.below S2b.out.bel.size HNE.out.2.2)
    have Z3 : Hid (w3.heap[gR]? = some (.cells #[.int .i64 0, .int .i64 0, .int .i64 0, .int .i64 0, .int .i64 0, .float .f64 0, .int .i64 0, .int .i64 0] 27)) := (ho3.block gR (Array.getElem?_eq_some_iff.1 Z2b.out).1 HNE.out.2.1).trans Z2b.out
    clear he3 hr3 ho3 R2 S2 S2b Z2 Z2b erb
    have hAL := al_at w3 (.cells #[.int .i64 0, .int .i64 0, .int .i64 0, .int .i64 0, .int .i64 0, .float .f64 0, .int .i64 0, .int .i64 0] 27)
    have HAL : Hid _ := hAL
    clear hAL
    go_wp2_with (refine (id ?_ : wpList Tryz.prog _ _ (⟨none, .store 27 (.tmp 8) (.tmp 27), _, _, _, _⟩ :: _) _ _); refine wpList_store_row rfl 27 (.tmp 8) (.tmp 27) rfl w3.heap.size #[.int .i64 n0, .int .i64 n1, .int .i64 n2, .int .i64 n3, .int .i64 n4, .float .f64 0, .int .i64 n5, .int .i64 n6] rfl rfl 27 #[.int .i64 0, .int .i64 0, .int .i64 0, .int .i64 0, .int .i64 0, .float .f64 0, .int .i64 0, .int .i64 0] HAL.out (by kernel_rfl) (by kernel_rfl) (by kernel_rfl) ?_; rw [World.setRow_alloc_new])
    refine (done_any rb (flS (wordsL s, false)).1 (flS (wordsL s, false)).2 _ (R3.out.rd.go (bc_al (bel_refl w3)))).mono ?_
    rintro e w4 ⟨rfl, rfl⟩
    rw [HDD.out]
    have W3 : Hid (Below w.heap.size w (w3.alloc (.cells #[.int .i64 n0, .int .i64 n1, .int .i64 n2, .int .i64 n3, .int .i64 n4, .float .f64 0, .int .i64 n5, .int .i64 n6] 27))) := bc_al S3.out.bel
    have Z3b : Hid ((w3.alloc (.cells #[.int .i64 n0, .int .i64 n1, .int .i64 n2, .int .i64 n3, .int .i64 n4, .float .f64 0, .int .i64 n5, .int .i64 n6] 27)).heap[gR]? = some (.cells #[.int .i64 0, .int .i64 0, .int .i64 0, .int .i64 0, .int .i64 0, .float .f64 0, .int .i64 0, .int .i64 0] 27)) := ((bc_al (bel_refl w3)).block gR (Array.getElem?_eq_some_iff.1 Z3.out).1).trans Z3.out
    cases D
    · have HPE : Hid (E = 201) := by show _ = _; rw [HE1.out, if_pos rfl]
      go_wp2_with (refine (id ?_ : wpList Tryz.prog _ _ (⟨none, .store 27 (.tmp 4) (.tmp 31), _, _, _, _⟩ :: _) _ _); refine wpList_store_row rfl 27 (.tmp 4) (.tmp 31) rfl gR #[.int .i64 0, .int .i64 0, .int .i64 0, .int .i64 0, .int .i64 0, .float .f64 0, .int .i64 0, .int .i64 0] rfl rfl 27 #[.int .i64 0, .int .i64 0, .int .i64 0, .int .i64 0, .int .i64 0, .float .f64 0, .int .i64 0, .int .i64 0] Z3b.out (by kernel_rfl) (by kernel_rfl) (by kernel_rfl) ?_; refine wpList_as (fun W => W.heap[gR]? = some (.cells #[.int .i64 0, .int .i64 0, .int .i64 0, .int .i64 0, .int .i64 0, .float .f64 0, .int .i64 0, .int .i64 0] 27) ∧ Below w.heap.size w W) ⟨setRow_heap _ _ _ _ _ _ Z3b.out, ?_⟩ ?_)
      · exact ⟨W3.out.os, W3.out.tape, W3.out.output, by rw [size_setRow]; exact W3.out.size, fun k hk => (setRow_other _ _ _ _ (by have := HA.out.2.1; omega)).trans (W3.out.block k hk)⟩
      intro wz hR hB
      have WZ : Hid _ := hB
      have u0 : wz.cell? ⟨gR, 0, none⟩ = some (.int .i64 0) := by simp [World.cell?, hR]
      have u1 : wz.cell? ⟨gR, 1, none⟩ = some (.int .i64 0) := by simp [World.cell?, hR]
      have u2 : wz.cell? ⟨gR, 2, none⟩ = some (.int .i64 0) := by simp [World.cell?, hR]
      have u3 : wz.cell? ⟨gR, 3, none⟩ = some (.int .i64 0) := by simp [World.cell?, hR]
      have u4 : wz.cell? ⟨gR, 4, none⟩ = some (.int .i64 0) := by simp [World.cell?, hR]
      have u5 : wz.cell? ⟨gR, 5, none⟩ = some (.float .f64 0) := by simp [World.cell?, hR]
      have u6 : wz.cell? ⟨gR, 6, none⟩ = some (.int .i64 0) := by simp [World.cell?, hR]
      have u7 : wz.cell? ⟨gR, 7, none⟩ = some (.int .i64 0) := by simp [World.cell?, hR]
      clear hB hR
      go_wp2_with fail
      refine bodyPost_ret (v := .tuple #[.agg #[.int .i64 0, .int .i64 0, .int .i64 0, .int .i64 0, .int .i64 0, .float .f64 0, .int .i64 0, .int .i64 0], .int .i64 201]) (by simp [results, Tryz.results21, go_sem, u0, u1, u2, u3, u4, u5, u6, u7]) rfl ?_
      have q := HBD.out (by rw [HPE.out]; decide)
      exact ⟨by rw [q.1 0, q.1 1, q.1 2, q.1 3, q.1 4, q.1 5, q.1 6, q.2, HPE.out], WZ.out⟩
    obtain ⟨xe, hxe⟩ : ∃ xe, exE rt = xe := ⟨_, rfl⟩
    obtain ⟨u, hu⟩ : ∃ u, exU rt = u := ⟨_, rfl⟩
    have HE2 : Hid (E = if xe ≠ 0 then xe else flowE K R M C Fl A G n n0 n1 n2 n3 n4 u n5 n6) := by show _ = _; rw [HE1.out, if_neg (by decide), hxe, hu]
    have HXU : Hid (exE rt = xe ∧ exU rt = u) := ⟨hxe, hu⟩
    clear hxe hu
    go_wp2_with fail
    refine (exactly_any rt _ (by have := HRS.out; omega) (Tab.go HT.out W3.out)).mono ?_
    rintro e w5 ⟨rfl, hb5⟩
    rw [HXU.out.1, HXU.out.2]
    obtain ⟨gP, egP⟩ : ∃ g, g = w3.heap.size := ⟨_, rfl⟩
    have B3 := bc_al (o := .cells #[.int .i64 n0, .int .i64 n1, .int .i64 n2, .int .i64 n3, .int .i64 n4, .float .f64 0, .int .i64 n5, .int .i64 n6] 27) (bel_refl w3)
    have S5 : Hid _ := (S3.out.go B3).go hb5
    have Z5 : Hid (w5.heap[gR]? = some (.cells #[.int .i64 0, .int .i64 0, .int .i64 0, .int .i64 0, .int .i64 0, .float .f64 0, .int .i64 0, .int .i64 0] 27)) := ((bc_go B3 hb5).block gR (Array.getElem?_eq_some_iff.1 Z3.out).1).trans Z3.out
    have P5 : Hid (w5.heap[gP]? = some (.cells #[.int .i64 n0, .int .i64 n1, .int .i64 n2, .int .i64 n3, .int .i64 n4, .float .f64 0, .int .i64 n5, .int .i64 n6] 27)) := by
      show _ = _
      rw [egP]
      exact (hb5.block _ (by rw [World.size_alloc]; omega)).trans (al_at _ _)
    rw [← egP]
    have lR : gR < w3.heap.size := (Array.getElem?_eq_some_iff.1 Z3.out).1
    have lA := S3.out.lt gA 0 (.int .i64 K)
    have HP : Hid (gA ≠ gP ∧ gR ≠ gP ∧ w.heap.size ≤ gP) := ⟨by omega, by omega, by rw [egP]; exact S3.out.bel.size⟩
    have hP := P5.out
    have y0 : w5.cell? ⟨gP, 0, none⟩ = some (.int .i64 n0) := by simp [World.cell?, hP]
    have y1 : w5.cell? ⟨gP, 1, none⟩ = some (.int .i64 n1) := by simp [World.cell?, hP]
    have y2 : w5.cell? ⟨gP, 2, none⟩ = some (.int .i64 n2) := by simp [World.cell?, hP]
    have y3 : w5.cell? ⟨gP, 3, none⟩ = some (.int .i64 n3) := by simp [World.cell?, hP]
    have y4 : w5.cell? ⟨gP, 4, none⟩ = some (.int .i64 n4) := by simp [World.cell?, hP]
    have y5 : w5.cell? ⟨gP, 5, none⟩ = some (.float .f64 0) := by simp [World.cell?, hP]
    have y6 : w5.cell? ⟨gP, 6, none⟩ = some (.int .i64 n5) := by simp [World.cell?, hP]
    have y7 : w5.cell? ⟨gP, 7, none⟩ = some (.int .i64 n6) := by simp [World.cell?, hP]
    have fy : w5.frozen? ⟨gP, 5, none⟩ = false := by simp [World.frozen?, hP]
    have B5 : Hid (Bx1 w5 w5 gP 27 #[.int .i64 n0, .int .i64 n1, .int .i64 n2, .int .i64 n3, .int .i64 n4, .float .f64 0, .int .i64 n5, .int .i64 n6]) := ⟨hP, fun _ _ => rfl, rfl, rfl, rfl, rfl⟩
    clear hP lR lA egP hb5 B3
    have sf := fun (w : World) (a : Addr) (x : Nat) => run_store Tryz.prog w a (.float .f64 x) .plain rfl
    go_wp2_with (refine (id ?_ : wpList Tryz.prog _ _ (⟨some 39, _, _, _, _, _⟩ :: _) _ _); refine wpList_as (fun W => Bx1 w5 W gP 27 #[.int .i64 n0, .int .i64 n1, .int .i64 n2, .int .i64 n3, .int .i64 n4, .float .f64 u, .int .i64 n5, .int .i64 n6]) (B5.out.set 5 (.float .f64 u)) ?_)
    intro w6 B6
    clear y0
    clear y1
    clear y2
    clear y3
    clear y4
    clear y5
    clear y6
    clear y7
    clear fy sf
    have hP := B6.hc
    have y0 : w6.cell? ⟨gP, 0, none⟩ = some (.int .i64 n0) := by simp [World.cell?, hP]
    have y1 : w6.cell? ⟨gP, 1, none⟩ = some (.int .i64 n1) := by simp [World.cell?, hP]
    have y2 : w6.cell? ⟨gP, 2, none⟩ = some (.int .i64 n2) := by simp [World.cell?, hP]
    have y3 : w6.cell? ⟨gP, 3, none⟩ = some (.int .i64 n3) := by simp [World.cell?, hP]
    have y4 : w6.cell? ⟨gP, 4, none⟩ = some (.int .i64 n4) := by simp [World.cell?, hP]
    have y5 : w6.cell? ⟨gP, 5, none⟩ = some (.float .f64 u) := by simp [World.cell?, hP]
    have y6 : w6.cell? ⟨gP, 6, none⟩ = some (.int .i64 n5) := by simp [World.cell?, hP]
    have y7 : w6.cell? ⟨gP, 7, none⟩ = some (.int .i64 n6) := by simp [World.cell?, hP]
    have S6 : Hid (Ce w w6 [(gA, 0, .int .i64 K), (gA, 1, .int .i64 R), (gA, 2, .int .i64 M), (gA, 3, .int .i64 C), (gA, 4, .int .i64 Fl), (gA, 5, .int .i64 A), (gA, 6, .slice a n cap)]) := by
      refine ⟨fun x hx => ?_, ?_⟩
      · have hb : x.1 = gA := by
          simp only [List.mem_cons, List.not_mem_nil, or_false] at hx
          rcases hx with rfl | rfl | rfl | rfl | rfl | rfl | rfl <;> rfl
        exact (World.cell?_of_block (w := w5) (B6.ot _ (by show x.1 ≠ gP; rw [hb]; exact HP.out.1))).trans (S5.out.cells x hx)
      have q := S5.out.bel
      exact ⟨B6.os.trans q.os, B6.tape.trans q.tape, B6.output.trans q.output, by rw [B6.size]; exact q.size, fun k hk => (B6.ot k (by have := HP.out.2.2; omega)).trans (q.block k hk)⟩
    have Z6 : Hid (w6.heap[gR]? = some (.cells #[.int .i64 0, .int .i64 0, .int .i64 0, .int .i64 0, .int .i64 0, .float .f64 0, .int .i64 0, .int .i64 0] 27)) := (B6.ot gR HP.out.2.1).trans Z5.out
    have W6 : Hid (Below w.heap.size w w6) := S6.out.bel
    have x0 := S6.out.cel gA 0 (.int .i64 K)
    have x1 := S6.out.cel gA 1 (.int .i64 R)
    have x2 := S6.out.cel gA 2 (.int .i64 M)
    have x3 := S6.out.cel gA 3 (.int .i64 C)
    have x4 := S6.out.cel gA 4 (.int .i64 Fl)
    have x5 := S6.out.cel gA 5 (.int .i64 A)
    have x6 := S6.out.cel gA 6 (.slice a n cap)
    clear hP B6
    by_cases c2 : xe = 0
    · subst c2
      obtain ⟨fe, hfe⟩ : ∃ fe, flowE K R M C Fl A G n n0 n1 n2 n3 n4 u n5 n6 = fe := ⟨_, rfl⟩
      have HE3 : Hid (E = fe) := by show _ = _; rw [HE2.out, if_neg (by decide), hfe]
      go_wp2_with fail
      refine (checkFlow_any K R M C Fl A a n cap G n0 n1 n2 n3 n4 u n5 n6 _ (HN.out.go S6.out.bel)).mono ?_
      rintro e w7 ⟨rfl, hb7⟩
      rw [hfe]
      replace y0 := bc_cell hb7 y0
      replace y1 := bc_cell hb7 y1
      replace y2 := bc_cell hb7 y2
      replace y3 := bc_cell hb7 y3
      replace y4 := bc_cell hb7 y4
      replace y5 := bc_cell hb7 y5
      replace y6 := bc_cell hb7 y6
      replace y7 := bc_cell hb7 y7
      have Z7 : Hid (w7.heap[gR]? = some (.cells #[.int .i64 0, .int .i64 0, .int .i64 0, .int .i64 0, .int .i64 0, .float .f64 0, .int .i64 0, .int .i64 0] 27)) := (hb7.block gR (Array.getElem?_eq_some_iff.1 Z6.out).1).trans Z6.out
      have W7 : Hid _ := bc_go S6.out.bel hb7
      clear x0
      clear x1
      clear x2
      clear x3
      clear x4
      clear x5
      clear x6
      clear hb7 hfe
      by_cases c3 : fe = 0
      · subst c3
        go_wp2_with (refine (id ?_ : wpList Tryz.prog _ _ (⟨none, .store 27 (.tmp 4) (.tmp 49), _, _, _, _⟩ :: _) _ _); refine wpList_store_row rfl 27 (.tmp 4) (.tmp 49) rfl gR #[.int .i64 n0, .int .i64 n1, .int .i64 n2, .int .i64 n3, .int .i64 n4, .float .f64 u, .int .i64 n5, .int .i64 n6] rfl rfl 27 #[.int .i64 0, .int .i64 0, .int .i64 0, .int .i64 0, .int .i64 0, .float .f64 0, .int .i64 0, .int .i64 0] Z7.out (by kernel_rfl) (by kernel_rfl) (by kernel_rfl) ?_; refine wpList_as (fun W => W.heap[gR]? = some (.cells #[.int .i64 n0, .int .i64 n1, .int .i64 n2, .int .i64 n3, .int .i64 n4, .float .f64 u, .int .i64 n5, .int .i64 n6] 27) ∧ Below w.heap.size w W) ⟨setRow_heap _ _ _ _ _ _ Z7.out, ?_⟩ ?_)
        · exact ⟨W7.out.os, W7.out.tape, W7.out.output, by rw [size_setRow]; exact W7.out.size, fun k hk => (setRow_other _ _ _ _ (by have := HA.out.2.1; omega)).trans (W7.out.block k hk)⟩
        intro wz hR hB
        have WZ : Hid _ := hB
        have u0 : wz.cell? ⟨gR, 0, none⟩ = some (.int .i64 n0) := by simp [World.cell?, hR]
        have u1 : wz.cell? ⟨gR, 1, none⟩ = some (.int .i64 n1) := by simp [World.cell?, hR]
        have u2 : wz.cell? ⟨gR, 2, none⟩ = some (.int .i64 n2) := by simp [World.cell?, hR]
        have u3 : wz.cell? ⟨gR, 3, none⟩ = some (.int .i64 n3) := by simp [World.cell?, hR]
        have u4 : wz.cell? ⟨gR, 4, none⟩ = some (.int .i64 n4) := by simp [World.cell?, hR]
        have u5 : wz.cell? ⟨gR, 5, none⟩ = some (.float .f64 u) := by simp [World.cell?, hR]
        have u6 : wz.cell? ⟨gR, 6, none⟩ = some (.int .i64 n5) := by simp [World.cell?, hR]
        have u7 : wz.cell? ⟨gR, 7, none⟩ = some (.int .i64 n6) := by simp [World.cell?, hR]
        clear hB hR
        go_wp2_with fail
        refine bodyPost_ret (v := .tuple #[.agg #[.int .i64 n0, .int .i64 n1, .int .i64 n2, .int .i64 n3, .int .i64 n4, .float .f64 u, .int .i64 n5, .int .i64 n6], .int .i64 0]) (by simp [results, Tryz.results21, go_sem, u0, u1, u2, u3, u4, u5, u6, u7]) rfl ?_
        have q := HGD.out HE3.out
        obtain ⟨j0, j1, j2, j3, j4, j5, j6, jr⟩ := HVV.out
        exact ⟨by rw [q.1 0, q.1 1, q.1 2, q.1 3, q.1 4, q.1 5, q.1 6, q.2, HE3.out, j0, j1, j2, j3, j4, j5, j6, jr, HXU.out.2], WZ.out⟩
      have d3 : (fe != 0) = true := by simpa using c3
      have HPE : Hid _ := HE3.out
      have HC3 : Hid _ := c3
      clear c3
      go_wp2_with (refine (id ?_ : wpList Tryz.prog _ _ (⟨none, .store 27 (.tmp 4) (.tmp 47), _, _, _, _⟩ :: _) _ _); refine wpList_store_row rfl 27 (.tmp 4) (.tmp 47) rfl gR #[.int .i64 0, .int .i64 0, .int .i64 0, .int .i64 0, .int .i64 0, .float .f64 0, .int .i64 0, .int .i64 0] rfl rfl 27 #[.int .i64 0, .int .i64 0, .int .i64 0, .int .i64 0, .int .i64 0, .float .f64 0, .int .i64 0, .int .i64 0] Z7.out (by kernel_rfl) (by kernel_rfl) (by kernel_rfl) ?_; refine wpList_as (fun W => W.heap[gR]? = some (.cells #[.int .i64 0, .int .i64 0, .int .i64 0, .int .i64 0, .int .i64 0, .float .f64 0, .int .i64 0, .int .i64 0] 27) ∧ Below w.heap.size w W) ⟨setRow_heap _ _ _ _ _ _ Z7.out, ?_⟩ ?_)
      · exact ⟨W7.out.os, W7.out.tape, W7.out.output, by rw [size_setRow]; exact W7.out.size, fun k hk => (setRow_other _ _ _ _ (by have := HA.out.2.1; omega)).trans (W7.out.block k hk)⟩
      intro wz hR hB
      have WZ : Hid _ := hB
      have u0 : wz.cell? ⟨gR, 0, none⟩ = some (.int .i64 0) := by simp [World.cell?, hR]
      have u1 : wz.cell? ⟨gR, 1, none⟩ = some (.int .i64 0) := by simp [World.cell?, hR]
      have u2 : wz.cell? ⟨gR, 2, none⟩ = some (.int .i64 0) := by simp [World.cell?, hR]
      have u3 : wz.cell? ⟨gR, 3, none⟩ = some (.int .i64 0) := by simp [World.cell?, hR]
      have u4 : wz.cell? ⟨gR, 4, none⟩ = some (.int .i64 0) := by simp [World.cell?, hR]
      have u5 : wz.cell? ⟨gR, 5, none⟩ = some (.float .f64 0) := by simp [World.cell?, hR]
      have u6 : wz.cell? ⟨gR, 6, none⟩ = some (.int .i64 0) := by simp [World.cell?, hR]
      have u7 : wz.cell? ⟨gR, 7, none⟩ = some (.int .i64 0) := by simp [World.cell?, hR]
      clear hB hR
      go_wp2_with fail
      refine bodyPost_ret (v := .tuple #[.agg #[.int .i64 0, .int .i64 0, .int .i64 0, .int .i64 0, .int .i64 0, .float .f64 0, .int .i64 0, .int .i64 0], .int .i64 fe]) (by simp [results, Tryz.results21, go_sem, u0, u1, u2, u3, u4, u5, u6, u7]) rfl ?_
      have q := HBD.out (by rw [HPE.out]; exact HC3.out)
      exact ⟨by rw [q.1 0, q.1 1, q.1 2, q.1 3, q.1 4, q.1 5, q.1 6, q.2, HPE.out], WZ.out⟩
    have d2 : (xe != 0) = true := by simpa using c2
    have HPE : Hid (E = xe) := by show _ = _; rw [HE2.out, if_pos c2]
    have HC2 : Hid _ := c2
    clear c2
    go_wp2_with (refine (id ?_ : wpList Tryz.prog _ _ (⟨none, .store 27 (.tmp 4) (.tmp 40), _, _, _, _⟩ :: _) _ _); refine wpList_store_row rfl 27 (.tmp 4) (.tmp 40) rfl gR #[.int .i64 0, .int .i64 0, .int .i64 0, .int .i64 0, .int .i64 0, .float .f64 0, .int .i64 0, .int .i64 0] rfl rfl 27 #[.int .i64 0, .int .i64 0, .int .i64 0, .int .i64 0, .int .i64 0, .float .f64 0, .int .i64 0, .int .i64 0] Z6.out (by kernel_rfl) (by kernel_rfl) (by kernel_rfl) ?_; refine wpList_as (fun W => W.heap[gR]? = some (.cells #[.int .i64 0, .int .i64 0, .int .i64 0, .int .i64 0, .int .i64 0, .float .f64 0, .int .i64 0, .int .i64 0] 27) ∧ Below w.heap.size w W) ⟨setRow_heap _ _ _ _ _ _ Z6.out, ?_⟩ ?_)
    · exact ⟨W6.out.os, W6.out.tape, W6.out.output, by rw [size_setRow]; exact W6.out.size, fun k hk => (setRow_other _ _ _ _ (by have := HA.out.2.1; omega)).trans (W6.out.block k hk)⟩
    intro wz hR hB
    have WZ : Hid _ := hB
    have u0 : wz.cell? ⟨gR, 0, none⟩ = some (.int .i64 0) := by simp [World.cell?, hR]
    have u1 : wz.cell? ⟨gR, 1, none⟩ = some (.int .i64 0) := by simp [World.cell?, hR]
    have u2 : wz.cell? ⟨gR, 2, none⟩ = some (.int .i64 0) := by simp [World.cell?, hR]
    have u3 : wz.cell? ⟨gR, 3, none⟩ = some (.int .i64 0) := by simp [World.cell?, hR]
    have u4 : wz.cell? ⟨gR, 4, none⟩ = some (.int .i64 0) := by simp [World.cell?, hR]
    have u5 : wz.cell? ⟨gR, 5, none⟩ = some (.float .f64 0) := by simp [World.cell?, hR]
    have u6 : wz.cell? ⟨gR, 6, none⟩ = some (.int .i64 0) := by simp [World.cell?, hR]
    have u7 : wz.cell? ⟨gR, 7, none⟩ = some (.int .i64 0) := by simp [World.cell?, hR]
    clear hB hR
    go_wp2_with fail
    refine bodyPost_ret (v := .tuple #[.agg #[.int .i64 0, .int .i64 0, .int .i64 0, .int .i64 0, .int .i64 0, .float .f64 0, .int .i64 0, .int .i64 0], .int .i64 xe]) (by simp [results, Tryz.results21, go_sem, u0, u1, u2, u3, u4, u5, u6, u7]) rfl ?_
    have q := HBD.out (by rw [HPE.out]; exact HC2.out)
    exact ⟨by rw [q.1 0, q.1 1, q.1 2, q.1 3, q.1 4, q.1 5, q.1 6, q.2, HPE.out], WZ.out⟩
  have d0 : (ce != 0) = true := by simpa using c0
  have HPE : Hid (E = ce) := by show _ = _; rw [← HEE.out]; unfold pfE; rw [if_pos c0]
  have HC0 : Hid _ := c0
  clear c0
  go_wp2_with (refine (id ?_ : wpList Tryz.prog _ _ (⟨none, .store 27 (.tmp 4) (.tmp 16), _, _, _, _⟩ :: _) _ _); refine wpList_store_row rfl 27 (.tmp 4) (.tmp 16) rfl gR #[.int .i64 0, .int .i64 0, .int .i64 0, .int .i64 0, .int .i64 0, .float .f64 0, .int .i64 0, .int .i64 0] rfl rfl 27 #[.int .i64 0, .int .i64 0, .int .i64 0, .int .i64 0, .int .i64 0, .float .f64 0, .int .i64 0, .int .i64 0] Z1.out (by kernel_rfl) (by kernel_rfl) (by kernel_rfl) ?_; refine wpList_as (fun W => W.heap[gR]? = some (.cells #[.int .i64 0, .int .i64 0, .int .i64 0, .int .i64 0, .int .i64 0, .float .f64 0, .int .i64 0, .int .i64 0] 27) ∧ Below w.heap.size w W) ⟨setRow_heap _ _ _ _ _ _ Z1.out, ?_⟩ ?_)
  · exact ⟨W1.out.os, W1.out.tape, W1.out.output, by rw [size_setRow]; exact W1.out.size, fun k hk => (setRow_other _ _ _ _ (by have := HA.out.2.1; omega)).trans (W1.out.block k hk)⟩
  intro wz hR hB
  have WZ : Hid _ := hB
  have u0 : wz.cell? ⟨gR, 0, none⟩ = some (.int .i64 0) := by simp [World.cell?, hR]
  have u1 : wz.cell? ⟨gR, 1, none⟩ = some (.int .i64 0) := by simp [World.cell?, hR]
  have u2 : wz.cell? ⟨gR, 2, none⟩ = some (.int .i64 0) := by simp [World.cell?, hR]
  have u3 : wz.cell? ⟨gR, 3, none⟩ = some (.int .i64 0) := by simp [World.cell?, hR]
  have u4 : wz.cell? ⟨gR, 4, none⟩ = some (.int .i64 0) := by simp [World.cell?, hR]
  have u5 : wz.cell? ⟨gR, 5, none⟩ = some (.float .f64 0) := by simp [World.cell?, hR]
  have u6 : wz.cell? ⟨gR, 6, none⟩ = some (.int .i64 0) := by simp [World.cell?, hR]
  have u7 : wz.cell? ⟨gR, 7, none⟩ = some (.int .i64 0) := by simp [World.cell?, hR]
  clear hB hR
  go_wp2_with fail
  refine bodyPost_ret (v := .tuple #[.agg #[.int .i64 0, .int .i64 0, .int .i64 0, .int .i64 0, .int .i64 0, .float .f64 0, .int .i64 0, .int .i64 0], .int .i64 ce]) (by simp [results, Tryz.results21, go_sem, u0, u1, u2, u3, u4, u5, u6, u7]) rfl ?_
  have q := HBD.out (by rw [HPE.out]; exact HC0.out)
  exact ⟨by rw [q.1 0, q.1 1, q.1 2, q.1 3, q.1 4, q.1 5, q.1 6, q.2, HPE.out], WZ.out⟩
end Go.Proofs.YtchomkadekikdaaGreatDoor
