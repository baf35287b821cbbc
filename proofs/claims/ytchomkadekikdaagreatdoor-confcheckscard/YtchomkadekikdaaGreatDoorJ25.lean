/- Contracts of the program's functions, part 25: own work, joined in build order. -/
import Derived.Test.YtchomkadekikdaaGreatDoorJ24
import Derived.Deep.WholeRow
import Derived.Laws.Cover1
namespace Go.Proofs.YtchomkadekikdaaGreatDoor
open Go.RowKit
set_option maxRecDepth 100000
set_option linter.unusedVariables false
def flV (p : List ByteArray × Bool) (i : Nat) : Int := match i with
  | 0 => nmI (arS ⟨#[119, 101, 105, 103, 104, 116, 32, 113, 117, 97, 110, 116, 117, 109, 32, 99, 108, 97, 115, 115, 32, 115, 112, 97, 110, 32, 98, 117, 114, 115, 116, 32, 114, 97, 116, 101, 32, 112, 101, 114, 32, 110, 111, 100, 101]⟩ p)
  | 1 => nmI (nmS (arS ⟨#[119, 101, 105, 103, 104, 116, 32, 113, 117, 97, 110, 116, 117, 109, 32, 99, 108, 97, 115, 115, 32, 115, 112, 97, 110, 32, 98, 117, 114, 115, 116, 32, 114, 97, 116, 101, 32, 112, 101, 114, 32, 110, 111, 100, 101]⟩ p))
  | 2 => nmI (nmS (nmS (arS ⟨#[119, 101, 105, 103, 104, 116, 32, 113, 117, 97, 110, 116, 117, 109, 32, 99, 108, 97, 115, 115, 32, 115, 112, 97, 110, 32, 98, 117, 114, 115, 116, 32, 114, 97, 116, 101, 32, 112, 101, 114, 32, 110, 111, 100, 101]⟩ p)))
  | 3 => nmI (nmS (nmS (nmS (arS ⟨#[119, 101, 105, 103, 104, 116, 32, 113, 117, 97, 110, 116, 117, 109, 32, 99, 108, 97, 115, 115, 32, 115, 112, 97, 110, 32, 98, 117, 114, 115, 116, 32, 114, 97, 116, 101, 32, 112, 101, 114, 32, 110, 111, 100, 101]⟩ p))))
  | 4 => nmI (nmS (nmS (nmS (nmS (arS ⟨#[119, 101, 105, 103, 104, 116, 32, 113, 117, 97, 110, 116, 117, 109, 32, 99, 108, 97, 115, 115, 32, 115, 112, 97, 110, 32, 98, 117, 114, 115, 116, 32, 114, 97, 116, 101, 32, 112, 101, 114, 32, 110, 111, 100, 101]⟩ p)))))
  | 5 => nmI (woS (nmS (nmS (nmS (nmS (nmS (arS ⟨#[119, 101, 105, 103, 104, 116, 32, 113, 117, 97, 110, 116, 117, 109, 32, 99, 108, 97, 115, 115, 32, 115, 112, 97, 110, 32, 98, 117, 114, 115, 116, 32, 114, 97, 116, 101, 32, 112, 101, 114, 32, 110, 111, 100, 101]⟩ p)))))))
  | 6 => nmI (nmS (woS (nmS (nmS (nmS (nmS (nmS (arS ⟨#[119, 101, 105, 103, 104, 116, 32, 113, 117, 97, 110, 116, 117, 109, 32, 99, 108, 97, 115, 115, 32, 115, 112, 97, 110, 32, 98, 117, 114, 115, 116, 32, 114, 97, 116, 101, 32, 112, 101, 114, 32, 110, 111, 100, 101]⟩ p))))))))
  | _ => 0
def flR (p : List ByteArray × Bool) : ByteArray := hdT (nmS (nmS (nmS (nmS (nmS (arS ⟨#[119, 101, 105, 103, 104, 116, 32, 113, 117, 97, 110, 116, 117, 109, 32, 99, 108, 97, 115, 115, 32, 115, 112, 97, 110, 32, 98, 117, 114, 115, 116, 32, 114, 97, 116, 101, 32, 112, 101, 114, 32, 110, 111, 100, 101]⟩ p)))))).1
def flS (p : List ByteArray × Bool) : List ByteArray × Bool := (nmS (nmS (woS (nmS (nmS (nmS (nmS (nmS (arS ⟨#[119, 101, 105, 103, 104, 116, 32, 113, 117, 97, 110, 116, 117, 109, 32, 99, 108, 97, 115, 115, 32, 115, 112, 97, 110, 32, 98, 117, 114, 115, 116, 32, 114, 97, 116, 101, 32, 112, 101, 114, 32, 110, 111, 100, 101]⟩ p)))))))))
theorem flow_any {lm : Nat} (rb : Nat) (p : List ByteArray × Bool) (w : World) (h : Rp lm w rb p) (hl : p.1.length ≤ 50000) :
    Calls Tryz.prog 56 #[.pointer (some ⟨rb, 0, none⟩)] w fun e w' => e = .returned (.tuple #[.agg #[.int .i64 (flV p 0), .int .i64 (flV p 1), .int .i64 (flV p 2), .int .i64 (flV p 3), .int .i64 (flV p 4), .float .f64 0, .int .i64 (flV p 5), .int .i64 (flV p 6)], .string (flR p)]) ∧ (∃ lm', Rp lm' w' rb (flS p)) ∧ Ob rb w w' :=
  flow_walk rb p _ _ _ _ _ _ _ _ _ _ _ _ _ _ _ _ _ rfl rfl rfl rfl rfl rfl rfl rfl rfl rfl rfl rfl rfl rfl rfl rfl rfl w h hl
set_option maxHeartbeats 1000000 in
theorem parseFlow_good (K R M C Fl A : Int) (a : Option Addr) (n cap : Nat) (G : Nat → Nat → Int) (s rt : ByteArray) (n0 n1 n2 n3 n4 n5 n6 : Int) (p q u : Nat) (w : World) (h : NSl w a n cap G) (hs : s.size ≤ 4096) (he : EV w) (hk : KN w) (hT : Tab w) (hz : checkE K R M C Fl A G n = 0)
    (k0 : flV (wordsL s, false) 0 = n0)
    (k1 : flV (wordsL s, false) 1 = n1)
    (k2 : flV (wordsL s, false) 2 = n2)
    (k3 : flV (wordsL s, false) 3 = n3)
    (k4 : flV (wordsL s, false) 4 = n4)
    (k5 : flV (wordsL s, false) 5 = n5)
    (k6 : flV (wordsL s, false) 6 = n6)
    (kr : flR (wordsL s, false) = rt) (hd : flS (wordsL s, false) = ([], false)) (hrt : rt.size ≤ 4096) (h1 : npE rt = 0) (h2 : npP rt = p) (h3 : npQ rt = q) (hp : RS p) (hq : RS q) (h4 : tfV p q = u) (h5 : tfOk p q = true) (hu : u < 18446744073709551616) (h6 : ffP u = p) (h7 : ffQ u = q)
    (hc : flowE K R M C Fl A G n n0 n1 n2 n3 n4 u n5 n6 = 0) :
    Calls Tryz.prog 21 #[.agg #[.int .i64 K, .int .i64 R, .int .i64 M, .int .i64 C, .int .i64 Fl, .int .i64 A, .slice a n cap], .string s] w fun e w' => e = .returned (.tuple #[.agg #[.int .i64 n0, .int .i64 n1, .int .i64 n2, .int .i64 n3, .int .i64 n4, .float .f64 u, .int .i64 n5, .int .i64 n6], .int .i64 0]) ∧ Below w.heap.size w w' := by
  have HN : Hid _ := h
  have HE : Hid _ := he
  have HK : Hid (KN w) := hk
  have HT : Hid (Tab w) := hT
  have HZ : Hid _ := hz
  have HD : Hid _ := hd
  have HC : Hid _ := hc
  have HX : Hid (∀ W, Tab W → Calls Tryz.prog 57 #[.string rt] W fun e w' => e = .returned (.tuple #[.float .f64 u, .int .i64 0]) ∧ Below W.heap.size W w') := fun W hW => exactly_good rt p q u W hrt hW h1 h2 h3 hp hq h4 h5 hu h6 h7
  have HV : Hid (∀ e : Ending, e = .returned (.tuple #[.agg #[.int .i64 (flV (wordsL s, false) 0), .int .i64 (flV (wordsL s, false) 1), .int .i64 (flV (wordsL s, false) 2), .int .i64 (flV (wordsL s, false) 3), .int .i64 (flV (wordsL s, false) 4), .float .f64 0, .int .i64 (flV (wordsL s, false) 5), .int .i64 (flV (wordsL s, false) 6)], .string (flR (wordsL s, false))]) → e = .returned (.tuple #[.agg #[.int .i64 n0, .int .i64 n1, .int .i64 n2, .int .i64 n3, .int .i64 n4, .float .f64 0, .int .i64 n5, .int .i64 n6], .string rt])) := by
    intro e q
    rw [q, k0, k1, k2, k3, k4, k5, k6, kr]
  have hl0 : n ≤ 9223372036854775807 := Nat.le_trans h.le h.lim
  clear h he hk hT hz hd hc k0 k1 k2 k3 k4 k5 k6 kr hrt h1 h2 h3 hp hq h4 h5 hu h6 h7
  have d0 : ¬ (4096 : Int) < (s.size : Int) := by omega
  go_enter Tryz.func21, Tryz.ntmps21
  go_wp2_with fail
  have S0 : Hid _ := ((ce_start w).box7 (.int .i64 K) (.int .i64 R) (.int .i64 M) (.int .i64 C) (.int .i64 Fl) (.int .i64 A) (.slice a n cap) 24 _ rfl).box8 (.int .i64 0) (.int .i64 0) (.int .i64 0) (.int .i64 0) (.int .i64 0) (.float .f64 0) (.int .i64 0) (.int .i64 0) 27 (w.heap.size + 1) (by rw [World.size_alloc])
  have Z0 : Hid (((w.alloc (.cells #[.int .i64 K, .int .i64 R, .int .i64 M, .int .i64 C, .int .i64 Fl, .int .i64 A, .slice a n cap] 24)).alloc (.cells #[.int .i64 0, .int .i64 0, .int .i64 0, .int .i64 0, .int .i64 0, .float .f64 0, .int .i64 0, .int .i64 0] 27)).heap[w.heap.size + 1]? = some (.cells #[.int .i64 0, .int .i64 0, .int .i64 0, .int .i64 0, .int .i64 0, .float .f64 0, .int .i64 0, .int .i64 0] 27)) := by
    have q := al_at (w.alloc (.cells #[.int .i64 K, .int .i64 R, .int .i64 M, .int .i64 C, .int .i64 Fl, .int .i64 A, .slice a n cap] 24)) (.cells #[.int .i64 0, .int .i64 0, .int .i64 0, .int .i64 0, .int .i64 0, .float .f64 0, .int .i64 0, .int .i64 0] 27)
    rw [World.size_alloc] at q
    exact q
  refine (check_any K R M C Fl A a n cap G _ (HN.out.go S0.out.bel)).mono ?_
  rintro e w1 ⟨rfl, hb⟩
  rw [HZ.out]
  obtain ⟨gA, egA⟩ : ∃ g, g = w.heap.size := ⟨_, rfl⟩
  obtain ⟨gR, egR⟩ : ∃ g, g = w.heap.size + 1 := ⟨_, rfl⟩
  have S1 : Hid _ := S0.out.go hb
  have Z1 : Hid (w1.heap[gR]? = some (.cells #[.int .i64 0, .int .i64 0, .int .i64 0, .int .i64 0, .int .i64 0, .float .f64 0, .int .i64 0, .int .i64 0] 27)) := by
    show _ = _
    rw [egR]
    exact (hb.block _ (by rw [World.size_alloc, World.size_alloc]; omega)).trans Z0.out
  rw [← egR, ← egA] at S1
  rw [← egR, ← egA]
  have HA : Hid (w.heap.size ≤ gA ∧ w.heap.size ≤ gR ∧ gA ≠ gR) := ⟨by omega, by omega, by omega⟩
  clear egA egR hb S0 Z0
  go_wp2_with fail
  refine (words_any s _ (by omega)).mono ?_
  rintro e w2 ⟨v2, rfl, hO, hb2⟩
  have S2 : Hid _ := S1.out.go hb2
  have Z2 : Hid (w2.heap[gR]? = some (.cells #[.int .i64 0, .int .i64 0, .int .i64 0, .int .i64 0, .int .i64 0, .float .f64 0, .int .i64 0, .int .i64 0] 27)) := (hb2.block _ (Array.getElem?_eq_some_iff.1 Z1.out).1).trans Z1.out
  have R2 : Hid _ := rp_start (W0 := w) hs hO (HE.out.go S2.out.bel) (HK.out.go S2.out.bel)
  have e1 : ∃ a n c, v2 = .slice a n c := by
    rcases hO with ⟨q, _⟩ | ⟨g, cap, f, q, _⟩
    · exact ⟨_, _, _, q⟩
    exact ⟨_, _, _, q⟩
  obtain ⟨a2, m2, c2, rfl⟩ := e1
  have hlw : (wordsL s).length ≤ 50000 := by have := words_len s; omega
  have LW : Hid _ := hlw
  obtain ⟨rb, erb⟩ : ∃ g, g = w2.heap.size := ⟨_, rfl⟩
  have S2b : Hid _ := S2.out.go (bc_al (o := .cells #[.slice a2 m2 c2, .bool false] 102) (bel_refl w2))
  have Z2b : Hid ((w2.alloc (.cells #[.slice a2 m2 c2, .bool false] 102)).heap[gR]? = some (.cells #[.int .i64 0, .int .i64 0, .int .i64 0, .int .i64 0, .int .i64 0, .float .f64 0, .int .i64 0, .int .i64 0] 27)) := ((bc_al (bel_refl w2)).block _ (Array.getElem?_eq_some_iff.1 Z2.out).1).trans Z2.out
  have lA := S2.out.lt gA 0 (.int .i64 K)
  have lR : gR < w2.heap.size := (Array.getElem?_eq_some_iff.1 Z2.out).1
  have HNE : Hid (gA ≠ rb ∧ gR ≠ rb ∧ w.heap.size ≤ rb) := ⟨by omega, by omega, by rw [erb]; exact S2.out.bel.size⟩
  clear hO hb2 hlw lA lR
  go_wp2_with fail
  rw [← erb]
  rw [← erb] at R2
  refine (flow_any rb (wordsL s, false) _ R2.out LW.out).mono ?_
  rintro e w3 ⟨he3, ⟨lm3, hr3⟩, ho3⟩
  have he4 := HV.out e he3
  subst he4
  rw [HD.out] at hr3
  have R3 : Hid _ := hr3
  have S3 : Hid (Ce w w3 [(gA, 0, .int .i64 K), (gA, 1, .int .i64 R), (gA, 2, .int .i64 M), (gA, 3, .int .i64 C), (gA, 4, .int .i64 Fl), (gA, 5, .int .i64 A), (gA, 6, .slice a n cap)]) := by
    refine ⟨fun x hx => ?_, ?_⟩
    · have hb : x.1 = gA := by
        simp only [List.mem_cons, List.not_mem_nil, or_false] at hx
        rcases hx with rfl | rfl | rfl | rfl | rfl | rfl | rfl <;> rfl
      refine ho3.cell (S2b.out.cells x ?_) (by show x.1 ≠ rb; rw [hb]; exact HNE.out.1)
      exact List.mem_append_right [(gR, 0, .int .i64 0), (gR, 1, .int .i64 0), (gR, 2, .int .i64 0), (gR, 3, .int .i64 0), (gR, 4, .int .i64 0), (gR, 5, .float .f64 0), (gR, 6, .int .i64 0), (gR, 7, .int .i64 0)] hx
    exact S2b.out.bel.trans (ho3.below S2b.out.bel.size HNE.out.2.2)
  have Z3 : Hid (w3.heap[gR]? = some (.cells #[.int .i64 0, .int .i64 0, .int .i64 0, .int .i64 0, .int .i64 0, .float .f64 0, .int .i64 0, .int .i64 0] 27)) := (ho3.block gR (Array.getElem?_eq_some_iff.1 Z2b.out).1 HNE.out.2.1).trans Z2b.out
  clear he3 hr3 ho3 R2 S2 S2b Z2 Z2b Z1 S1 erb
  have hAL := al_at w3 (.cells #[.int .i64 0, .int .i64 0, .int .i64 0, .int .i64 0, .int .i64 0, .float .f64 0, .int .i64 0, .int .i64 0] 27)
  have HAL : Hid _ := hAL
  clear hAL
  go_wp2_with (refine (id ?_ : wpList Tryz.prog _ _ (⟨none, .store 27 (.tmp 8) (.tmp 27), _, _, _, _⟩ :: _) _ _); refine wpList_store_row rfl 27 (.tmp 8) (.tmp 27) rfl w3.heap.size #[.int .i64 n0, .int .i64 n1, .int .i64 n2, .int .i64 n3, .int .i64 n4, .float .f64 0, .int .i64 n5, .int .i64 n6] rfl rfl 27 #[.int .i64 0, .int .i64 0, .int .i64 0, .int .i64 0, .int .i64 0, .float .f64 0, .int .i64 0, .int .i64 0] HAL.out (by kernel_rfl) (by kernel_rfl) (by kernel_rfl) ?_; rw [World.setRow_alloc_new])
  refine (done_any rb [] false _ (R3.out.rd.go (bc_al (bel_refl w3)))).mono ?_
  rintro e w4 ⟨rfl, rfl⟩
  go_wp2_with fail
  refine (HX.out _ (Tab.go HT.out (bc_al S3.out.bel))).mono ?_
  rintro e w5 ⟨rfl, hb5⟩
  obtain ⟨gP, egP⟩ : ∃ g, g = w3.heap.size := ⟨_, rfl⟩
  have B3 := bc_al (o := .cells #[.int .i64 n0, .int .i64 n1, .int .i64 n2, .int .i64 n3, .int .i64 n4, .float .f64 0, .int .i64 n5, .int .i64 n6] 27) (bel_refl w3)
  have S5 : Hid _ := (S3.out.go B3).go hb5
  have Z5 : Hid (w5.heap[gR]? = some (.cells #[.int .i64 0, .int .i64 0, .int .i64 0, .int .i64 0, .int .i64 0, .float .f64 0, .int .i64 0, .int .i64 0] 27)) := ((bc_go B3 hb5).block gR (Array.getElem?_eq_some_iff.1 Z3.out).1).trans Z3.out
  have P5 : Hid (w5.heap[gP]? = some (.cells #[.int .i64 n0, .int .i64 n1, .int .i64 n2, .int .i64 n3, .int .i64 n4, .float .f64 0, .int .i64 n5, .int .i64 n6] 27)) := by
    show _ = _
    rw [egP]
    exact (hb5.block _ (by rw [World.size_alloc]; omega)).trans (al_at _ _)
  rw [← egP]
  have lR : gR < w3.heap.size := (Array.getElem?_eq_some_iff.1 Z3.out).1
  have lA := S3.out.lt gA 0 (.int .i64 K)
  have HP : Hid (gA ≠ gP ∧ gR ≠ gP ∧ w.heap.size ≤ gP) := ⟨by omega, by omega, by rw [egP]; exact S3.out.bel.size⟩
  have hP := P5.out
  have y0 : w5.cell? ⟨gP, 0, none⟩ = some (.int .i64 n0) := by simp [World.cell?, hP]
  have y1 : w5.cell? ⟨gP, 1, none⟩ = some (.int .i64 n1) := by simp [World.cell?, hP]
  have y2 : w5.cell? ⟨gP, 2, none⟩ = some (.int .i64 n2) := by simp [World.cell?, hP]
  have y3 : w5.cell? ⟨gP, 3, none⟩ = some (.int .i64 n3) := by simp [World.cell?, hP]
  have y4 : w5.cell? ⟨gP, 4, none⟩ = some (.int .i64 n4) := by simp [World.cell?, hP]
  have y5 : w5.cell? ⟨gP, 5, none⟩ = some (.float .f64 0) := by simp [World.cell?, hP]
  have y6 : w5.cell? ⟨gP, 6, none⟩ = some (.int .i64 n5) := by simp [World.cell?, hP]
  have y7 : w5.cell? ⟨gP, 7, none⟩ = some (.int .i64 n6) := by simp [World.cell?, hP]
  have fy : w5.frozen? ⟨gP, 5, none⟩ = false := by simp [World.frozen?, hP]
  have B5 : Hid (Bx1 w5 w5 gP 27 #[.int .i64 n0, .int .i64 n1, .int .i64 n2, .int .i64 n3, .int .i64 n4, .float .f64 0, .int .i64 n5, .int .i64 n6]) := ⟨hP, fun _ _ => rfl, rfl, rfl, rfl, rfl⟩
  clear hP lR lA egP hb5 B3
  have sf := fun (w : World) (a : Addr) (x : Nat) => run_store Tryz.prog w a (.float .f64 x) .plain rfl
  go_wp2_with (refine (id ?_ : wpList Tryz.prog _ _ (⟨some 42, _, _, _, _, _⟩ :: _) _ _); refine wpList_as (fun W => Bx1 w5 W gP 27 #[.int .i64 n0, .int .i64 n1, .int .i64 n2, .int .i64 n3, .int .i64 n4, .float .f64 u, .int .i64 n5, .int .i64 n6]) (B5.out.set 5 (.float .f64 u)) ?_)
  intro w6 B6
  clear y0
  clear y1
  clear y2
  clear y3
  clear y4
  clear y5
  clear y6
  clear y7
  clear fy sf
  have hP := B6.hc
  have y0 : w6.cell? ⟨gP, 0, none⟩ = some (.int .i64 n0) := by simp [World.cell?, hP]
  have y1 : w6.cell? ⟨gP, 1, none⟩ = some (.int .i64 n1) := by simp [World.cell?, hP]
  have y2 : w6.cell? ⟨gP, 2, none⟩ = some (.int .i64 n2) := by simp [World.cell?, hP]
  have y3 : w6.cell? ⟨gP, 3, none⟩ = some (.int .i64 n3) := by simp [World.cell?, hP]
  have y4 : w6.cell? ⟨gP, 4, none⟩ = some (.int .i64 n4) := by simp [World.cell?, hP]
  have y5 : w6.cell? ⟨gP, 5, none⟩ = some (.float .f64 u) := by simp [World.cell?, hP]
  have y6 : w6.cell? ⟨gP, 6, none⟩ = some (.int .i64 n5) := by simp [World.cell?, hP]
  have y7 : w6.cell? ⟨gP, 7, none⟩ = some (.int .i64 n6) := by simp [World.cell?, hP]
  have S6 : Hid (Ce w w6 [(gA, 0, .int .i64 K), (gA, 1, .int .i64 R), (gA, 2, .int .i64 M), (gA, 3, .int .i64 C), (gA, 4, .int .i64 Fl), (gA, 5, .int .i64 A), (gA, 6, .slice a n cap)]) := by
    refine ⟨fun x hx => ?_, ?_⟩
    · have hb : x.1 = gA := by
        simp only [List.mem_cons, List.not_mem_nil, or_false] at hx
        rcases hx with rfl | rfl | rfl | rfl | rfl | rfl | rfl <;> rfl
      exact (World.cell?_of_block (w := w5) (B6.ot _ (by show x.1 ≠ gP; rw [hb]; exact HP.out.1))).trans (S5.out.cells x hx)
    have q := S5.out.bel
    exact ⟨B6.os.trans q.os, B6.tape.trans q.tape, B6.output.trans q.output, by rw [B6.size]; exact q.size, fun k hk => (B6.ot k (by have := HP.out.2.2; omega)).trans (q.block k hk)⟩
  have Z6 : Hid (w6.heap[gR]? = some (.cells #[.int .i64 0, .int .i64 0, .int .i64 0, .int .i64 0, .int .i64 0, .float .f64 0, .int .i64 0, .int .i64 0] 27)) := (B6.ot gR HP.out.2.1).trans Z5.out
  have x0 := S6.out.cel gA 0 (.int .i64 K)
  have x1 := S6.out.cel gA 1 (.int .i64 R)
  have x2 := S6.out.cel gA 2 (.int .i64 M)
  have x3 := S6.out.cel gA 3 (.int .i64 C)
  have x4 := S6.out.cel gA 4 (.int .i64 Fl)
  have x5 := S6.out.cel gA 5 (.int .i64 A)
  have x6 := S6.out.cel gA 6 (.slice a n cap)
  clear hP B6
  go_wp2_with fail
  refine (checkFlow_any K R M C Fl A a n cap G n0 n1 n2 n3 n4 u n5 n6 _ (HN.out.go S6.out.bel)).mono ?_
  rintro e w7 ⟨rfl, hb7⟩
  rw [HC.out]
  have z0 := bc_cell hb7 y0
  have z1 := bc_cell hb7 y1
  have z2 := bc_cell hb7 y2
  have z3 := bc_cell hb7 y3
  have z4 := bc_cell hb7 y4
  have z5 := bc_cell hb7 y5
  have z6 := bc_cell hb7 y6
  have z7 := bc_cell hb7 y7
  have Z7 : Hid (w7.heap[gR]? = some (.cells #[.int .i64 0, .int .i64 0, .int .i64 0, .int .i64 0, .int .i64 0, .float .f64 0, .int .i64 0, .int .i64 0] 27)) := (hb7.block gR (Array.getElem?_eq_some_iff.1 Z6.out).1).trans Z6.out
  have W7 : Hid _ := bc_go S6.out.bel hb7
  clear y0
  clear y1
  clear y2
  clear y3
  clear y4
  clear y5
  clear y6
  clear y7
  clear x0
  clear x1
  clear x2
  clear x3
  clear x4
  clear x5
  clear x6
  clear hb7
  go_wp2_with (refine (id ?_ : wpList Tryz.prog _ _ (⟨none, .store 27 (.tmp 4) (.tmp 49), _, _, _, _⟩ :: _) _ _); refine wpList_store_row rfl 27 (.tmp 4) (.tmp 49) rfl gR #[.int .i64 n0, .int .i64 n1, .int .i64 n2, .int .i64 n3, .int .i64 n4, .float .f64 u, .int .i64 n5, .int .i64 n6] rfl rfl 27 #[.int .i64 0, .int .i64 0, .int .i64 0, .int .i64 0, .int .i64 0, .float .f64 0, .int .i64 0, .int .i64 0] Z7.out (by kernel_rfl) (by kernel_rfl) (by kernel_rfl) ?_; refine wpList_as (fun W => W.heap[gR]? = some (.cells #[.int .i64 n0, .int .i64 n1, .int .i64 n2, .int .i64 n3, .int .i64 n4, .float .f64 u, .int .i64 n5, .int .i64 n6] 27) ∧ Below w.heap.size w W) ⟨setRow_heap _ _ _ _ _ _ Z7.out, ?_⟩ ?_)
  · exact ⟨W7.out.os, W7.out.tape, W7.out.output, by rw [size_setRow]; exact W7.out.size, fun k hk => (setRow_other _ _ _ _ (by have := HA.out.2.1; omega)).trans (W7.out.block k hk)⟩
  intro w8 hR hB
  have W8 : Hid _ := hB
  have y0 : w8.cell? ⟨gR, 0, none⟩ = some (.int .i64 n0) := by simp [World.cell?, hR]
  have y1 : w8.cell? ⟨gR, 1, none⟩ = some (.int .i64 n1) := by simp [World.cell?, hR]
  have y2 : w8.cell? ⟨gR, 2, none⟩ = some (.int .i64 n2) := by simp [World.cell?, hR]
  have y3 : w8.cell? ⟨gR, 3, none⟩ = some (.int .i64 n3) := by simp [World.cell?, hR]
  have y4 : w8.cell? ⟨gR, 4, none⟩ = some (.int .i64 n4) := by simp [World.cell?, hR]
  have y5 : w8.cell? ⟨gR, 5, none⟩ = some (.float .f64 u) := by simp [World.cell?, hR]
  have y6 : w8.cell? ⟨gR, 6, none⟩ = some (.int .i64 n5) := by simp [World.cell?, hR]
  have y7 : w8.cell? ⟨gR, 7, none⟩ = some (.int .i64 n6) := by simp [World.cell?, hR]
  clear hB hR
  go_wp2_with fail
  exact bodyPost_ret (v := .tuple #[.agg #[.int .i64 n0, .int .i64 n1, .int .i64 n2, .int .i64 n3, .int .i64 n4, .float .f64 u, .int .i64 n5, .int .i64 n6], .int .i64 0]) (by simp [results, Tryz.results21, go_sem, y0, y1, y2, y3, y4, y5, y6, y7]) rfl ⟨rfl, W8.out⟩
def ndw (d : Nd) : List ByteArray := [⟨#[110, 111, 100, 101]⟩, kindT d.1.toNat, itT d.2.1, itT d.2.2.1, itT d.2.2.2]
def rows (G : Nat → Nat → Int) (m : Nat) : List Nd := (List.range m).map fun i => (G (i + 1) 0, G (i + 1) 1, G (i + 1) 2, G (i + 1) 3)
theorem nodesT_rows (G : Nat → Nat → Int) (m : Nat) : nodesT G m = (rows G m).flatMap ndw := by
  induction m with
  | zero => rfl
  | succ m ih =>
    rw [nodesT, ih]
    unfold rows
    rw [List.range_succ, List.map_append, List.flatMap_append]
    rfl
theorem head_list (k : Nat) (R M C Fl A : Int) : headT (k : Int) R M C Fl A = [⟨#[107, 105, 110, 100]⟩, kindT k, ⟨#[114, 111, 111, 109]⟩, itT R, ⟨#[109, 111, 115, 116]⟩, itT M, ⟨#[99, 97, 112]⟩, itT C, ⟨#[102, 108, 111, 119, 115]⟩, itT Fl, ⟨#[97, 103, 101]⟩, itT A] := by
  rw [headT, setupN_words]
  rfl
def In64p (x : Int) : Prop := -9223372036854775808 ≤ x ∧ x ≤ 9223372036854775807
theorem st_one : (⟨(Lib.join ((headT 1 100 50 10 2 0).map (·.data.toList)) [32]).toArray⟩ : ByteArray) = ⟨#[107, 105, 110, 100, 32, 119, 102, 113, 32, 114, 111, 111, 109, 32, 49, 48, 48, 32, 109, 111, 115, 116, 32, 53, 48, 32, 99, 97, 112, 32, 49, 48, 32, 102, 108, 111, 119, 115, 32, 50, 32, 97, 103, 101, 32, 48]⟩ := by decide +kernel
theorem st_ck : checkE 1 100 50 10 2 0 (fun _ _ => 0) 0 = 0 := by decide +kernel
theorem st_fl : flowE 1 100 50 10 2 0 (fun _ _ => 0) 0 1 0 0 0 100 4602678819172646912 3 0 = 0 := by decide +kernel
theorem st_ff : ffP 4602678819172646912 = 1 ∧ ffQ 4602678819172646912 = 2 := by decide +kernel
theorem st_txt : (⟨(Lib.join ((flowT 1 0 0 0 100 3 0 (fmtT 1 2 1 1)).map (·.data.toList)) [32]).toArray⟩ : ByteArray) = ⟨#[119, 101, 105, 103, 104, 116, 32, 49, 32, 113, 117, 97, 110, 116, 117, 109, 32, 48, 32, 99, 108, 97, 115, 115, 32, 48, 32, 115, 112, 97, 110, 32, 48, 32, 98, 117, 114, 115, 116, 32, 49, 48, 48, 32, 114, 97, 116, 101, 32, 49, 47, 50, 32, 112, 101, 114, 32, 51, 32, 110, 111, 100, 101, 32, 48]⟩ := by decide +kernel
theorem st_fmt : (fmtT 1 2 1 1).size ≤ 4000 := by decide +kernel
theorem st_line : setV (wordsL ⟨#[107, 105, 110, 100, 32, 32, 119, 102, 113, 32, 109, 111, 115, 116, 32, 53, 48, 32, 114, 111, 111, 109, 32, 49, 48, 48, 32, 102, 108, 111, 119, 115, 32, 50, 32, 99, 97, 112, 32, 49, 48, 32, 97, 103, 101, 32, 48, 32]⟩, false) 0 = 1 ∧ setV (wordsL ⟨#[107, 105, 110, 100, 32, 32, 119, 102, 113, 32, 109, 111, 115, 116, 32, 53, 48, 32, 114, 111, 111, 109, 32, 49, 48, 48, 32, 102, 108, 111, 119, 115, 32, 50, 32, 99, 97, 112, 32, 49, 48, 32, 97, 103, 101, 32, 48, 32]⟩, false) 1 = 100 ∧ setV (wordsL ⟨#[107, 105, 110, 100, 32, 32, 119, 102, 113, 32, 109, 111, 115, 116, 32, 53, 48, 32, 114, 111, 111, 109, 32, 49, 48, 48, 32, 102, 108, 111, 119, 115, 32, 50, 32, 99, 97, 112, 32, 49, 48, 32, 97, 103, 101, 32, 48, 32]⟩, false) 2 = 50 ∧ setV (wordsL ⟨#[107, 105, 110, 100, 32, 32, 119, 102, 113, 32, 109, 111, 115, 116, 32, 53, 48, 32, 114, 111, 111, 109, 32, 49, 48, 48, 32, 102, 108, 111, 119, 115, 32, 50, 32, 99, 97, 112, 32, 49, 48, 32, 97, 103, 101, 32, 48, 32]⟩, false) 3 = 10 ∧ setV (wordsL ⟨#[107, 105, 110, 100, 32, 32, 119, 102, 113, 32, 109, 111, 115, 116, 32, 53, 48, 32, 114, 111, 111, 109, 32, 49, 48, 48, 32, 102, 108, 111, 119, 115, 32, 50, 32, 99, 97, 112, 32, 49, 48, 32, 97, 103, 101, 32, 48, 32]⟩, false) 4 = 2 ∧ setV (wordsL ⟨#[107, 105, 110, 100, 32, 32, 119, 102, 113, 32, 109, 111, 115, 116, 32, 53, 48, 32, 114, 111, 111, 109, 32, 49, 48, 48, 32, 102, 108, 111, 119, 115, 32, 50, 32, 99, 97, 112, 32, 49, 48, 32, 97, 103, 101, 32, 48, 32]⟩, false) 5 = 0 ∧ setS (wordsL ⟨#[107, 105, 110, 100, 32, 32, 119, 102, 113, 32, 109, 111, 115, 116, 32, 53, 48, 32, 114, 111, 111, 109, 32, 49, 48, 48, 32, 102, 108, 111, 119, 115, 32, 50, 32, 99, 97, 112, 32, 49, 48, 32, 97, 103, 101, 32, 48, 32]⟩, false) = ([], false) := by decide +kernel
theorem st_flow : flV (wordsL ⟨#[119, 101, 105, 103, 104, 116, 32, 49, 32, 113, 117, 97, 110, 116, 117, 109, 32, 48, 32, 99, 108, 97, 115, 115, 32, 48, 32, 115, 112, 97, 110, 32, 48, 32, 98, 117, 114, 115, 116, 32, 49, 48, 48, 32, 114, 97, 116, 101, 32, 49, 47, 50, 32, 112, 101, 114, 32, 51, 32, 110, 111, 100, 101, 32, 48]⟩, false) 0 = 1 ∧ flV (wordsL ⟨#[119, 101, 105, 103, 104, 116, 32, 49, 32, 113, 117, 97, 110, 116, 117, 109, 32, 48, 32, 99, 108, 97, 115, 115, 32, 48, 32, 115, 112, 97, 110, 32, 48, 32, 98, 117, 114, 115, 116, 32, 49, 48, 48, 32, 114, 97, 116, 101, 32, 49, 47, 50, 32, 112, 101, 114, 32, 51, 32, 110, 111, 100, 101, 32, 48]⟩, false) 1 = 0 ∧ flV (wordsL ⟨#[119, 101, 105, 103, 104, 116, 32, 49, 32, 113, 117, 97, 110, 116, 117, 109, 32, 48, 32, 99, 108, 97, 115, 115, 32, 48, 32, 115, 112, 97, 110, 32, 48, 32, 98, 117, 114, 115, 116, 32, 49, 48, 48, 32, 114, 97, 116, 101, 32, 49, 47, 50, 32, 112, 101, 114, 32, 51, 32, 110, 111, 100, 101, 32, 48]⟩, false) 2 = 0 ∧ flV (wordsL ⟨#[119, 101, 105, 103, 104, 116, 32, 49, 32, 113, 117, 97, 110, 116, 117, 109, 32, 48, 32, 99, 108, 97, 115, 115, 32, 48, 32, 115, 112, 97, 110, 32, 48, 32, 98, 117, 114, 115, 116, 32, 49, 48, 48, 32, 114, 97, 116, 101, 32, 49, 47, 50, 32, 112, 101, 114, 32, 51, 32, 110, 111, 100, 101, 32, 48]⟩, false) 3 = 0 ∧ flV (wordsL ⟨#[119, 101, 105, 103, 104, 116, 32, 49, 32, 113, 117, 97, 110, 116, 117, 109, 32, 48, 32, 99, 108, 97, 115, 115, 32, 48, 32, 115, 112, 97, 110, 32, 48, 32, 98, 117, 114, 115, 116, 32, 49, 48, 48, 32, 114, 97, 116, 101, 32, 49, 47, 50, 32, 112, 101, 114, 32, 51, 32, 110, 111, 100, 101, 32, 48]⟩, false) 4 = 100 ∧ flV (wordsL ⟨#[119, 101, 105, 103, 104, 116, 32, 49, 32, 113, 117, 97, 110, 116, 117, 109, 32, 48, 32, 99, 108, 97, 115, 115, 32, 48, 32, 115, 112, 97, 110, 32, 48, 32, 98, 117, 114, 115, 116, 32, 49, 48, 48, 32, 114, 97, 116, 101, 32, 49, 47, 50, 32, 112, 101, 114, 32, 51, 32, 110, 111, 100, 101, 32, 48]⟩, false) 5 = 3 ∧ flV (wordsL ⟨#[119, 101, 105, 103, 104, 116, 32, 49, 32, 113, 117, 97, 110, 116, 117, 109, 32, 48, 32, 99, 108, 97, 115, 115, 32, 48, 32, 115, 112, 97, 110, 32, 48, 32, 98, 117, 114, 115, 116, 32, 49, 48, 48, 32, 114, 97, 116, 101, 32, 49, 47, 50, 32, 112, 101, 114, 32, 51, 32, 110, 111, 100, 101, 32, 48]⟩, false) 6 = 0 ∧ flR (wordsL ⟨#[119, 101, 105, 103, 104, 116, 32, 49, 32, 113, 117, 97, 110, 116, 117, 109, 32, 48, 32, 99, 108, 97, 115, 115, 32, 48, 32, 115, 112, 97, 110, 32, 48, 32, 98, 117, 114, 115, 116, 32, 49, 48, 48, 32, 114, 97, 116, 101, 32, 49, 47, 50, 32, 112, 101, 114, 32, 51, 32, 110, 111, 100, 101, 32, 48]⟩, false) = ⟨#[49, 47, 50]⟩ ∧ flS (wordsL ⟨#[119, 101, 105, 103, 104, 116, 32, 49, 32, 113, 117, 97, 110, 116, 117, 109, 32, 48, 32, 99, 108, 97, 115, 115, 32, 48, 32, 115, 112, 97, 110, 32, 48, 32, 98, 117, 114, 115, 116, 32, 49, 48, 48, 32, 114, 97, 116, 101, 32, 49, 47, 50, 32, 112, 101, 114, 32, 51, 32, 110, 111, 100, 101, 32, 48]⟩, false) = ([], false) := by decide +kernel
theorem st_np : npE ⟨#[49, 47, 50]⟩ = 0 ∧ npP ⟨#[49, 47, 50]⟩ = 1 ∧ npQ ⟨#[49, 47, 50]⟩ = 2 := by decide +kernel
theorem st_tf : tfV 1 2 = 4602678819172646912 ∧ tfOk 1 2 = true := by decide +kernel
def stG (i j : Nat) : Int := (([[6, 0, 0, 0], [4, 0, 5, 7], [6, 0, 9, 0], [2, 2, 1, 0]] : List (List Int)).getD i []).getD j 0
theorem st_tck : checkE 6 100 50 10 2 0 stG 4 = 0 := by decide +kernel
theorem st_tree : (⟨(Lib.join ((headT 6 100 50 10 2 0 ++ nodesT stG 3).map (·.data.toList)) [32]).toArray⟩ : ByteArray) = ⟨#[107, 105, 110, 100, 32, 116, 114, 101, 101, 32, 114, 111, 111, 109, 32, 49, 48, 48, 32, 109, 111, 115, 116, 32, 53, 48, 32, 99, 97, 112, 32, 49, 48, 32, 102, 108, 111, 119, 115, 32, 50, 32, 97, 103, 101, 32, 48, 32, 110, 111, 100, 101, 32, 97, 103, 101, 32, 48, 32, 53, 32, 55, 32, 110, 111, 100, 101, 32, 116, 114, 101, 101, 32, 48, 32, 57, 32, 48, 32, 110, 111, 100, 101, 32, 100, 114, 114, 32, 50, 32, 49, 32, 48]⟩ := by decide +kernel
theorem st_zero : checkE 0 0 0 0 0 0 (fun _ _ => 0) 0 = 90 := by decide +kernel
theorem st_none : flowE 1 100 50 10 2 0 (fun _ _ => 0) 0 0 0 0 0 0 0 0 0 = 93 := by decide +kernel
theorem num9_any (n : Int) (w : World) : Calls Tryz.prog 11 #[.int .i64 n] w fun e w' => e = .returned (.int .i64 n) ∧ w' = w := by
  go_enter Tryz.func11, Tryz.ntmps11
  go_wp2_with fail
  go_ret
  exact ⟨rfl, rfl⟩
set_option maxHeartbeats 1000000 in
theorem same_flat (w : World) : Calls Tryz.prog 23 #[.agg #[.int .i64 1, .int .i64 100, .int .i64 50, .int .i64 10, .int .i64 2, .int .i64 0, .slice none 0 0], .agg #[.int .i64 1, .int .i64 100, .int .i64 50, .int .i64 10, .int .i64 2, .int .i64 0, .slice none 0 0]] w fun e w' => e = .returned (.bool true) ∧ Below w.heap.size w w' := by
  go_enter Tryz.func23, Tryz.ntmps23
  go_wp2_with fail
  go_loopw [5] (fun t wr => t = .int .i64 0 ∧ wr = (w.alloc (.cells #[.int .i64 1, .int .i64 100, .int .i64 50, .int .i64 10, .int .i64 2, .int .i64 0, .slice none 0 0] 24)).alloc (.cells #[.int .i64 1, .int .i64 100, .int .i64 50, .int .i64 10, .int .i64 2, .int .i64 0, .slice none 0 0] 24)) (fun _ _ => 0)
  case atStart => exact ⟨rfl, rfl⟩
  case round =>
    obtain ⟨rfl, rfl⟩ := hrel
    go_wp2_with fail
    go_ret
    exact ⟨rfl, bc_al (bc_al (bel_refl w))⟩
structure Vs9 (w : World) : Prop where
  kn : KN w
  ev : EV w
  tab : Tab w
  pow : Lib.TabIs Tryz.prog w "internal/strconv.uint64pow10" .u64 Lib.pow10Tab
theorem Vs9.go {w W : World} (h : Vs9 w) (hB : Below w.heap.size w W) : Vs9 W := ⟨h.kn.go hB, h.ev.go hB, Tab.go h.tab hB, Lib.tabBelow_of_tabIs h.pow W hB⟩
theorem st_print (w : World) (h : Vs9 w) : Calls Tryz.prog 7 #[.agg #[.int .i64 1, .int .i64 100, .int .i64 50, .int .i64 10, .int .i64 2, .int .i64 0, .slice none 0 0]] w fun e w' => e = .returned (.tuple #[.string ⟨#[107, 105, 110, 100, 32, 119, 102, 113, 32, 114, 111, 111, 109, 32, 49, 48, 48, 32, 109, 111, 115, 116, 32, 53, 48, 32, 99, 97, 112, 32, 49, 48, 32, 102, 108, 111, 119, 115, 32, 50, 32, 97, 103, 101, 32, 48]⟩, .int .i64 0]) ∧ Below w.heap.size w w' := by
  refine (print_flat 1 100 50 10 2 0 none 0 0 (fun _ _ => 0) w (nsl_nil w) h.kn h.pow (by decide)).mono ?_
  rintro e w' ⟨s, rfl, hb, hs⟩
  rw [hs st_ck, st_ck, st_one]
  exact ⟨rfl, hb⟩
theorem st_five (i : Nat) (h : i < 5) : -9223372036854775808 ≤ setI 1 0 0 0 100 i ∧ setI 1 0 0 0 100 i ≤ 9223372036854775807 := by
  match i, h with
  | 0, _ => decide
  | 1, _ => decide
  | 2, _ => decide
  | 3, _ => decide
  | 4, _ => decide
theorem st_two (i : Nat) (h : i < 2) : -9223372036854775808 ≤ pair2 3 0 i ∧ pair2 3 0 i ≤ 9223372036854775807 := by
  match i, h with
  | 0, _ => decide
  | 1, _ => decide
theorem st_printF (w : World) (h : Vs9 w) : Calls Tryz.prog 9 #[.agg #[.int .i64 1, .int .i64 100, .int .i64 50, .int .i64 10, .int .i64 2, .int .i64 0, .slice none 0 0], .agg #[.int .i64 1, .int .i64 0, .int .i64 0, .int .i64 0, .int .i64 100, .float .f64 4602678819172646912, .int .i64 3, .int .i64 0]] w fun e w' => e = .returned (.tuple #[.string ⟨#[119, 101, 105, 103, 104, 116, 32, 49, 32, 113, 117, 97, 110, 116, 117, 109, 32, 48, 32, 99, 108, 97, 115, 115, 32, 48, 32, 115, 112, 97, 110, 32, 48, 32, 98, 117, 114, 115, 116, 32, 49, 48, 48, 32, 114, 97, 116, 101, 32, 49, 47, 50, 32, 112, 101, 114, 32, 51, 32, 110, 111, 100, 101, 32, 48]⟩, .int .i64 0]) ∧ Below w.heap.size w w' := by
  refine (printFlow_good 1 100 50 10 2 0 none 0 0 (fun _ _ => 0) 1 0 0 0 100 4602678819172646912 3 0 1 2 1 1 w (nsl_nil w) st_fl h.tab h.pow (by decide) st_ff.1 st_ff.2 (rs_word (by omega)) (rs_word (by omega)) ⟨by decide, by decide, .inl rfl⟩ ⟨by decide, by decide, .inl rfl⟩ st_fmt st_five st_two).mono ?_
  rintro e w' ⟨rfl, hb⟩
  rw [st_txt]
  exact ⟨rfl, hb⟩
theorem st_parse (w : World) (h : Vs9 w) : Calls Tryz.prog 19 #[.string ⟨#[107, 105, 110, 100, 32, 32, 119, 102, 113, 32, 109, 111, 115, 116, 32, 53, 48, 32, 114, 111, 111, 109, 32, 49, 48, 48, 32, 102, 108, 111, 119, 115, 32, 50, 32, 99, 97, 112, 32, 49, 48, 32, 97, 103, 101, 32, 48, 32]⟩] w fun e w' => e = .returned (.tuple #[.agg #[.int .i64 1, .int .i64 100, .int .i64 50, .int .i64 10, .int .i64 2, .int .i64 0, .slice none 0 0], .int .i64 0]) ∧ Below w.heap.size w w' := by
  obtain ⟨k0, k1, k2, k3, k4, k5, k6⟩ := st_line
  exact parse_good ⟨#[107, 105, 110, 100, 32, 32, 119, 102, 113, 32, 109, 111, 115, 116, 32, 53, 48, 32, 114, 111, 111, 109, 32, 49, 48, 48, 32, 102, 108, 111, 119, 115, 32, 50, 32, 99, 97, 112, 32, 49, 48, 32, 97, 103, 101, 32, 48, 32]⟩ 1 100 50 10 2 0 w (by decide) h.ev h.kn (by decide) k0 k1 k2 k3 k4 k5 k6 st_ck
theorem st_parseF (w : World) (h : Vs9 w) : Calls Tryz.prog 21 #[.agg #[.int .i64 1, .int .i64 100, .int .i64 50, .int .i64 10, .int .i64 2, .int .i64 0, .slice none 0 0], .string ⟨#[119, 101, 105, 103, 104, 116, 32, 49, 32, 113, 117, 97, 110, 116, 117, 109, 32, 48, 32, 99, 108, 97, 115, 115, 32, 48, 32, 115, 112, 97, 110, 32, 48, 32, 98, 117, 114, 115, 116, 32, 49, 48, 48, 32, 114, 97, 116, 101, 32, 49, 47, 50, 32, 112, 101, 114, 32, 51, 32, 110, 111, 100, 101, 32, 48]⟩] w fun e w' => e = .returned (.tuple #[.agg #[.int .i64 1, .int .i64 0, .int .i64 0, .int .i64 0, .int .i64 100, .float .f64 4602678819172646912, .int .i64 3, .int .i64 0], .int .i64 0]) ∧ Below w.heap.size w w' := by
  obtain ⟨k0, k1, k2, k3, k4, k5, k6, k7, k8⟩ := st_flow
  exact parseFlow_good 1 100 50 10 2 0 none 0 0 (fun _ _ => 0) ⟨#[119, 101, 105, 103, 104, 116, 32, 49, 32, 113, 117, 97, 110, 116, 117, 109, 32, 48, 32, 99, 108, 97, 115, 115, 32, 48, 32, 115, 112, 97, 110, 32, 48, 32, 98, 117, 114, 115, 116, 32, 49, 48, 48, 32, 114, 97, 116, 101, 32, 49, 47, 50, 32, 112, 101, 114, 32, 51, 32, 110, 111, 100, 101, 32, 48]⟩ ⟨#[49, 47, 50]⟩ 1 0 0 0 100 3 0 1 2 4602678819172646912 w (nsl_nil w) (by decide) h.ev h.kn h.tab st_ck k0 k1 k2 k3 k4 k5 k6 k7 k8 (by decide) st_np.1 st_np.2.1 st_np.2.2 (rs_word (by omega)) (rs_word (by omega)) st_tf.1 st_tf.2 (by decide) st_ff.1 st_ff.2 st_fl
theorem st_printT (w : World) (b : Nat) (h : Vs9 w) (hn : NSl w (some ⟨b, 0, none⟩) 4 4 stG) : Calls Tryz.prog 7 #[.agg #[.int .i64 6, .int .i64 100, .int .i64 50, .int .i64 10, .int .i64 2, .int .i64 0, .slice (some ⟨b, 0, none⟩) 4 4]] w fun e w' => e = .returned (.tuple #[.string ⟨#[107, 105, 110, 100, 32, 116, 114, 101, 101, 32, 114, 111, 111, 109, 32, 49, 48, 48, 32, 109, 111, 115, 116, 32, 53, 48, 32, 99, 97, 112, 32, 49, 48, 32, 102, 108, 111, 119, 115, 32, 50, 32, 97, 103, 101, 32, 48, 32, 110, 111, 100, 101, 32, 97, 103, 101, 32, 48, 32, 53, 32, 55, 32, 110, 111, 100, 101, 32, 116, 114, 101, 101, 32, 48, 32, 57, 32, 48, 32, 110, 111, 100, 101, 32, 100, 114, 114, 32, 50, 32, 49, 32, 48]⟩, .int .i64 0]) ∧ Below w.heap.size w w' := by
  refine (print_tree 100 50 10 2 0 b 0 3 3 stG w hn h.kn h.pow).mono ?_
  rintro e w' ⟨s, rfl, hb, hs⟩
  rw [hs st_tck, st_tck, st_tree]
  exact ⟨rfl, hb⟩
theorem st_nsl (w : World) (gn : Nat) (hg : gn = w.heap.size) : NSl (w.alloc (.cells #[.int .i64 6, .int .i64 0, .int .i64 0, .int .i64 0, .int .i64 4, .int .i64 0, .int .i64 5, .int .i64 7, .int .i64 6, .int .i64 0, .int .i64 9, .int .i64 0, .int .i64 2, .int .i64 2, .int .i64 1, .int .i64 0] 57)) (some ⟨gn, 0, none⟩) 4 4 stG := by
  subst hg
  refine ⟨Nat.le_refl _, by omega, fun i j hi hj => ?_, .inr ⟨_, _, rfl, fun i j hi hj => ?_⟩⟩
  · match i, j, hi, hj with
    | 0, 0, _, _ => decide
    | 0, 1, _, _ => decide
    | 0, 2, _, _ => decide
    | 0, 3, _, _ => decide
    | 1, 0, _, _ => decide
    | 1, 1, _, _ => decide
    | 1, 2, _, _ => decide
    | 1, 3, _, _ => decide
    | 2, 0, _, _ => decide
    | 2, 1, _, _ => decide
    | 2, 2, _, _ => decide
    | 2, 3, _, _ => decide
    | 3, 0, _, _ => decide
    | 3, 1, _, _ => decide
    | 3, 2, _, _ => decide
    | 3, 3, _, _ => decide
  match i, j, hi, hj with
  | 0, 0, _, _ => simp [stG]
  | 0, 1, _, _ => simp [stG]
  | 0, 2, _, _ => simp [stG]
  | 0, 3, _, _ => simp [stG]
  | 1, 0, _, _ => simp [stG]
  | 1, 1, _, _ => simp [stG]
  | 1, 2, _, _ => simp [stG]
  | 1, 3, _, _ => simp [stG]
  | 2, 0, _, _ => simp [stG]
  | 2, 1, _, _ => simp [stG]
  | 2, 2, _, _ => simp [stG]
  | 2, 3, _, _ => simp [stG]
  | 3, 0, _, _ => simp [stG]
  | 3, 1, _, _ => simp [stG]
  | 3, 2, _, _ => simp [stG]
  | 3, 3, _, _ => simp [stG]
set_option maxHeartbeats 2000000 in
theorem started9_any (w : World) (h : Vs9 w) : Calls Tryz.prog 18 #[] w fun e w' => e = .returned (.bool true) ∧ Below w.heap.size w w' := by
  have HV : Hid _ := h
  clear h
  have sf := fun (w : World) (a : Addr) (x : Nat) => run_store Tryz.prog w a (.float .f64 x) .plain rfl
  go_enter Tryz.func18, Tryz.ntmps18
  go_wp2_with fail
  have S0 : Hid _ := ((ce_start w).box7 (.int .i64 1) (.int .i64 100) (.int .i64 50) (.int .i64 10) (.int .i64 2) (.int .i64 0) (.slice none 0 0) 24 _ rfl).box8 (.int .i64 1) (.int .i64 0) (.int .i64 0) (.int .i64 0) (.int .i64 100) (.float .f64 4602678819172646912) (.int .i64 3) (.int .i64 0) 27 (w.heap.size + 1) (by rw [World.size_alloc])
  refine (st_print _ (HV.out.go S0.out.bel)).mono ?_
  rintro e w1 ⟨rfl, hb1⟩
  obtain ⟨gp, egp⟩ : ∃ g, g = w.heap.size + 1 := ⟨_, rfl⟩
  obtain ⟨gc, egc⟩ : ∃ g, g = w.heap.size := ⟨_, rfl⟩
  rw [← egp, ← egc] at S0
  rw [← egp, ← egc]
  have S1 : Hid _ := S0.out.go hb1
  clear hb1 S0 egp egc
  have x0 := S1.out.cel gc 0 (.int .i64 1)
  have x1 := S1.out.cel gc 1 (.int .i64 100)
  have x2 := S1.out.cel gc 2 (.int .i64 50)
  have x3 := S1.out.cel gc 3 (.int .i64 10)
  have x4 := S1.out.cel gc 4 (.int .i64 2)
  have x5 := S1.out.cel gc 5 (.int .i64 0)
  have x6 := S1.out.cel gc 6 (.slice none 0 0)
  have y0 := S1.out.cel gp 0 (.int .i64 1)
  have y1 := S1.out.cel gp 1 (.int .i64 0)
  have y2 := S1.out.cel gp 2 (.int .i64 0)
  have y3 := S1.out.cel gp 3 (.int .i64 0)
  have y4 := S1.out.cel gp 4 (.int .i64 100)
  have y5 := S1.out.cel gp 5 (.float .f64 4602678819172646912)
  have y6 := S1.out.cel gp 6 (.int .i64 3)
  have y7 := S1.out.cel gp 7 (.int .i64 0)
  go_wp2_with fail
  refine (st_printF _ (HV.out.go S1.out.bel)).mono ?_
  rintro e w2 ⟨rfl, hb2⟩
  have S2 : Hid _ := S1.out.go hb2
  replace x0 := bc_cell hb2 x0
  replace x1 := bc_cell hb2 x1
  replace x2 := bc_cell hb2 x2
  replace x3 := bc_cell hb2 x3
  replace x4 := bc_cell hb2 x4
  replace x5 := bc_cell hb2 x5
  replace x6 := bc_cell hb2 x6
  replace y0 := bc_cell hb2 y0
  replace y1 := bc_cell hb2 y1
  replace y2 := bc_cell hb2 y2
  replace y3 := bc_cell hb2 y3
  replace y4 := bc_cell hb2 y4
  replace y5 := bc_cell hb2 y5
  replace y6 := bc_cell hb2 y6
  replace y7 := bc_cell hb2 y7
  clear hb2 S1
  go_wp2_with fail
  refine (st_parse _ (HV.out.go S2.out.bel)).mono ?_
  rintro e w3 ⟨rfl, hb3⟩
  have S3 : Hid _ := (S2.out.go hb3).box7 (.int .i64 1) (.int .i64 100) (.int .i64 50) (.int .i64 10) (.int .i64 2) (.int .i64 0) (.slice none 0 0) 24 _ rfl
  replace x0 := bc_cell hb3 x0
  replace x1 := bc_cell hb3 x1
  replace x2 := bc_cell hb3 x2
  replace x3 := bc_cell hb3 x3
  replace x4 := bc_cell hb3 x4
  replace x5 := bc_cell hb3 x5
  replace x6 := bc_cell hb3 x6
  have lc := World.block_lt_of_cell? _ _ x0
  clear hb3 S2
  clear y0
  clear y1
  clear y2
  clear y3
  clear y4
  clear y5
  clear y6
  clear y7
  go_wp2_with fail
  refine (st_parseF _ (HV.out.go S3.out.bel)).mono ?_
  rintro e w4 ⟨rfl, hb4⟩
  have S4 : Hid _ := S3.out.go hb4
  obtain ⟨gd, egd⟩ : ∃ g, g = w3.heap.size := ⟨_, rfl⟩
  rw [← egd] at S4
  rw [← egd]
  clear x0
  clear x1
  clear x2
  clear x3
  clear x4
  clear x5
  clear x6
  clear hb4 S3 egd
  have x0 := S4.out.cel gc 0 (.int .i64 1)
  have x1 := S4.out.cel gc 1 (.int .i64 100)
  have x2 := S4.out.cel gc 2 (.int .i64 50)
  have x3 := S4.out.cel gc 3 (.int .i64 10)
  have x4 := S4.out.cel gc 4 (.int .i64 2)
  have x5 := S4.out.cel gc 5 (.int .i64 0)
  have x6 := S4.out.cel gc 6 (.slice none 0 0)
  have lc4 := World.block_lt_of_cell? _ _ x0
  clear lc
  go_wp2_with fail
  have S5 : Hid _ := ((S4.out.box8 (.int .i64 1) (.int .i64 0) (.int .i64 0) (.int .i64 0) (.int .i64 100) (.float .f64 4602678819172646912) (.int .i64 3) (.int .i64 0) 27 _ rfl).go (bc_al (o := .cells #[.int .i64 6, .int .i64 100, .int .i64 50, .int .i64 10, .int .i64 2, .int .i64 0, .slice (some ⟨w4.heap.size + 1 + 1, 0, none⟩) 4 4] 24) (bel_refl _))).go (bc_al (o := .cells #[.int .i64 6, .int .i64 0, .int .i64 0, .int .i64 0, .int .i64 4, .int .i64 0, .int .i64 5, .int .i64 7, .int .i64 6, .int .i64 0, .int .i64 9, .int .i64 0, .int .i64 2, .int .i64 2, .int .i64 1, .int .i64 0] 57) (bel_refl _))
  refine (st_printT _ (w4.heap.size + 1 + 1) (HV.out.go S5.out.bel) (st_nsl _ _ (by rw [World.size_alloc, World.size_alloc]))).mono ?_
  rintro e w6 ⟨rfl, hb6⟩
  have S6 : Hid _ := S5.out.go hb6
  obtain ⟨gq, egq⟩ : ∃ g, g = w4.heap.size := ⟨_, rfl⟩
  rw [← egq] at S6
  rw [← egq]
  clear x0
  clear x1
  clear x2
  clear x3
  clear x4
  clear x5
  clear x6
  clear hb6 S5 S4 egq lc4
  go_wp2_with fail
  refine (check_any 0 0 0 0 0 0 none 0 0 (fun _ _ => 0) _ (nsl_nil _)).mono ?_
  rintro e w7 ⟨rfl, hb7⟩
  rw [st_zero]
  have S7 : Hid _ := S6.out.go hb7
  clear hb7 S6
  go_wp2_with fail
  refine (num9_any 90 _).mono ?_
  rintro e w8 ⟨rfl, rfl⟩
  have x0 := S7.out.cel gc 0 (.int .i64 1)
  have x1 := S7.out.cel gc 1 (.int .i64 100)
  have x2 := S7.out.cel gc 2 (.int .i64 50)
  have x3 := S7.out.cel gc 3 (.int .i64 10)
  have x4 := S7.out.cel gc 4 (.int .i64 2)
  have x5 := S7.out.cel gc 5 (.int .i64 0)
  have x6 := S7.out.cel gc 6 (.slice none 0 0)
  go_wp2_with fail
  refine (checkFlow_any 1 100 50 10 2 0 none 0 0 (fun _ _ => 0) 0 0 0 0 0 0 0 0 _ (nsl_nil _)).mono ?_
  rintro e w9 ⟨rfl, hb9⟩
  rw [st_none]
  have S9 : Hid _ := S7.out.go hb9
  clear x0
  clear x1
  clear x2
  clear x3
  clear x4
  clear x5
  clear x6
  clear hb9 S7
  go_wp2_with fail
  refine (num9_any 93 _).mono ?_
  rintro e w10 ⟨rfl, rfl⟩
  go_wp2_with fail
  refine (num9_any 0 _).mono ?_
  rintro e w11 ⟨rfl, rfl⟩
  go_wp2_with fail
  refine (num9_any 0 _).mono ?_
  rintro e w12 ⟨rfl, rfl⟩
  go_wp2_with fail
  refine (num9_any 0 _).mono ?_
  rintro e w13 ⟨rfl, rfl⟩
  go_wp2_with fail
  refine (num9_any 0 _).mono ?_
  rintro e w14 ⟨rfl, rfl⟩
  go_wp2_with fail
  refine (num9_any 0 _).mono ?_
  rintro e w15 ⟨rfl, rfl⟩
  have x0 := S9.out.cel gc 0 (.int .i64 1)
  have x1 := S9.out.cel gc 1 (.int .i64 100)
  have x2 := S9.out.cel gc 2 (.int .i64 50)
  have x3 := S9.out.cel gc 3 (.int .i64 10)
  have x4 := S9.out.cel gc 4 (.int .i64 2)
  have x5 := S9.out.cel gc 5 (.int .i64 0)
  have x6 := S9.out.cel gc 6 (.slice none 0 0)
  have y0 := S9.out.cel gd 0 (.int .i64 1)
  have y1 := S9.out.cel gd 1 (.int .i64 100)
  have y2 := S9.out.cel gd 2 (.int .i64 50)
  have y3 := S9.out.cel gd 3 (.int .i64 10)
  have y4 := S9.out.cel gd 4 (.int .i64 2)
  have y5 := S9.out.cel gd 5 (.int .i64 0)
  have y6 := S9.out.cel gd 6 (.slice none 0 0)
  go_wp2_with fail
  refine (same_flat _).mono ?_
  rintro e w20 ⟨rfl, hb20⟩
  have S20 : Hid _ := S9.out.go hb20
  clear x0 y0
  clear x1 y1
  clear x2 y2
  clear x3 y3
  clear x4 y4
  clear x5 y5
  clear x6 y6
  clear hb20 S9
  have x0 := S20.out.cel gq 0 (.int .i64 1)
  have x1 := S20.out.cel gq 1 (.int .i64 0)
  have x2 := S20.out.cel gq 2 (.int .i64 0)
  have x3 := S20.out.cel gq 3 (.int .i64 0)
  have x4 := S20.out.cel gq 4 (.int .i64 100)
  have x5 := S20.out.cel gq 5 (.float .f64 4602678819172646912)
  have x6 := S20.out.cel gq 6 (.int .i64 3)
  have x7 := S20.out.cel gq 7 (.int .i64 0)
  have y0 := S20.out.cel gp 0 (.int .i64 1)
  have y1 := S20.out.cel gp 1 (.int .i64 0)
  have y2 := S20.out.cel gp 2 (.int .i64 0)
  have y3 := S20.out.cel gp 3 (.int .i64 0)
  have y4 := S20.out.cel gp 4 (.int .i64 100)
  have y5 := S20.out.cel gp 5 (.float .f64 4602678819172646912)
  have y6 := S20.out.cel gp 6 (.int .i64 3)
  have y7 := S20.out.cel gp 7 (.int .i64 0)
  have eqp : ∀ w, (binOp .eql 27 (.agg #[.int .i64 1, .int .i64 0, .int .i64 0, .int .i64 0, .int .i64 100, .float .f64 4602678819172646912, .int .i64 3, .int .i64 0]) (.agg #[.int .i64 1, .int .i64 0, .int .i64 0, .int .i64 0, .int .i64 100, .float .f64 4602678819172646912, .int .i64 3, .int .i64 0])).run Tryz.prog w = .ok (.bool true) w := fun _ => by kernel_rfl
  go_wp2_with fail
  go_ret
  exact ⟨rfl, S20.out.bel⟩
theorem flowE_zero {K R M C Fl A : Int} {G : Nat → Nat → Int} {n : Nat} {pw pq pc ps pb : Int} {pr : Nat} {pp pn : Int} (h : flowE K R M C Fl A G n pw pq pc ps pb pr pp pn = 0) : checkE K R M C Fl A G n = 0 ∧ okAt K G n pn = true ∧ (1 ≤ pw ∧ pw ≤ C) ∧ (fQ0 (kAt K G n pn) ≤ pq ∧ pq ≤ fQ1 (kAt K G n pn)) ∧ (0 ≤ pc ∧ pc ≤ fC1 (kAt K G n pn)) ∧ (0 ≤ ps ∧ ps ≤ fS1 (kAt K G n pn)) ∧ (1 ≤ pb ∧ pb ≤ 1099511627776) ∧ hldF 0 4697254411347427328 pr = true ∧ (1 ≤ pp ∧ pp ≤ 1073741824) := by
  unfold flowE at h
  split at h
  · exact absurd h (by assumption)
  rename_i hc
  have hc : checkE K R M C Fl A G n = 0 := by simpa using hc
  unfold flowE1 at h
  split at h
  · omega
  split at h
  · omega
  split at h
  · omega
  split at h
  · omega
  split at h
  · omega
  split at h
  · omega
  split at h
  · omega
  split at h
  · omega
  rename_i h1 h2 h3 h4 h5 h6 h7 h8
  exact ⟨hc, by simpa using h1, hld_yes (by simpa using h2), hld_yes (by simpa using h3), hld_yes (by simpa using h4), hld_yes (by simpa using h5), hld_yes (by simpa using h6), by simpa using h7, hld_yes (by simpa using h8)⟩
def lvs (G : Nat → Nat → Int) : Nat → Nat
  | 0 => 0
  | i + 1 => lvs G i + (if i = 0 then 0 else if G i 0 = 6 then 0 else 1)
theorem lvs_leaf {G : Nat → Nat → Int} {i : Nat} (hi : 1 ≤ i) (h : G i 0 ≠ 6) : lvs G (i + 1) = lvs G i + 1 := by rw [lvs, if_neg (by omega), if_neg h]
structure Tre (G : Nat → Nat → Int) (n : Nat) : Prop where
  lo : 1 ≤ n
  hi : n ≤ 32
  par : ∀ i, 1 ≤ i → i < n → ∃ x : Nat, G i 1 = (x : Int) ∧ x < i ∧ G x 0 = 6
  kind : ∀ i, i < n → 1 ≤ G i 0 ∧ G i 0 ≤ 6
  leaf : 0 < lvs G n
theorem cntP_none {G : Nat → Nat → Int} {j : Nat} : ∀ k, (∀ i, 1 ≤ i → i ≤ k → G i 1 ≠ (j : Int)) → cntP G k j = 0 := by
  intro k
  induction k with
  | zero => intro _; rfl
  | succ k ih =>
    intro h
    rw [cntP, ih fun i h1 h2 => h i h1 (by omega), if_neg (h (k + 1) (by omega) (Nat.le_refl _))]
theorem tre_of {G : Nat → Nat → Int} {n : Nat} (h : nodesE G n = 0) : Tre G n := by
  unfold nodesE at h
  split at h
  · omega
  split at h
  · omega
  split at h
  · omega
  rename_i h1 h2 h3
  have q1 := hld_yes (show hld 1 32 (n : Int) = true by simpa using h1)
  have q2 : firstE G n = 0 := by simpa using h2
  have q3 : kids G n = true := by simpa using h3
  have hz := firstE_none q2
  have par : ∀ i, 1 ≤ i → i < n → ∃ x : Nat, G i 1 = (x : Int) ∧ x < i ∧ G x 0 = 6 := fun i hi hn => by
    have q := (nodeE_other (by omega) (hz i hn)).2.2.1
    have q5 := kO_in (show kO G i (G i 1) ≠ 0 by omega)
    refine ⟨(G i 1).toNat, by omega, by omega, ?_⟩
    unfold kO at q
    rw [if_pos q5] at q
    exact q
  have root := nodeE_root (hz 0 (by omega))
  have kind : ∀ i, i < n → 1 ≤ G i 0 ∧ G i 0 ≤ 6 := fun i hi => by
    by_cases e : i = 0
    · rw [e]; omega
    have q := nodeE_other e (hz i hi)
    exact ⟨q.1, q.2.1⟩
  refine ⟨by omega, by omega, par, kind, ?_⟩
  obtain ⟨m, rfl⟩ : ∃ m, n = m + 1 := ⟨n - 1, by omega⟩
  unfold kids at q3
  have q4 := of_decide_eq_true q3
  have lf : G m 0 ≠ 6 := fun e => by
    have q5 := q4 m (by omega) e
    rw [Nat.add_sub_cancel, cntP_none m (fun i h1 h2 hx => by
      obtain ⟨x, e1, e2, _⟩ := par i h1 (by omega)
      omega)] at q5
    omega
  have m0 : m ≠ 0 := fun e => by rw [e] at lf; omega
  rw [lvs_leaf (by omega) lf]
  omega
def confT (K R M C Fl A : Int) (G : Nat → Nat → Int) (n : Nat) : List ByteArray := headT K R M C Fl A ++ (if K = 6 then nodesT G (n - 1) else [])
def confS (K R M C Fl A : Int) (G : Nat → Nat → Int) (n : Nat) : ByteArray := ⟨(Lib.join ((confT K R M C Fl A G n).map (·.data.toList)) [32]).toArray⟩
theorem lens21 (L : List ByteArray) (h : ∀ x ∈ L, x.size ≤ 21) : Lib.lens (L.map (·.data.toList)) ≤ 21 * L.length := by
  induction L with
  | nil => simp [Lib.lens]
  | cons x l ih =>
    have h1 := ih fun y hy => h y (List.mem_cons_of_mem _ hy)
    have h2 := h x List.mem_cons_self
    have h3 : x.data.toList.length = x.size := by rw [Array.length_toList]; rfl
    simp only [Lib.lens, List.map_cons, List.sum_cons, List.length_cons] at h1 ⊢
    omega
theorem join21 (L : List ByteArray) (h : ∀ x ∈ L, x.size ≤ 21) : (Lib.join (L.map (·.data.toList)) [32]).length ≤ 22 * L.length := by
  cases L with
  | nil => simp [Lib.join]
  | cons x l =>
    have h1 := lens21 (x :: l) h
    rw [List.map_cons] at h1 ⊢
    rw [Lib.join_length]
    simp only [List.length_map, List.length_cons] at *
    simp
    omega
theorem it21 (x : Int) (h : In64p x) : (itT x).size ≤ 21 := by
  have := Lib.itoa_length_le x h.1 h.2
  show (Lib.itoa x).toArray.size ≤ 21
  simp
  omega
theorem kd21 (i : Nat) : (kindT i).size ≤ 21 := by
  unfold kindT
  split <;> decide
theorem head21 (k : Nat) (R M C Fl A : Int) (hR : In64p R) (hM : In64p M) (hC : In64p C) (hF : In64p Fl) (hA : In64p A) : ∀ x ∈ headT (k : Int) R M C Fl A, x.size ≤ 21 := by
  rw [head_list]
  intro x hx
  simp only [List.mem_cons, List.not_mem_nil, or_false] at hx
  rcases hx with rfl | rfl | rfl | rfl | rfl | rfl | rfl | rfl | rfl | rfl | rfl | rfl
  · decide
  · exact kd21 _
  · decide
  · exact it21 _ hR
  · decide
  · exact it21 _ hM
  · decide
  · exact it21 _ hC
  · decide
  · exact it21 _ hF
  · decide
  exact it21 _ hA
def dst (a b : Nat) : Nat := (a - b) + (b - a)
theorem rd_zero : Ieee.double.read 0 = .number false 0 (-1074) := by decide +kernel
theorem rd_top : Ieee.double.read 4697254411347427328 = .number false 4503599627370496 (-32) := by decide +kernel
theorem fle_not {x y : Nat} (h : fle x y = true) : (Ieee.double.read x).order (Ieee.double.read y) = some .lt ∨ (Ieee.double.read x).order (Ieee.double.read y) = some .eq := by
  unfold fle at h
  rw [Bool.or_eq_true] at h
  rcases h with h | h
  · exact .inl (beq_iff_eq.1 h)
  exact .inr (beq_iff_eq.1 h)
theorem rd_word (u : Nat) : Ieee.double.read u = if u % 9223372036854775808 < 4503599627370496 then .number (u / 9223372036854775808 % 2 == 1) (u % 9223372036854775808) (-1074) else if u % 9223372036854775808 < 9218868437227405312 then .number (u / 9223372036854775808 % 2 == 1) (4503599627370496 + u % 9223372036854775808 % 4503599627370496) (-1074 + (u % 9223372036854775808 / 4503599627370496 - 1 : Nat)) else if u % 9223372036854775808 = 9218868437227405312 then .infinity (u / 9223372036854775808 % 2 == 1) else .nan (u / 9223372036854775808 % 2 == 1) (u % 9223372036854775808 - 9218868437227405312) := rfl
theorem cmp_no {a b : Int} (h : b < a) : ¬ (some (compare a b) = some Ordering.lt ∨ some (compare a b) = some Ordering.eq) := by
  rintro (q | q)
  · have := Int.compare_eq_lt.1 (Option.some.inj q)
    omega
  have := Int.compare_eq_eq.1 (Option.some.inj q)
  omega
theorem rate_bits {u : Nat} (hu : u < 18446744073709551616) (h : hldF 0 4697254411347427328 u = true) : u ≤ 4697254411347427328 ∨ u = 9223372036854775808 := by
  unfold hldF at h
  rw [Bool.and_eq_true] at h
  have h1 := fle_not h.1
  have h2 := fle_not h.2
  rw [rd_zero] at h1
  rw [rd_top] at h2
  by_cases c : u < 9223372036854775808
  · refine .inl ?_
    rcases Nat.lt_or_ge 4697254411347427328 u with q | q
    · exfalso
      have e1 : u % 9223372036854775808 = u := Nat.mod_eq_of_lt c
      have e2 : (u / 9223372036854775808 % 2 == 1) = false := by rw [Nat.div_eq_of_lt c]; rfl
      rw [rd_word, e1, e2, if_neg (by omega)] at h2
      split at h2
      · unfold Ieee.Datum.order at h2
        dsimp only at h2
        obtain ⟨e, he⟩ : ∃ e, u / 4503599627370496 = 1043 + e := ⟨u / 4503599627370496 - 1043, by omega⟩
        have e3 : min (-1074 + ((u / 4503599627370496 - 1 : Nat) : Int)) (-32) = -32 := by omega
        rw [e3] at h2
        refine cmp_no ?_ h2
        have e4 : (-1074 + ((u / 4503599627370496 - 1 : Nat) : Int) - -32).toNat = e := by omega
        have e5 : ((-32 : Int) - -32).toNat = 0 := by decide
        rw [e4, e5]
        show ((4503599627370496 <<< 0 : Nat) : Int) < (((4503599627370496 + u % 4503599627370496) <<< e : Nat) : Int)
        rw [Nat.shiftLeft_eq, Nat.shiftLeft_eq]
        have e6 : 1 ≤ 2 ^ e := Nat.one_le_two_pow
        rcases Nat.eq_zero_or_pos e with z | z
        · subst z
          have : 0 < u % 4503599627370496 := by omega
          simp
          omega
        have e7 : 2 ≤ 2 ^ e := by
          obtain ⟨d, rfl⟩ : ∃ d, e = d + 1 := ⟨e - 1, by omega⟩
          have := @Nat.one_le_two_pow d
          rw [Nat.pow_succ]
          omega
        have e8 : 4503599627370496 * 2 ≤ (4503599627370496 + u % 4503599627370496) * 2 ^ e := Nat.mul_le_mul (by omega) e7
        simp only [Nat.pow_zero, Nat.mul_one]
        omega
      split at h2
      · unfold Ieee.Datum.order at h2
        rcases h2 with z | z <;> simp at z
      unfold Ieee.Datum.order at h2
      rcases h2 with z | z <;> simp at z
    exact q
  refine .inr ?_
  have e2 : (u / 9223372036854775808 % 2 == 1) = true := by
    have : u / 9223372036854775808 = 1 := by omega
    rw [this]
    rfl
  obtain ⟨r, hr⟩ : ∃ r, u % 9223372036854775808 = r := ⟨_, rfl⟩
  have er : u = 9223372036854775808 + r := by omega
  rw [rd_word, hr, e2] at h1
  rcases Nat.eq_zero_or_pos r with z | z
  · omega
  exfalso
  split at h1
  · unfold Ieee.Datum.order at h1
    dsimp only at h1
    refine cmp_no ?_ h1
    show (-(r <<< _ : Nat) : Int) < ((0 <<< _ : Nat) : Int)
    rw [Nat.shiftLeft_eq, Nat.shiftLeft_eq, Nat.zero_mul]
    have : 0 < r * 2 ^ (-1074 - min (-1074 : Int) (-1074)).toNat := Nat.mul_pos z (Nat.two_pow_pos _)
    omega
  split at h1
  · unfold Ieee.Datum.order at h1
    dsimp only at h1
    refine cmp_no ?_ h1
    obtain ⟨m, hm⟩ : ∃ m, 4503599627370496 + r % 4503599627370496 = m := ⟨_, rfl⟩
    rw [hm]
    obtain ⟨t, ht⟩ : ∃ t, (-1074 + ((r / 4503599627370496 - 1 : Nat) : Int) - min (-1074) (-1074 + ((r / 4503599627370496 - 1 : Nat) : Int))).toNat = t := ⟨_, rfl⟩
    rw [ht]
    show (-(m <<< t : Nat) : Int) < ((0 <<< _ : Nat) : Int)
    rw [Nat.shiftLeft_eq, Nat.shiftLeft_eq, Nat.zero_mul]
    have : 0 < m * 2 ^ t := Nat.mul_pos (by omega) (Nat.two_pow_pos _)
    omega
  split at h1
  · unfold Ieee.Datum.order at h1
    rcases h1 with z | z <;> simp at z
  unfold Ieee.Datum.order at h1
  rcases h1 with z | z <;> simp at z
theorem dl_le {x k m : Nat} (h : DecLen x k) (hx : x < 10 ^ m) (hm : 1 ≤ m) : k ≤ m := by
  obtain ⟨h1, h2, h3⟩ := h
  rcases h3 with h3 | h3
  · omega
  rcases Nat.lt_or_ge m k with q | q
  · have : 10 ^ m ≤ 10 ^ (k - 1) := Nat.pow_le_pow_right (by omega) (by omega)
    omega
  exact q
theorem pow_sub_le (N a : Nat) : 2 ^ (N - a) ≤ 2 ^ N := Nat.pow_le_pow_right (by decide) (Nat.sub_le _ _)
theorem p2_53 : 9007199254740992 < 10 ^ 16 := by decide
theorem p2_1074 : 2 ^ 1074 < 10 ^ 324 := by decide +kernel
theorem rate_parts {u : Nat} (h : u ≤ 4697254411347427328 ∨ u = 9223372036854775808) : ffP u < 10 ^ 16 ∧ ffQ u < 10 ^ 324 := by
  rcases h with h | h
  · have h2 : u < 9218868437227405312 := by omega
    rw [(ff_yes h2).1, (ff_yes h2).2]
    have e0 : fe u - 1074 = 0 := by unfold fe; omega
    have em : fm u < 9007199254740992 := by unfold fm; split <;> omega
    constructor
    · refine Nat.lt_of_le_of_lt (Nat.div_le_self _ _) (Nat.lt_of_lt_of_le ?_ (Nat.le_of_lt p2_53))
      unfold fN
      rw [e0]
      omega
    refine Nat.lt_of_le_of_lt (Nat.div_le_self _ _) (Nat.lt_of_le_of_lt ?_ p2_1074)
    unfold fD
    exact pow_sub_le 1074 _
  subst h
  rw [ff_zero.1, ff_zero.2]
  exact ⟨by decide, by decide +kernel⟩
theorem rate_fmt {u k l : Nat} (h : u ≤ 4697254411347427328 ∨ u = 9223372036854775808) (hk : DecLen (ffP u) k) (hl : DecLen (ffQ u) l) : (fmtT (ffP u) (ffQ u) k l).size ≤ 400 := by
  have h1 := dl_le hk (rate_parts h).1 (by omega)
  have h2 := dl_le hl (rate_parts h).2 (by omega)
  unfold fmtT
  split
  · rw [text_size]; omega
  rw [ByteArray.size_append, ByteArray.size_append, text_size, text_size, show (⟨#[47]⟩ : ByteArray).size = 1 from rfl]
  omega
theorem flow_list (pw pq pc ps pb pp pn : Int) (T : ByteArray) : flowT pw pq pc ps pb pp pn T = [⟨#[119, 101, 105, 103, 104, 116]⟩, itT pw, ⟨#[113, 117, 97, 110, 116, 117, 109]⟩, itT pq, ⟨#[99, 108, 97, 115, 115]⟩, itT pc, ⟨#[115, 112, 97, 110]⟩, itT ps, ⟨#[98, 117, 114, 115, 116]⟩, itT pb, ⟨#[114, 97, 116, 101]⟩, T, ⟨#[112, 101, 114]⟩, itT pp, ⟨#[110, 111, 100, 101]⟩, itT pn] := by
  rw [flowT, flowN_words]
  rfl
end Go.Proofs.YtchomkadekikdaaGreatDoor
