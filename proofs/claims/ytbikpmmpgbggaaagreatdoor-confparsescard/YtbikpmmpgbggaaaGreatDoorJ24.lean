/- Contracts of the program's functions, part 24: own work, joined in build order. -/
import Derived.Test.YtbikpmmpgbggaaaGreatDoorJ23
import Derived.Laws.Cover1
import Derived.BigQuiet
import Derived.Laws.FloatArith
namespace Go.Proofs.YtbikpmmpgbggaaaGreatDoor
open Go.RowKit
set_option maxRecDepth 100000
set_option linter.unusedVariables false
set_option maxHeartbeats 16000000
structure Vs9 (w:World):Prop where
 kn:KN w
 ev:EV w
 tab:Tab w
 pow:Lib.TabIs Tryz.prog w "internal/strconv.uint64pow10" .u64 Lib.pow10Tab
theorem Vs9.go{w W:World}(h:Vs9 w)(hB:Below w.heap.size w W):Vs9 W:=⟨h.kn.go hB,h.ev.go hB,Tab.go h.tab hB,Lib.tabBelow_of_tabIs h.pow W hB⟩
theorem Up(w:World)(h:Vs9 w):Calls Tryz.prog 32 #[.agg #[.int .i64 1,.int .i64 100,.int .i64 50,.int .i64 10,.int .i64 2,.int .i64 0,.slice none 0 0]] w fun e w'=>e=.returned (.tuple #[.string ⟨#[107,105,110,100,32,119,102,113,32,114,111,111,109,32,49,48,48,32,109,111,115,116,32,53,48,32,99,97,112,32,49,48,32,102,108,111,119,115,32,50,32,97,103,101,32,48]⟩,.int .i64 0])∧Below w.heap.size w w':=by
 refine(Qh 1 100 50 10 2 0 none 0 0 (fun _ _=>0) w (FN w) h.kn h.pow (by decide)).mono ?_;rintro e w' ⟨s,rfl,hb,hs⟩;rw[hs Qq,Qq,WQ];exact⟨rfl,hb⟩
theorem VQ(i:Nat)(h:i<5): -9223372036854775808≤Dy 1 0 0 0 100 i∧Dy 1 0 0 0 100 i≤9223372036854775807:=by
 match i,h with
 |0,_=>decide
 |1,_=>decide
 |2,_=>decide
 |3,_=>decide
 |4,_=>decide
theorem WT(i:Nat)(h:i<2): -9223372036854775808≤F7 3 0 i∧F7 3 0 i≤9223372036854775807:=by
 match i,h with
 |0,_=>decide
 |1,_=>decide
theorem Su(w:World)(h:Vs9 w):Calls Tryz.prog 33 #[.agg #[.int .i64 1,.int .i64 100,.int .i64 50,.int .i64 10,.int .i64 2,.int .i64 0,.slice none 0 0],.agg #[.int .i64 1,.int .i64 0,.int .i64 0,.int .i64 0,.int .i64 100,.float .f64 4602678819172646912,.int .i64 3,.int .i64 0]] w fun e w'=>e=.returned (.tuple #[.string ⟨#[119,101,105,103,104,116,32,49,32,113,117,97,110,116,117,109,32,48,32,99,108,97,115,115,32,48,32,115,112,97,110,32,48,32,98,117,114,115,116,32,49,48,48,32,114,97,116,101,32,49,47,50,32,112,101,114,32,51,32,110,111,100,101,32,48]⟩,.int .i64 0])∧Below w.heap.size w w':=by
 refine(Ly 1 100 50 10 2 0 none 0 0 (fun _ _=>0) 1 0 0 0 100 4602678819172646912 3 0 1 2 1 1 w (FN w) Xt h.tab h.pow (by decide) U5.1 U5.2 (CR (by omega)) (CR (by omega)) ⟨by decide,by decide,.inl rfl⟩ ⟨by decide,by decide,.inl rfl⟩ WS VQ WT).mono ?_;rintro e w' ⟨rfl,hb⟩;rw[WR];exact⟨rfl,hb⟩
theorem Uq(w:World)(h:Vs9 w):Calls Tryz.prog 4 #[.string ⟨#[107,105,110,100,32,32,119,102,113,32,109,111,115,116,32,53,48,32,114,111,111,109,32,49,48,48,32,102,108,111,119,115,32,50,32,99,97,112,32,49,48,32,97,103,101,32,48,32]⟩] w fun e w'=>e=.returned (.tuple #[.agg #[.int .i64 1,.int .i64 100,.int .i64 50,.int .i64 10,.int .i64 2,.int .i64 0,.slice none 0 0],.int .i64 0])∧Below w.heap.size w w':=by
 obtain⟨k0,k1,k2,k3,k4,k5,k6⟩:=VM;exact Qn ⟨#[107,105,110,100,32,32,119,102,113,32,109,111,115,116,32,53,48,32,114,111,111,109,32,49,48,48,32,102,108,111,119,115,32,50,32,99,97,112,32,49,48,32,97,103,101,32,48,32]⟩ 1 100 50 10 2 0 w (by decide) h.ev h.kn (by decide) k0 k1 k2 k3 k4 k5 k6 Qq
theorem Sv(w:World)(b:Nat)(h:Vs9 w)(hn:NSl w (some ⟨b,0,none⟩) 4 4 stG):Calls Tryz.prog 32 #[.agg #[.int .i64 6,.int .i64 100,.int .i64 50,.int .i64 10,.int .i64 2,.int .i64 0,.slice (some ⟨b,0,none⟩) 4 4]] w fun e w'=>e=.returned (.tuple #[.string ⟨#[107,105,110,100,32,116,114,101,101,32,114,111,111,109,32,49,48,48,32,109,111,115,116,32,53,48,32,99,97,112,32,49,48,32,102,108,111,119,115,32,50,32,97,103,101,32,48,32,110,111,100,101,32,97,103,101,32,48,32,53,32,55,32,110,111,100,101,32,116,114,101,101,32,48,32,57,32,48,32,110,111,100,101,32,100,114,114,32,50,32,49,32,48]⟩,.int .i64 0])∧Below w.heap.size w w':=by
 refine(Qp 100 50 10 2 0 b 0 3 3 stG w hn h.kn h.pow).mono ?_;rintro e w' ⟨s,rfl,hb,hs⟩;rw[hs Ss,Ss,VN];exact⟨rfl,hb⟩
theorem WU(w:World)(gn:Nat)(hg:gn=w.heap.size):NSl (w.alloc (.cells #[.int .i64 6,.int .i64 0,.int .i64 0,.int .i64 0,.int .i64 4,.int .i64 0,.int .i64 5,.int .i64 7,.int .i64 6,.int .i64 0,.int .i64 9,.int .i64 0,.int .i64 2,.int .i64 2,.int .i64 1,.int .i64 0] 78)) (some ⟨gn,0,none⟩) 4 4 stG:=by
 subst hg;refine⟨Nat.le_refl _,by omega,fun i j hi hj=> ?_,.inr ⟨_,_,rfl,fun i j hi hj=> ?_⟩⟩
 ·match i,j,hi,hj with
  |0,0,_,_=>decide
  |0,1,_,_=>decide
  |0,2,_,_=>decide
  |0,3,_,_=>decide
  |1,0,_,_=>decide
  |1,1,_,_=>decide
  |1,2,_,_=>decide
  |1,3,_,_=>decide
  |2,0,_,_=>decide
  |2,1,_,_=>decide
  |2,2,_,_=>decide
  |2,3,_,_=>decide
  |3,0,_,_=>decide
  |3,1,_,_=>decide
  |3,2,_,_=>decide
  |3,3,_,_=>decide
 match i,j,hi,hj with
 |0,0,_,_=>simp[stG]
 |0,1,_,_=>simp[stG]
 |0,2,_,_=>simp[stG]
 |0,3,_,_=>simp[stG]
 |1,0,_,_=>simp[stG]
 |1,1,_,_=>simp[stG]
 |1,2,_,_=>simp[stG]
 |1,3,_,_=>simp[stG]
 |2,0,_,_=>simp[stG]
 |2,1,_,_=>simp[stG]
 |2,2,_,_=>simp[stG]
 |2,3,_,_=>simp[stG]
 |3,0,_,_=>simp[stG]
 |3,1,_,_=>simp[stG]
 |3,2,_,_=>simp[stG]
 |3,3,_,_=>simp[stG]
def dst(a b:Nat):Nat:=(a-b)+(b-a)
theorem VR:Ieee.double.read 0=.number false 0 (-1074):=by decide+kernel
theorem WV:Ieee.double.read 4697254411347427328=.number false 4503599627370496 (-32):=by decide+kernel
theorem Pp{x y:Nat}(h:fle x y=true):(Ieee.double.read x).order (Ieee.double.read y)=some .lt∨(Ieee.double.read x).order (Ieee.double.read y)=some .eq:=by
 unfold fle at h;rw[Bool.or_eq_true]at h;rcases h with h|h
 ·exact .inl (beq_iff_eq.1 h)
 exact .inr (beq_iff_eq.1 h)
theorem Pq(u:Nat):Ieee.double.read u=if u%9223372036854775808<4503599627370496 then .number (u/9223372036854775808%2==1) (u%9223372036854775808) (-1074) else if u%9223372036854775808<9218868437227405312 then .number (u/9223372036854775808%2==1) (4503599627370496+u%9223372036854775808%4503599627370496) (-1074+(u%9223372036854775808/4503599627370496-1:Nat)) else if u%9223372036854775808=9218868437227405312 then .infinity (u/9223372036854775808%2==1) else .nan (u/9223372036854775808%2==1) (u%9223372036854775808-9218868437227405312):=rfl
theorem Nx{a b:Int}(h:b<a): ¬(some (compare a b)=some Ordering.lt∨some (compare a b)=some Ordering.eq):=by
 rintro(q|q)
 ·have:=Int.compare_eq_lt.1 (Option.some.inj q);omega
 have:=Int.compare_eq_eq.1 (Option.some.inj q);omega
theorem Sw{u:Nat}(hu:u<18446744073709551616)(h:Da 0 4697254411347427328 u=true):u≤4697254411347427328∨u=9223372036854775808:=by
 unfold Da at h;rw[Bool.and_eq_true]at h;have h1:=Pp h.1;have h2:=Pp h.2;rw[VR]at h1;rw[WV]at h2;by_cases c:u<9223372036854775808
 ·refine .inl ?_;rcases Nat.lt_or_ge 4697254411347427328 u with q|q
  ·exfalso;have e1:u%9223372036854775808=u:=Nat.mod_eq_of_lt c;have e2:(u/9223372036854775808%2==1)=false:=by rw[Nat.div_eq_of_lt c];rfl
   rw[Pq,e1,e2,if_neg (by omega)]at h2;split at h2
   ·unfold Ieee.Datum.order at h2;dsimp only at h2;obtain⟨e,he⟩: ∃e,u/4503599627370496=1043+e:=⟨u/4503599627370496-1043,by omega⟩;have e3:min (-1074+((u/4503599627370496-1:Nat):Int)) (-32)= -32:=by omega
    rw[e3]at h2;refine Nx ?_ h2;have e4:(-1074+((u/4503599627370496-1:Nat):Int)- -32).toNat=e:=by omega
    have e5:((-32:Int)- -32).toNat=0:=by decide
    rw[e4,e5];show((4503599627370496 <<< 0:Nat):Int)<(((4503599627370496+u%4503599627370496) <<< e:Nat):Int);rw[Nat.shiftLeft_eq,Nat.shiftLeft_eq];have e6:1≤2^e:=Nat.one_le_two_pow;rcases Nat.eq_zero_or_pos e with z|z
    ·subst z;have:0<u%4503599627370496:=by omega
     simp;omega
    have e7:2≤2^e:=by
     obtain⟨d,rfl⟩: ∃d,e=d+1:=⟨e-1,by omega⟩;have:= @Nat.one_le_two_pow d;rw[Nat.pow_succ];omega
    have e8:4503599627370496*2≤(4503599627370496+u%4503599627370496)*2^e:=Nat.mul_le_mul (by omega) e7;simp only[Nat.pow_zero,Nat.mul_one];omega
   split at h2
   ·unfold Ieee.Datum.order at h2;rcases h2 with z|z<;>simp at z
   unfold Ieee.Datum.order at h2;rcases h2 with z|z<;>simp at z
  exact q
 refine .inr ?_;have e2:(u/9223372036854775808%2==1)=true:=by
  have:u/9223372036854775808=1:=by omega
  rw[this];rfl
 obtain⟨r,hr⟩:=nmd (u%9223372036854775808);have er:u=9223372036854775808+r:=by omega
 rw[Pq,hr,e2]at h1;rcases Nat.eq_zero_or_pos r with z|z
 ·omega
 exfalso;split at h1
 ·unfold Ieee.Datum.order at h1;dsimp only at h1;refine Nx ?_ h1;show(-(r <<< _:Nat):Int)<((0 <<< _:Nat):Int);rw[Nat.shiftLeft_eq,Nat.shiftLeft_eq,Nat.zero_mul];have:0<r*2^(-1074-min (-1074:Int) (-1074)).toNat:=Nat.mul_pos z (Nat.two_pow_pos _);omega
 split at h1
 ·unfold Ieee.Datum.order at h1;dsimp only at h1;refine Nx ?_ h1;obtain⟨m,hm⟩: ∃m,4503599627370496+r%4503599627370496=m:=⟨_,rfl⟩;rw[hm];obtain⟨t,ht⟩:=nmd ((-1074+((r/4503599627370496-1:Nat):Int)-min (-1074) (-1074+((r/4503599627370496-1:Nat):Int))).toNat);rw[ht];show(-(m <<< t:Nat):Int)<((0 <<< _:Nat):Int);rw[Nat.shiftLeft_eq,Nat.shiftLeft_eq,Nat.zero_mul];have:0<m*2^t:=Nat.mul_pos (by omega) (Nat.two_pow_pos _);omega
 split at h1
 ·unfold Ieee.Datum.order at h1;rcases h1 with z|z<;>simp at z
 unfold Ieee.Datum.order at h1;rcases h1 with z|z<;>simp at z
def Xu(K R M C Fl A:Int)(n:Nat)(G:Nat→Nat→Int)(K2 R2 M2 C2 Fl2 A2:Int)(n2:Nat)(G2:Nat→Nat→Int):Prop:=K=K2∧R=R2∧M=M2∧C=C2∧Fl=Fl2∧A=A2∧n=n2∧ ∀i j,i<n→j<4→G i j=G2 i j
open Classical in
theorem Ur(K R M C Fl A:Int)(a:Option Addr)(n cap:Nat)(G:Nat→Nat→Int)(K2 R2 M2 C2 Fl2 A2:Int)(a2:Option Addr)(n2 cap2:Nat)(G2:Nat→Nat→Int)(B:Bool)(w:World)(h:NSl w a n cap G)(h2:NSl w a2 n2 cap2 G2)(hB:decide (Xu K R M C Fl A n G K2 R2 M2 C2 Fl2 A2 n2 G2)=B):
  Calls Tryz.prog 8 #[.agg #[.int .i64 K,.int .i64 R,.int .i64 M,.int .i64 C,.int .i64 Fl,.int .i64 A,.slice a n cap],.agg #[.int .i64 K2,.int .i64 R2,.int .i64 M2,.int .i64 C2,.int .i64 Fl2,.int .i64 A2,.slice a2 n2 cap2]] w fun e w'=>e=.returned (.bool B)∧Below w.heap.size w w':=by
 have HN:Hid _:=h;have HN2:Hid _:=h2;have hl0:n≤9223372036854775807:=Nat.le_trans h.le h.lim;have hl2:n2≤9223372036854775807:=Nat.le_trans h2.le h2.lim;have HBE:Hid _:=hB;have W2:Hid (Below w.heap.size w ((w.alloc (.cells #[.int .i64 K,.int .i64 R,.int .i64 M,.int .i64 C,.int .i64 Fl,.int .i64 A,.slice a n cap] 24)).alloc (.cells #[.int .i64 K2,.int .i64 R2,.int .i64 M2,.int .i64 C2,.int .i64 Fl2,.int .i64 A2,.slice a2 n2 cap2] 24))):=Af (Af (Aa w));clear h h2 hB;by_cases c0:K=K2
 ·subst c0;by_cases c1:R=R2
  ·subst c1;by_cases c2:M=M2
   ·subst c2;by_cases c3:C=C2
    ·subst c3;by_cases c4:Fl=Fl2
     ·subst c4;by_cases c5:A=A2
      ·subst c5;by_cases c6:n=n2
       ·subst c6;obtain⟨W,hW⟩:=nme (((w.alloc (.cells #[.int .i64 K,.int .i64 R,.int .i64 M,.int .i64 C,.int .i64 Fl,.int .i64 A,.slice a n cap] 24)).alloc (.cells #[.int .i64 K,.int .i64 R,.int .i64 M,.int .i64 C,.int .i64 Fl,.int .i64 A,.slice a2 n cap2] 24)));have hs1:w.heap.size<W.heap.size:=by rw[hW,World.size_alloc,World.size_alloc];omega
        have hs2:w.heap.size+1<W.heap.size:=by rw[hW,World.size_alloc,World.size_alloc];omega
        have HBW:Hid (Below w.heap.size w W):=by show Below _ _ _;rw[hW];exact W2.out
        have x6:W.cell? ⟨w.heap.size,6,none⟩=some (.slice a n cap):=by rw[hW];simp[go_sem]
        have y6:W.cell? ⟨w.heap.size+1,6,none⟩=some (.slice a2 n cap2):=by rw[hW];simp[go_sem]
        have HX6:Hid _:=x6;have HY6:Hid _:=y6;have HH1:Hid _:=HN.out.go HBW.out;have HH2:Hid _:=HN2.out.go HBW.out;have l1:=HN.out.le;have l2:=HN2.out.le;clear x6 y6;go_enter Tryz.func8,Tryz.ntmps8
        go_wp2_with fail
        rw[←hW];clear hW;obtain⟨g1,eg1⟩:=nme w.heap.size;obtain⟨g2,eg2⟩:=nme (w.heap.size+1);rw[←eg2]at HY6 hs2⊢;rw[←eg1]at HX6 hs1⊢;clear eg1 eg2;go_loopw [5] (fun t wr=> ∃k d:Nat,k≤n∧t=.int .i64 (k:Int)∧wr=W.drewN d∧Hid (∀i j,i<k→j<4→G i j=G2 i j)) (fun t _=>n- (intOf t).toNat)
        case atStart=>exact⟨0,0,by omega,rfl,rfl,fun i j hi=>by omega⟩
        case round=>
         obtain⟨k,d,hk,rfl,rfl,HS⟩:=hrel;have x6:(W.drewN d).cell? ⟨g1,6,none⟩=some (.slice a n cap):=HX6.out;have y6:(W.drewN d).cell? ⟨g2,6,none⟩=some (.slice a2 n cap2):=HY6.out;by_cases ek:k=n
         ·subst ek;have HB:Hid (B=true):=by
           show _=_;rw[←HBE.out];exact decide_eq_true ⟨rfl,rfl,rfl,rfl,rfl,rfl,rfl,HS.out⟩
          go_wp2_with fail
          exact bodyPost_ret (v:=.bool true) (by simp[results,Tryz.results8,go_sem]) rfl ⟨by rw[HB.out],C8 HBW.out d⟩
         have lk:k<n:=by omega
         obtain⟨b,o,rfl,hc⟩:=HH1.out.at (by omega);obtain⟨b2,o2,rfl,hc2⟩:=HH2.out.at (by omega);have u0:W.cell? ⟨b,o+k*4,none⟩=some (.int .i64 (G k 0)):=by simpa using hc k 0 lk (by omega)
         have u1:W.cell? ⟨b,o+k*4+1,none⟩=some (.int .i64 (G k 1)):=hc k 1 lk (by omega);have u2:W.cell? ⟨b,o+k*4+2,none⟩=some (.int .i64 (G k 2)):=hc k 2 lk (by omega);have u3:W.cell? ⟨b,o+k*4+3,none⟩=some (.int .i64 (G k 3)):=hc k 3 lk (by omega);have v0:W.cell? ⟨b2,o2+k*4,none⟩=some (.int .i64 (G2 k 0)):=by simpa using hc2 k 0 lk (by omega)
         have v1:W.cell? ⟨b2,o2+k*4+1,none⟩=some (.int .i64 (G2 k 1)):=hc2 k 1 lk (by omega);have v2:W.cell? ⟨b2,o2+k*4+2,none⟩=some (.int .i64 (G2 k 2)):=hc2 k 2 lk (by omega);have v3:W.cell? ⟨b2,o2+k*4+3,none⟩=some (.int .i64 (G2 k 3)):=hc2 k 3 lk (by omega);have x6b:W.cell? ⟨g1,6,none⟩=some (.slice (some ⟨b,o,none⟩) n cap):=HX6.out;have y6b:W.cell? ⟨g2,6,none⟩=some (.slice (some ⟨b2,o2,none⟩) n cap2):=HY6.out;clear hc hc2 x6 y6;have x6:=x6b;have y6:=y6b;clear x6b y6b;by_cases q0:G k 0=G2 k 0
         ·rw[←q0]at v0;by_cases q1:G k 1=G2 k 1
          ·rw[←q1]at v1;by_cases q2:G k 2=G2 k 2
           ·rw[←q2]at v2;by_cases q3:G k 3=G2 k 3
            ·rw[←q3]at v3;have HS2:Hid (∀i j,i<k+1→j<4→G i j=G2 i j):=fun i j hi hj=>by
              by_cases e:i=k
              ·subst e;match j,hj with
               |0,_=>exact q0
               |1,_=>exact q1
               |2,_=>exact q2
               |3,_=>exact q3
              exact HS.out i j (by omega) hj
             clear q0 q1 q2 q3;go_wp2_with fail
             go_quiet (fail)
             go_wp2_with fail
             go_roundw
             case rel=>exact⟨k+1,_,by omega,by go_num,rfl,HS2⟩
             case measure=>simp[intOf];omega
            have d3:(G k 3==G2 k 3)=false:=by simpa using q3
            have HB:Hid (B=false):=by
             show _=_;rw[←HBE.out];exact decide_eq_false fun q=>q3 (q.2.2.2.2.2.2.2 k 3 lk (by omega))
            clear q3;go_wp2_with fail
            go_quiet (fail)
            go_wp2_with fail
            go_ret
            exact⟨by rw[HB.out];rfl,C8 (C8 HBW.out d) _⟩
           have d2:(G k 2==G2 k 2)=false:=by simpa using q2
           have HB:Hid (B=false):=by
            show _=_;rw[←HBE.out];exact decide_eq_false fun q=>q2 (q.2.2.2.2.2.2.2 k 2 lk (by omega))
           clear q2;go_wp2_with fail
           go_quiet (fail)
           go_wp2_with fail
           go_ret
           exact⟨by rw[HB.out];rfl,C8 (C8 HBW.out d) _⟩
          have d1:(G k 1==G2 k 1)=false:=by simpa using q1
          have HB:Hid (B=false):=by
           show _=_;rw[←HBE.out];exact decide_eq_false fun q=>q1 (q.2.2.2.2.2.2.2 k 1 lk (by omega))
          clear q1;go_wp2_with fail
          go_quiet (fail)
          go_wp2_with fail
          go_ret
          exact⟨by rw[HB.out];rfl,C8 (C8 HBW.out d) _⟩
         have d0:(G k 0==G2 k 0)=false:=by simpa using q0
         have HB:Hid (B=false):=by
          show _=_;rw[←HBE.out];exact decide_eq_false fun q=>q0 (q.2.2.2.2.2.2.2 k 0 lk (by omega))
         clear q0;go_wp2_with fail
         go_quiet (fail)
         go_wp2_with fail
         go_ret
         exact⟨by rw[HB.out];rfl,C8 (C8 HBW.out d) _⟩
       have d6:((n:Int) != (n2:Int))=true:=by simp;omega
       have HB:Hid (B=false):=by
        show _=_;rw[←HBE.out];exact decide_eq_false fun q=>c6 q.2.2.2.2.2.2.1
       clear c6;go_enter Tryz.func8,Tryz.ntmps8
       go_wp2_with fail
       exact bodyPost_ret (v:=.bool false) (by simp[results,Tryz.results8,go_sem]) rfl ⟨by rw[HB.out],W2.out⟩
      have d5:(A != A2)=true:=by simpa using c5
      have HB:Hid (B=false):=by
       show _=_;rw[←HBE.out];exact decide_eq_false fun q=>c5 q.2.2.2.2.2.1
      clear c5;go_enter Tryz.func8,Tryz.ntmps8
      go_wp2_with fail
      exact bodyPost_ret (v:=.bool false) (by simp[results,Tryz.results8,go_sem]) rfl ⟨by rw[HB.out],W2.out⟩
     have d4:(Fl != Fl2)=true:=by simpa using c4
     have HB:Hid (B=false):=by
      show _=_;rw[←HBE.out];exact decide_eq_false fun q=>c4 q.2.2.2.2.1
     clear c4;go_enter Tryz.func8,Tryz.ntmps8
     go_wp2_with fail
     exact bodyPost_ret (v:=.bool false) (by simp[results,Tryz.results8,go_sem]) rfl ⟨by rw[HB.out],W2.out⟩
    have d3:(C != C2)=true:=by simpa using c3
    have HB:Hid (B=false):=by
     show _=_;rw[←HBE.out];exact decide_eq_false fun q=>c3 q.2.2.2.1
    clear c3;go_enter Tryz.func8,Tryz.ntmps8
    go_wp2_with fail
    exact bodyPost_ret (v:=.bool false) (by simp[results,Tryz.results8,go_sem]) rfl ⟨by rw[HB.out],W2.out⟩
   have d2:(M != M2)=true:=by simpa using c2
   have HB:Hid (B=false):=by
    show _=_;rw[←HBE.out];exact decide_eq_false fun q=>c2 q.2.2.1
   clear c2;go_enter Tryz.func8,Tryz.ntmps8
   go_wp2_with fail
   exact bodyPost_ret (v:=.bool false) (by simp[results,Tryz.results8,go_sem]) rfl ⟨by rw[HB.out],W2.out⟩
  have d1:(R != R2)=true:=by simpa using c1
  have HB:Hid (B=false):=by
   show _=_;rw[←HBE.out];exact decide_eq_false fun q=>c1 q.2.1
  clear c1;go_enter Tryz.func8,Tryz.ntmps8
  go_wp2_with fail
  exact bodyPost_ret (v:=.bool false) (by simp[results,Tryz.results8,go_sem]) rfl ⟨by rw[HB.out],W2.out⟩
 have d0:(K != K2)=true:=by simpa using c0
 have HB:Hid (B=false):=by
  show _=_;rw[←HBE.out];exact decide_eq_false fun q=>c0 q.1
 clear c0;go_enter Tryz.func8,Tryz.ntmps8
 go_wp2_with fail
 exact bodyPost_ret (v:=.bool false) (by simp[results,Tryz.results8,go_sem]) rfl ⟨by rw[HB.out],W2.out⟩
theorem Qr(s:ByteArray)(w:World)(hs:s.size≤9223372036854775807)(he:EV w)(hk:KN w):
  Calls Tryz.prog 4 #[.string s] w fun e w'=> ∃v,e=.returned (.tuple #[.agg #[.int .i64 (prI s 0),.int .i64 (prI s 1),.int .i64 (prI s 2),.int .i64 (prI s 3),.int .i64 (prI s 4),.int .i64 (prI s 5),v],.int .i64 (prE s)])∧Nr w.heap.size w' v (prN s)∧Below w.heap.size w w':=by
 have HE:Hid _:=he;have HK:Hid (KN w):=hk;have HZ:Hid (prE s≠0→(∀i,prI s i=0)∧prN s=[]):=fun h=>⟨fun i=>by unfold prI;rw[if_neg h],by unfold prN;rw[if_neg h]⟩;have HGD:Hid (prE s=0→(∀i,prI s i=Aq (Ab s,false) i)∧prN s=suN (Ab s,false)):=fun h=>⟨fun i=>by unfold prI;rw[if_pos h],by unfold prN;rw[if_pos h]⟩;obtain⟨gR,egR⟩:=nme w.heap.size;have HEQ:Hid _:=egR;clear he hk;by_cases c0:4096<s.size
 ·have d0:(4096:Int)<(s.size:Int):=by omega
  have HPE:Hid (prE s=2):=by show _=_;unfold prE;rw[if_pos c0]
  clear c0;have HAL:Hid ((w.alloc (.cells #[.int .i64 0,.int .i64 0,.int .i64 0,.int .i64 0,.int .i64 0,.int .i64 0,.slice none 0 0] 24)).heap[gR]? =some (.cells #[.int .i64 0,.int .i64 0,.int .i64 0,.int .i64 0,.int .i64 0,.int .i64 0,.slice none 0 0] 24)):=by show _=_;rw[egR];exact CZ _ _
  have HB0:Hid (Below w.heap.size w (w.alloc (.cells #[.int .i64 0,.int .i64 0,.int .i64 0,.int .i64 0,.int .i64 0,.int .i64 0,.slice none 0 0] 24))):=Af (Aa w);go_enter Tryz.func4,Tryz.ntmps4
  go_wp2_with fail
  have WZ:Hid (Below w.heap.size w (w.alloc (.cells #[.int .i64 0,.int .i64 0,.int .i64 0,.int .i64 0,.int .i64 0,.int .i64 0,.slice none 0 0] 24))):=Af (Aa w);refine bodyPost_ret (v:=.tuple #[.agg #[.int .i64 0,.int .i64 0,.int .i64 0,.int .i64 0,.int .i64 0,.int .i64 0,.slice none 0 0],.int .i64 2]) (by simp[results,Tryz.results4,go_sem]) rfl ?_;have q:=HZ.out (by rw[HPE.out];decide);exact⟨.slice none 0 0,by rw[q.1 0,q.1 1,q.1 2,q.1 3,q.1 4,q.1 5,HPE.out],by rw[q.2];exact Nr.nil _ _,WZ.out⟩
 have hs2:s.size≤4096:=by omega
 have HS:Hid _:=hs2;have d0: ¬(4096:Int)<(s.size:Int):=by omega
 have HP1:Hid (prE s=if(!(suS (Ab s,false)).2&&(suS (Ab s,false)).1.isEmpty)=false then 201 else prC s):=by show _=_;unfold prE;rw[if_neg c0]
 clear c0 egR;go_enter Tryz.func4,Tryz.ntmps4
 go_wp2_with fail
 refine(Gi s _ (by omega)).mono ?_;rintro e w1 ⟨v1,rfl,hO,hb1⟩;have B1:Hid (Below w.heap.size w w1):=AU (Af (Aa w)) hb1;have BA:Hid (Below (w.alloc (.cells #[.int .i64 0,.int .i64 0,.int .i64 0,.int .i64 0,.int .i64 0,.int .i64 0,.slice none 0 0] 24)).heap.size (w.alloc (.cells #[.int .i64 0,.int .i64 0,.int .i64 0,.int .i64 0,.int .i64 0,.int .i64 0,.slice none 0 0] 24)) w1):=hb1;have R1:Hid _:=Ka (W0:=w) hs2 hO (HE.out.go B1.out) (HK.out.go B1.out);have hsz1:=hb1.size;rw[World.size_alloc]at hsz1;have e1: ∃a n c,v1=.slice a n c:=by
  rcases hO with⟨q,_⟩| ⟨g,cap,f,q,_⟩
  ·exact⟨_,_,_,q⟩
  exact⟨_,_,_,q⟩
 obtain⟨a1,m1,c1,rfl⟩:=e1;clear hO hb1;obtain⟨KD,hKD⟩:=nmd (Aq (Ab s,false) 0);obtain⟨n0,hn0⟩:=nmd (Aq (Ab s,false) 1);obtain⟨n1,hn1⟩:=nmd (Aq (Ab s,false) 2);obtain⟨n2,hn2⟩:=nmd (Aq (Ab s,false) 3);obtain⟨n3,hn3⟩:=nmd (Aq (Ab s,false) 4);obtain⟨n4,hn4⟩:=nmd (Aq (Ab s,false) 5);have HVAL:Hid (Aq (Ab s,false) 0=KD∧Aq (Ab s,false) 1=n0∧Aq (Ab s,false) 2=n1∧Aq (Ab s,false) 3=n2∧Aq (Ab s,false) 4=n3∧Aq (Ab s,false) 5=n4):=⟨hKD,hn0,hn1,hn2,hn3,hn4⟩;clear hKD hn0 hn1 hn2 hn3 hn4;go_wp2_with fail
 refine(Sf w1.heap.size (Ab s,false) _ R1.out (by have:=Ds s;show(Ab s).length≤_;omega)).mono ?_;rintro e w2 ⟨v2,rfl,hN2,⟨lm2,hr2⟩,ho2⟩;obtain⟨j0,j1,j2,j3,j4,j5⟩:=HVAL.out;rw[j0,j1,j2,j3,j4,j5];clear j0 j1 j2 j3 j4 j5;obtain⟨a,cap,ev2,_,_⟩:=Nr.sl hN2;subst ev2;obtain⟨n,hn⟩:=nmd ((suN (Ab s,false)).length);have N2:Hid (Nr (w1.alloc (.cells #[.slice a1 m1 c1,.bool false] 45)).heap.size w2 (.slice a n cap) (suN (Ab s,false))):=by rw[←hn];exact hN2
 rw[hn];have HLN:Hid _:=hn;have R2:Hid _:=hr2;have O2:Hid _:=ho2;clear hN2 hr2 ho2 hn;go_wp2_with fail
 refine(J9 w1.heap.size (suS (Ab s,false)).1 (suS (Ab s,false)).2 _ (R2.out.rd.go (Af (Aa w2)))).mono ?_;rintro e w3 ⟨rfl,rfl⟩;obtain⟨D,hD⟩:=nmd ((!(suS (Ab s,false)).2&&(suS (Ab s,false)).1.isEmpty));rw[hD];rw[hD]at HP1;clear hD;obtain⟨gC,eC⟩:=nme w2.heap.size;have eR:=HEQ.out;obtain⟨w4,hw4⟩:=nme (w2.alloc (.cells #[.int .i64 KD,.int .i64 n0,.int .i64 n1,.int .i64 n2,.int .i64 n3,.int .i64 n4,.slice a n cap] 24));have hsz2:=O2.out.size;rw[World.size_alloc]at hsz2;have hC:w4.heap[gC]? =some (.cells #[.int .i64 KD,.int .i64 n0,.int .i64 n1,.int .i64 n2,.int .i64 n3,.int .i64 n4,.slice a n cap] 24):=by rw[hw4,eC];exact CZ _ _
 have hR:w4.heap[gR]? =some (.cells #[.int .i64 0,.int .i64 0,.int .i64 0,.int .i64 0,.int .i64 0,.int .i64 0,.slice none 0 0] 24):=by
  rw[hw4];refine((Af (Aa w2)).block gR (by omega)).trans ((O2.out.block gR (by rw[World.size_alloc];omega) (by omega)).trans (((Af (Aa w1)).block gR (by omega)).trans ((BA.out.block gR (by rw[World.size_alloc];omega)).trans ?_)));rw[eR];exact CZ _ _
 have W4:Hid (Below w.heap.size w w4):=by
  have q:Below w.heap.size (w1.alloc (.cells #[.slice a1 m1 c1,.bool false] 45)) w2:=O2.out.below (by rw[World.size_alloc];omega) (by omega);rw[hw4];exact Af ((Af B1.out).trans q)
 have N4:Hid (Nr (w1.heap.size+1) w4 (.slice a n cap) (suN (Ab s,false))):=by
  have q:=Nr.below N2.out (Af (o:=.cells #[.int .i64 KD,.int .i64 n0,.int .i64 n1,.int .i64 n2,.int .i64 n3,.int .i64 n4,.slice a n cap] 24) (Aa w2));rw[World.size_alloc]at q;rw[hw4];exact q
 rw[←hw4,←eC,←eR];obtain⟨x0,x1,x2,x3,x4,x5,x6⟩:=cl7 hC;have G4:Hid _:=hR;have lC:gC<w4.heap.size:=World.block_lt_of_cell? _ _ x0;have LR:Hid (gR<w1.heap.size):=by show gR<w1.heap.size;omega
 clear hC hR hw4 eC eR hsz2;cases D
 ·have HPE:Hid (prE s=201):=by show _=_;rw[HP1.out,if_pos rfl]
  have hRz:=G4.out;obtain⟨y0,y1,y2,y3,y4,y5,y6⟩:=cl7 hRz;have fr0:=fzAt hRz 0;have fr1:=fzAt hRz 1;have fr2:=fzAt hRz 2;have fr3:=fzAt hRz 3;have fr4:=fzAt hRz 4;have fr5:=fzAt hRz 5;have fr6:=fzAt hRz 6;have BB:Hid (Bx1 w4 w4 gR 24 #[.int .i64 0,.int .i64 0,.int .i64 0,.int .i64 0,.int .i64 0,.int .i64 0,.slice none 0 0]):=⟨hRz,fun _ _=>rfl,rfl,rfl,rfl,rfl⟩;clear hRz;go_wp2_with fail
  refine H5 (fun W=>Bx1 w4 W gR 24 #[.int .i64 0,.int .i64 0,.int .i64 0,.int .i64 0,.int .i64 0,.int .i64 0,.slice none 0 0]) ((((((((BB.out.set 0 (.int .i64 0)).set 1 (.int .i64 0)).set 2 (.int .i64 0)).set 3 (.int .i64 0)).set 4 (.int .i64 0)).set 5 (.int .i64 0)).set 6 (.slice none 0 0))) ?_;intro wz BZ;have hR:=BZ.hc;clear y0 fr0 y1 fr1 y2 fr2 y3 fr3 y4 fr4 y5 fr5 y6 fr6;obtain⟨u0,u1,u2,u3,u4,u5,u6⟩:=cl7 hR;have WZ:Hid (Below w.heap.size w wz):=⟨BZ.os.trans W4.out.os,BZ.tape.trans W4.out.tape,BZ.output.trans W4.out.output,by rw[BZ.size];exact W4.out.size,fun k hk=>(BZ.ot k (by have:=HEQ.out;omega)).trans (W4.out.block k hk)⟩;refine bodyPost_ret (v:=.tuple #[.agg #[.int .i64 0,.int .i64 0,.int .i64 0,.int .i64 0,.int .i64 0,.int .i64 0,.slice none 0 0],.int .i64 201]) (by simp[results,Tryz.results4,go_sem,u0,u1,u2,u3,u4,u5,u6]) rfl ?_;have q:=HZ.out (by rw[HPE.out];decide);exact⟨.slice none 0 0,by rw[q.1 0,q.1 1,q.1 2,q.1 3,q.1 4,q.1 5,HPE.out],by rw[q.2];exact Nr.nil _ _,WZ.out⟩
 have HP2:Hid (prE s=prC s):=by show _=_;rw[HP1.out,if_neg (by decide)]
 have hns:=(Io N4.out (KW (Ab s,false))).2;obtain⟨ce,hce⟩:=nmd (A4 KD n0 n1 n2 n3 n4 (gOf (suN (Ab s,false))) n);have HPC:Hid (prE s=ce):=by
  show _=_;obtain⟨j0,j1,j2,j3,j4,j5⟩:=HVAL.out;rw[HP2.out,prC,j0,j1,j2,j3,j4,j5,HLN.out,hce]
 have HNS:Hid _:=hns;clear hns;go_wp2_with fail
 refine(Et KD n0 n1 n2 n3 n4 a n cap (gOf (suN (Ab s,false))) _ HNS.out).mono ?_;rintro e w5 ⟨rfl,hb5⟩;rw[hce];replace x0:=Ae hb5 x0;replace x1:=Ae hb5 x1;replace x2:=Ae hb5 x2;replace x3:=Ae hb5 x3;replace x4:=Ae hb5 x4;replace x5:=Ae hb5 x5;replace x6:=Ae hb5 x6;have G5:Hid (w5.heap[gR]? =some (.cells #[.int .i64 0,.int .i64 0,.int .i64 0,.int .i64 0,.int .i64 0,.int .i64 0,.slice none 0 0] 24)):=(hb5.block gR (Array.getElem?_eq_some_iff.1 G4.out).1).trans G4.out;have W5:Hid _:=AU W4.out hb5;have N5:Hid (Nr (w1.heap.size+1) w5 (.slice a n cap) (suN (Ab s,false))):=Nr.below N4.out hb5;clear hb5 hce HNS;by_cases c1:ce=0
 ·subst c1;go_wp2_with (refine(id ?_:wpList Tryz.prog _ _ (⟨none,.store 24 (.tmp 2) (.tmp 24),_,_,_,_⟩::_) _ _);refine wpList_store_row rfl 24 (.tmp 2) (.tmp 24) rfl gR #[.int .i64 KD,.int .i64 n0,.int .i64 n1,.int .i64 n2,.int .i64 n3,.int .i64 n4,.slice a n cap] rfl rfl 24 #[.int .i64 0,.int .i64 0,.int .i64 0,.int .i64 0,.int .i64 0,.int .i64 0,.slice none 0 0] G5.out (by kernel_rfl) (by kernel_rfl) (by kernel_rfl) ?_;refine Az (fun W=>W.heap[gR]? =some (.cells #[.int .i64 KD,.int .i64 n0,.int .i64 n1,.int .i64 n2,.int .i64 n3,.int .i64 n4,.slice a n cap] 24)∧Below w.heap.size w W∧ ∀k,k≠gR→W.heap[k]? =w5.heap[k]?) ⟨setRow_heap _ _ _ _ _ _ G5.out,?_,fun k hk=>setRow_other _ _ _ _ hk⟩ ?_)
  ·exact⟨W5.out.os,W5.out.tape,W5.out.output,by rw[size_setRow];exact W5.out.size,fun k hk=>(setRow_other _ _ _ _ (by have:=HEQ.out;omega)).trans (W5.out.block k hk)⟩
  intro wz hR hB hO;have WZ:Hid _:=hB;have OZ:Hid _:=hO;obtain⟨u0,u1,u2,u3,u4,u5,u6⟩:=cl7 hR;clear hB hR hO;go_wp2_with fail
  refine bodyPost_ret (v:=.tuple #[.agg #[.int .i64 KD,.int .i64 n0,.int .i64 n1,.int .i64 n2,.int .i64 n3,.int .i64 n4,.slice a n cap],.int .i64 0]) (by simp[results,Tryz.results4,go_sem,u0,u1,u2,u3,u4,u5,u6]) rfl ?_;have q:=HGD.out HPC.out;obtain⟨j0,j1,j2,j3,j4,j5⟩:=HVAL.out;refine⟨.slice a n cap,by rw[q.1 0,q.1 1,q.1 2,q.1 3,q.1 4,q.1 5,HPC.out,j0,j1,j2,j3,j4,j5],?_,WZ.out⟩;rw[q.2];refine Nr.weak (Nr.kept N5.out fun k hk=> ?_) (by have:=B1.out.size;omega);obtain⟨hb,_,_⟩:=Nr.own N5.out hk;exact OZ.out k (by have:=LR.out;omega)
 have d1:(ce != 0)=true:=by simpa using c1
 have HPE:Hid _:=HPC.out;have HC1:Hid _:=c1;clear c1;have hRz:=G5.out;obtain⟨y0,y1,y2,y3,y4,y5,y6⟩:=cl7 hRz;have fr0:=fzAt hRz 0;have fr1:=fzAt hRz 1;have fr2:=fzAt hRz 2;have fr3:=fzAt hRz 3;have fr4:=fzAt hRz 4;have fr5:=fzAt hRz 5;have fr6:=fzAt hRz 6;have BB:Hid (Bx1 w5 w5 gR 24 #[.int .i64 0,.int .i64 0,.int .i64 0,.int .i64 0,.int .i64 0,.int .i64 0,.slice none 0 0]):=⟨hRz,fun _ _=>rfl,rfl,rfl,rfl,rfl⟩;clear hRz;go_wp2_with fail
 refine H5 (fun W=>Bx1 w5 W gR 24 #[.int .i64 0,.int .i64 0,.int .i64 0,.int .i64 0,.int .i64 0,.int .i64 0,.slice none 0 0]) ((((((((BB.out.set 0 (.int .i64 0)).set 1 (.int .i64 0)).set 2 (.int .i64 0)).set 3 (.int .i64 0)).set 4 (.int .i64 0)).set 5 (.int .i64 0)).set 6 (.slice none 0 0))) ?_;intro wz BZ;have hR:=BZ.hc;clear y0 fr0 y1 fr1 y2 fr2 y3 fr3 y4 fr4 y5 fr5 y6 fr6;obtain⟨u0,u1,u2,u3,u4,u5,u6⟩:=cl7 hR;have WZ:Hid (Below w.heap.size w wz):=⟨BZ.os.trans W5.out.os,BZ.tape.trans W5.out.tape,BZ.output.trans W5.out.output,by rw[BZ.size];exact W5.out.size,fun k hk=>(BZ.ot k (by have:=HEQ.out;omega)).trans (W5.out.block k hk)⟩;refine bodyPost_ret (v:=.tuple #[.agg #[.int .i64 0,.int .i64 0,.int .i64 0,.int .i64 0,.int .i64 0,.int .i64 0,.slice none 0 0],.int .i64 ce]) (by simp[results,Tryz.results4,go_sem,u0,u1,u2,u3,u4,u5,u6]) rfl ?_;have q:=HZ.out (by rw[HPE.out];exact HC1.out);exact⟨.slice none 0 0,by rw[q.1 0,q.1 1,q.1 2,q.1 3,q.1 4,q.1 5,HPE.out],by rw[q.2];exact Nr.nil _ _,WZ.out⟩
structure BW (w:World) where
 W:World
 bel:Below w.heap.size w W
theorem WW(s:ByteArray): ∀x∈prN s,Kb x:=by
 unfold prN;split
 ·exact KW _
 intro x hx;cases hx
theorem set2{a b:Int}(h0:U4 a)(h1:U4 b): ∀i,i<2→ -9223372036854775808≤F7 a b i∧F7 a b i≤9223372036854775807:=fun i hi=>by
 match i,hi with
 |0,_=>exact h0
 |1,_=>exact h1
theorem Qs(n:Nat)(w:World)(hn:n<18446744073709551616):Calls Tryz.prog 103 #[.int .u64 (n:Int)] w (Lg w n 1):=by
 have ba:Hid (Below w.heap.size w (w.alloc (.cells #[.slice none 0 0,.slice none 0 0] 66))):=Ah (Aa w);have HN:Hid (n<18446744073709551616):=hn;clear hn;go_enter Tryz.func103,Tryz.ntmps103
 go_wp2_with fail
 refine(CA n _ HN.out).mono ?_;rintro e w1 ⟨v1,rfl,hv1,hb1⟩;obtain⟨a1,n1,k1,rfl⟩:=hv1.isAgg;have c0:w1.cell? ⟨w.heap.size,0,none⟩=some (.slice none 0 0):=cell_later hb1 (by simp[go_sem]);have c1:w1.cell? ⟨w.heap.size,1,none⟩=some (.slice none 0 0):=cell_later hb1 (by simp[go_sem]);have f0:w1.frozen? ⟨w.heap.size,0,none⟩=false:=(hb1.frozen (by simp)).trans (by simp[go_sem]);have f1:w1.frozen? ⟨w.heap.size,1,none⟩=false:=(hb1.frozen (by simp)).trans (by simp[go_sem]);have I1:Hid (Ai w1 (.agg #[.slice a1 n1 k1]) n∧Below w.heap.size w w1):=⟨hv1,Aj ba.out hb1⟩;clear hv1 hb1 ba;go_wp2_with fail
 refine(CA 1 _ (by omega)).mono ?_;rintro e w2 ⟨v2,rfl,hv2,hb2⟩;obtain⟨a2,n2,k2,rfl⟩:=hv2.isAgg;have x0:=cell_later hb2 c0;have x1:=cell_later hb2 c1;have y0:=(hb2.frozen (World.block_lt_of_cell? _ _ c0)).trans f0;have y1:=(hb2.frozen (World.block_lt_of_cell? _ _ c1)).trans f1;have Z:Hid _:=Be (v:=.slice a1 n1 k1) (u:=.slice a2 n2 k2) x0 x1 (V:=.agg #[.slice a1 n1 k1,.slice a2 n2 k2]) (p:=n) (q:=1) ⟨_,_,_,_,_,_,rfl,I1.out.1.mono hb2,hv2⟩ (Aj I1.out.2 hb2) (Nat.le_refl _);clear hv2 hb2 c0 c1 f0 f1 I1;go_wp2_with fail
 exact bodyPost_ret (v:=.agg #[.slice a1 n1 k1,.slice a2 n2 k2]) (by simp[results,Tryz.results103,go_sem,x0,x1]) rfl ⟨_,rfl,Z.out.1,Z.out.2⟩
theorem IQ(v:Value)(p q:Nat)(w:World)(h:RRt w v p q)(hp:AG p)(z:Int)(hz:z=if p=0 then 0 else 1):Calls Tryz.prog 63 #[v] w fun e w'=>e=.returned (.int .i64 z)∧Below w.heap.size w w':=by
 obtain⟨a,n,c,a',n',c',rfl,h1,h2⟩:=h;have HH:Hid (Ai (w.alloc (.cells #[.slice a n c,.slice a' n' c'] 66)) (.agg #[.slice a n c]) p∧AG p∧Below w.heap.size w (w.alloc (.cells #[.slice a n c,.slice a' n' c'] 66))):=⟨h1.mono (Ah (Aa _)),hp,Ah (Aa _)⟩;clear h1 h2 hp;go_enter Tryz.func63,Tryz.ntmps63
 go_wp2_with fail
 refine(EW _ p _ HH.out.1 HH.out.2.1).mono ?_;rintro e w1 ⟨rfl,hb1⟩;have B1:Hid (Below w.heap.size w w1):=Aj HH.out.2.2 hb1;clear hb1 HH;by_cases e0:p=0
 ·have d:decide (p=0)=true:=decide_eq_true e0;rw[if_pos e0]at hz;have HZ:Hid (z=0):=hz;clear e0 hz;go_wp2_with fail
  go_ret
  exact⟨Ba HZ.out.symm,B1.out⟩
 have d:decide (p=0)=false:=decide_eq_false e0;rw[if_neg e0]at hz;have HZ:Hid (z=1):=hz;clear e0 hz;go_wp2_with fail
 go_ret
 exact⟨Ba HZ.out.symm,B1.out⟩
theorem L7(v u:Value)(p q x y:Nat)(w:World)(h:RRt w v p q)(k:RRt w u x y)(hp:RS p)(hq:RS q)(hx:RS x)(hy:RS y)(z:Int)(hz:AW (p*y) (x*q)=z):
  Calls Tryz.prog 28 #[v,u] w fun e w'=>e=.returned (.int .i64 z)∧Below w.heap.size w w':=by
 obtain⟨a1,n1,c1,a2,n2,c2,e0,g1,g2⟩:=h;subst e0;obtain⟨a3,n3,c3,a4,n4,c4,e1,g3,g4⟩:=k;subst e1;have S1:Hid _:=((((((GU w).addM g1).addM g2).addM g3).addM g4).box (.slice a1 n1 c1) (.slice a2 n2 c2) 66 _ rfl).box (.slice a3 n3 c3) (.slice a4 n4 c4) 66 _ rfl;simp only[World.size_alloc]at S1;obtain⟨w0,hw0⟩:=nme ((w.alloc (.cells #[.slice a1 n1 c1,.slice a2 n2 c2] 66)).alloc (.cells #[.slice a3 n3 c3,.slice a4 n4 c4] 66));have HH:Hid (RS p∧RS q∧RS x∧RS y∧AG (p*y)∧AG (x*q)):=⟨hp,hq,hx,hy,BL (hp.mul hy) (by omega),BL (hx.mul hq) (by omega)⟩;have HZ:Hid (AW (p*y) (x*q)=z):=hz;clear g1 g2 g3 g4 hp hq hx hy hz;go_enter Tryz.func28,Tryz.ntmps28
 go_wp2_with fail
 rw[←hw0]at S1;rw[←hw0];obtain⟨b2,hb2⟩:=nme w.heap.size;rw[←hb2]at S1;rw[←hb2];clear hw0 hb2;refine wp_region_held_drew (S:=fun w9=>w9.cell? ⟨b2,0,none⟩=some (.slice a1 n1 c1)∧w9.cell? ⟨b2,1,none⟩=some (.slice a2 n2 c2)∧w9.cell? ⟨b2+1,0,none⟩=some (.slice a3 n3 c3)∧w9.cell? ⟨b2+1,1,none⟩=some (.slice a4 n4 c4)) (by kernel_rfl) ⟨(S1.out.cel (b2) 0 (.slice a1 n1 c1)),(S1.out.cel (b2) 1 (.slice a2 n2 c2)),(S1.out.cel (b2+1) 0 (.slice a3 n3 c3)),(S1.out.cel (b2+1) 1 (.slice a4 n4 c4))⟩ (fun hHeld=> ?_);refine wpAnyH_take (i:=0) (v:=.pointer (some ⟨b2,0,none⟩)) rfl (by kernel_rfl) (by kernel_rfl) (by kernel_rfl) (fun _ _ _ h=>h) (Or.inl ⟨by rfl,?_⟩) (by assumption) ?_
 ·intro w hSw;obtain⟨g0,g1,g2,g3⟩:=hSw;go_simp
 refine wpAnyH_take (i:=1) (v:=.agg #[.slice a1 n1 c1]) rfl (by kernel_rfl) (by kernel_rfl) (by kernel_rfl) (fun _ _ _ h=>h) (Or.inl ⟨by rfl,?_⟩) (by assumption) ?_
 ·intro w hSw;obtain⟨g0,g1,g2,g3⟩:=hSw;go_simp
 refine wpAnyH_take (i:=2) (v:=.pointer (some ⟨b2+1,1,none⟩)) rfl (by kernel_rfl) (by kernel_rfl) (by kernel_rfl) (fun _ _ _ h=>h) (Or.inl ⟨by rfl,?_⟩) (by assumption) ?_
 ·intro w hSw;obtain⟨g0,g1,g2,g3⟩:=hSw;go_simp
 refine wpAnyH_take (i:=3) (v:=.agg #[.slice a4 n4 c4]) rfl (by kernel_rfl) (by kernel_rfl) (by kernel_rfl) (fun _ _ _ h=>h) (Or.inl ⟨by rfl,?_⟩) (by assumption) ?_
 ·intro w hSw;obtain⟨g0,g1,g2,g3⟩:=hSw;go_simp
 refine wpAnyH_take (i:=5) (v:=.pointer (some ⟨b2+1,0,none⟩)) rfl (by kernel_rfl) (by kernel_rfl) (by kernel_rfl) (fun _ _ _ h=>h) (Or.inl ⟨by rfl,?_⟩) (by assumption) ?_
 ·intro w hSw;obtain⟨g0,g1,g2,g3⟩:=hSw;go_simp
 refine wpAnyH_take (i:=6) (v:=.agg #[.slice a3 n3 c3]) rfl (by kernel_rfl) (by kernel_rfl) (by kernel_rfl) (fun _ _ _ h=>h) (Or.inl ⟨by rfl,?_⟩) (by assumption) ?_
 ·intro w hSw;obtain⟨g0,g1,g2,g3⟩:=hSw;go_simp
 refine wpAnyH_take (i:=7) (v:=.pointer (some ⟨b2,1,none⟩)) rfl (by kernel_rfl) (by kernel_rfl) (by kernel_rfl) (fun _ _ _ h=>h) (Or.inl ⟨by rfl,?_⟩) (by assumption) ?_
 ·intro w hSw;obtain⟨g0,g1,g2,g3⟩:=hSw;go_simp
 refine wpAnyH_take (i:=8) (v:=.agg #[.slice a2 n2 c2]) rfl (by kernel_rfl) (by kernel_rfl) (by kernel_rfl) (fun _ _ _ h=>h) (Or.inl ⟨by rfl,?_⟩) (by assumption) ?_
 ·intro w hSw;obtain⟨g0,g1,g2,g3⟩:=hSw;go_simp
 refine wpAnyH_ready (rs:=[4]) (by kernel_rfl) (by simp) ?_;refine AllReadyH.cons rfl (fun K9 hK9=> ?_) AllReadyH.nil;go_simp
 refine Calls.mono (CK _ _ p y _ ((S1.out.rat (.agg #[.slice a1 n1 c1]) p).mono (AV (Aa _))) ((S1.out.rat (.agg #[.slice a4 n4 c4]) y).mono (AV (Aa _))) HH.out.1.rfits HH.out.2.2.2.1.rfits) ?_;rintro e w3 ⟨v3,rfl,hv3,hb3⟩;replace hb3:Below w0.heap.size w0 w3:=Bf hb3;have S2:Hid _:=(S1.out.go hb3).addM hv3;clear hv3 hb3 S1 hHeld;refine hK9.out _ _ ⟨(S2.out.cel (b2) 0 (.slice a1 n1 c1)),(S2.out.cel (b2) 1 (.slice a2 n2 c2)),(S2.out.cel (b2+1) 0 (.slice a3 n3 c3)),(S2.out.cel (b2+1) 1 (.slice a4 n4 c4))⟩ (fun hHeld=> ?_);clear hK9 K9;refine wpAnyH_ready (rs:=[9]) (by kernel_rfl) (by simp) ?_;refine AllReadyH.cons rfl (fun K9 hK9=> ?_) AllReadyH.nil;go_simp
 refine Calls.mono (CK _ _ x q _ (S2.out.rat (.agg #[.slice a3 n3 c3]) x) (S2.out.rat (.agg #[.slice a2 n2 c2]) q) HH.out.2.2.1.rfits HH.out.2.1.rfits) ?_;rintro e w4 ⟨v4,rfl,hv4,hb4⟩;have S3:Hid _:=(S2.out.go hb4).addM hv4;clear hv4 hb4 S2 hHeld;refine hK9.out _ _ ⟨(S3.out.cel (b2) 0 (.slice a1 n1 c1)),(S3.out.cel (b2) 1 (.slice a2 n2 c2)),(S3.out.cel (b2+1) 0 (.slice a3 n3 c3)),(S3.out.cel (b2+1) 1 (.slice a4 n4 c4))⟩ (fun hHeld=> ?_);clear hK9 K9;refine wpAnyH_ready (rs:=[10]) (by kernel_rfl) (by simp) ?_;refine AllReadyH.cons rfl (fun K9 hK9=> ?_) AllReadyH.nil;go_simp
 refine Calls.mono (FI v3 v4 (p*y) (x*q) _ (S3.out.rat v3 (p*y)) (S3.out.rat v4 (x*q)) HH.out.2.2.2.2.1 HH.out.2.2.2.2.2) ?_;rintro e w6 ⟨rfl,hb6⟩;have S4:Hid _:=S3.out.go hb6;rw[HZ.out];clear hb6 S3 hHeld;refine hK9.out _ _ ⟨(S4.out.cel (b2) 0 (.slice a1 n1 c1)),(S4.out.cel (b2) 1 (.slice a2 n2 c2)),(S4.out.cel (b2+1) 0 (.slice a3 n3 c3)),(S4.out.cel (b2+1) 1 (.slice a4 n4 c4))⟩ (fun hHeld=> ?_);clear hK9 K9;refine wpAnyH_take (i:=11) (v:=.int .i64 z) rfl (by kernel_rfl) (by kernel_rfl) (by kernel_rfl) (fun _ _ _ h=>h) (Or.inl ⟨by rfl,?_⟩) (by assumption) ?_
 ·intro w hSw;obtain⟨g0,g1,g2,g3⟩:=hSw;go_simp
 refine wpAnyH_done (by kernel_rfl) ?_ _;go_wp2_with fail
 go_ret
 exact⟨rfl,S4.out.bel⟩
def gtM(u:Nat):Bool:=FloatKind.f64.format.order u 4697254411347427328==some .gt
theorem Us:Ieee.double.signWeight=9223372036854775808:=by decide
theorem VS:Ieee.double.binade=4503599627370496:=by decide
theorem VT:Ieee.double.infRung=9218868437227405312:=by decide
theorem Sx:Ieee.double.leastPlace= -1074:=by decide
theorem FQ{u:Nat}(h:u<9218868437227405312):Ieee.double.read u=.number false (fm u) (-1074+(fe u:Int)):=by
 have h1:(u/9223372036854775808%2==1)=false:=by rw[Nat.div_eq_of_lt (by omega)];rfl
 have h2:u%9223372036854775808=u:=Nat.mod_eq_of_lt (by omega);unfold Ieee.Format.read;rw[Us,VS,VT,Sx,h2];simp only[h1];unfold fm fe;by_cases hs:u<4503599627370496
 ·have e0:u/4503599627370496=0:=Nat.div_eq_of_lt hs;have e1:u%4503599627370496=u:=Nat.mod_eq_of_lt hs;rw[if_pos hs,e0,if_pos rfl,e1];rfl
 have e0: ¬u/4503599627370496=0:=by omega
 rw[if_neg hs,if_pos h,if_neg e0,Nat.add_comm]
theorem Qt(m k:Nat):Ieee.signed false m k=((m*2^k:Nat):Int):=by
 unfold Ieee.signed;rw[Nat.shiftLeft_eq];simp
theorem Ny{m n i j:Nat}:((Ieee.Datum.number false m (-1074+(i:Int))).order (.number false n (-1074+(j:Int)))==some .gt)=decide (n*2^j<m*2^i):=by
 unfold Ieee.Datum.order;simp only[Qt];by_cases h:i≤j
 ·have e1:(-1074+(i:Int)-min (-1074+(i:Int)) (-1074+(j:Int))).toNat=0:=by omega
  have e2:(-1074+(j:Int)-min (-1074+(i:Int)) (-1074+(j:Int))).toNat=j-i:=by omega
  have e3:n*2^j=n*2^(j-i)*2^i:=by rw[Nat.mul_assoc,←Nat.pow_add,show j-i+i=j by omega]
  rw[e1,e2,e3,Nat.pow_zero,Nat.mul_one];have e4:(n*2^(j-i)*2^i<m*2^i)↔n*2^(j-i)<m:=Nat.mul_lt_mul_right (Nat.two_pow_pos i);generalize n*2^(j-i)=a at*;rw[decide_eq_decide.2 e4];rcases Nat.lt_trichotomy a m with h5|h5|h5
  ·rw[decide_eq_true h5];have:compare (m:Int) (a:Int)=.gt:=Int.compare_eq_gt.2 (by omega);rw[this];rfl
  ·rw[decide_eq_false (by omega)];have:compare (m:Int) (a:Int)=.eq:=Int.compare_eq_eq.2 (by omega);rw[this];rfl
  rw[decide_eq_false (by omega)];have:compare (m:Int) (a:Int)=.lt:=Int.compare_eq_lt.2 (by omega);rw[this];rfl
 have e1:(-1074+(i:Int)-min (-1074+(i:Int)) (-1074+(j:Int))).toNat=i-j:=by omega
 have e2:(-1074+(j:Int)-min (-1074+(i:Int)) (-1074+(j:Int))).toNat=0:=by omega
 have e3:m*2^i=m*2^(i-j)*2^j:=by rw[Nat.mul_assoc,←Nat.pow_add,show i-j+j=i by omega]
 rw[e1,e2,e3,Nat.pow_zero,Nat.mul_one];have e4:(n*2^j<m*2^(i-j)*2^j)↔n<m*2^(i-j):=Nat.mul_lt_mul_right (Nat.two_pow_pos j);generalize m*2^(i-j)=a at*;rw[decide_eq_decide.2 e4];rcases Nat.lt_trichotomy n a with h5|h5|h5
 ·rw[decide_eq_true h5];have:compare (a:Int) (n:Int)=.gt:=Int.compare_eq_gt.2 (by omega);rw[this];rfl
 ·rw[decide_eq_false (by omega)];have:compare (a:Int) (n:Int)=.eq:=Int.compare_eq_eq.2 (by omega);rw[this];rfl
 rw[decide_eq_false (by omega)];have:compare (a:Int) (n:Int)=.lt:=Int.compare_eq_lt.2 (by omega);rw[this];rfl
theorem Pr{u:Nat}(h:u<9218868437227405312):gtM u=decide (4503599627370496*2^1042<fm u*2^fe u):=by
 have hK:=FQ (u:=4697254411347427328) (by omega);rw[show fm 4697254411347427328=4503599627370496 by decide,show fe 4697254411347427328=1042 by decide]at hK;show((Ieee.double.read u).order (Ieee.double.read 4697254411347427328)==some .gt)=_;rw[FQ h,hK];exact Ny
theorem L9{e c:Nat}(h:c≤e):2^e=2^c*2^(e-c):=by rw[←Nat.pow_add,show c+(e-c)=e by omega]
theorem Ps{u:Nat}(h:u<9218868437227405312):gtM u=decide (4697254411347427328<u):=by
 rw[Pr h];refine decide_eq_decide.2 ?_;have hm:=UV u;have hm':fm u<9007199254740992:=hm;obtain⟨c,hc⟩: ∃c,c=1042:=⟨_,rfl⟩;rw[←hc];rcases Nat.lt_trichotomy (fe u) c with h1|h1|h1
 ·have h2:2^c=2^(fe u+1)*2^(c- (fe u+1)):=L9 (by omega);have h3:0<2^(c- (fe u+1)):=Nat.two_pow_pos _;have h4:0<2^fe u:=Nat.two_pow_pos _;have h5:2^(fe u+1)=2*2^fe u:=by rw[Nat.pow_succ,Nat.mul_comm]
  have h6:fm u*2^fe u<9007199254740992*2^fe u:=Nat.mul_lt_mul_of_pos_right hm' h4;have h7:9007199254740992*2^fe u≤4503599627370496*2^c:=by
   rw[h2,h5]
   calc 9007199254740992*2^fe u=4503599627370496*(2*2^fe u)*1:=by omega
    _≤4503599627370496*(2*2^fe u)*2^(c- (fe u+1)):=Nat.mul_le_mul_left _ h3
    _=4503599627370496*(2*2^fe u*2^(c- (fe u+1))):=by rw[Nat.mul_assoc 4503599627370496]
  have h8: ¬ 4697254411347427328<u:=by
   unfold fe at h1;omega
  constructor
  ·intro h9;omega
  intro h9;exact absurd h9 h8
 ·rw[h1];have h4:0<2^c:=Nat.two_pow_pos _;rw[Nat.mul_lt_mul_right h4];unfold fe at h1;have e0: ¬u/4503599627370496=0:=by omega
  unfold fm;rw[if_neg e0];omega
 have h2:2^fe u=2^(c+1)*2^(fe u- (c+1)):=L9 (by omega);have h3:0<2^(fe u- (c+1)):=Nat.two_pow_pos _;have h4:0<2^c:=Nat.two_pow_pos _;have h5:2^(c+1)=2*2^c:=by rw[Nat.pow_succ,Nat.mul_comm]
 have e0: ¬u/4503599627370496=0:=by unfold fe at h1;omega
 have h6:4503599627370496≤fm u:=by unfold fm;rw[if_neg e0];omega
 have h7:4503599627370496*(2*2^c)≤fm u*2^fe u:=by
  rw[h2,h5];refine Nat.mul_le_mul h6 ?_;exact Nat.le_mul_of_pos_right _ h3
 have h8:4697254411347427328<u:=by
  unfold fe at h1;omega
 constructor
 ·intro _;exact h8
 intro _;omega
end Go.Proofs.YtbikpmmpgbggaaaGreatDoor
