/- Contracts of the program's functions, part 23: own work, joined in build order. -/
import Derived.Test.YtbikpmmpgbggaaaGreatDoorJ22
namespace Go.Proofs.YtbikpmmpgbggaaaGreatDoor
open Go.RowKit
set_option maxRecDepth 100000
set_option linter.unusedVariables false
set_option maxHeartbeats 16000000
theorem AL(n a b:Int)(w:World):Calls Tryz.prog 45 #[.int .i64 n,.int .i64 a,.int .i64 b] w fun e w'=>e=.returned (.bool (!hld a b n))∧w'=w:=by
 by_cases h1:n<a
 ·have d1:decide (n<a)=true:=decide_eq_true h1;have HV:Hid (hld a b n=false):=by show _=_;unfold hld;rw[decide_eq_false (by omega)];rfl
  go_enter Tryz.func45,Tryz.ntmps45
  go_wp2_with fail
  all_goals(go_ret;rw[HV.out];exact⟨rfl,rfl⟩)
 have d1:decide (n<a)=false:=decide_eq_false h1;have HV:Hid (hld a b n=decide (n≤b)):=by show _=_;unfold hld;rw[decide_eq_true (by omega)];rfl
 by_cases h2:b<n
 ·have d2:decide (b<n)=true:=decide_eq_true h2;have HV2:Hid (hld a b n=false):=by show _=_;rw[HV.out];exact decide_eq_false (by omega)
  go_enter Tryz.func45,Tryz.ntmps45
  go_wp2_with fail
  all_goals(go_ret;rw[HV2.out];exact⟨rfl,rfl⟩)
 have d2:decide (b<n)=false:=decide_eq_false h2;have HV2:Hid (hld a b n=true):=by show _=_;rw[HV.out];exact decide_eq_true (by omega)
 go_enter Tryz.func45,Tryz.ntmps45
 go_wp2_with fail
 all_goals(go_ret;rw[HV2.out];exact⟨rfl,rfl⟩)
theorem Kd(n:Int):hld 0 0 n=(n==0):=by
 unfold hld;by_cases h:n=0
 ·subst h;rfl
 rw[show(n==0)=false by simpa using h];rcases Int.lt_or_gt_of_ne h with q|q
 ·rw[decide_eq_false (show¬ 0≤n by omega)];rfl
 rw[decide_eq_false (show¬n≤0 by omega),Bool.and_false]
theorem Gl(k n:Int)(w:World):Calls Tryz.prog 46 #[.int .i64 k,.int .i64 n] w fun e w'=>e=.returned (.bool (hld 0 (fA1 k) n))∧w'=w:=by
 by_cases h:k=4
 ·subst h;have HV:Hid (fA1 4=1099511627776):=rfl;rw[HV.out];go_enter Tryz.func46,Tryz.ntmps46
  go_wp2_with fail
  refine(AL n 0 1099511627776 _).mono ?_;rintro e w1 ⟨rfl,hw⟩;rw[hw];clear hw w1;obtain⟨B,hB⟩:=nmd (hld 0 1099511627776 n);rw[hB];cases B
  ·go_wp2_with fail
   go_ret
   exact⟨by rw[hB];rfl,rfl⟩
  go_wp2_with fail
  go_ret
  exact⟨by rw[hB];rfl,rfl⟩
 have HV:Hid (hld 0 (fA1 k) n=(n==0)):=by show _=_;unfold fA1;rw[if_neg h,Kd]
 have d:(k==4)=false:=by simpa using h
 rw[HV.out];clear h;go_enter Tryz.func46,Tryz.ntmps46
 go_wp2_with fail
 go_ret
 exact⟨rfl,rfl⟩
theorem Sq(a:Option Addr)(n cap:Nat)(F:Nat→Nat→Int)(i:Nat)(w:World)(h:NSl w a n cap F)(hi:i<n):
  Calls Tryz.prog 84 #[.slice a n cap,.int .i64 (i:Int)] w fun e w'=>e=.returned (.int .i64 (CS F i))∧Below w.heap.size w w':=by
 obtain⟨b,o,rfl,hc⟩:=h.at (by omega);have hl0:n≤9223372036854775807:=Nat.le_trans h.le h.lim;have c0:w.cell? ⟨b,o+i*4,none⟩=some (.int .i64 (F i 0)):=by simpa using hc i 0 hi (by omega)
 have c1:=hc i 1 hi (by omega);have c2:=hc i 2 hi (by omega);have c3:=hc i 3 hi (by omega);have lb:=World.block_lt_of_cell? _ _ c0;obtain⟨K,eK⟩:=nmd (F i 0);obtain⟨Pa,eP⟩:=nmd (F i 1);obtain⟨Q,eQ⟩:=nmd (F i 2);obtain⟨A,eA⟩:=nmd (F i 3);rw[eK]at c0;rw[eP]at c1;rw[eQ]at c2;rw[eA]at c3;obtain⟨E,hE⟩:=nmd (CS F i);rw[hE];have W1:Hid (Below w.heap.size w (w.alloc (.cells #[.int .i64 K,.int .i64 Pa,.int .i64 Q,.int .i64 A] 78))):=Af (Aa w);clear h;by_cases hi0:i=0
 ·subst hi0;have HE0:Hid (E=if isK K=false then 90 else(if¬K=6 then 90 else if¬Pa=0 then 1 else if hld 0 0 Q=false then 94 else if hld 0 (fA1 K) A=false then 95 else 0)):=by
   show _=_;rw[←hE,CS,eK,eP,eQ,eA,if_pos (rfl:(0:Nat)=0)]
  have c0':w.cell? ⟨b,o,none⟩=some (.int .i64 K):=by simpa using c0
  have c1':w.cell? ⟨b,o+1,none⟩=some (.int .i64 Pa):=by simpa using c1
  have c2':w.cell? ⟨b,o+2,none⟩=some (.int .i64 Q):=by simpa using c2
  have c3':w.cell? ⟨b,o+3,none⟩=some (.int .i64 A):=by simpa using c3
  clear hc eK eP eQ eA hE c0 c1 c2 c3;by_cases k1:isK K=true
  ·have KB:Hid (hld 1 6 K=true):=k1;by_cases k6:K=6
   ·subst k6;by_cases p0:Pa=0
    ·subst p0;by_cases z0:Q=0
     ·subst z0;obtain⟨B,hB⟩:=nmd (hld 0 (fA1 6) A);have AB:Hid _:=hB;rw[hB]at HE0;clear hB k1;cases B
      ·have HE:Hid (E=95):=by have q:=HE0.out;show E=95;rw[q];rfl
       clear HE0;go_enter Tryz.func84,Tryz.ntmps84
       go_wp2_with fail
       refine(AL 6 1 6 _).mono ?_;rintro e w1 ⟨rfl,hw⟩;rw[hw];clear hw w1;rw[KB.out];go_wp2_with fail
       refine(Gl 6 A _).mono ?_;rintro e w1 ⟨rfl,hw⟩;rw[hw];clear hw w1;rw[AB.out];go_wp2_with fail
       go_ret
       exact⟨by rw[HE.out];rfl,W1.out⟩
      have HE:Hid (E=0):=by have q:=HE0.out;show E=0;rw[q];rfl
      clear HE0;go_enter Tryz.func84,Tryz.ntmps84
      go_wp2_with fail
      refine(AL 6 1 6 _).mono ?_;rintro e w1 ⟨rfl,hw⟩;rw[hw];clear hw w1;rw[KB.out];go_wp2_with fail
      refine(Gl 6 A _).mono ?_;rintro e w1 ⟨rfl,hw⟩;rw[hw];clear hw w1;rw[AB.out];go_wp2_with fail
      go_ret
      exact⟨by rw[HE.out];rfl,W1.out⟩
     have HE:Hid (E=94):=by
      have q:=HE0.out;show E=94;rw[q,if_neg (by decide),if_neg (by decide),if_neg (by decide),Kd,if_pos (by simpa using z0)]
     have d:(Q != 0)=true:=by simpa using z0
     clear HE0 z0 k1;go_enter Tryz.func84,Tryz.ntmps84
     go_wp2_with fail
     refine(AL 6 1 6 _).mono ?_;rintro e w1 ⟨rfl,hw⟩;rw[hw];clear hw w1;rw[KB.out];go_wp2_with fail
     go_ret
     exact⟨by rw[HE.out];rfl,W1.out⟩
    have HE:Hid (E=1):=by
     have q:=HE0.out;show E=1;rw[q,if_neg (by decide),if_neg (by decide),if_pos p0]
    have d:(Pa != 0)=true:=by simpa using p0
    clear HE0 p0 k1;go_enter Tryz.func84,Tryz.ntmps84
    go_wp2_with fail
    refine(AL 6 1 6 _).mono ?_;rintro e w1 ⟨rfl,hw⟩;rw[hw];clear hw w1;rw[KB.out];go_wp2_with fail
    go_ret
    exact⟨by rw[HE.out];rfl,W1.out⟩
   have HE:Hid (E=90):=by
    have q:=HE0.out;show E=90;rw[q,k1,if_neg (by decide),if_pos k6]
   have d:(K != 6)=true:=by simpa using k6
   clear HE0 k6 k1;go_enter Tryz.func84,Tryz.ntmps84
   go_wp2_with fail
   refine(AL K 1 6 _).mono ?_;rintro e w1 ⟨rfl,hw⟩;rw[hw];clear hw w1;rw[KB.out];go_wp2_with fail
   go_ret
   exact⟨by rw[HE.out];rfl,W1.out⟩
  have KB:Hid (hld 1 6 K=false):=Bool.eq_false_iff.2 k1;have HE:Hid (E=90):=by
   have q:=HE0.out;show E=90;rw[q,if_pos (by simpa using k1)]
  clear HE0 k1;go_enter Tryz.func84,Tryz.ntmps84
  go_wp2_with fail
  refine(AL K 1 6 _).mono ?_;rintro e w1 ⟨rfl,hw⟩;rw[hw];clear hw w1;rw[KB.out];go_wp2_with fail
  go_ret
  exact⟨by rw[HE.out];rfl,W1.out⟩
 have HE0:Hid (E=if isK K=false then 90 else(if¬kO F i Pa=6 then 1 else if hld 1 1073741824 Q=false then 94 else if hld 0 (fA1 K) A=false then 95 else 0)):=by
  show _=_;rw[←hE,CS,eK,eP,eQ,eA,if_neg hi0]
 have i0:0<i:=by omega
 have e0:((i:Int)==0)=false:=by simp;omega
 clear eK eP eQ eA hE hi0;by_cases k1:isK K=true
 ·have KB:Hid (hld 1 6 K=true):=k1;by_cases p1:0≤Pa∧Pa<(i:Int)
  ·have PB:Hid (hld 0 ((i:Int)-1) Pa=true):=RN p1.1 (by omega);obtain⟨k,rfl⟩: ∃k:Nat,Pa=(k:Int):=⟨Pa.toNat,by omega⟩;have lk:k<i:=by omega
   have lkn:k<n:=by omega
   have d0:w.cell? ⟨b,o+k*4,none⟩=some (.int .i64 (F k 0)):=by simpa using hc k 0 (by omega) (by omega)
   have hkO:kO F i (k:Int)=F k 0:=by unfold kO;rw[if_pos ⟨by omega,by omega⟩];rfl
   rw[hkO]at HE0;obtain⟨KP,hKP⟩:=nmd (F k 0);rw[hKP]at HE0 d0;clear hKP hkO p1 hc;by_cases k6:KP=6
   ·subst k6;obtain⟨B,hB⟩:=nmd (hld 1 1073741824 Q);have QB:Hid _:=hB;rw[hB]at HE0;clear hB;cases B
    ·have HE:Hid (E=94):=by have q:=HE0.out;show E=94;rw[q,k1];rfl
     clear HE0 k1;go_enter Tryz.func84,Tryz.ntmps84
     go_wp2_with fail
     refine(AL K 1 6 _).mono ?_;rintro e w1 ⟨rfl,hw⟩;rw[hw];clear hw w1;rw[KB.out];go_wp2_with fail
     refine(AL (k:Int) 0 ((i:Int)-1) _).mono ?_;rintro e w1 ⟨rfl,hw⟩;rw[hw];clear hw w1;rw[PB.out];go_wp2_with fail
     refine(AL Q 1 1073741824 _).mono ?_;rintro e w1 ⟨rfl,hw⟩;rw[hw];clear hw w1;rw[QB.out];go_wp2_with fail
     go_ret
     exact⟨by rw[HE.out];rfl,W1.out⟩
    obtain⟨B,hB⟩:=nmd (hld 0 (fA1 K) A);have AB:Hid _:=hB;rw[hB]at HE0;clear hB;cases B
    ·have HE:Hid (E=95):=by have q:=HE0.out;show E=95;rw[q,k1];rfl
     clear HE0 k1;go_enter Tryz.func84,Tryz.ntmps84
     go_wp2_with fail
     refine(AL K 1 6 _).mono ?_;rintro e w1 ⟨rfl,hw⟩;rw[hw];clear hw w1;rw[KB.out];go_wp2_with fail
     refine(AL (k:Int) 0 ((i:Int)-1) _).mono ?_;rintro e w1 ⟨rfl,hw⟩;rw[hw];clear hw w1;rw[PB.out];go_wp2_with fail
     refine(AL Q 1 1073741824 _).mono ?_;rintro e w1 ⟨rfl,hw⟩;rw[hw];clear hw w1;rw[QB.out];go_wp2_with fail
     refine(Gl K A _).mono ?_;rintro e w1 ⟨rfl,hw⟩;rw[hw];clear hw w1;rw[AB.out];go_wp2_with fail
     go_ret
     exact⟨by rw[HE.out];rfl,W1.out⟩
    have HE:Hid (E=0):=by have q:=HE0.out;show E=0;rw[q,k1];rfl
    clear HE0 k1;go_enter Tryz.func84,Tryz.ntmps84
    go_wp2_with fail
    refine(AL K 1 6 _).mono ?_;rintro e w1 ⟨rfl,hw⟩;rw[hw];clear hw w1;rw[KB.out];go_wp2_with fail
    refine(AL (k:Int) 0 ((i:Int)-1) _).mono ?_;rintro e w1 ⟨rfl,hw⟩;rw[hw];clear hw w1;rw[PB.out];go_wp2_with fail
    refine(AL Q 1 1073741824 _).mono ?_;rintro e w1 ⟨rfl,hw⟩;rw[hw];clear hw w1;rw[QB.out];go_wp2_with fail
    refine(Gl K A _).mono ?_;rintro e w1 ⟨rfl,hw⟩;rw[hw];clear hw w1;rw[AB.out];go_wp2_with fail
    go_ret
    exact⟨by rw[HE.out];rfl,W1.out⟩
   have HE:Hid (E=1):=by
    have q:=HE0.out;show E=1;rw[q,k1,if_neg (by decide),if_pos k6]
   have d:(KP != 6)=true:=by simpa using k6
   clear HE0 k6 k1;go_enter Tryz.func84,Tryz.ntmps84
   go_wp2_with fail
   refine(AL K 1 6 _).mono ?_;rintro e w1 ⟨rfl,hw⟩;rw[hw];clear hw w1;rw[KB.out];go_wp2_with fail
   refine(AL (k:Int) 0 ((i:Int)-1) _).mono ?_;rintro e w1 ⟨rfl,hw⟩;rw[hw];clear hw w1;rw[PB.out];go_wp2_with fail
   go_ret
   exact⟨by rw[HE.out];rfl,W1.out⟩
  have PB:Hid (hld 0 ((i:Int)-1) Pa=false):=by
   show _=_;unfold hld;by_cases q:0≤Pa
   ·rw[decide_eq_false (show¬Pa≤(i:Int)-1 by omega),Bool.and_false]
   rw[decide_eq_false q];rfl
  have HE:Hid (E=1):=by
   have q:=HE0.out;have z:kO F i Pa=0:=by unfold kO;rw[if_neg p1]
   show E=1;rw[q,k1,if_neg (by decide),z,if_pos (by decide)]
  clear HE0 p1 k1 hc;go_enter Tryz.func84,Tryz.ntmps84
  go_wp2_with fail
  refine(AL K 1 6 _).mono ?_;rintro e w1 ⟨rfl,hw⟩;rw[hw];clear hw w1;rw[KB.out];go_wp2_with fail
  refine(AL Pa 0 ((i:Int)-1) _).mono ?_;rintro e w1 ⟨rfl,hw⟩;rw[hw];clear hw w1;rw[PB.out];go_wp2_with fail
  go_ret
  exact⟨by rw[HE.out];rfl,W1.out⟩
 have KB:Hid (hld 1 6 K=false):=Bool.eq_false_iff.2 k1;have HE:Hid (E=90):=by
  have q:=HE0.out;show E=90;rw[q,if_pos (by simpa using k1)]
 clear HE0 k1 hc;go_enter Tryz.func84,Tryz.ntmps84
 go_wp2_with fail
 refine(AL K 1 6 _).mono ?_;rintro e w1 ⟨rfl,hw⟩;rw[hw];clear hw w1;rw[KB.out];go_wp2_with fail
 go_ret
 exact⟨by rw[HE.out];rfl,W1.out⟩
def Um(F:Nat→Nat→Int)(n i:Nat):Prop:= ∃k,i<k∧k<n∧F k 1=(i:Int)
open Classical in
theorem Om(a:Option Addr)(n cap:Nat)(F:Nat→Nat→Int)(i:Nat)(B:Bool)(w:World)(h:NSl w a n cap F)(hi:i<n)(hB:decide (Um F n i)=B):
  Calls Tryz.prog 85 #[.slice a n cap,.int .i64 (i:Int)] w fun e w'=>e=.returned (.bool B)∧w'=w:=by
 obtain⟨b,o,rfl,hc⟩:=h.at (by omega);have hl0:n≤9223372036854775807:=Nat.le_trans h.le h.lim;have HC:Hid _:=hc;have HB:Hid _:=hB;clear h hc hB;go_enter Tryz.func85,Tryz.ntmps85
 go_wp2_with fail
 go_loopw [5] (fun t wr=> ∃k:Nat,i<k∧k≤n∧t=.int .i64 (k:Int)∧wr=w∧Hid (∀j,i<j→j<k→F j 1≠(i:Int))) (fun t _=>n- (intOf t).toNat)
 case atStart=>exact⟨i+1,by omega,by omega,by go_num,rfl,fun j h1 h2=>by omega⟩
 case round=>
  obtain⟨k,h1,h2,rfl,rfl,HS⟩:=hrel;by_cases ek:k=n
  ·subst ek;have HV:Hid (B=false):=by
    show _=_;rw[←HB.out];exact decide_eq_false fun⟨j,q1,q2,q3⟩=>HS.out j q1 q2 q3
   go_wp2_with fail
   go_ret
   exact⟨by rw[HV.out];rfl,rfl⟩
  have lk:k<n:=by omega
  have c1:=HC.out k 1 lk (by omega);by_cases q:F k 1=(i:Int)
  ·rw[q]at c1;have HV:Hid (B=true):=by
    show _=_;rw[←HB.out];exact decide_eq_true ⟨k,h1,lk,q⟩
   clear q;go_wp2_with fail
   go_ret
   exact⟨by rw[HV.out];rfl,rfl⟩
  have d:(F k 1==(i:Int))=false:=by simpa using q
  have HS2:Hid (∀j,i<j→j<k+1→F j 1≠(i:Int)):=fun j q1 q2=>by
   by_cases e:j=k
   ·subst e;exact q
   exact HS.out j q1 (by omega)
  clear q;go_wp2_with fail
  go_roundw
  case rel=>exact⟨k+1,by omega,by omega,by go_num,(by trivial),HS2⟩
  case measure=>simp[intOf];omega
theorem VJ(F:Nat→Nat→Int)(m j:Nat):0<Ci F m j↔ ∃k,1≤k∧k≤m∧F k 1=(j:Int):=by
 induction m with
 |zero=>
  rw[Ci];exact⟨fun h=>by omega,fun⟨k,h1,h2,_⟩=>by omega⟩
 |succ m ih=>
  rw[Ci];constructor
  ·intro h;by_cases q:F (m+1) 1=(j:Int)
   ·exact⟨m+1,by omega,by omega,q⟩
   rw[if_neg q]at h;obtain⟨k,h1,h2,h3⟩:=ih.1 (by omega);exact⟨k,h1,by omega,h3⟩
  rintro⟨k,h1,h2,h3⟩;by_cases e:k=m+1
  ·subst e;rw[if_pos h3];omega
  have:=ih.2 ⟨k,h1,by omega,h3⟩;omega
theorem Pn{F:Nat→Nat→Int}{n:Nat}(h:Bz F n=0)(i:Nat):Um F n i↔0<Ci F (n-1) i:=by
 rw[VJ];constructor
 ·rintro⟨k,h1,h2,h3⟩;exact⟨k,by omega,by omega,h3⟩
 rintro⟨k,h1,h2,h3⟩;refine⟨k,?_,by omega,h3⟩;have:=UZ (F:=F) (n:=k) (x:=F k 1) (by rw[(Hx (by omega) (F5 h k (by omega))).2.2.1];decide);omega
theorem KX(a:Option Addr)(n cap:Nat)(F:Nat→Nat→Int)(w:World)(h:NSl w a n cap F):
  Calls Tryz.prog 47 #[.slice a n cap] w fun e w'=>e=.returned (.int .i64 (Cl F n))∧Below w.heap.size w w':=by
 classical
 obtain⟨E,hE⟩:=nmd (Cl F n);rw[hE];have HN:Hid _:=h;have hl:n≤9223372036854775807:=Nat.le_trans h.le h.lim;clear h;obtain⟨B,hB⟩:=nmd (hld 1 32 (n:Int));have HB:Hid _:=hB;have HE:Hid (E=if B=false then 1 else if¬Bz F n=0 then Bz F n else if Hy F n=false then 1 else 0):=by show _=_;rw[←hE,Cl,hB]
 clear hE hB;go_enter Tryz.func47,Tryz.ntmps47
 go_wp2_with fail
 refine(AL (n:Int) 1 32 _).mono ?_;rintro e w1 ⟨rfl,hw⟩;rw[hw,HB.out];clear hw w1;cases B
 ·have HV:Hid (E=1):=by have q:=HE.out;show E=1;rw[q];rfl
  clear HE;go_wp2_with fail
  go_ret
  exact⟨by rw[HV.out];rfl,Aa w⟩
 have hn:=C7 HB.out;have n1:1≤n:=by omega
 have n2:n≤32:=by omega
 clear hn;go_wp2_with fail
 go_loopw [3,4] (fun t t4 wr=> ∃k:Nat,k≤n∧t=.int .i64 (k:Int)∧Hid (Below w.heap.size w wr)∧Hid (Bz F k=0)) (fun t _ _=>n- (intOf t).toNat)
 case atStart=>exact⟨0,by omega,rfl,Aa w,rfl⟩
 case round=>
  obtain⟨k,hk,rfl,BW,HF⟩:=hrel;by_cases ek:k=n
  ·subst ek;have HK:Hid (E=if Hy F k=false then 1 else 0):=by
    have q:=HE.out;show E=_;rw[q,if_neg (by decide),if_neg (by rw[HF.out];simp)]
   obtain⟨wz,hwz⟩:=nme wr;rw[←hwz]at BW;rw[←hwz];clear HE hwz;go_wp2_with fail
   go_loopw [5] (fun t wr=> ∃j:Nat,j≤k∧t=.int .i64 (j:Int)∧wr=wz∧Hid (∀i,i<j→F i 0=6→0<Ci F (k-1) i)) (fun t _=>k- (intOf t).toNat)
   case atStart=>exact⟨0,by omega,rfl,rfl,fun i h=>by omega⟩
   case round=>
    obtain⟨j,hj,rfl,rfl,HS⟩:=hrel;by_cases ej:j=k
    ·subst ej;have HV:Hid (E=0):=by
      have q:=HK.out;show E=0;rw[q,show Hy F j=true from decide_eq_true HS.out];rfl
     go_wp2_with fail
     go_ret
     exact⟨by rw[HV.out];rfl,BW.out⟩
    have lj:j<k:=by omega
    have hn2:=HN.out.go BW.out;obtain⟨b,o,ea,hc⟩:=hn2.at (by omega);subst ea;have c0:wr.cell? ⟨b,o+j*4,none⟩=some (.int .i64 (F j 0)):=by simpa using hc j 0 lj (by omega)
    have HN2:Hid _:=hn2;clear hn2 hc;by_cases q6:F j 0=6
    ·rw[q6]at c0;obtain⟨D,hD⟩:=nmd (decide (Um F k j));go_wp2_with fail
     refine(Om _ k cap F j D _ HN2.out lj hD).mono ?_;rintro e w1 ⟨rfl,hw⟩;rw[hw];clear hw w1;cases D
     ·have HV:Hid (E=1):=by
       have q:=HK.out;show E=1;rw[q,show Hy F k=false from decide_eq_false fun z=>of_decide_eq_false hD ((Pn HF.out j).2 (z j lj q6))];rfl
      clear hD q6;go_wp2_with fail
      go_ret
      exact⟨by rw[HV.out];rfl,BW.out⟩
     have HS2:Hid (∀i,i<j+1→F i 0=6→0<Ci F (k-1) i):=fun i hi z=>by
      by_cases e:i=j
      ·subst e;exact(Pn HF.out i).1 (of_decide_eq_true hD)
      exact HS.out i (by omega) z
     clear hD q6;go_wp2_with fail
     go_roundw
     case rel=>exact⟨j+1,by omega,by go_num,(by trivial),HS2⟩
     case measure=>simp[intOf];omega
    have d:(F j 0==6)=false:=by simpa using q6
    have HS2:Hid (∀i,i<j+1→F i 0=6→0<Ci F (k-1) i):=fun i hi z=>by
     by_cases e:i=j
     ·subst e;exact absurd z q6
     exact HS.out i (by omega) z
    clear q6;go_wp2_with fail
    go_roundw
    case rel=>exact⟨j+1,by omega,by go_num,(by trivial),HS2⟩
    case measure=>simp[intOf];omega
  have lk:k<n:=by omega
  go_wp2_with fail
  refine(Sq a n cap F k _ (HN.out.go BW.out) lk).mono ?_;rintro e w2 ⟨rfl,hb2⟩;have W2:Hid (Below w.heap.size w w2):=AU BW.out hb2;obtain⟨ne,hne⟩:=nmd (CS F k);rw[hne];clear hb2;by_cases z:ne=0
  ·subst z;have HF2:Hid (Bz F (k+1)=0):=by show _=_;rw[Bz,if_pos HF.out,hne]
   clear hne;go_wp2_with fail
   go_roundw
   case rel=>exact⟨k+1,by omega,by go_num,W2,HF2⟩
   case measure=>simp[intOf];omega
  have d:(ne != 0)=true:=by simpa using z
  have HV:Hid (E=ne):=by
   have q:=HE.out;have q2:=Jj HF.out (by rw[hne];exact z) lk;rw[hne]at q2;show E=ne;rw[q,q2,if_neg (by decide),if_pos z]
  clear hne z;go_wp2_with fail
  go_ret
  exact⟨by rw[HV.out];rfl,W2.out⟩
theorem Fu(K R M C Fl A:Int)(a:Option Addr)(n cap:Nat)(F:Nat→Nat→Int)(w:World)(h:NSl w a n cap F):
  Calls Tryz.prog 20 #[.agg #[.int .i64 K,.int .i64 R,.int .i64 M,.int .i64 C,.int .i64 Fl,.int .i64 A,.slice a n cap]] w fun e w'=>e=.returned (.int .i64 (A4 K R M C Fl A F n))∧Below w.heap.size w w':=by
 obtain⟨E,hE⟩:=nmd (A4 K R M C Fl A F n);rw[hE];unfold A4 at hE;have HN:Hid _:=h;have hl:n≤9223372036854775807:=Nat.le_trans h.le h.lim;clear h;obtain⟨BK,hBK⟩:=nmd (isK K);have BKH:Hid (hld 1 6 K=BK):=hBK;rw[hBK]at hE;clear hBK;obtain⟨BM,hBM⟩:=nmd (hld 1 65536 M);have BMH:Hid (hld 1 65536 M=BM):=hBM;rw[hBM]at hE;clear hBM;obtain⟨BR,hBR⟩:=nmd (hld M 1073741824 R);have BRH:Hid (hld M 1073741824 R=BR):=hBR;rw[hBR]at hE;clear hBR;obtain⟨BC,hBC⟩:=nmd (hld 1 4096 C);have BCH:Hid (hld 1 4096 C=BC):=hBC;rw[hBC]at hE;clear hBC;obtain⟨BF,hBF⟩:=nmd (hld 1 256 Fl);have BFH:Hid (hld 1 256 Fl=BF):=hBF;rw[hBF]at hE;clear hBF;obtain⟨BA,hBA⟩:=nmd (hld 0 (fA1 K) A);have BAH:Hid (hld 0 (fA1 K) A=BA):=hBA;rw[hBA]at hE;clear hBA;have HE:Hid _:=hE.symm;clear hE;have W1:Hid (Below w.heap.size w (w.alloc (.cells #[.int .i64 K,.int .i64 R,.int .i64 M,.int .i64 C,.int .i64 Fl,.int .i64 A,.slice a n cap] 24))):=Af (Aa w);go_enter Tryz.func20,Tryz.ntmps20
 go_wp2_with fail
 refine(AL K 1 6 _).mono ?_;rintro e w2 ⟨rfl,hw⟩;rw[hw,BKH.out];clear hw w2;cases BK
 ·have HV:Hid (E=90):=by have q:=HE.out;show E=90;rw[q];rfl
  clear HE;go_wp2_with fail
  go_ret
  exact⟨by rw[HV.out];rfl,W1.out⟩
 go_wp2_with fail
 refine(AL M 1 65536 _).mono ?_;rintro e w2 ⟨rfl,hw⟩;rw[hw,BMH.out];clear hw w2;cases BM
 ·have HV:Hid (E=92):=by have q:=HE.out;show E=92;rw[q];rfl
  clear HE;go_wp2_with fail
  go_ret
  exact⟨by rw[HV.out];rfl,W1.out⟩
 go_wp2_with fail
 refine(AL R M 1073741824 _).mono ?_;rintro e w2 ⟨rfl,hw⟩;rw[hw,BRH.out];clear hw w2;cases BR
 ·have HV:Hid (E=91):=by have q:=HE.out;show E=91;rw[q];rfl
  clear HE;go_wp2_with fail
  go_ret
  exact⟨by rw[HV.out];rfl,W1.out⟩
 go_wp2_with fail
 refine(AL C 1 4096 _).mono ?_;rintro e w2 ⟨rfl,hw⟩;rw[hw,BCH.out];clear hw w2;cases BC
 ·have HV:Hid (E=93):=by have q:=HE.out;show E=93;rw[q];rfl
  clear HE;go_wp2_with fail
  go_ret
  exact⟨by rw[HV.out];rfl,W1.out⟩
 go_wp2_with fail
 refine(AL Fl 1 256 _).mono ?_;rintro e w2 ⟨rfl,hw⟩;rw[hw,BFH.out];clear hw w2;cases BF
 ·have HV:Hid (E=99):=by have q:=HE.out;show E=99;rw[q];rfl
  clear HE;go_wp2_with fail
  go_ret
  exact⟨by rw[HV.out];rfl,W1.out⟩
 go_wp2_with fail
 refine(Gl K A _).mono ?_;rintro e w2 ⟨rfl,hw⟩;rw[hw,BAH.out];clear hw w2;cases BA
 ·have HV:Hid (E=95):=by have q:=HE.out;show E=95;rw[q];rfl
  clear HE;go_wp2_with fail
  go_ret
  exact⟨by rw[HV.out];rfl,W1.out⟩
 by_cases k6:K=6
 ·subst k6;have HV:Hid (E=Cl F n):=by have q:=HE.out;show E=_;rw[q];rfl
  clear HE;go_wp2_with fail
  refine(KX a n cap F _ (HN.out.go W1.out)).mono ?_;rintro e w2 ⟨rfl,hb2⟩;have W2:Hid _:=AU W1.out hb2;clear hb2;rw[←HV.out];go_wp2_with fail
  go_ret
  exact⟨rfl,W2.out⟩
 have d6:(K==6)=false:=by simpa using k6
 by_cases n0:0<n
 ·have HV:Hid (E=1):=by have q:=HE.out;show E=1;rw[q,if_neg (by decide),if_neg (by decide),if_neg (by decide),if_neg (by decide),if_neg (by decide),if_neg (by decide),if_neg k6,if_pos n0]
  clear HE k6;go_wp2_with fail
  go_ret
  exact⟨by rw[HV.out];rfl,W1.out⟩
 have HV:Hid (E=0):=by have q:=HE.out;show E=0;rw[q,if_neg (by decide),if_neg (by decide),if_neg (by decide),if_neg (by decide),if_neg (by decide),if_neg (by decide),if_neg k6,if_neg n0]
 clear HE k6;go_wp2_with fail
 go_ret
 exact⟨by rw[HV.out];rfl,W1.out⟩
abbrev zC:Array Value:= #[.int .i64 0,.int .i64 0,.int .i64 0,.int .i64 0,.int .i64 0,.int .i64 0,.slice none 0 0]
abbrev zP:Array Value:= #[.int .i64 0,.int .i64 0,.int .i64 0,.int .i64 0,.int .i64 0,.float .f64 0,.int .i64 0,.int .i64 0]
theorem Nu(s:ByteArray):prE s≠0→(∀i,prI s i=0)∧prN s=[]:=fun h=>⟨fun i=>by unfold prI;rw[if_neg h],by unfold prN;rw[if_neg h]⟩
theorem Nv(s:ByteArray):prE s=0→(∀i,prI s i=Aq (Ab s,false) i)∧prN s=suN (Ab s,false):=fun h=>⟨fun i=>by unfold prI;rw[if_pos h],by unfold prN;rw[if_pos h]⟩
structure Bc (w W:World) (g:Nat) (t:TypeId) (c:Array Value):Prop where
 hc:W.heap[g]? =some (.cells c t)
 bel:Below w.heap.size w W
 ge:w.heap.size≤g
theorem Bc.new(w:World)(c:Array Value)(t:TypeId):Bc w (w.alloc (.cells c t)) w.heap.size t c:=⟨CZ _ _,Af (Aa w),Nat.le_refl _⟩
theorem Bc.go{w W W':World}{g:Nat}{t:TypeId}{c:Array Value}(h:Bc w W g t c)(k:Below W.heap.size W W'):Bc w W' g t c:=⟨(k.block _ (Array.getElem?_eq_some_iff.1 h.hc).1).trans h.hc,AU h.bel k,h.ge⟩
theorem Bc.row{w W:World}{g:Nat}{t:TypeId}{c:Array Value}(h:Bc w W g t c)(d:Array Value):Bc w (W.setRow g d) g t d:=
 ⟨setRow_heap _ _ _ _ _ _ h.hc,⟨h.bel.os,h.bel.tape,h.bel.output,by rw[size_setRow];exact h.bel.size,fun k hk=>(setRow_other _ _ _ _ (by have:=h.ge;omega)).trans (h.bel.block k hk)⟩,h.ge⟩
theorem Bc.set{w W:World}{g:Nat}{t:TypeId}{c:Array Value}(h:Bc w W g t c)(i:Nat)(u:Value):Bc w (W.setCell ⟨g,i,none⟩ u) g t (c.setIfInBounds i u):=
 ⟨(heap_setCell_same W g i _ _ _ h.hc).trans (by simp),⟨h.bel.os,h.bel.tape,h.bel.output,by simpa[World.setCell]using h.bel.size,fun k hk=>(Below.heap_setCell _ _ _ _ (by show k≠g;have:=h.ge;omega)).trans (h.bel.block k hk)⟩,h.ge⟩
theorem Bc.drew{w W:World}{g:Nat}{t:TypeId}{c:Array Value}(h:Bc w W g t c)(n:Nat):Bc w (W.drewN n) g t c:=⟨h.hc,C8 h.bel n,h.ge⟩
theorem Iu{W:World}{base:Nat}{v:Value}{L:List ByteArray}(h:OR W 9 base v L.length (tx L)):TSl W v L:=by
 rcases h with⟨rfl,q⟩| ⟨g,cap,f,rfl,h1,h2,h3,h4,h5⟩
 ·refine⟨none,0,by rw[q],by omega,by omega,fun h=>by omega⟩
 refine⟨_,cap,rfl,h2,by simp only[maxLen]at h3;omega,fun _=>⟨g,0,rfl,fun i hi=> ?_⟩⟩;have c:=h4.cell (show i<cap by omega);rw[h5 i hi]at c;rw[Nat.zero_add];exact c
def prG(s:ByteArray):Prop:=s.size≤4096∧(De (Ab s,false)).2=false∧(Aq (Ab s,false) 0=6∨(Ab s).length≤12)
theorem Iv{K:Act→World→Prop}{Q:Exit→Act→World→Prop}{x:Exit}{ac:Act}{W:World}(P:World→Prop)(hP:P W)(h: ∀W',P W'→Exit.then K Q x ac W'):Exit.then K Q x ac W:=h W hP
theorem Po{c:Code}{Q:Exit→Act→World→Prop}{ac:Act}{W:World}(P:World→Prop)(hP:P W)(h: ∀W',P W'→Code.wp Tryz.prog c Q ac W'):Code.wp Tryz.prog c Q ac W:=h W hP
theorem Hb{W:World}{b o m cap k:Nat}{L:List ByteArray}(h:TSl W (.slice (some ⟨b,o,none⟩) m cap) L)(hk:k≤L.length):TSl W (.slice (some ⟨b,o,none⟩) k cap) (L.take k):=by
 obtain⟨a',cap',e,h1,h2,h3⟩:=h;cases e;refine⟨_,cap,by rw[List.length_take,Nat.min_eq_left hk],by rw[List.length_take];omega,h2,fun h0=> ?_⟩;obtain⟨b',o',e2,hc⟩:=h3 (by rw[List.length_take]at h0;omega);cases e2;refine⟨_,_,rfl,fun j hj=> ?_⟩;rw[List.length_take]at hj;rw[hc j (by omega)];unfold tx;simp only[List.getD,List.getElem?_take_of_lt (show j<k by omega)]
theorem GB(W:World)(L:List ByteArray)(hl:L.length≤1000):TSl (W.alloc (.cells (L.map Value.string).toArray 9)) (.slice (some ⟨W.heap.size,0,none⟩) L.length L.length) L:=by
 refine⟨_,_,rfl,Nat.le_refl _,by omega,fun _=>⟨_,_,rfl,fun j hj=> ?_⟩⟩;have q:=CZ W (.cells (L.map Value.string).toArray 9);rw[Nat.zero_add];unfold tx;simp only[World.cell?,q];simp[List.getElem?_eq_getElem hj]
theorem Un{F:Nat→Nat→Int}{n:Nat}(h:Cl F n=0):2≤n∧n≤32∧Bz F n=0:=by
 unfold Cl at h;split at h
 ·omega
 split at h
 ·omega
 split at h
 ·omega
 rename_i h1 h2 h3;have q1:=C7 (show hld 1 32 (n:Int)=true by simpa using h1);have f0:Bz F n=0:=by omega
 have q2:Hy F n=true:=by simpa using h3
 refine⟨?_,by omega,f0⟩;rcases Nat.lt_or_ge 1 n with q|q
 ·omega
 exfalso;obtain rfl:n=1:=by omega
 have r:=Qd (F5 f0 0 (by omega));unfold Hy at q2;have:=(of_decide_eq_true q2) 0 (by omega) r.1;simp[Ci]at this
theorem Sr(w:World)(a b c:Int)(t:TypeId)(i:Nat)(hi:i<3):(w.alloc (.cells #[.int .i64 a,.int .i64 b,.int .i64 c] t)).cell? ⟨w.heap.size,0+i,none⟩=some (.int .i64 ([a,b,c].getD i 0)):=by
 match i,hi with
 |0,_=>simp
 |1,_=>simp
 |2,_=>simp
def Cr(F:Nat→Nat→Int):Nat→List ByteArray
 |0=>[]
 |k+1=>Cr F k++([⟨#[110,111,100,101]⟩,Ag (F (k+1) 0).toNat]++[itT (F (k+1) 1),itT (F (k+1) 2),itT (F (k+1) 3)])
theorem KY(F:Nat→Nat→Int)(k:Nat):(Cr F k).length=5*k:=by
 induction k with
 |zero=>rfl
 |succ k ih=>rw[Cr,List.length_append,ih];simp;omega
theorem L4{F:Nat→Nat→Int}{N:Nat}(wf: ∀i j,i<N→j<4→ -9223372036854775808≤F i j∧F i j≤9223372036854775807)(x:ByteArray): ∀k,k<N→x∈Cr F k→x.size≤100
 |0,_,h=>by simp[Cr]at h
 |k+1,hk,h=>by
  rw[Cr]at h;rcases List.mem_append.1 h with q|q
  ·exact L4 wf x k (by omega) q
  have a1:=wf (k+1) 1 hk (by omega);have a2:=wf (k+1) 2 hk (by omega);have a3:=wf (k+1) 3 hk (by omega);simp only[List.cons_append,List.nil_append,List.mem_cons,List.not_mem_nil,or_false]at q;rcases q with rfl|rfl|rfl|rfl|rfl
  ·decide
  ·exact Ni _
  ·exact Db _ a1.1 a1.2
  ·exact Db _ a2.1 a2.2
  exact Db _ a3.1 a3.2
theorem Qp(R M C Fl A:Int)(b o n c:Nat)(F:Nat→Nat→Int)(w:World)(h:NSl w (some ⟨b,o,none⟩) (n+1) (c+1) F)(hk:KN w)(ht:Lib.TabIs Tryz.prog w "internal/strconv.uint64pow10" .u64 Lib.pow10Tab):
  Calls Tryz.prog 32 #[.agg #[.int .i64 6,.int .i64 R,.int .i64 M,.int .i64 C,.int .i64 Fl,.int .i64 A,.slice (some ⟨b,o,none⟩) (n+1) (c+1)]] w fun e w'=> ∃s,e=.returned (.tuple #[.string s,.int .i64 (A4 6 R M C Fl A F (n+1))])∧Below w.heap.size w w'∧(A4 6 R M C Fl A F (n+1)=0→s=⟨(Lib.join ((Fo 6 R M C Fl A++Cr F n).map (·.data.toList)) [32]).toArray⟩):=by
 obtain⟨ce,hce⟩:=nmd (A4 6 R M C Fl A F (n+1));have HN:Hid _:=h;have HK:Hid _:=hk;have HT:Hid _:=Lib.tabBelow_of_tabIs ht;have HCE:Hid _:=hce;have hl0:n≤9223372036854775807:=by have:=h.le;have:=h.lim;omega
 have hle:n≤c:=by have:=h.le;omega
 clear h hce hk ht;go_enter Tryz.func32,Tryz.ntmps32
 go_wp2_with fail
 have S0:Hid _:=(CG w).box7 (.int .i64 6) (.int .i64 R) (.int .i64 M) (.int .i64 C) (.int .i64 Fl) (.int .i64 A) (.slice (some ⟨b,o,none⟩) (n+1) (c+1)) 24 _ rfl;refine(Et 6 R M C Fl A (some ⟨b,o,none⟩) (n+1) (c+1) F _ (HN.out.go S0.out.bel)).mono ?_;rintro e w1 ⟨rfl,hb⟩;rw[HCE.out];obtain⟨g,eg⟩:=nme w.heap.size;rw[←eg]at S0;rw[←eg];clear eg;have S1:Hid _:=S0.out.go hb;clear hb S0;by_cases c0:ce=0
 ·have HZ:Hid _:=Hz (HCE.out.trans c0);subst c0;have x0:=S1.out.cel g 0 (.int .i64 6);have x1:=S1.out.cel g 1 (.int .i64 R);have x2:=S1.out.cel g 2 (.int .i64 M);have x3:=S1.out.cel g 3 (.int .i64 C);have x4:=S1.out.cel g 4 (.int .i64 Fl);have x5:=S1.out.cel g 5 (.int .i64 A);have x6:=S1.out.cel g 6 (.slice (some ⟨b,o,none⟩) (n+1) (c+1));have hl:=S1.out.lt g 0 (.int .i64 6);have hk0:=KN.go HK.out S1.out.bel 6 (by omega);have HI:Hid (∀i,i<5→ -9223372036854775808≤Dy R M C Fl A i∧Dy R M C Fl A i≤9223372036854775807):=by
   obtain⟨b1,b2,b3,b4,b5,b6,_⟩:=HZ.out;have b7:=RP 6;intro i hi;match i,hi with
   |0,_=>show _≤R∧R≤_;omega
   |1,_=>show _≤M∧M≤_;omega
   |2,_=>show _≤C∧C≤_;omega
   |3,_=>show _≤Fl∧Fl≤_;omega
   |4,_=>show _≤A∧A≤_;omega
  have HNZ:Hid _:=Un (HZ.out.2.2.2.2.2.2.1 rfl);have n2:1≤n:=by have:=HNZ.out.1;omega
  have n3:n<32:=by have:=HNZ.out.2.1;omega
  have hc0: ¬c=0:=by omega
  have hsz1:=S1.out.bel.size;go_wp2_with fail
  have O2:Hid _:=Pc w1 ⟨#[107,105,110,100]⟩ (Ag 6) (.cells #[.int .i64 R,.int .i64 M,.int .i64 C,.int .i64 Fl,.int .i64 A] 3) w.heap.size hsz1;have S2:Hid _:=Af (o:=.cells #[.int .i64 R,.int .i64 M,.int .i64 C,.int .i64 Fl,.int .i64 A] 3) (Af (o:=.cells #[.string ⟨#[107,105,110,100]⟩,.string (Ag 6)] 9) S1.out.bel);refine(Fn (w1.heap.size+1) 0 5 5 (Dy R M C Fl A) _ (by omega) (Nat.le_refl _) (fun i hi=> ?_) HI.out (HT.out _ S2.out)).mono ?_
  ·have:=J4 (w1.alloc (.cells #[.string ⟨#[107,105,110,100]⟩,.string (Ag 6)] 9)) R M C Fl A 3 i hi;simpa using this
  rintro e w3 ⟨v3,rfl,hO3,hb3⟩;have O3:Hid _:=OR.below O2.out hb3;have S3:Hid _:=AU S2.out hb3;have T3:Hid _:=S1.out.bel;obtain⟨gv,cv,rfl,hcv,hvv⟩:=OR.row hO3 (by omega);have HV3:Hid _:=hvv;have x0':=Ae hb3 (Ae (Af (Af (Aa w1))) x0);have x6':=Ae hb3 (Ae (Af (Af (Aa w1))) x6);clear hO3 hb3 O2 S2 hvv x0 x1 x2 x3 x4 x5 x6 hk0;go_wp2_with fail
  refine(Jk Gj gv 0 5 cv (J3 R M C Fl A) w3 (by decide) hcv (by rw[Cp];decide) (by rw[Cp];decide) (by omega) (fun i hi=>by rw[Nat.zero_add,HV3.out i hi,Pb _ _ _ _ _ i hi]) trivial).mono ?_;rintro e w4 ⟨v4,rfl,hO4,hb4⟩;rw[show(Ab Gj).length=5 by rw[Cp];rfl]at hO4;obtain⟨L2,hL2⟩:=nmd (DN (Ab Gj) (J3 R M C Fl A) 5);rw[hL2]at hO4;have HL2:Hid (L2.length=10):=by show _=_;rw[←hL2,G8]
  have HH:Hid (Fo 6 R M C Fl A=[⟨#[107,105,110,100]⟩,Ag 6]++L2):=by
   show _=_;rw[Fo,hL2];rfl
  obtain⟨gz,cz,rfl,hcz,hvz⟩:=OR.row hO4 (by have:=HL2.out;omega);have O4:Hid _:=OR.below O3.out hb4;have S4:Hid _:=AU S3.out hb4;have x0:=Ae hb4 x0';have x6:=Ae hb4 x6';have hsz4:=S4.out.size;have HV4:Hid _:=hvz;clear hO4 hb4 O3 S3 hvz HV3 x0' x6' hL2;have A1:Hid (∀j,j<L2.length→w4.cell? ((⟨gz,0,none⟩:Addr).add j)=some (tx L2 j)):=fun j hj=>by
   rw[show(⟨gz,0,none⟩:Addr).add j=⟨gz,j,none⟩ by simp[Addr.add];omega];exact HV4.out j hj
  have A2:Hid (0<L2.length):=by show _<_;rw[HL2.out];decide
  have A3:Hid ([⟨#[107,105,110,100]⟩,Ag 6].length+L2.length≤1099511627776):=by show _≤_;rw[HL2.out];simp
  go_wp2_with (refine(id ?_:wpList Tryz.prog _ _ (⟨some 32,_,_,_,_,_⟩::_) _ _);refine Ca rfl (.tmp 18) (.tmp 31) rfl w.heap.size _ [⟨#[107,105,110,100]⟩,Ag 6] L2 rfl O4.out ⟨gz,0,none⟩ cz rfl A1.out A2.out A3.out hsz4 ?_)
  intro g5 cap5 w5 ho hg hor hlt5;obtain⟨hc5,hv5⟩:=OR.sliced ho (by simp);have I5:Hid _:=hv5;have IC:Hid _:=hc5;have B5:Hid (Below w.heap.size w w5):=Below.grown S4.out hg hsz4 (fun j hj=>OR.blk O4.out j hj);have x5:=hg.cell x0 (by simp[Value.ownBlock];omega);have x6b:=hg.cell x6 (by simp[Value.ownBlock];omega);clear hg hor hv5 hc5 x0 x6 O4 S4;obtain⟨L1,hL1⟩:=nme ([⟨#[107,105,110,100]⟩,Ag 6]++L2);have HH1:Hid (Fo 6 R M C Fl A=L1):=HH.out.trans hL1.symm;have HLen:Hid (L1.length=12):=by
   have:=HL2.out;show _=_;rw[hL1];simp;omega
  have J5:Hid (OR w5 9 w.heap.size (.slice (some ⟨g5,0,none⟩) L1.length cap5) L1.length (tx L1)):=by
   rw[hL1];exact ho
  rw[show L2.length+1+1=L1.length by rw[hL1];rfl];clear ho I5 IC hL1 HH A1 A2 A3 HL2;go_wp2_with fail
  go_loopw [5,40] (fun v t wr=> ∃k:Nat,k≤n∧t=.int .i64 (k:Int)∧Hid (OR wr 9 w.heap.size v (L1++Cr F k).length (tx (L1++Cr F k))∧Below w.heap.size w wr)) (fun _ t _=>n- (intOf t).toNat)
  case atStart=>
   refine⟨0,by omega,rfl,?_,B5.out⟩;rw[Cr,List.append_nil];exact J5.out
  case round=>
   obtain⟨k,hkn,rfl,HO⟩:=hrel;clear J5 x5 x6b;by_cases e:k=n
   ·rw[e]at HO;rw[e];clear e hkn k;obtain⟨LT,hLT⟩:=nme (L1++Cr F n);have HLT:Hid (LT.length=12+5*n):=by show _=_;rw[hLT,List.length_append,HLen.out,KY]
    have HX:Hid (OR wr 9 w.heap.size u5 LT.length (tx LT)∧Below w.heap.size w wr):=by rw[hLT];exact HO
    have HQ:Hid (LT=L1++Cr F n):=hLT;clear HO hLT;rename Hid (OR _ _ _ _ _ _∧_)=>HO
    obtain⟨g7,c7,e7,hc7,hv7⟩:=OR.row HO.out.1 (by have:=HLT.out;omega);subst e7;have HV7:Hid _:=hv7;have lt7:=World.block_lt_of_cell? _ _ (hv7 0 (by have:=HLT.out;omega));clear hv7;go_wp2_with fail
    refine(Tryz.strings_Join g7 0 c7 LT ⟨#[32]⟩ wr (fun j x hj=> ?_) lt7 (by have:=HLT.out;omega) hc7 (KL _ (by have:=HLT.out;omega) ?_)).mono ?_
    ·have lj:j<LT.length:=by
      rcases Nat.lt_or_ge j LT.length with q|q
      ·exact q
      rw[List.getElem?_eq_none q]at hj;cases hj
     rw[Nat.zero_add,HV7.out j lj];unfold tx;rw[List.getD,hj];rfl
    ·intro x hx;rw[HQ.out]at hx;rcases List.mem_append.1 hx with q|q
     ·exact Nj _ _ _ _ _ _ HI.out x (by rw[HH1.out];exact q)
     exact L4 HN.out.wf x n (by omega) q
    rintro e w8 ⟨rfl,hb8⟩;have B8:Hid _:=AU HO.out.2 hb8;clear hb8;go_wp2_with fail
    exact bodyPost_ret (v:=.tuple #[.string ⟨(Lib.join (LT.map (·.data.toList)) [32]).toArray⟩,.int .i64 0]) (by simp[results,Tryz.results32,go_sem]) rfl ⟨_,by rw[HCE.out],B8.out,fun _=>by rw[HH1.out,HQ.out]⟩
   have lk:k<n:=by omega
   have NX:Hid _:=Hx (i:=k+1) (by omega) (F5 HNZ.out.2.2 (k+1) (by omega));obtain⟨kq,ekq⟩: ∃kq:Nat,F (k+1) 0=(kq:Int):=⟨(F (k+1) 0).toNat,by have:=NX.out.1;omega⟩;have lkq:kq<7:=by have:=NX.out.2.1;omega
   have W3:Hid (∀j,j<4→ -9223372036854775808≤F (k+1) j∧F (k+1) j≤9223372036854775807):=fun j hj=>HN.out.wf (k+1) j (by omega) hj;obtain⟨p1,e1⟩:=nmd (F (k+1) 1);obtain⟨p2,e2⟩:=nmd (F (k+1) 2);obtain⟨p3,e3⟩:=nmd (F (k+1) 3);obtain⟨b',o',ebo,hc⟩:=HN.out.at (by omega);cases ebo;have x0:wr.cell? ⟨b,o+4+k*4,none⟩=some (.int .i64 (kq:Int)):=by
    have:=Ae HO.out.2 (hc (k+1) 0 (by omega) (by omega));rwa[show o+(k+1)*4+0=o+4+k*4 by omega,ekq]at this
   have x1:wr.cell? ⟨b,o+4+k*4+1,none⟩=some (.int .i64 p1):=by
    have:=Ae HO.out.2 (hc (k+1) 1 (by omega) (by omega));rwa[show o+(k+1)*4+1=o+4+k*4+1 by omega,e1]at this
   have x2:wr.cell? ⟨b,o+4+k*4+2,none⟩=some (.int .i64 p2):=by
    have:=Ae HO.out.2 (hc (k+1) 2 (by omega) (by omega));rwa[show o+(k+1)*4+2=o+4+k*4+2 by omega,e2]at this
   have x3:wr.cell? ⟨b,o+4+k*4+3,none⟩=some (.int .i64 p3):=by
    have:=Ae HO.out.2 (hc (k+1) 3 (by omega) (by omega));rwa[show o+(k+1)*4+3=o+4+k*4+3 by omega,e3]at this
   have hkq:=KN.go HK.out HO.out.2 kq lkq;have hz0:0<wr.heap.size:=World.block_lt_of_cell? _ _ hkq;have hsz:=HO.out.2.size;obtain⟨LK,hLK⟩:=nme (L1++Cr F k);have HX:Hid (OR wr 9 w.heap.size u5 LK.length (tx LK)∧Below w.heap.size w wr):=by rw[hLK];exact HO
   have HLT:Hid (LK.length=12+5*k):=by show _=_;rw[hLK,List.length_append,HLen.out,KY]
   have HQ:Hid (L1++Cr F (k+1)=(LK++[⟨#[110,111,100,101]⟩,Ag kq])++[itT p1,itT p2,itT p3]):=by
    show _=_;rw[Cr,ekq,e1,e2,e3,hLK];simp
   have HP:Hid (∀i,i<3→ -9223372036854775808≤[p1,p2,p3].getD i 0∧[p1,p2,p3].getD i 0≤9223372036854775807):=by
    have a1:=W3.out 1 (by omega);have a2:=W3.out 2 (by omega);have a3:=W3.out 3 (by omega);rw[e1]at a1;rw[e2]at a2;rw[e3]at a3;intro i hi;match i,hi with
    |0,_=>exact a1
    |1,_=>exact a2
    |2,_=>exact a3
   have HB:Hid (∀j,u5.ownBlock=some j→w.heap.size≤j∧j<wr.heap.size):=fun j hj=>(OR.owns HX.out.1).lt j hj;have A3:Hid (LK.length+([(⟨#[110,111,100,101]⟩:ByteArray),Ag kq]:List ByteArray).length≤1099511627776):=by
    show _≤_;rw[HLT.out];simp;omega
   have A1:Hid (∀j,j<([(⟨#[110,111,100,101]⟩:ByteArray),Ag kq]:List ByteArray).length→((wr.alloc (.cells #[.int .i64 (kq:Int),.int .i64 p1,.int .i64 p2,.int .i64 p3] 78)).alloc (.cells #[.string ⟨#[110,111,100,101]⟩,.string (Ag kq)] 9)).cell? ((⟨wr.heap.size+1,0,none⟩:Addr).add j)=some (tx [⟨#[110,111,100,101]⟩,Ag kq] j)):=fun j hj=>by
    have:=O0 (wr.alloc (.cells #[.int .i64 (kq:Int),.int .i64 p1,.int .i64 p2,.int .i64 p3] 78)) ⟨#[110,111,100,101]⟩ (Ag kq) 9 j hj;rwa[show(wr.alloc (.cells #[.int .i64 (kq:Int),.int .i64 p1,.int .i64 p2,.int .i64 p3] 78)).heap.size=wr.heap.size+1 by simp]at this
   have O1:Hid (OR ((wr.alloc (.cells #[.int .i64 (kq:Int),.int .i64 p1,.int .i64 p2,.int .i64 p3] 78)).alloc (.cells #[.string ⟨#[110,111,100,101]⟩,.string (Ag kq)] 9)) 9 w.heap.size u5 LK.length (tx LK)):=OR.below HX.out.1 (Af (Af (Aa _)));clear HO hLK hc NX W3 ekq e1 e2 e3 e;go_wp2_with (refine(id ?_:wpList Tryz.prog _ _ (⟨some 50,_,_,_,_,_⟩::_) _ _);refine Ca rfl (.tmp 44) (.tmp 49) rfl w.heap.size _ LK [⟨#[110,111,100,101]⟩,Ag kq] rfl O1.out ⟨wr.heap.size+1,0,none⟩ 2 rfl A1.out (by simp) A3.out (by simp;omega) ?_)
   intro g6 cap6 w6 ho6 hg6 hor6 hlt6;have y1:w6.cell? ⟨wr.heap.size,1,none⟩=some (.int .i64 p1):=hg6.cell (by simp) (by intro h;have:=HB.out wr.heap.size (by first|exact h|exact h.symm);omega);have y2:w6.cell? ⟨wr.heap.size,2,none⟩=some (.int .i64 p2):=hg6.cell (by simp) (by intro h;have:=HB.out wr.heap.size (by first|exact h|exact h.symm);omega);have y3:w6.cell? ⟨wr.heap.size,3,none⟩=some (.int .i64 p3):=hg6.cell (by simp) (by intro h;have:=HB.out wr.heap.size (by first|exact h|exact h.symm);omega);have B6:Hid (Below w.heap.size w w6):=Below.grown ((HX.out.2.alloc (by omega) _).alloc (by simp;omega) _) hg6 (by simp;omega) (fun j hj=>(HB.out _ hj).1);obtain⟨LM,hLM⟩:=nme (LK++[⟨#[110,111,100,101]⟩,Ag kq]);have eL:(LK++[⟨#[110,111,100,101]⟩,Ag kq]).length=LK.length+2:=by simp
   have J6:Hid (OR w6 9 w.heap.size (.slice (some ⟨g6,0,none⟩) LM.length cap6) LM.length (tx LM)):=by
    rw[hLM];first|exact ho6| (rw[eL];exact ho6)
   rw[show LK.length+2=LM.length by rw[hLM,eL]];have HLM:Hid (LM.length=14+5*k):=by
    have:=HLT.out;show _=_;rw[hLM,eL];omega
   have HQ2:Hid (L1++Cr F (k+1)=LM++[itT p1,itT p2,itT p3]):=by
    show _=_;rw[HQ.out,hLM]
   have hsz6:=B6.out.size;have l6:wr.heap.size<w6.heap.size:=World.block_lt_of_cell? _ _ y1;clear ho6 hg6 hor6 hLM eL HQ A1 A3 O1 HB HX x0 x1 x2 x3 hkq HLT;go_wp2_with fail
   refine(Fn w6.heap.size 0 3 3 (fun i=>[p1,p2,p3].getD i 0) _ (by omega) (Nat.le_refl _) (fun i hi=>Sr w6 p1 p2 p3 _ i hi) HP.out (HT.out _ (Af B6.out))).mono ?_;rintro e w7 ⟨v7,rfl,hO7,hb7⟩;obtain⟨g7,c7,rfl,hc7,hv7⟩:=OR.row hO7 (by omega);have J7:Hid _:=OR.below J6.out (AU (Af (Aa _)) hb7);have B7:Hid _:=AU (Af B6.out) hb7;have A7:Hid (∀j,j<([itT p1,itT p2,itT p3]:List ByteArray).length→w7.cell? ((⟨g7,0,none⟩:Addr).add j)=some (tx [itT p1,itT p2,itT p3] j)):=fun j hj=>by
    rw[show(⟨g7,0,none⟩:Addr).add j=⟨g7,j,none⟩ by simp[Addr.add];omega,hv7 j hj];match j,hj with
    |0,_=>rfl
    |1,_=>rfl
    |2,_=>rfl
   have A8:Hid (LM.length+([itT p1,itT p2,itT p3]:List ByteArray).length≤1099511627776):=by
    show _≤_;rw[HLM.out];simp;omega
   have HB7:Hid _:=OR.blk J7.out;have hsz7:=B7.out.size;clear hO7 hb7 hv7 J6 B6 y1 y2 y3;go_wp2_with (refine(id ?_:wpList Tryz.prog _ _ (⟨some 60,_,_,_,_,_⟩::_) _ _);refine Ca rfl (.tmp 51) (.tmp 59) rfl w.heap.size _ LM [itT p1,itT p2,itT p3] rfl J7.out ⟨g7,0,none⟩ c7 rfl A7.out (by simp) A8.out hsz7 ?_)
   intro g8 cap8 w8 ho8 hg8 hor8 hlt8;have B8:Hid (Below w.heap.size w w8):=Below.grown B7.out hg8 hsz7 (fun j hj=>HB7.out _ hj);have eM:(LM++[itT p1,itT p2,itT p3]).length=LM.length+3:=by simp
   have J8:Hid (OR w8 9 w.heap.size (.slice (some ⟨g8,0,none⟩) (LM.length+3) cap8) (L1++Cr F (k+1)).length (tx (L1++Cr F (k+1)))):=by
    rw[HQ2.out,eM];first|exact ho8| (rw[eM]at ho8;exact ho8)
   clear ho8 hg8 hor8 eM;go_wp2_with fail
   go_roundw
   case rel=>exact⟨k+1,by omega,by go_num,J8.out,B8.out⟩
   case measure=>simp[intOf];omega
 have d:(ce != 0)=true:=by simpa using c0
 have HW:Hid _:=c0;clear c0;go_wp2_with fail
 exact bodyPost_ret (v:=.tuple #[.string ⟨#[]⟩,.int .i64 ce]) (by simp[results,Tryz.results32,go_sem]) rfl ⟨_,by rw[HCE.out],S1.out.bel,fun q=>absurd (HCE.out.symm.trans q) HW.out⟩
def F7(x y:Int)(i:Nat):Int:=[x,y].getD i 0
theorem WO(w:World)(x y:Int)(t:TypeId)(i:Nat)(hi:i<2):(w.alloc (.cells #[.int .i64 x,.int .i64 y] t)).cell? ⟨w.heap.size,0+i,none⟩=some (.int .i64 (F7 x y i)):=by
 match i,hi with
 |0,_=>simp[F7]
 |1,_=>simp[F7]
def Mt(pw pq pc ps pb pp pn:Int)(T:ByteArray):List ByteArray:=DN (Ab KU) ([itT pw,itT pq,itT pc,itT ps,itT pb]++[T]++[itT pp,itT pn]) 8
theorem VK{w:World}{base:Nat}{v:Value}{pw pq pc ps pb:Int}(h:OR w 9 base v 5 (fun i=>.string (itT (Dy pw pq pc ps pb i)))):OR w 9 base v ([itT pw,itT pq,itT pc,itT ps,itT pb]:List ByteArray).length (tx [itT pw,itT pq,itT pc,itT ps,itT pb]):=by
 rcases h with⟨_,q⟩| ⟨g,cap,f,e,h1,h2,h3,h4,h5⟩
 ·cases q
 refine .inr ⟨g,cap,f,e,h1,h2,h3,h4,fun i hi=>(h5 i hi).trans ?_⟩;match i,hi with
 |0,_=>rfl
 |1,_=>rfl
 |2,_=>rfl
 |3,_=>rfl
 |4,_=>rfl
theorem VL(w:World)(x:ByteArray)(t:TypeId)(j:Nat)(hj:j<[x].length):(w.alloc (.cells #[.string x] t)).cell? ((⟨w.heap.size,0,none⟩:Addr).add j)=some (tx [x] j):=by
 match j,hj with
 |0,_=>simp[Addr.add,tx]
theorem WP(A Bs:List ByteArray)(hA: ∀x∈A,x.size≤4000)(hB: ∀x∈Bs,x.size≤4000)(k:Nat): ∀x∈DN A Bs k,x.size≤4000:=by
 induction k with
 |zero=>intro x hx;cases hx
 |succ k ih=>
  intro x hx;rw[DN]at hx;rcases List.mem_append.1 hx with q|q
  ·exact ih x q
  have g: ∀(l:List ByteArray),(∀x∈l,x.size≤4000)→(l.getD k ⟨#[]⟩).size≤4000:=fun l hl=>by
   rw[List.getD];cases e:l[k]? with
   |none=>show(⟨#[]⟩:ByteArray).size≤4000;decide
   |some y=>exact hl y (List.mem_of_getElem? e)
  simp only[List.mem_cons,List.not_mem_nil,or_false]at q;rcases q with rfl|rfl
  ·exact g _ hA
  exact g _ hB
theorem Uo(L:List ByteArray)(h: ∀x∈L,x.size≤4000):Lib.lens (L.map (·.data.toList))≤4000*L.length:=by
 induction L with
 |nil=>simp[Lib.lens]
 |cons x l ih=>
  have h1:=ih fun y hy=>h y (List.mem_cons_of_mem _ hy);have h2:=h x List.mem_cons_self;have h3:x.data.toList.length=x.size:=by rw[Array.length_toList];rfl
  simp only[Lib.lens,List.map_cons,List.sum_cons,List.length_cons]at h1⊢;omega
theorem Oo(L:List ByteArray)(hl:L.length≤1000)(h: ∀x∈L,x.size≤4000):(Lib.join (L.map (·.data.toList)) [32]).length≤140737488355328:=by
 cases L with
 |nil=>simp[Lib.join]
 |cons x l=>
  have h1:=Uo (x::l) h;rw[List.map_cons]at h1⊢;rw[Lib.join_length];simp only[List.length_map,List.length_cons]at*;simp;omega
theorem Ly(K R M C Fl A:Int)(a:Option Addr)(n cap:Nat)(G:Nat→Nat→Int)(pw pq pc ps pb:Int)(pr:Nat)(pp pn:Int)(p q k l:Nat)(w:World)(h:NSl w a n cap G)(hz:CO K R M C Fl A G n pw pq pc ps pb pr pp pn=0)(hT:Tab w)(ht:Lib.TabIs Tryz.prog w "internal/strconv.uint64pow10" .u64 Lib.pow10Tab)(hu:pr<18446744073709551616)(h6:ffP pr=p)(h7:ffQ pr=q)(hp:RS p)(hq:RS q)(hk:CY p k)(hl:CY q l)(hsz:(Hv p q k l).size≤4000)
  (hi5: ∀i,i<5→ -9223372036854775808≤Dy pw pq pc ps pb i∧Dy pw pq pc ps pb i≤9223372036854775807) (hi2: ∀i,i<2→ -9223372036854775808≤F7 pp pn i∧F7 pp pn i≤9223372036854775807):
  Calls Tryz.prog 33 #[.agg #[.int .i64 K,.int .i64 R,.int .i64 M,.int .i64 C,.int .i64 Fl,.int .i64 A,.slice a n cap],.agg #[.int .i64 pw,.int .i64 pq,.int .i64 pc,.int .i64 ps,.int .i64 pb,.float .f64 pr,.int .i64 pp,.int .i64 pn]] w fun e w'=>e=.returned (.tuple #[.string ⟨(Lib.join ((Mt pw pq pc ps pb pp pn (Hv p q k l)).map (·.data.toList)) [32]).toArray⟩,.int .i64 0])∧Below w.heap.size w w':=by
 have HN:Hid _:=h;have HZ:Hid _:=hz;have HTab:Hid (Tab w):=hT;have HT:Hid _:=Lib.tabBelow_of_tabIs ht;have H4:Hid (pr<18446744073709551616∧ffP pr=p∧ffQ pr=q):=⟨hu,h6,h7⟩;have H2:Hid (RS p∧RS q∧CY p k∧CY q l):=⟨hp,hq,hk,hl⟩;have HI5:Hid _:=hi5;have HI2:Hid _:=hi2;obtain⟨T,hTx⟩:=nmd (Hv p q k l);rw[hTx]at hsz;rw[hTx];have HTX:Hid _:=hTx;have HSZ:Hid _:=hsz;have hl0:n≤9223372036854775807:=Nat.le_trans h.le h.lim;clear h hz hT ht hu h6 h7 hp hq hk hl hi5 hi2 hTx hsz;go_enter Tryz.func33,Tryz.ntmps33
 go_wp2_with fail
 have S0:Hid _:=((CG w).box7 (.int .i64 K) (.int .i64 R) (.int .i64 M) (.int .i64 C) (.int .i64 Fl) (.int .i64 A) (.slice a n cap) 24 _ rfl).box8 (.int .i64 pw) (.int .i64 pq) (.int .i64 pc) (.int .i64 ps) (.int .i64 pb) (.float .f64 pr) (.int .i64 pp) (.int .i64 pn) 32 (w.heap.size+1) (by rw[World.size_alloc]);refine(Gp K R M C Fl A a n cap G pw pq pc ps pb pr pp pn _ (HN.out.go S0.out.bel)).mono ?_;rintro e w1 ⟨rfl,hb⟩;rw[HZ.out];obtain⟨g,eg⟩:=nme (w.heap.size+1);rw[←eg]at S0;rw[←eg];clear eg;have S1:Hid _:=S0.out.go hb;clear hb S0;have x0:=S1.out.cel g 0 (.int .i64 pw);have x1:=S1.out.cel g 1 (.int .i64 pq);have x2:=S1.out.cel g 2 (.int .i64 pc);have x3:=S1.out.cel g 3 (.int .i64 ps);have x4:=S1.out.cel g 4 (.int .i64 pb);have x5:=S1.out.cel g 5 (.float .f64 pr);have x6:=S1.out.cel g 6 (.int .i64 pp);have x7:=S1.out.cel g 7 (.int .i64 pn);go_wp2_with fail
 refine(IV pr _ H4.out.1 (Tab.go HTab.out S1.out.bel)).mono ?_;rintro e w2 ⟨v2,rfl,hr2,hb2⟩;rw[H4.out.2.1,H4.out.2.2]at hr2;obtain⟨b,m,d,b',m',d',e0,_,_⟩:=hr2.raw;subst e0;have HR2:Hid _:=hr2;have S2:Hid _:=(S1.out.go hb2).box2 (.slice b m d) (.slice b' m' d') 105 _ rfl;obtain⟨gq,egq⟩:=nme w2.heap.size;rw[←egq]at S2;have HR2':Hid (Rt (w2.alloc (.cells #[.slice b m d,.slice b' m' d'] 105)) (.agg #[.slice b m d,.slice b' m' d']) p q):=hr2.mono (Af (Aa _));obtain⟨w3,hw3⟩:=nme (w2.alloc (.cells #[.slice b m d,.slice b' m' d'] 105));rw[←hw3]at S2 HR2';clear x0 x1 x2 x3 x4 x5 x6 x7;have S1b:Hid _:=S1.out.go hb2;clear hr2 hb2 S1 HR2;have x0:=S1b.out.cel g 0 (.int .i64 pw);have x1:=S1b.out.cel g 1 (.int .i64 pq);have x2:=S1b.out.cel g 2 (.int .i64 pc);have x3:=S1b.out.cel g 3 (.int .i64 ps);have x4:=S1b.out.cel g 4 (.int .i64 pb);have x5:=S1b.out.cel g 5 (.float .f64 pr);have x6:=S1b.out.cel g 6 (.int .i64 pp);have x7:=S1b.out.cel g 7 (.int .i64 pn);have lg:=S1b.out.lt g 0 (.int .i64 pw);go_wp2_with fail
 rw[←hw3,←egq];have e3:w3.heap.size=gq+1:=by rw[hw3,World.size_alloc,egq]
 clear S1b;have B3:Hid (Below w3.heap.size w3 (w3.alloc (.cells #[.int .i64 pw,.int .i64 pq,.int .i64 pc,.int .i64 ps,.int .i64 pb] 3))):=Af (Aa w3);refine(Fn (gq+1) 0 5 5 (Dy pw pq pc ps pb) _ (by omega) (Nat.le_refl _) (fun i hi=>by have:=J4 w3 pw pq pc ps pb 3 i hi;rw[e3]at this;exact this) HI5.out (HT.out _ (AU S2.out.bel B3.out))).mono ?_;rintro e w4 ⟨v4,rfl,hO4,hb4⟩;have S4:Hid _:=(S2.out.go B3.out).go hb4;have R4:Hid _:=HR2'.out.mono (AU B3.out hb4);obtain⟨bs,ebs⟩:=nme ((w3.alloc (.cells #[.int .i64 pw,.int .i64 pq,.int .i64 pc,.int .i64 ps,.int .i64 pb] 3)).heap.size);rw[←ebs]at hO4;have lbs:bs≤w4.heap.size:=by rw[ebs];exact hb4.size
 have HBS:Hid (w.heap.size≤bs):=by
  show w.heap.size≤bs;have q:=S2.out.bel.size;rw[ebs,World.size_alloc];omega
 have lgb:g<bs:=by have q:=S2.out.lt g 0 (.int .i64 pw);rw[ebs,World.size_alloc];omega
 have hO4':=VK hO4;obtain⟨LV,hLV⟩:=nmd ([itT pw,itT pq,itT pc,itT ps,itT pb]:List ByteArray);rw[hLV]at hO4';have HLV:Hid _:=hLV;have nLV:LV.length=5:=by rw[←hLV];rfl
 have O4:Hid (OR w4 9 bs v4 LV.length (tx LV)):=hO4';obtain⟨g4,c4,e4,_,_⟩:=OR.row hO4' (by omega);rw[nLV]at e4;subst e4;have O4:Hid (OR w4 9 bs (.slice (some ⟨g4,0,none⟩) 5 c4) LV.length (tx LV)):=O4;clear x0 x1 x2 x3 x4 x5 x6 x7 hO4 hO4' hb4 hLV lg ebs hw3 egq e3;have x6:=S4.out.cel g 6 (.int .i64 pp);have x7:=S4.out.cel g 7 (.int .i64 pn);have z0:=S4.out.cel gq 0 (.slice b m d);have z1:=S4.out.cel gq 1 (.slice b' m' d');have lg:=S4.out.lt g 6 (.int .i64 pp);go_wp2_with fail
 refine(P7 (.agg #[.slice b m d,.slice b' m' d']) p q k l _ R4.out H2.out.1 H2.out.2.1 H2.out.2.2.1 H2.out.2.2.2).mono ?_;rintro e w5 ⟨rfl,hb5⟩;rw[HTX.out];have S5:Hid _:=S4.out.go hb5;have lbs5:bs≤w5.heap.size:=Nat.le_trans lbs hb5.size;have B5:Hid (Below w5.heap.size w5 (w5.alloc (.cells #[.string T] 9))):=Af (Aa w5);have O5:Hid (OR (w5.alloc (.cells #[.string T] 9)) 9 bs (.slice (some ⟨g4,0,none⟩) 5 c4) LV.length (tx LV)):=OR.below (OR.below O4.out hb5) B5.out;have l4:bs≤g4:=OR.blk O4.out g4 rfl;have A1:Hid (∀j,j<[T].length→(w5.alloc (.cells #[.string T] 9)).cell? ((⟨w5.heap.size,0,none⟩:Addr).add j)=some (tx [T] j)):=VL w5 T 9;clear hb5 x6 x7 z0 z1 lg R4 S4 O4;go_wp2_with (refine(id ?_:wpList Tryz.prog _ _ (⟨some 38,_,_,_,_,_⟩::_) _ _);refine Ca rfl (.tmp 34) (.tmp 37) rfl bs _ LV [T] rfl O5.out ⟨w5.heap.size,0,none⟩ 1 rfl A1.out (by simp) (by rw[nLV];simp) (by rw[World.size_alloc];omega) ?_)
 intro g6 cap6 w6 ho hg hor hlt6;have n6:(LV++[T]).length=6:=by rw[List.length_append,nLV];rfl
 obtain⟨L6,hL6⟩:=nmd (LV++[T]);have O6:Hid (OR w6 9 bs (.slice (some ⟨g6,0,none⟩) 6 cap6) L6.length (tx L6)):=by
  show OR _ _ _ _ _ _;rw[←hL6,n6];simpa[nLV]using ho
 rw[hL6]at n6;have HL6:Hid _:=hL6;have W6:Hid (Below w.heap.size w w6):=Below.grown (Af S5.out.bel) hg (by rw[World.size_alloc];have:=S5.out.bel.size;omega) (fun j hj=>Nat.le_trans HBS.out (OR.blk O5.out j hj));have x6:=hg.cell (Ae B5.out (S5.out.cel g 6 (.int .i64 pp))) (by simp[Value.ownBlock];omega);have x7:=hg.cell (Ae B5.out (S5.out.cel g 7 (.int .i64 pn))) (by simp[Value.ownBlock];omega);have lg:g<w6.heap.size:=World.block_lt_of_cell? _ _ x6;have lbs6:bs≤w6.heap.size:=by have:=hg.size;rw[World.size_alloc]at this;omega
 clear ho hg hor S5 O5 A1 B5 hL6;go_wp2_with fail
 have B6:Hid (Below w6.heap.size w6 (w6.alloc (.cells #[.int .i64 pp,.int .i64 pn] 3))):=Af (Aa w6);refine(Fn w6.heap.size 0 2 2 (F7 pp pn) _ (by omega) (Nat.le_refl _) (fun i hi=>WO w6 pp pn 3 i hi) HI2.out (HT.out _ (AU W6.out B6.out))).mono ?_;rintro e w7 ⟨v7,rfl,hO7,hb7⟩;have W7:Hid (Below w.heap.size w w7):=AU (AU W6.out B6.out) hb7;have O7:Hid (OR w7 9 bs (.slice (some ⟨g6,0,none⟩) 6 cap6) L6.length (tx L6)):=OR.below (OR.below O6.out B6.out) hb7;obtain⟨g7,c7,rfl,_,h7⟩:=OR.row hO7 (by omega);obtain⟨LW,hLW⟩:=nmd ([itT pp,itT pn]:List ByteArray);have nLW:LW.length=2:=by rw[←hLW];rfl
 have A7:Hid (∀j,j<LW.length→w7.cell? ((⟨g7,0,none⟩:Addr).add j)=some (tx LW j)):=fun j hj=>by
  rw[nLW]at hj;rw[show(⟨g7,0,none⟩:Addr).add j=⟨g7,j,none⟩ by simp[Addr.add];omega,h7 j hj,←hLW];match j,hj with
  |0,_=>rfl
  |1,_=>rfl
 have HLW:Hid _:=hLW;have lbs7:bs≤w7.heap.size:=by have:=hb7.size;rw[World.size_alloc]at this;omega
 clear hO7 hb7 h7 hLW x6 x7 lg O6 B6;go_wp2_with (refine(id ?_:wpList Tryz.prog _ _ (⟨some 46,_,_,_,_,_⟩::_) _ _);refine Ca rfl (.tmp 39) (.tmp 45) rfl bs _ L6 LW rfl O7.out ⟨g7,0,none⟩ c7 (by rw[nLW];rfl) A7.out (by omega) (by omega) lbs7 ?_)
 intro g8 cap8 w8 ho hg hor hlt8;have n8:(L6++LW).length=8:=by rw[List.length_append,n6,nLW]
 obtain⟨L8,hL8⟩:=nmd (L6++LW);have O8:OR w8 9 bs (.slice (some ⟨g8,0,none⟩) 8 cap8) 8 (tx L8):=by
  rw[←hL8];simpa[n6,nLW]using ho
 have HL8:Hid (L8=[itT pw,itT pq,itT pc,itT ps,itT pb]++[T]++[itT pp,itT pn]):=by show _=_;rw[←hL8,←HL6.out,←HLV.out,←HLW.out]
 have HL8b:Hid (L8.length=8):=by show _=_;rw[←hL8,n8]
 have W8:Hid (Below w.heap.size w w8):=Below.grown W7.out hg (by have:=W7.out.size;omega) (fun j hj=>Nat.le_trans HBS.out (OR.blk O7.out j hj));obtain⟨hc8,hv8⟩:=OR.sliced O8 (by omega);have V8:Hid _:=hv8;clear ho hg hor O7 A7 hL8 hv8 O8;go_wp2_with fail
 refine(Jk KU g8 0 8 cap8 L8 w8 (by decide) hc8 (by rw[Eg];decide) (by rw[Eg];decide) (by omega) (fun i hi=>by rw[Nat.zero_add,V8.out i hi]) trivial).mono ?_;rintro e w9 ⟨v9,rfl,hO9,hb9⟩;rw[show(Ab KU).length=8 by rw[Eg];rfl]at hO9;obtain⟨LZ,hLZ⟩:=nmd (DN (Ab KU) L8 8);rw[hLZ]at hO9;have HLZ:Hid (Mt pw pq pc ps pb pp pn T=LZ):=by
  show _=_;rw[Mt,←HL8.out,hLZ]
 have nLZ:LZ.length=16:=by rw[←hLZ,G8]
 have ZS:Hid (∀x∈LZ,x.size≤4000):=by
  show∀x∈LZ,x.size≤4000;rw[←hLZ];refine WP _ _ (by rw[Eg];decide) ?_ 8;intro x hx;rw[HL8.out]at hx;have i5:=HI5.out;have i2:=HI2.out;simp only[List.mem_append,List.mem_cons,List.not_mem_nil,or_false]at hx;rcases hx with((rfl|rfl|rfl|rfl|rfl)|rfl)| (rfl|rfl)
  ·exact Nat.le_trans (Db _ (i5 0 (by omega)).1 (i5 0 (by omega)).2) (by omega)
  ·exact Nat.le_trans (Db _ (i5 1 (by omega)).1 (i5 1 (by omega)).2) (by omega)
  ·exact Nat.le_trans (Db _ (i5 2 (by omega)).1 (i5 2 (by omega)).2) (by omega)
  ·exact Nat.le_trans (Db _ (i5 3 (by omega)).1 (i5 3 (by omega)).2) (by omega)
  ·exact Nat.le_trans (Db _ (i5 4 (by omega)).1 (i5 4 (by omega)).2) (by omega)
  ·exact HSZ.out
  ·exact Nat.le_trans (Db _ (i2 0 (by omega)).1 (i2 0 (by omega)).2) (by omega)
  exact Nat.le_trans (Db _ (i2 1 (by omega)).1 (i2 1 (by omega)).2) (by omega)
 obtain⟨g9,c9,rfl,hc9,hv9⟩:=OR.row hO9 (by omega);have V9:Hid _:=hv9;have W9:Hid (Below w.heap.size w w9):=AU W8.out hb9;have lt9:g9<w9.heap.size:=World.block_lt_of_cell? _ _ (hv9 0 (by omega));have NZ:Hid _:=nLZ;clear hO9 hb9 hv9 hLZ nLZ;go_wp2_with fail
 refine(Tryz.strings_Join g9 0 c9 LZ ⟨#[32]⟩ w9 (fun j x hj=> ?_) lt9 (by have:=NZ.out;omega) hc9 (Oo _ (by have:=NZ.out;omega) ZS.out)).mono ?_
 ·have lj:j<LZ.length:=by
   rcases Nat.lt_or_ge j LZ.length with q|q
   ·exact q
   rw[List.getElem?_eq_none q]at hj;cases hj
  rw[Nat.zero_add,V9.out j lj];show some (Value.string (LZ.getD j ⟨#[]⟩))=_;rw[List.getD,hj];rfl
 rintro e w10 ⟨rfl,hb10⟩;have W10:Hid (Below w.heap.size w w10):=AU W9.out hb10;clear hb10;go_wp2_with fail
 exact bodyPost_ret (v:=.tuple #[.string ⟨(Lib.join (List.map (fun x=>x.data.toList) LZ) [32]).toArray⟩,.int .i64 0]) (by simp[results,Tryz.results33,go_sem]) rfl ⟨by rw[HLZ.out],W10.out⟩
def rows(G:Nat→Nat→Int)(m:Nat):List Nd:=(List.range m).map fun i=>(G (i+1) 0,G (i+1) 1,G (i+1) 2,G (i+1) 3)
def U4(x:Int):Prop:= -9223372036854775808≤x∧x≤9223372036854775807
theorem WQ:(⟨(Lib.join ((Fo 1 100 50 10 2 0).map (·.data.toList)) [32]).toArray⟩:ByteArray)=⟨#[107,105,110,100,32,119,102,113,32,114,111,111,109,32,49,48,48,32,109,111,115,116,32,53,48,32,99,97,112,32,49,48,32,102,108,111,119,115,32,50,32,97,103,101,32,48]⟩:=by decide+kernel
theorem Qq:A4 1 100 50 10 2 0 (fun _ _=>0) 0=0:=by decide+kernel
theorem Xt:CO 1 100 50 10 2 0 (fun _ _=>0) 0 1 0 0 0 100 4602678819172646912 3 0=0:=by decide+kernel
theorem U5:ffP 4602678819172646912=1∧ffQ 4602678819172646912=2:=by decide+kernel
theorem WR:(⟨(Lib.join ((Mt 1 0 0 0 100 3 0 (Hv 1 2 1 1)).map (·.data.toList)) [32]).toArray⟩:ByteArray)=⟨#[119,101,105,103,104,116,32,49,32,113,117,97,110,116,117,109,32,48,32,99,108,97,115,115,32,48,32,115,112,97,110,32,48,32,98,117,114,115,116,32,49,48,48,32,114,97,116,101,32,49,47,50,32,112,101,114,32,51,32,110,111,100,101,32,48]⟩:=by decide+kernel
theorem WS:(Hv 1 2 1 1).size≤4000:=by decide+kernel
theorem VM:Aq (Ab ⟨#[107,105,110,100,32,32,119,102,113,32,109,111,115,116,32,53,48,32,114,111,111,109,32,49,48,48,32,102,108,111,119,115,32,50,32,99,97,112,32,49,48,32,97,103,101,32,48,32]⟩,false) 0=1∧Aq (Ab ⟨#[107,105,110,100,32,32,119,102,113,32,109,111,115,116,32,53,48,32,114,111,111,109,32,49,48,48,32,102,108,111,119,115,32,50,32,99,97,112,32,49,48,32,97,103,101,32,48,32]⟩,false) 1=100∧Aq (Ab ⟨#[107,105,110,100,32,32,119,102,113,32,109,111,115,116,32,53,48,32,114,111,111,109,32,49,48,48,32,102,108,111,119,115,32,50,32,99,97,112,32,49,48,32,97,103,101,32,48,32]⟩,false) 2=50∧Aq (Ab ⟨#[107,105,110,100,32,32,119,102,113,32,109,111,115,116,32,53,48,32,114,111,111,109,32,49,48,48,32,102,108,111,119,115,32,50,32,99,97,112,32,49,48,32,97,103,101,32,48,32]⟩,false) 3=10∧Aq (Ab ⟨#[107,105,110,100,32,32,119,102,113,32,109,111,115,116,32,53,48,32,114,111,111,109,32,49,48,48,32,102,108,111,119,115,32,50,32,99,97,112,32,49,48,32,97,103,101,32,48,32]⟩,false) 4=2∧Aq (Ab ⟨#[107,105,110,100,32,32,119,102,113,32,109,111,115,116,32,53,48,32,114,111,111,109,32,49,48,48,32,102,108,111,119,115,32,50,32,99,97,112,32,49,48,32,97,103,101,32,48,32]⟩,false) 5=0∧De (Ab ⟨#[107,105,110,100,32,32,119,102,113,32,109,111,115,116,32,53,48,32,114,111,111,109,32,49,48,48,32,102,108,111,119,115,32,50,32,99,97,112,32,49,48,32,97,103,101,32,48,32]⟩,false)=([],false):=by decide+kernel
def stG(i j:Nat):Int:=(([[6,0,0,0],[4,0,5,7],[6,0,9,0],[2,2,1,0]]:List (List Int)).getD i []).getD j 0
theorem Ss:A4 6 100 50 10 2 0 stG 4=0:=by decide+kernel
theorem VN:(⟨(Lib.join ((Fo 6 100 50 10 2 0++Cr stG 3).map (·.data.toList)) [32]).toArray⟩:ByteArray)=⟨#[107,105,110,100,32,116,114,101,101,32,114,111,111,109,32,49,48,48,32,109,111,115,116,32,53,48,32,99,97,112,32,49,48,32,102,108,111,119,115,32,50,32,97,103,101,32,48,32,110,111,100,101,32,97,103,101,32,48,32,53,32,55,32,110,111,100,101,32,116,114,101,101,32,48,32,57,32,48,32,110,111,100,101,32,100,114,114,32,50,32,49,32,48]⟩:=by decide+kernel
theorem VO:A4 0 0 0 0 0 0 (fun _ _=>0) 0=90:=by decide+kernel
theorem VP:CO 1 100 50 10 2 0 (fun _ _=>0) 0 0 0 0 0 0 0 0 0=93:=by decide+kernel
theorem Ea(n:Int)(w:World):Calls Tryz.prog 9 #[.int .i64 n] w fun e w'=>e=.returned (.int .i64 n)∧w'=w:=by
 go_enter Tryz.func9,Tryz.ntmps9
 go_wp2_with fail
 go_ret
 exact⟨rfl,rfl⟩
theorem St(w:World):Calls Tryz.prog 8 #[.agg #[.int .i64 1,.int .i64 100,.int .i64 50,.int .i64 10,.int .i64 2,.int .i64 0,.slice none 0 0],.agg #[.int .i64 1,.int .i64 100,.int .i64 50,.int .i64 10,.int .i64 2,.int .i64 0,.slice none 0 0]] w fun e w'=>e=.returned (.bool true)∧Below w.heap.size w w':=by
 go_enter Tryz.func8,Tryz.ntmps8
 go_wp2_with fail
 go_loopw [5] (fun t wr=>t=.int .i64 0∧wr=(w.alloc (.cells #[.int .i64 1,.int .i64 100,.int .i64 50,.int .i64 10,.int .i64 2,.int .i64 0,.slice none 0 0] 24)).alloc (.cells #[.int .i64 1,.int .i64 100,.int .i64 50,.int .i64 10,.int .i64 2,.int .i64 0,.slice none 0 0] 24)) (fun _ _=>0)
 case atStart=>exact⟨rfl,rfl⟩
 case round=>
  obtain⟨rfl,rfl⟩:=hrel;go_wp2_with fail
  go_ret
  exact⟨rfl,Af (Af (Aa w))⟩
end Go.Proofs.YtbikpmmpgbggaaaGreatDoor
