/- Contracts of the program's functions, part 16: own work, joined in build order. -/
import Derived.Test.YtbikpmmpgbggaaaGreatDoorJ15
import Derived.Handy
import Derived.Deep.Cut
import Derived.Deep.QuietTactic
import Derived.BigQuiet
namespace Go.Proofs.YtbikpmmpgbggaaaGreatDoor
open Go.RowKit
set_option maxRecDepth 100000
set_option linter.unusedVariables false
set_option maxHeartbeats 16000000
structure D7 (p:PtS):Prop where
 w0:0<p.whole.size
 dw:AF p.whole p.whole.size
 dp:AF p.places p.places.size
 db:AF p.below p.below.size
 dx:AF p.power p.power.size
 sz:p.whole.size+p.places.size≤400
 sb:p.below.size≤400
 sx:p.power.size≤3
def pwI(p:PtS):Int:=(if p.minus then -((decVal p.power p.power.size:Nat):Int) else((decVal p.power p.power.size:Nat):Int))- (p.places.size:Int)
def G7(p:PtS):Nat:=decVal (p.whole++p.places) (p.whole++p.places).size
def vN(p:PtS):Nat:=if p.below.size=0 then G7 p*10^(pwI p).toNat else G7 p
def vD(p:PtS):Nat:=if p.below.size=0 then 10^(-(pwI p)).toNat else decVal p.below p.below.size
theorem OX{s:ByteArray}(h:s.size=0):s=⟨#[]⟩:=by
 cases s with
 |mk d=>
  have:d.size=0:=h;rw[Array.eq_empty_of_size_eq_zero this]
theorem WF{s:ByteArray}(h: ¬s.size=0):(s.toList==([]:List UInt8))=false:=by
 refine beq_eq_false_iff_ne.2 fun h2=>h ?_;rw[ByteArray.toList_eq]at h2;cases s with
 |mk d=>
  simp at h2;show d.size=0;rw[h2];rfl
theorem KH{x n:Nat}(h:x<10^n)(hn:n≤400):x<P 21:=
 Nat.lt_trans (Nat.lt_of_lt_of_le h (Nat.pow_le_pow_right (by omega) hn)) (by decide+kernel:10^400<P 21)
theorem KI:10^999<P 60:=by decide+kernel
theorem D7.a{p:PtS}(h:D7 p):G7 p<P 21:=by
 have h1:=DP (Jv h.dw h.dp);exact KH h1 (by rw[ByteArray.size_append];exact h.sz)
theorem D7.b{p:PtS}(h:D7 p):decVal p.below p.below.size<P 21:=KH (DP h.db) h.sb
theorem D7.pw{p:PtS}(h:D7 p): -1399≤pwI p∧pwI p≤999:=by
 have h1:=CU h.dx h.sx;have h2:=h.sz;unfold pwI;split<;>omega
def Ng(p:PtS):Value:=.agg #[.string p.whole,.string p.below,.string p.places,.string p.power,.bool p.minus]
def EI(w:World)(p:PtS)(e:Ending)(w':World):Prop:=if vD p=0 then EY w 0 1 false e w' else EY w (vN p/Nat.gcd (vN p) (vD p)) (vD p/Nat.gcd (vN p) (vD p)) true e w'
theorem Og(p:PtS)(w:World)(hg:D7 p)(hb0: ¬p.below.size=0)(hT:Tab w):
  Calls Tryz.prog 87 #[Ng p] w (EI w p):=by
 obtain⟨P1,P2,P3,P4,P5⟩:=p;simp only at hb0;unfold Ng;have HG:Hid _:=hg;have c1:=Lj P1 P3 (by have:=hg.sz;simp only at this;omega);have q1:P1.size+P3.size≤9223372036854775807:=by have:=hg.sz;simp only at this;omega
 have p1: ∀w:World,(Op.stringOp .add P1 P3).run Tryz.prog w=.ok (.string (P1++P3)) w:=fun w=>run_string_add_sum w _ _ q1;obtain⟨X,hX⟩:=nme (P1++P3);rw[←hX]at c1 p1;have HX:Hid (X=P1++P3):=hX;obtain⟨A,hA⟩:=nme (decVal X X.size);have HP:Hid (0<X.size∧X.size≤400∧AF X X.size∧decVal X X.size=A):=⟨by rw[hX,ByteArray.size_append];have:=hg.w0;simp only at this;omega,by rw[hX,ByteArray.size_append];exact hg.sz,by rw[hX];exact Jv hg.dw hg.dp,hA.symm⟩;have HA:Hid (G7 ⟨P1,P2,P3,P4,P5⟩=A∧A<P 21):=⟨by show decVal (P1++P3) (P1++P3).size=A;rw[←hX];exact hA.symm,by have:=hg.a;rw[show G7 ⟨P1,P2,P3,P4,P5⟩=A by show decVal (P1++P3) (P1++P3).size=A;rw[←hX];exact hA.symm]at this;exact this⟩;obtain⟨w0,hw0⟩:=nme ((w.alloc (.cells #[.string P1,.string P2,.string P3,.string P4,.bool P5] 152)).alloc (.cells #[.slice none 0 0,.slice none 0 0] 105));have S0:Hid _:=(((((((Bp w).go (w':=w.alloc (.cells #[.string P1,.string P2,.string P3,.string P4,.bool P5] 152)) (Ah (Aa _))).addC (b:=w.heap.size) (i:=0) (v:=.string P1) (by simp[go_sem])).addC (b:=w.heap.size) (i:=1) (v:=.string P2) (by simp[go_sem])).addC (b:=w.heap.size) (i:=2) (v:=.string P3) (by simp[go_sem])).addC (b:=w.heap.size) (i:=3) (v:=.string P4) (by simp[go_sem])).addC (b:=w.heap.size) (i:=4) (v:=.bool P5) (by simp[go_sem])).box (.slice none 0 0) (.slice none 0 0) 105 _ rfl;simp only[World.size_alloc]at S0;have HT:Hid (Tab w):=hT;clear hg hX hA hT q1;go_enter Tryz.func87,Tryz.ntmps87
 go_wp2_with fail
 rw[←hw0]at S0;rw[←hw0];obtain⟨b,hb⟩:=nme w.heap.size;rw[←hb]at S0;rw[←hb];clear hw0 hb;refine(GQ X A _ HP.out.1 HP.out.2.1 HP.out.2.2.1 HP.out.2.2.2).mono ?_;rintro e w1 ⟨v1,rfl,hv1,hb1⟩;obtain⟨a1,n1,c1',rfl⟩:=hv1.isAgg;have S1:Hid _:=((S0.out.go hb1).addN hv1).box1 (.slice a1 n1 c1') 103 _ rfl;have LT1:Hid (b+1<w1.heap.size):=(S0.out.go hb1).lt (b+1);clear hv1 hb1 S0 HP;have z1:=S1.out.cel b 1 (.string P2);have z2:=S1.out.cel b 2 (.string P3);have z3:=S1.out.cel b 3 (.string P4);have z4:=S1.out.cel b 4 (.bool P5);have ne:=WF hb0;obtain⟨B,hB⟩:=nme (decVal P2 P2.size);have HQ:Hid (0<P2.size∧P2.size≤400∧AF P2 P2.size∧decVal P2 P2.size=B∧B<P 21):=⟨by omega,HG.out.sb,HG.out.db,hB.symm,by rw[hB];exact HG.out.b⟩;have HV:Hid (vN ⟨P1,P2,P3,P4,P5⟩=A∧vD ⟨P1,P2,P3,P4,P5⟩=B):=⟨by unfold vN;rw[if_neg hb0];exact HA.out.1,by unfold vD;rw[if_neg hb0];exact hB.symm⟩;clear hb0 hB;go_wp2_with fail
 obtain⟨g,hg⟩:=nme w1.heap.size;obtain⟨w2,hw2⟩:=nme (w1.alloc (.cells #[.slice a1 n1 c1'] 103));rw[←hw2,←hg]at S1;rw[←hw2,←hg];clear hw2 hg z1 z2 z3 z4;refine(GQ P2 B _ HQ.out.1 HQ.out.2.1 HQ.out.2.2.1 HQ.out.2.2.2.1).mono ?_;rintro e w3 ⟨v3,rfl,hv3,hb3⟩;obtain⟨a3,n3,c3,rfl⟩:=hv3.isAgg;have HGW:Hid (g<w3.heap.size):=(S1.out.go hb3).lt g;have S2:Hid _:=((S1.out.go hb3).addN hv3).box1 (.slice a3 n3 c3) 103 _ rfl;clear hv3 hb3 S1;have y1:=S2.out.cel g 0 (.slice a1 n1 c1');go_wp2_with fail
 obtain⟨w4,hw4⟩:=nme (w3.alloc (.cells #[.slice a3 n3 c3] 103));rw[←hw4]at S2;rw[←hw4];clear hw4 y1;by_cases hz:B=0
 ·have hN:=S2.out.at (.agg #[.slice a3 n3 c3]) B;rw[hz]at hN;refine(Rq _ _ A _ (S2.out.at (.agg #[.slice a1 n1 c1']) A) hN).mono ?_;clear hN;rintro e w5 ⟨v5,rfl,hv5,hb5⟩;obtain⟨a5,n5,c5,a6,n6,c6,ev,_,_⟩:=hv5.raw;subst ev;have S3:Hid _:=(S2.out.go hb5).addF hv5;clear hv5 hb5 S2;have x0:=S3.out.cel (b+1) 0 (.slice none 0 0);have x1:=S3.out.cel (b+1) 1 (.slice none 0 0);have f0:=S3.out.fz (b+1) 0;have f1:=S3.out.fz (b+1) 1;have Z:Hid _:=CB (w0:=w) (v:=.slice a5 n5 c5) (u:=.slice a6 n6 c6) x0 x1 (S3.out.fr (.agg #[.slice a5 n5 c5,.slice a6 n6 c6]) 0 1) S3.out.bel (S3.out.lo (b+1));have HZ:Hid (vD ⟨P1,P2,P3,P4,P5⟩=0):=by show _=_;rw[HV.out.2];exact hz
  clear hz;go_wp2_with fail
  refine bodyPost_ret (v:=.tuple #[.agg #[.slice a5 n5 c5,.slice a6 n6 c6],.bool false]) (by simp[results,Tryz.results87,go_sem,x0,x1]) rfl ?_;unfold EI;rw[if_pos HZ.out];exact⟨_,rfl,Z.out.1,Z.out.2⟩
 refine(EO _ _ A B _ (S2.out.at (.agg #[.slice a1 n1 c1']) A) (S2.out.at (.agg #[.slice a3 n3 c3]) B) ⟨Cb HA.out.2 (by omega)⟩ ⟨Cb HQ.out.2.2.2.2 (by omega)⟩ (by omega) (HT.out.go S2.out.bel)).mono ?_;rintro e w5 ⟨v5,rfl,hv5,hb5⟩;obtain⟨a5,n5,c5,a6,n6,c6,ev,_,_⟩:=hv5.raw;subst ev;have S3:Hid _:=(S2.out.go hb5).addF hv5;clear hv5 hb5 S2;have x0:=S3.out.cel (b+1) 0 (.slice none 0 0);have x1:=S3.out.cel (b+1) 1 (.slice none 0 0);have f0:=S3.out.fz (b+1) 0;have f1:=S3.out.fz (b+1) 1;have Z:Hid _:=CB (w0:=w) (v:=.slice a5 n5 c5) (u:=.slice a6 n6 c6) x0 x1 (S3.out.fr (.agg #[.slice a5 n5 c5,.slice a6 n6 c6]) (A/Nat.gcd A B) (B/Nat.gcd A B)) S3.out.bel (S3.out.lo (b+1));have HZ:Hid (¬vD ⟨P1,P2,P3,P4,P5⟩=0):=fun h9=>hz (by rw[HV.out.2]at h9;exact h9);clear hz;go_wp2_with fail
 refine bodyPost_ret (v:=.tuple #[.agg #[.slice a5 n5 c5,.slice a6 n6 c6],.bool true]) (by simp[results,Tryz.results87,go_sem,x0,x1]) rfl ?_;unfold EI;rw[if_neg HZ.out,HV.out.1,HV.out.2];exact⟨_,rfl,Z.out.1,Z.out.2⟩
theorem RL(p:PtS)(w:World)(hg:D7 p)(hb0:p.below.size=0)(hT:Tab w):
  Calls Tryz.prog 87 #[Ng p] w (EI w p):=by
 obtain⟨P1,P2,P3,P4,P5⟩:=p;simp only at hb0;obtain rfl:P2=⟨#[]⟩:=OX hb0;clear hb0;unfold Ng;have HG:Hid _:=hg;have c1:=Lj P1 P3 (by have:=hg.sz;simp only at this;omega);have q1:P1.size+P3.size≤9223372036854775807:=by have:=hg.sz;simp only at this;omega
 have p1: ∀w:World,(Op.stringOp .add P1 P3).run Tryz.prog w=.ok (.string (P1++P3)) w:=fun w=>run_string_add_sum w _ _ q1;obtain⟨X,hX⟩:=nme (P1++P3);rw[←hX]at c1 p1;have HX:Hid (X=P1++P3):=hX;obtain⟨A,hA⟩:=nme (decVal X X.size);have HP:Hid (0<X.size∧X.size≤400∧AF X X.size∧decVal X X.size=A):=⟨by rw[hX,ByteArray.size_append];have:=hg.w0;simp only at this;omega,by rw[hX,ByteArray.size_append];exact hg.sz,by rw[hX];exact Jv hg.dw hg.dp,hA.symm⟩;have HA:Hid (G7 ⟨P1,⟨#[]⟩,P3,P4,P5⟩=A∧A<P 21):=⟨by show decVal (P1++P3) (P1++P3).size=A;rw[←hX];exact hA.symm,by have:=hg.a;rw[show G7 ⟨P1,⟨#[]⟩,P3,P4,P5⟩=A by show decVal (P1++P3) (P1++P3).size=A;rw[←hX];exact hA.symm]at this;exact this⟩;obtain⟨w0,hw0⟩:=nme ((w.alloc (.cells #[.string P1,.string ⟨#[]⟩,.string P3,.string P4,.bool P5] 152)).alloc (.cells #[.slice none 0 0,.slice none 0 0] 105));have S0:Hid _:=(((((((Bp w).go (w':=w.alloc (.cells #[.string P1,.string ⟨#[]⟩,.string P3,.string P4,.bool P5] 152)) (Ah (Aa _))).addC (b:=w.heap.size) (i:=0) (v:=.string P1) (by simp[go_sem])).addC (b:=w.heap.size) (i:=1) (v:=.string ⟨#[]⟩) (by simp[go_sem])).addC (b:=w.heap.size) (i:=2) (v:=.string P3) (by simp[go_sem])).addC (b:=w.heap.size) (i:=3) (v:=.string P4) (by simp[go_sem])).addC (b:=w.heap.size) (i:=4) (v:=.bool P5) (by simp[go_sem])).box (.slice none 0 0) (.slice none 0 0) 105 _ rfl;simp only[World.size_alloc]at S0;have HT:Hid (Tab w):=hT;clear hg hX hA hT q1;go_enter Tryz.func87,Tryz.ntmps87
 go_wp2_with fail
 rw[←hw0]at S0;rw[←hw0];obtain⟨b,hb⟩:=nme w.heap.size;rw[←hb]at S0;rw[←hb];clear hw0 hb;refine(GQ X A _ HP.out.1 HP.out.2.1 HP.out.2.2.1 HP.out.2.2.2).mono ?_;rintro e w1 ⟨v1,rfl,hv1,hb1⟩;obtain⟨a1,n1,c1',rfl⟩:=hv1.isAgg;have S1:Hid _:=((S0.out.go hb1).addN hv1).box1 (.slice a1 n1 c1') 103 _ rfl;have LT1:Hid (b+1<w1.heap.size):=(S0.out.go hb1).lt (b+1);clear hv1 hb1 S0 HP;have z1:=S1.out.cel b 1 (.string ⟨#[]⟩);have z2:=S1.out.cel b 2 (.string P3);have z3:=S1.out.cel b 3 (.string P4);have z4:=S1.out.cel b 4 (.bool P5);obtain⟨n,hn⟩:=nme (decVal P4 P4.size);have hn9:n≤999:=by rw[hn];exact CU HG.out.dx HG.out.sx
 obtain⟨k,hk⟩:=nme P3.size;have hk4:k≤400:=by rw[hk];have:=HG.out.sz;simp only at this;omega
 obtain⟨y,hy⟩:=nme ((if P5 then -(n:Int) else(n:Int))- (k:Int):Int);have hPw:pwI ⟨P1,⟨#[]⟩,P3,P4,P5⟩=y:=by unfold pwI;simp only;rw[←hn,←hk,←hy]
 have hyb: -1399≤y∧y≤999:=by rw[←hPw];exact HG.out.pw
 have HN:Hid (decVal P4 P4.size=n):=hn.symm;have hk':P3.size=k:=hk.symm;obtain⟨t,ht⟩:=nme (if y<0 then(-y).toNat else y.toNat);have HY:Hid (-1399≤y∧t≤1500∧A*10^(if y<0 then 0 else t)<P 90):=by
  refine⟨hyb.1,by rw[ht];split<;>omega,?_⟩;split
  ·rw[Nat.pow_zero,Nat.mul_one];exact Cb HA.out.2 (by omega)
  rename_i hh;have h1:10^t<P 60:=Nat.lt_of_le_of_lt (Nat.pow_le_pow_right (by omega) (by rw[ht,if_neg hh];omega)) KI;exact Cb (Ju HA.out.2 h1) (by omega)
 have HV0:Hid (vN ⟨P1,⟨#[]⟩,P3,P4,P5⟩=A*10^y.toNat∧vD ⟨P1,⟨#[]⟩,P3,P4,P5⟩=10^(-y).toNat):=⟨by unfold vN;simp only;rw[if_pos (show(⟨#[]⟩:ByteArray).size=0 from rfl),HA.out.1,hPw],by unfold vD;simp only;rw[if_pos (show(⟨#[]⟩:ByteArray).size=0 from rfl),hPw]⟩;have HZ:Hid (¬vD ⟨P1,⟨#[]⟩,P3,P4,P5⟩=0):=by show¬_;rw[HV0.out.2];exact Nat.ne_of_gt (Nat.pow_pos (by omega))
 have w1':IntKind.i64.wrap (-(n:Int))= -(n:Int):=by rw[IntKind.wrap_i64];omega
 have w2':IntKind.i64.wrap (-y)= -y:=by rw[IntKind.wrap_i64];omega
 clear hn hk hPw;cases P5 with
 |true=>
  have w3':wrap64 (-(n:Int)- (k:Int))=y:=by rw[hy];exact IntWalk.wrap64_in _ ⟨by omega,by omega⟩
  clear hy;have W3:Hid _:=w3';clear w3';by_cases hs:y<0
  ·have d1:decide (y<0)=true:=decide_eq_true hs;have w4':IntKind.i64.wrap (-y)=(t:Int):=by rw[w2',ht,if_pos hs];omega
   have HV:Hid (vN ⟨P1,⟨#[]⟩,P3,P4,true⟩=A∧vD ⟨P1,⟨#[]⟩,P3,P4,true⟩=10^t):=⟨by rw[HV0.out.1,show y.toNat=0 by omega,Nat.pow_zero,Nat.mul_one],by rw[HV0.out.2,ht,if_pos hs]⟩;have HY:Hid (-1399≤y∧t≤1500∧True):=⟨HY.out.1,HY.out.2.1,trivial⟩;clear hs ht w2' HV0 hn9 hk4 hyb;have w3':=W3.out;go_wp2_with fail
   refine(Ho P4 _ HG.out.dx HG.out.sx).mono ?_;rintro e wx ⟨rfl,hwx⟩;rw[hwx,HN.out];clear hwx;go_wp2_with fail
   obtain⟨g,hg⟩:=nme w1.heap.size;obtain⟨w2,hw2⟩:=nme (w1.alloc (.cells #[.slice a1 n1 c1'] 103));rw[←hw2,←hg]at S1;rw[←hw2,←hg];have nb1: ¬b+1=g:=by rw[hg];have:=LT1.out;omega
   have nb2: ¬g=b+1:=fun e=>nb1 e.symm;clear hw2 hg z1 z2 z3 z4;refine wp_region_held_drew (S:=fun w9=>w9.cell? ⟨g,0,none⟩=some (.slice a1 n1 c1')) (by kernel_rfl) (S1.out.cel g 0 (.slice a1 n1 c1')) (fun hHeld=> ?_);refine wpAnyH_take (i:=0) (v:=.agg #[.slice a1 n1 c1']) rfl (by kernel_rfl) (by kernel_rfl) (by kernel_rfl) (fun _ _ _ h=>h) (Or.inl ⟨by rfl,?_⟩) (by assumption) ?_
   ·intro w hSw;go_simp
   refine wpAnyH_take (i:=1) (v:=.int .i64 y) rfl (by kernel_rfl) (by kernel_rfl) (by kernel_rfl) (fun _ _ _ h=>h) (Or.inl ⟨by rfl,?_⟩) (by assumption) ?_
   ·intro w hSw;go_simp
   refine wpAnyH_take (i:=2) (v:=.int .i64 (t:Int)) rfl (by kernel_rfl) (by kernel_rfl) (by kernel_rfl) (fun _ _ _ h=>h) (Or.inl ⟨by rfl,?_⟩) (by assumption) ?_
   ·intro w hSw;go_simp
   refine wpAnyH_ready (rs:=[3]) (by kernel_rfl) (by simp) ?_;refine AllReadyH.cons rfl (fun K9 hK9=> ?_) AllReadyH.nil;go_simp
   refine Calls.mono (Hm t _ HY.out.2.1) ?_;rintro e w3 ⟨v3,rfl,hv3,hb3⟩;replace hb3:Below w2.heap.size w2 w3:=Bf hb3;have S2:Hid _:=(S1.out.go hb3).addN hv3;clear hv3 hb3 S1 hHeld;refine hK9.out _ _ (S2.out.cel g 0 (.slice a1 n1 c1')) (fun hHeld=> ?_);clear hK9 K9;refine wpAnyH_ready (rs:=[4]) (by kernel_rfl) (by simp) ?_;refine AllReadyH.cons rfl (fun K9 hK9=> ?_) AllReadyH.nil;go_simp
   refine Calls.mono (EO _ _ A (10^t) _ (S2.out.at (.agg #[.slice a1 n1 c1']) A) (S2.out.at v3 (10^t)) ⟨Cb HA.out.2 (by omega)⟩ ⟨Bx HY.out.2.1⟩ (Nat.pow_pos (by omega)) (HT.out.go S2.out.bel)) ?_;rintro e w5 ⟨v5,rfl,hv5,hb5⟩;have S3:Hid _:=(S2.out.go hb5).addF hv5;obtain⟨a5,n5,c5,a6,n6,c6,ev,_,_⟩:=hv5.raw;subst ev;clear hv5 hb5 S2 hHeld;have x0:=S3.out.cel (b+1) 0 (.slice none 0 0);have x1:=S3.out.cel (b+1) 1 (.slice none 0 0);have f0:=S3.out.fz (b+1) 0;have f1:=S3.out.fz (b+1) 1;have t0:=S3.out.cel g 0 (.slice a1 n1 c1');refine hK9.out _ _ t0 (fun hHeld=> ?_);clear hK9 K9;refine wpAnyH_take (i:=5) (v:=.agg #[.slice a5 n5 c5,.slice a6 n6 c6]) rfl (by kernel_rfl) (by kernel_rfl) (by kernel_rfl) (fun _ _ _ h=>h) (Or.inl ⟨by rfl,?_⟩) (by assumption) ?_
   ·intro w hSw;go_simp
   refine wpAnyH_take (i:=6) (v:=.bool true) rfl (by kernel_rfl) (by kernel_rfl) (by kernel_rfl) (fun _ _ _ h=>h) (Or.inl ⟨by rfl,?_⟩) (by assumption) ?_
   ·intro w hSw;go_simp
   refine wpAnyH_ready (rs:=[7]) (by kernel_rfl) (by simp) ?_;refine AllReadyH.cons rfl (fun K9 hK9=> ?_) AllReadyH.nil;go_simp
   clear hHeld;refine hK9.out _ _ (by simp[go_sem, *]) (fun hHeld=> ?_);clear hK9 K9;refine wpAnyH_take (i:=8) (v:=.bool true) rfl (by kernel_rfl) (by kernel_rfl) (by kernel_rfl) (fun _ _ _ h=>h) (Or.inl ⟨by rfl,?_⟩) (by assumption) ?_
   ·intro w hSw;go_simp
   refine wpAnyH_done (by kernel_rfl) ?_ _;have Z:Hid _:=CB (w0:=w) (v:=.slice a5 n5 c5) (u:=.slice a6 n6 c6) x0 x1 (S3.out.fr (.agg #[.slice a5 n5 c5,.slice a6 n6 c6]) ((A)/Nat.gcd (A) (10^t)) ((10^t)/Nat.gcd (A) (10^t))) S3.out.bel (S3.out.lo (b+1));go_wp2_with fail
   refine bodyPost_ret (v:=.tuple #[.agg #[.slice a5 n5 c5,.slice a6 n6 c6],.bool true]) (by simp[results,Tryz.results87,go_sem,x0,x1]) rfl ?_;unfold EI;rw[if_neg HZ.out,HV.out.1,HV.out.2];exact⟨_,rfl,Z.out.1,Z.out.2⟩
  have d1:decide (y<0)=false:=decide_eq_false hs;have ey:y=(t:Int):=by rw[ht,if_neg hs];omega
  have HV:Hid (vN ⟨P1,⟨#[]⟩,P3,P4,true⟩=A*10^t∧vD ⟨P1,⟨#[]⟩,P3,P4,true⟩=1):=⟨by rw[HV0.out.1,ht,if_neg hs],by rw[HV0.out.2,show(-y).toNat=0 by omega,Nat.pow_zero]⟩;have HY:Hid (-1399≤y∧t≤1500∧A*10^t<P 90):=⟨HY.out.1,HY.out.2.1,by have:=HY.out.2.2;rw[if_neg hs]at this;exact this⟩;have w3':=W3.out;rw[ey]at w3' d1;clear hs ht w2' HV0 hn9 hk4 hyb ey W3;go_wp2_with fail
  refine(Ho P4 _ HG.out.dx HG.out.sx).mono ?_;rintro e wx ⟨rfl,hwx⟩;rw[hwx,HN.out];clear hwx;go_wp2_with fail
  obtain⟨g,hg⟩:=nme w1.heap.size;obtain⟨w2,hw2⟩:=nme (w1.alloc (.cells #[.slice a1 n1 c1'] 103));rw[←hw2,←hg]at S1;rw[←hw2,←hg];have nb1: ¬b+1=g:=by rw[hg];have:=LT1.out;omega
  have nb2: ¬g=b+1:=fun e=>nb1 e.symm;clear hw2 hg z1 z2 z3 z4;refine wp_region_held_drew (S:=fun w9=>w9.cell? ⟨g,0,none⟩=some (.slice a1 n1 c1')) (by kernel_rfl) (S1.out.cel g 0 (.slice a1 n1 c1')) (fun hHeld=> ?_);refine wpAnyH_take (i:=0) (v:=.agg #[.slice a1 n1 c1']) rfl (by kernel_rfl) (by kernel_rfl) (by kernel_rfl) (fun _ _ _ h=>h) (Or.inl ⟨by rfl,?_⟩) (by assumption) ?_
  ·intro w hSw;go_simp
  refine wpAnyH_take (i:=1) (v:=.int .i64 (t:Int)) rfl (by kernel_rfl) (by kernel_rfl) (by kernel_rfl) (fun _ _ _ h=>h) (Or.inl ⟨by rfl,?_⟩) (by assumption) ?_
  ·intro w hSw;go_simp
  refine wpAnyH_ready (rs:=[2]) (by kernel_rfl) (by simp) ?_;refine AllReadyH.cons rfl (fun K9 hK9=> ?_) AllReadyH.nil;go_simp
  refine Calls.mono (Hm t _ HY.out.2.1) ?_;rintro e w3 ⟨v3,rfl,hv3,hb3⟩;replace hb3:Below w2.heap.size w2 w3:=Bf hb3;have S2:Hid _:=(S1.out.go hb3).addN hv3;clear hv3 hb3 S1 hHeld;refine hK9.out _ _ (S2.out.cel g 0 (.slice a1 n1 c1')) (fun hHeld=> ?_);clear hK9 K9;refine wpAnyH_ready (rs:=[3]) (by kernel_rfl) (by simp) ?_;refine AllReadyH.cons rfl (fun K9 hK9=> ?_) AllReadyH.nil;go_simp
  refine Calls.mono (DO _ _ A (10^t) _ (S2.out.at (.agg #[.slice a1 n1 c1']) A) (S2.out.at v3 (10^t)) (BV HA.out.2 (by omega)) (BV (Bx HY.out.2.1) (by omega)) (.inl (Cb HA.out.2 (by omega)))) ?_;rintro e w4 ⟨v4,rfl,hv4,hb4⟩;have S3:Hid _:=(S2.out.go hb4).addN hv4;clear hv4 hb4 S2 hHeld;refine hK9.out _ _ (S3.out.cel g 0 (.slice a1 n1 c1')) (fun hHeld=> ?_);clear hK9 K9;refine wpAnyH_ready (rs:=[4]) (by kernel_rfl) (by simp) ?_;refine AllReadyH.cons rfl (fun K9 hK9=> ?_) AllReadyH.nil;go_simp
  refine Calls.mono (Dj 1 _ (by omega)) ?_;rintro e w6 ⟨v6,rfl,hv6,hb6⟩;have S4:Hid _:=(S3.out.go hb6).addN hv6;clear hv6 hb6 S3 hHeld;refine hK9.out _ _ (S4.out.cel g 0 (.slice a1 n1 c1')) (fun hHeld=> ?_);clear hK9 K9;refine wpAnyH_ready (rs:=[5]) (by kernel_rfl) (by simp) ?_;refine AllReadyH.cons rfl (fun K9 hK9=> ?_) AllReadyH.nil;go_simp
  refine Calls.mono (EO _ _ (A*10^t) 1 _ (S4.out.at v4 (A*10^t)) (S4.out.at v6 1) ⟨HY.out.2.2⟩ (CR (by omega)) (by omega) (HT.out.go S4.out.bel)) ?_;rintro e w5 ⟨v5,rfl,hv5,hb5⟩;have S3:Hid _:=(S4.out.go hb5).addF hv5;obtain⟨a5,n5,c5,a6,n6,c6,ev,_,_⟩:=hv5.raw;subst ev;clear hv5 hb5 S4 hHeld;have x0:=S3.out.cel (b+1) 0 (.slice none 0 0);have x1:=S3.out.cel (b+1) 1 (.slice none 0 0);have f0:=S3.out.fz (b+1) 0;have f1:=S3.out.fz (b+1) 1;have t0:=S3.out.cel g 0 (.slice a1 n1 c1');refine hK9.out _ _ t0 (fun hHeld=> ?_);clear hK9 K9;refine wpAnyH_take (i:=6) (v:=.agg #[.slice a5 n5 c5,.slice a6 n6 c6]) rfl (by kernel_rfl) (by kernel_rfl) (by kernel_rfl) (fun _ _ _ h=>h) (Or.inl ⟨by rfl,?_⟩) (by assumption) ?_
  ·intro w hSw;go_simp
  refine wpAnyH_take (i:=7) (v:=.bool true) rfl (by kernel_rfl) (by kernel_rfl) (by kernel_rfl) (fun _ _ _ h=>h) (Or.inl ⟨by rfl,?_⟩) (by assumption) ?_
  ·intro w hSw;go_simp
  refine wpAnyH_ready (rs:=[8]) (by kernel_rfl) (by simp) ?_;refine AllReadyH.cons rfl (fun K9 hK9=> ?_) AllReadyH.nil;go_simp
  clear hHeld;refine hK9.out _ _ (by simp[go_sem, *]) (fun hHeld=> ?_);clear hK9 K9;refine wpAnyH_take (i:=9) (v:=.bool true) rfl (by kernel_rfl) (by kernel_rfl) (by kernel_rfl) (fun _ _ _ h=>h) (Or.inl ⟨by rfl,?_⟩) (by assumption) ?_
  ·intro w hSw;go_simp
  refine wpAnyH_done (by kernel_rfl) ?_ _;have Z:Hid _:=CB (w0:=w) (v:=.slice a5 n5 c5) (u:=.slice a6 n6 c6) x0 x1 (S3.out.fr (.agg #[.slice a5 n5 c5,.slice a6 n6 c6]) ((A*10^t)/Nat.gcd (A*10^t) (1)) ((1)/Nat.gcd (A*10^t) (1))) S3.out.bel (S3.out.lo (b+1));go_wp2_with fail
  refine bodyPost_ret (v:=.tuple #[.agg #[.slice a5 n5 c5,.slice a6 n6 c6],.bool true]) (by simp[results,Tryz.results87,go_sem,x0,x1]) rfl ?_;unfold EI;rw[if_neg HZ.out,HV.out.1,HV.out.2];exact⟨_,rfl,Z.out.1,Z.out.2⟩
 |false=>
  have w3':wrap64 ((n:Int)- (k:Int))=y:=by rw[hy];exact IntWalk.wrap64_in _ ⟨by omega,by omega⟩
  clear hy;have W3:Hid _:=w3';clear w3';by_cases hs:y<0
  ·have d1:decide (y<0)=true:=decide_eq_true hs;have w4':IntKind.i64.wrap (-y)=(t:Int):=by rw[w2',ht,if_pos hs];omega
   have HV:Hid (vN ⟨P1,⟨#[]⟩,P3,P4,false⟩=A∧vD ⟨P1,⟨#[]⟩,P3,P4,false⟩=10^t):=⟨by rw[HV0.out.1,show y.toNat=0 by omega,Nat.pow_zero,Nat.mul_one],by rw[HV0.out.2,ht,if_pos hs]⟩;have HY:Hid (-1399≤y∧t≤1500∧True):=⟨HY.out.1,HY.out.2.1,trivial⟩;clear hs ht w2' HV0 hn9 hk4 hyb;have w3':=W3.out;go_wp2_with fail
   refine(Ho P4 _ HG.out.dx HG.out.sx).mono ?_;rintro e wx ⟨rfl,hwx⟩;rw[hwx,HN.out];clear hwx;go_wp2_with fail
   obtain⟨g,hg⟩:=nme w1.heap.size;obtain⟨w2,hw2⟩:=nme (w1.alloc (.cells #[.slice a1 n1 c1'] 103));rw[←hw2,←hg]at S1;rw[←hw2,←hg];have nb1: ¬b+1=g:=by rw[hg];have:=LT1.out;omega
   have nb2: ¬g=b+1:=fun e=>nb1 e.symm;clear hw2 hg z1 z2 z3 z4;refine wp_region_held_drew (S:=fun w9=>w9.cell? ⟨g,0,none⟩=some (.slice a1 n1 c1')) (by kernel_rfl) (S1.out.cel g 0 (.slice a1 n1 c1')) (fun hHeld=> ?_);refine wpAnyH_take (i:=0) (v:=.agg #[.slice a1 n1 c1']) rfl (by kernel_rfl) (by kernel_rfl) (by kernel_rfl) (fun _ _ _ h=>h) (Or.inl ⟨by rfl,?_⟩) (by assumption) ?_
   ·intro w hSw;go_simp
   refine wpAnyH_take (i:=1) (v:=.int .i64 y) rfl (by kernel_rfl) (by kernel_rfl) (by kernel_rfl) (fun _ _ _ h=>h) (Or.inl ⟨by rfl,?_⟩) (by assumption) ?_
   ·intro w hSw;go_simp
   refine wpAnyH_take (i:=2) (v:=.int .i64 (t:Int)) rfl (by kernel_rfl) (by kernel_rfl) (by kernel_rfl) (fun _ _ _ h=>h) (Or.inl ⟨by rfl,?_⟩) (by assumption) ?_
   ·intro w hSw;go_simp
   refine wpAnyH_ready (rs:=[3]) (by kernel_rfl) (by simp) ?_;refine AllReadyH.cons rfl (fun K9 hK9=> ?_) AllReadyH.nil;go_simp
   refine Calls.mono (Hm t _ HY.out.2.1) ?_;rintro e w3 ⟨v3,rfl,hv3,hb3⟩;replace hb3:Below w2.heap.size w2 w3:=Bf hb3;have S2:Hid _:=(S1.out.go hb3).addN hv3;clear hv3 hb3 S1 hHeld;refine hK9.out _ _ (S2.out.cel g 0 (.slice a1 n1 c1')) (fun hHeld=> ?_);clear hK9 K9;refine wpAnyH_ready (rs:=[4]) (by kernel_rfl) (by simp) ?_;refine AllReadyH.cons rfl (fun K9 hK9=> ?_) AllReadyH.nil;go_simp
   refine Calls.mono (EO _ _ A (10^t) _ (S2.out.at (.agg #[.slice a1 n1 c1']) A) (S2.out.at v3 (10^t)) ⟨Cb HA.out.2 (by omega)⟩ ⟨Bx HY.out.2.1⟩ (Nat.pow_pos (by omega)) (HT.out.go S2.out.bel)) ?_;rintro e w5 ⟨v5,rfl,hv5,hb5⟩;have S3:Hid _:=(S2.out.go hb5).addF hv5;obtain⟨a5,n5,c5,a6,n6,c6,ev,_,_⟩:=hv5.raw;subst ev;clear hv5 hb5 S2 hHeld;have x0:=S3.out.cel (b+1) 0 (.slice none 0 0);have x1:=S3.out.cel (b+1) 1 (.slice none 0 0);have f0:=S3.out.fz (b+1) 0;have f1:=S3.out.fz (b+1) 1;have t0:=S3.out.cel g 0 (.slice a1 n1 c1');refine hK9.out _ _ t0 (fun hHeld=> ?_);clear hK9 K9;refine wpAnyH_take (i:=5) (v:=.agg #[.slice a5 n5 c5,.slice a6 n6 c6]) rfl (by kernel_rfl) (by kernel_rfl) (by kernel_rfl) (fun _ _ _ h=>h) (Or.inl ⟨by rfl,?_⟩) (by assumption) ?_
   ·intro w hSw;go_simp
   refine wpAnyH_take (i:=6) (v:=.bool true) rfl (by kernel_rfl) (by kernel_rfl) (by kernel_rfl) (fun _ _ _ h=>h) (Or.inl ⟨by rfl,?_⟩) (by assumption) ?_
   ·intro w hSw;go_simp
   refine wpAnyH_ready (rs:=[7]) (by kernel_rfl) (by simp) ?_;refine AllReadyH.cons rfl (fun K9 hK9=> ?_) AllReadyH.nil;go_simp
   clear hHeld;refine hK9.out _ _ (by simp[go_sem, *]) (fun hHeld=> ?_);clear hK9 K9;refine wpAnyH_take (i:=8) (v:=.bool true) rfl (by kernel_rfl) (by kernel_rfl) (by kernel_rfl) (fun _ _ _ h=>h) (Or.inl ⟨by rfl,?_⟩) (by assumption) ?_
   ·intro w hSw;go_simp
   refine wpAnyH_done (by kernel_rfl) ?_ _;have Z:Hid _:=CB (w0:=w) (v:=.slice a5 n5 c5) (u:=.slice a6 n6 c6) x0 x1 (S3.out.fr (.agg #[.slice a5 n5 c5,.slice a6 n6 c6]) ((A)/Nat.gcd (A) (10^t)) ((10^t)/Nat.gcd (A) (10^t))) S3.out.bel (S3.out.lo (b+1));go_wp2_with fail
   refine bodyPost_ret (v:=.tuple #[.agg #[.slice a5 n5 c5,.slice a6 n6 c6],.bool true]) (by simp[results,Tryz.results87,go_sem,x0,x1]) rfl ?_;unfold EI;rw[if_neg HZ.out,HV.out.1,HV.out.2];exact⟨_,rfl,Z.out.1,Z.out.2⟩
  have d1:decide (y<0)=false:=decide_eq_false hs;have ey:y=(t:Int):=by rw[ht,if_neg hs];omega
  have HV:Hid (vN ⟨P1,⟨#[]⟩,P3,P4,false⟩=A*10^t∧vD ⟨P1,⟨#[]⟩,P3,P4,false⟩=1):=⟨by rw[HV0.out.1,ht,if_neg hs],by rw[HV0.out.2,show(-y).toNat=0 by omega,Nat.pow_zero]⟩;have HY:Hid (-1399≤y∧t≤1500∧A*10^t<P 90):=⟨HY.out.1,HY.out.2.1,by have:=HY.out.2.2;rw[if_neg hs]at this;exact this⟩;have w3':=W3.out;rw[ey]at w3' d1;clear hs ht w2' HV0 hn9 hk4 hyb ey W3;go_wp2_with fail
  refine(Ho P4 _ HG.out.dx HG.out.sx).mono ?_;rintro e wx ⟨rfl,hwx⟩;rw[hwx,HN.out];clear hwx;go_wp2_with fail
  obtain⟨g,hg⟩:=nme w1.heap.size;obtain⟨w2,hw2⟩:=nme (w1.alloc (.cells #[.slice a1 n1 c1'] 103));rw[←hw2,←hg]at S1;rw[←hw2,←hg];have nb1: ¬b+1=g:=by rw[hg];have:=LT1.out;omega
  have nb2: ¬g=b+1:=fun e=>nb1 e.symm;clear hw2 hg z1 z2 z3 z4;refine wp_region_held_drew (S:=fun w9=>w9.cell? ⟨g,0,none⟩=some (.slice a1 n1 c1')) (by kernel_rfl) (S1.out.cel g 0 (.slice a1 n1 c1')) (fun hHeld=> ?_);refine wpAnyH_take (i:=0) (v:=.agg #[.slice a1 n1 c1']) rfl (by kernel_rfl) (by kernel_rfl) (by kernel_rfl) (fun _ _ _ h=>h) (Or.inl ⟨by rfl,?_⟩) (by assumption) ?_
  ·intro w hSw;go_simp
  refine wpAnyH_take (i:=1) (v:=.int .i64 (t:Int)) rfl (by kernel_rfl) (by kernel_rfl) (by kernel_rfl) (fun _ _ _ h=>h) (Or.inl ⟨by rfl,?_⟩) (by assumption) ?_
  ·intro w hSw;go_simp
  refine wpAnyH_ready (rs:=[2]) (by kernel_rfl) (by simp) ?_;refine AllReadyH.cons rfl (fun K9 hK9=> ?_) AllReadyH.nil;go_simp
  refine Calls.mono (Hm t _ HY.out.2.1) ?_;rintro e w3 ⟨v3,rfl,hv3,hb3⟩;replace hb3:Below w2.heap.size w2 w3:=Bf hb3;have S2:Hid _:=(S1.out.go hb3).addN hv3;clear hv3 hb3 S1 hHeld;refine hK9.out _ _ (S2.out.cel g 0 (.slice a1 n1 c1')) (fun hHeld=> ?_);clear hK9 K9;refine wpAnyH_ready (rs:=[3]) (by kernel_rfl) (by simp) ?_;refine AllReadyH.cons rfl (fun K9 hK9=> ?_) AllReadyH.nil;go_simp
  refine Calls.mono (DO _ _ A (10^t) _ (S2.out.at (.agg #[.slice a1 n1 c1']) A) (S2.out.at v3 (10^t)) (BV HA.out.2 (by omega)) (BV (Bx HY.out.2.1) (by omega)) (.inl (Cb HA.out.2 (by omega)))) ?_;rintro e w4 ⟨v4,rfl,hv4,hb4⟩;have S3:Hid _:=(S2.out.go hb4).addN hv4;clear hv4 hb4 S2 hHeld;refine hK9.out _ _ (S3.out.cel g 0 (.slice a1 n1 c1')) (fun hHeld=> ?_);clear hK9 K9;refine wpAnyH_ready (rs:=[4]) (by kernel_rfl) (by simp) ?_;refine AllReadyH.cons rfl (fun K9 hK9=> ?_) AllReadyH.nil;go_simp
  refine Calls.mono (Dj 1 _ (by omega)) ?_;rintro e w6 ⟨v6,rfl,hv6,hb6⟩;have S4:Hid _:=(S3.out.go hb6).addN hv6;clear hv6 hb6 S3 hHeld;refine hK9.out _ _ (S4.out.cel g 0 (.slice a1 n1 c1')) (fun hHeld=> ?_);clear hK9 K9;refine wpAnyH_ready (rs:=[5]) (by kernel_rfl) (by simp) ?_;refine AllReadyH.cons rfl (fun K9 hK9=> ?_) AllReadyH.nil;go_simp
  refine Calls.mono (EO _ _ (A*10^t) 1 _ (S4.out.at v4 (A*10^t)) (S4.out.at v6 1) ⟨HY.out.2.2⟩ (CR (by omega)) (by omega) (HT.out.go S4.out.bel)) ?_;rintro e w5 ⟨v5,rfl,hv5,hb5⟩;have S3:Hid _:=(S4.out.go hb5).addF hv5;obtain⟨a5,n5,c5,a6,n6,c6,ev,_,_⟩:=hv5.raw;subst ev;clear hv5 hb5 S4 hHeld;have x0:=S3.out.cel (b+1) 0 (.slice none 0 0);have x1:=S3.out.cel (b+1) 1 (.slice none 0 0);have f0:=S3.out.fz (b+1) 0;have f1:=S3.out.fz (b+1) 1;have t0:=S3.out.cel g 0 (.slice a1 n1 c1');refine hK9.out _ _ t0 (fun hHeld=> ?_);clear hK9 K9;refine wpAnyH_take (i:=6) (v:=.agg #[.slice a5 n5 c5,.slice a6 n6 c6]) rfl (by kernel_rfl) (by kernel_rfl) (by kernel_rfl) (fun _ _ _ h=>h) (Or.inl ⟨by rfl,?_⟩) (by assumption) ?_
  ·intro w hSw;go_simp
  refine wpAnyH_take (i:=7) (v:=.bool true) rfl (by kernel_rfl) (by kernel_rfl) (by kernel_rfl) (fun _ _ _ h=>h) (Or.inl ⟨by rfl,?_⟩) (by assumption) ?_
  ·intro w hSw;go_simp
  refine wpAnyH_ready (rs:=[8]) (by kernel_rfl) (by simp) ?_;refine AllReadyH.cons rfl (fun K9 hK9=> ?_) AllReadyH.nil;go_simp
  clear hHeld;refine hK9.out _ _ (by simp[go_sem, *]) (fun hHeld=> ?_);clear hK9 K9;refine wpAnyH_take (i:=9) (v:=.bool true) rfl (by kernel_rfl) (by kernel_rfl) (by kernel_rfl) (fun _ _ _ h=>h) (Or.inl ⟨by rfl,?_⟩) (by assumption) ?_
  ·intro w hSw;go_simp
  refine wpAnyH_done (by kernel_rfl) ?_ _;have Z:Hid _:=CB (w0:=w) (v:=.slice a5 n5 c5) (u:=.slice a6 n6 c6) x0 x1 (S3.out.fr (.agg #[.slice a5 n5 c5,.slice a6 n6 c6]) ((A*10^t)/Nat.gcd (A*10^t) (1)) ((1)/Nat.gcd (A*10^t) (1))) S3.out.bel (S3.out.lo (b+1));go_wp2_with fail
  refine bodyPost_ret (v:=.tuple #[.agg #[.slice a5 n5 c5,.slice a6 n6 c6],.bool true]) (by simp[results,Tryz.results87,go_sem,x0,x1]) rfl ?_;unfold EI;rw[if_neg HZ.out,HV.out.1,HV.out.2];exact⟨_,rfl,Z.out.1,Z.out.2⟩
theorem Gg{s:ByteArray}{i f:Nat}{p r:PtS}(h:AR s i f p=some r):r=p∧f<i∧i=s.size:=by
 unfold AR at h;split at h
 ·rename_i hh;exact⟨(Option.some.inj h).symm,hh⟩
 cases h
theorem Gh:AF em em.size:=fun i hi=>by
 have:em.size=0:=rfl;omega
structure Qb (s:ByteArray) (p:PtS) (i:Nat):Prop where
 w0:0<p.whole.size
 dw:AF p.whole p.whole.size
 dp:AF p.places p.places.size
 db:AF p.below p.below.size
 dx:AF p.power p.power.size
 sz:p.whole.size+p.places.size≤i
 sb:p.below.size≤s.size
 sx:p.power.size≤3
theorem LS{s:ByteArray}{i:Nat}{p r:PtS}(hs:s.size≤400)(hi:i≤s.size)(g:Qb s p i)(h:AH s i i p=some r):D7 r:=by
 unfold AH at h;split at h
 ·cases h
 rename_i h3;obtain⟨rfl,h1,h2⟩:=Gg h;have hz:=Bj (s:=s) (a:=i) (b:=Al s i) (CD hi);exact⟨g.w0,g.dw,g.dp,g.db,Ii hi,by have:=g.sz;simp only;omega,by have:=g.sb;simp only;omega,by simp only;rw[hz];omega⟩
theorem LU{s:ByteArray}{i:Nat}{p r:PtS}(hs:s.size≤400)(hi:i≤s.size)(g:Qb s p i)(h:Cc s i p=some r):D7 r:=by
 unfold Cc at h;split at h
 ·rename_i hc;have:i<s.size:=by unfold Fj at hc;simp at hc;exact hc.1
  exact LS (p:={p with minus:=sb s i==45}) hs this ⟨g.w0,g.dw,g.dp,g.db,g.dx,Nat.le_succ_of_le g.sz,g.sb,g.sx⟩ h
 exact LS hs hi g h
theorem KJ(n:Nat):em.size≤n:=by rw[show em.size=0 from rfl];omega
theorem Nh{s A B:ByteArray}{i:Nat}(hA:0<A.size)(dA:AF A A.size)(dB:AF B B.size)(hz:A.size+B.size≤i):Qb s ⟨A,em,B,em,false⟩ i:=
 ⟨hA,dA,dB,Gh,Gh,hz,KJ _,KJ _⟩
theorem Ln{A B C:ByteArray}(hA:0<A.size)(dA:AF A A.size)(dB:AF B B.size)(dC:AF C C.size)(hz:A.size+B.size≤400)(hc:C.size≤400):D7 ⟨A,C,B,em,false⟩:=
 ⟨hA,dA,dB,dC,Gh,hz,hc,KJ _⟩
theorem Jh{s:ByteArray}{r:PtS}(hs:s.size≤400)(h:Ap s=some r):D7 r:=by
 unfold Ap DY at h;have l0:=CD (s:=s) (i:=0) (Nat.zero_le _);have z0:=Bj (s:=s) (a:=0) (b:=Al s 0) l0;have d0:=Ii (s:=s) (i:=0) (Nat.zero_le _);have E:em.size=0:=rfl;generalize Al s 0=i0 at*;generalize s.extract 0 i0=A at*;split at h
 ·obtain⟨rfl,h1,h2⟩:=Gg h;exact Ln (A:=A) (B:=em) (C:=em) (by omega) d0 Gh Gh (by omega) (KJ _)
 rename_i hc;have n0: ¬i0=0:=fun e=>hc (.inl e);have n1: ¬i0=s.size:=fun e=>hc (.inr e);have l1:i0+1≤s.size:=by omega
 have l2:=CD l1;have z1:=Bj (s:=s) (a:=i0+1) (b:=Al s (i0+1)) l2;have d1:=Ii l1;have ge1:=EB s (i0+1);unfold Fk Dx at h;generalize Al s (i0+1)=i1 at*;generalize s.extract (i0+1) i1=B at*;have W0:0<A.size:=by omega
 split at h
 ·obtain⟨rfl,h1,h2⟩:=Gg h;exact Ln (A:=A) (B:=em) (C:=B) W0 d0 Gh d1 (by omega) (by omega)
 split at h
 ·split at h
  ·obtain⟨rfl,h1,h2⟩:=Gg h;exact Ln (A:=A) (B:=B) (C:=em) W0 d0 d1 Gh (by omega) (KJ _)
  rename_i hc2;have n2: ¬i1=s.size:=fun e=>hc2 (.inr (.inl e));exact LU hs (by omega) (Nh (A:=A) (B:=B) W0 d0 d1 (by omega)) h
 split at h
 ·exact LU hs l1 (Nh (A:=A) (B:=em) W0 d0 Gh (by omega)) h
 cases h
theorem RM(p:PtS)(w:World)(hg:D7 p)(hT:Tab w):Calls Tryz.prog 87 #[Ng p] w (EI w p):=by
 by_cases h:p.below.size=0
 ·exact RL p w hg h hT
 exact Og p w hg h hT
def CV(s:ByteArray):Bool:=decide (s.size≤400)&&(match Ap s with|some p=> !decide (vD p=0)|none=>false)
def npP(s:ByteArray):Nat:=if CV s then(match Ap s with|some p=>vN p/Nat.gcd (vN p) (vD p)|none=>0) else 0
def npQ(s:ByteArray):Nat:=if CV s then(match Ap s with|some p=>vD p/Nat.gcd (vN p) (vD p)|none=>1) else 1
def npE(s:ByteArray):Int:=if CV s then 0 else 30
def Ji(w:World)(s:ByteArray)(e:Ending)(w':World):Prop:= ∃v,e=.returned (.tuple #[v,.int .i64 (npE s)])∧Rt w' v (npP s) (npQ s)∧Below w.heap.size w w'
theorem Ek{s:ByteArray}(h:CV s=false):npP s=0∧npQ s=1∧npE s=30:=by
 unfold npP npQ npE;rw[h];exact⟨rfl,rfl,rfl⟩
theorem KK{s:ByteArray}{p:PtS}(h1:s.size≤400)(h2:Ap s=some p)(h3: ¬vD p=0):npP s=vN p/Nat.gcd (vN p) (vD p)∧npQ s=vD p/Nat.gcd (vN p) (vD p)∧npE s=0:=by
 have h:CV s=true:=by unfold CV;rw[h2];simp[h1,h3]
 unfold npP npQ npE;rw[h,h2];exact⟨rfl,rfl,rfl⟩
theorem Qc(s:ByteArray)(w:World)(hs:s.size≤9223372036854775807)(hT:Tab w):Calls Tryz.prog 49 #[.string s] w (Ji w s):=by
 have HT:Hid (Tab w):=hT;have S0:Hid _:=(Bp w).box (.slice none 0 0) (.slice none 0 0) 105 _ rfl;obtain⟨b,hb⟩:=nme w.heap.size;obtain⟨w0,hw0⟩:=nme (w.alloc (.cells #[.slice none 0 0,.slice none 0 0] 105));rw[←hw0,←hb]at S0;clear hT;by_cases h4:400<s.size
 ·have HV:Hid (npP s=0∧npQ s=1∧npE s=30):=Ek (by unfold CV;simp;omega);have t1:decide (400<(s.size:Int))=true:=decide_eq_true (by omega);go_enter Tryz.func49,Tryz.ntmps49
  go_wp2_with fail
  refine bodyPost_ret (v:=.tuple #[.agg #[.slice none 0 0,.slice none 0 0],.int .i64 30]) (by simp[results,Tryz.results49,go_sem]) rfl ?_;unfold Ji;rw[HV.out.1,HV.out.2.1,HV.out.2.2];exact⟨_,rfl,FH _,Ah (Aa w)⟩
 have HS:Hid (s.size≤400):=by show _≤_;omega
 have t1:decide (400<(s.size:Int))=false:=decide_eq_false (by omega);have n1: ¬ 400<s.size:=h4;clear h4;go_enter Tryz.func49,Tryz.ntmps49
 go_wp2_with fail
 rw[←hw0,←hb];clear hw0 hb;refine(T7 s _ HS.out).mono ?_;rintro e w1 ⟨p,ok,rfl,hc,hb1⟩;have S1:Hid _:=S0.out.go hb1;clear hb1 S0;cases ok with
 |false=>
  have HV:Hid (npP s=0∧npQ s=1∧npE s=30):=Ek (by unfold CV;rw[hc];simp);clear hc;have S2:Hid _:=S1.out.go (w':=w1.alloc (.cells #[.string p.whole,.string p.below,.string p.places,.string p.power,.bool p.minus] 152)) (Ah (Aa _));clear S1;have S9:=S2.out;have x0:=S9.cel b 0 (.slice none 0 0);have x1:=S9.cel b 1 (.slice none 0 0);have f0:=S9.fz b 0;have f1:=S9.fz b 1;have Z:Hid _:=CB (w0:=w) (v:=.slice none 0 0) (u:=.slice none 0 0) x0 x1 (FH _) S9.bel (S9.lo b);clear S9;go_wp2_with fail
  refine bodyPost_ret (v:=.tuple #[.agg #[.slice none 0 0,.slice none 0 0],.int .i64 30]) (by simp[results,Tryz.results49,go_sem,x0,x1]) rfl ?_;unfold Ji;rw[HV.out.1,HV.out.2.1,HV.out.2.2];exact⟨_,rfl,Z.out.1,Z.out.2⟩
 |true=>
  have HC:Hid (Ap s=some p):=hc;have HG:Hid (D7 p):=Jh HS.out HC.out;clear hc;have S2:Hid _:=S1.out.go (w':=w1.alloc (.cells #[.string p.whole,.string p.below,.string p.places,.string p.power,.bool p.minus] 152)) (Ah (Aa _));have k0:(w1.alloc (.cells #[.string p.whole,.string p.below,.string p.places,.string p.power,.bool p.minus] 152)).cell? ⟨w1.heap.size,0,none⟩=some (.string p.whole):=by simp[go_sem]
  clear S1;go_wp2_with fail
  refine(RM p _ HG.out (HT.out.go S2.out.bel)).mono ?_;intro e w3 hV;unfold EI at hV;by_cases hz:vD p=0
  ·rw[if_pos hz]at hV;obtain⟨v3,rfl,hv3,hb3⟩:=hV;obtain⟨a5,n5,c5,a6,n6,c6,ev,_,_⟩:=hv3.raw;subst ev;have HV:Hid (npP s=0∧npQ s=1∧npE s=30):=Ek (by unfold CV;rw[HC.out];simp[hz]);have S3:Hid _:=(S2.out.go hb3).go (w':=w3.alloc (.cells #[.slice a5 n5 c5,.slice a6 n6 c6] 105)) (Ah (Aa _));clear hv3 hb3 S2 k0 hz;have S9:=S3.out;have x0:=S9.cel b 0 (.slice none 0 0);have x1:=S9.cel b 1 (.slice none 0 0);have f0:=S9.fz b 0;have f1:=S9.fz b 1;have Z:Hid _:=CB (w0:=w) (v:=.slice none 0 0) (u:=.slice none 0 0) x0 x1 (FH _) S9.bel (S9.lo b);clear S9;go_wp2_with fail
   refine bodyPost_ret (v:=.tuple #[.agg #[.slice none 0 0,.slice none 0 0],.int .i64 30]) (by simp[results,Tryz.results49,go_sem,x0,x1]) rfl ?_;unfold Ji;rw[HV.out.1,HV.out.2.1,HV.out.2.2];exact⟨_,rfl,Z.out.1,Z.out.2⟩
  rw[if_neg hz]at hV;obtain⟨v3,rfl,hv3,hb3⟩:=hV;obtain⟨a5,n5,c5,a6,n6,c6,ev,_,_⟩:=hv3.raw;subst ev;have HV:Hid (npP s=vN p/Nat.gcd (vN p) (vD p)∧npQ s=vD p/Nat.gcd (vN p) (vD p)∧npE s=0):=KK HS.out HC.out hz;have S3:Hid _:=((S2.out.go hb3).addF hv3).go (w':=w3.alloc (.cells #[.slice a5 n5 c5,.slice a6 n6 c6] 105)) (Ah (Aa _));have y0:(w3.alloc (.cells #[.slice a5 n5 c5,.slice a6 n6 c6] 105)).cell? ⟨w3.heap.size,0,none⟩=some (.slice a5 n5 c5):=by simp[go_sem]
  have y1:(w3.alloc (.cells #[.slice a5 n5 c5,.slice a6 n6 c6] 105)).cell? ⟨w3.heap.size,1,none⟩=some (.slice a6 n6 c6):=by simp[go_sem]
  clear hv3 hb3 S2 k0 hz;have S9:=S3.out;have x0:=S9.cel b 0 (.slice none 0 0);have x1:=S9.cel b 1 (.slice none 0 0);have f0:=S9.fz b 0;have f1:=S9.fz b 1;have Z:Hid _:=CB (w0:=w) (v:=.slice a5 n5 c5) (u:=.slice a6 n6 c6) x0 x1 (S9.fr (.agg #[.slice a5 n5 c5,.slice a6 n6 c6]) (vN p/Nat.gcd (vN p) (vD p)) (vD p/Nat.gcd (vN p) (vD p))) S9.bel (S9.lo b);clear S9;go_wp2_with fail
  refine bodyPost_ret (v:=.tuple #[.agg #[.slice a5 n5 c5,.slice a6 n6 c6],.int .i64 0]) (by simp[results,Tryz.results49,go_sem,x0,x1]) rfl ?_;unfold Ji;rw[HV.out.1,HV.out.2.1,HV.out.2.2];exact⟨_,rfl,Z.out.1,Z.out.2⟩
theorem Af{a w:World}{o:Obj}(h:Below a.heap.size a w):Below a.heap.size a (w.alloc o):=h.alloc h.size o
theorem F4{a w:World}{p:Addr}{u:Value}(h:Below a.heap.size a w)(hp:a.heap.size≤p.block):Below a.heap.size a (w.setCell p u):=h.setCell hp u
theorem AU{a b c:World}(h:Below a.heap.size a b)(k:Below b.heap.size b c):Below a.heap.size a c:=h.trans (k.mono h.size)
theorem Ae{w W:World}(hB:Below w.heap.size w W){p:Addr}{v:Value}(h:w.cell? p=some v):W.cell? p=some v:=(hB.cell (World.block_lt_of_cell? _ _ h)).trans h
def hld(a b n:Int):Bool:=decide (a≤n)&&decide (n≤b)
theorem C7{a b n:Int}(h:hld a b n=true):a≤n∧n≤b:=by unfold hld at h;simpa using h
theorem RN{a b n:Int}(h1:a≤n)(h2:n≤b):hld a b n=true:=by unfold hld;simp;omega
theorem Co(n a b:Int)(w:World):Calls Tryz.prog 40 #[.int .i64 n,.int .i64 a,.int .i64 b] w fun e w'=>e=.returned (.bool (hld a b n))∧w'=w:=by
 by_cases h1:a≤n
 ·have d1:decide (a≤n)=true:=decide_eq_true h1;have HV:Hid (hld a b n=decide (n≤b)):=by show _=_;unfold hld;rw[d1];rfl
  go_enter Tryz.func40,Tryz.ntmps40
  go_wp2_with fail
  all_goals(go_ret;rw[HV.out];exact⟨by simp_all,rfl⟩)
 have d1:decide (a≤n)=false:=decide_eq_false h1;have HV:Hid (hld a b n=false):=by show _=_;unfold hld;rw[d1];rfl
 go_enter Tryz.func40,Tryz.ntmps40
 go_wp2_with fail
 all_goals(go_ret;rw[HV.out];exact⟨rfl,rfl⟩)
theorem Es(n a b:Int)(w:World):Calls Tryz.prog 41 #[.agg #[.int .i64 a,.int .i64 b],.int .i64 n] w fun e w'=>e=.returned (.bool (hld a b n))∧Below w.heap.size w w':=by
 go_enter Tryz.func41,Tryz.ntmps41
 go_wp2_with fail
 refine(Co n a b _).mono ?_;rintro e w1 ⟨rfl,hw⟩;rw[hw];clear hw;go_wp2_with fail
 go_ret
 exact⟨rfl,Af (Aa _)⟩
def fQ0(k:Int):Int:=if k=2 then 1 else 0
def fQ1(k:Int):Int:=if k=2 then 1073741824 else 0
def fC1(k:Int):Int:=if k=4 then 15 else 0
def fS1(k:Int):Int:=if k=3 then 1099511627776 else 0
def fA1(k:Int):Int:=if k=4 then 1099511627776 else 0
def isK(k:Int):Bool:=decide (1≤k)&&decide (k≤6)
def Hw(k:Int):Value:=.agg #[.int .i64 (fQ0 k),.int .i64 (fQ1 k),.int .i64 0,.int .i64 (fC1 k),.int .i64 0,.int .i64 (fS1 k),.int .i64 0,.int .i64 (fA1 k)]
theorem Ef(k:Int){q0 q1 c1 s1 a1:Int}(h1:fQ0 k=q0)(h2:fQ1 k=q1)(h3:fC1 k=c1)(h4:fS1 k=s1)(h5:fA1 k=a1):Hw k=.agg #[.int .i64 q0,.int .i64 q1,.int .i64 0,.int .i64 c1,.int .i64 0,.int .i64 s1,.int .i64 0,.int .i64 a1]:=by
 unfold Hw;rw[h1,h2,h3,h4,h5]
theorem Fm(k:Int)(w:World):Calls Tryz.prog 39 #[.int .i64 k] w fun e w'=>e=.returned (.tuple #[Hw k,.bool (isK k)])∧Below w.heap.size w w':=by
 by_cases h1:k=1
 ·subst h1;rw[show Hw 1=.agg #[.int .i64 0,.int .i64 0,.int .i64 0,.int .i64 0,.int .i64 0,.int .i64 0,.int .i64 0,.int .i64 0] from Ef 1 rfl rfl rfl rfl rfl,show isK 1=true from rfl];go_enter Tryz.func39,Tryz.ntmps39
  go_wp2_with fail
  exact bodyPost_ret (v:=.tuple #[.agg #[.int .i64 0,.int .i64 0,.int .i64 0,.int .i64 0,.int .i64 0,.int .i64 0,.int .i64 0,.int .i64 0],.bool true]) (by simp[results,Tryz.results39,go_sem]) rfl ⟨rfl,by repeat(first|exact Aa _|refine Af ?_|refine F4 ?_ (by simp))⟩
 skip
 by_cases h2:k=2
 ·subst h2;rw[show Hw 2=.agg #[.int .i64 1,.int .i64 1073741824,.int .i64 0,.int .i64 0,.int .i64 0,.int .i64 0,.int .i64 0,.int .i64 0] from Ef 2 rfl rfl rfl rfl rfl,show isK 2=true from rfl];go_enter Tryz.func39,Tryz.ntmps39
  go_wp2_with fail
  exact bodyPost_ret (v:=.tuple #[.agg #[.int .i64 1,.int .i64 1073741824,.int .i64 0,.int .i64 0,.int .i64 0,.int .i64 0,.int .i64 0,.int .i64 0],.bool true]) (by simp[results,Tryz.results39,go_sem]) rfl ⟨rfl,by repeat(first|exact Aa _|refine Af ?_|refine F4 ?_ (by simp))⟩
 skip
 by_cases h3:k=3
 ·subst h3;rw[show Hw 3=.agg #[.int .i64 0,.int .i64 0,.int .i64 0,.int .i64 0,.int .i64 0,.int .i64 1099511627776,.int .i64 0,.int .i64 0] from Ef 3 rfl rfl rfl rfl rfl,show isK 3=true from rfl];go_enter Tryz.func39,Tryz.ntmps39
  go_wp2_with fail
  exact bodyPost_ret (v:=.tuple #[.agg #[.int .i64 0,.int .i64 0,.int .i64 0,.int .i64 0,.int .i64 0,.int .i64 1099511627776,.int .i64 0,.int .i64 0],.bool true]) (by simp[results,Tryz.results39,go_sem]) rfl ⟨rfl,by repeat(first|exact Aa _|refine Af ?_|refine F4 ?_ (by simp))⟩
 skip
 by_cases h4:k=4
 ·subst h4;rw[show Hw 4=.agg #[.int .i64 0,.int .i64 0,.int .i64 0,.int .i64 15,.int .i64 0,.int .i64 0,.int .i64 0,.int .i64 1099511627776] from Ef 4 rfl rfl rfl rfl rfl,show isK 4=true from rfl];go_enter Tryz.func39,Tryz.ntmps39
  go_wp2_with fail
  exact bodyPost_ret (v:=.tuple #[.agg #[.int .i64 0,.int .i64 0,.int .i64 0,.int .i64 15,.int .i64 0,.int .i64 0,.int .i64 0,.int .i64 1099511627776],.bool true]) (by simp[results,Tryz.results39,go_sem]) rfl ⟨rfl,by repeat(first|exact Aa _|refine Af ?_|refine F4 ?_ (by simp))⟩
 skip
 by_cases h5:k=5
 ·subst h5;rw[show Hw 5=.agg #[.int .i64 0,.int .i64 0,.int .i64 0,.int .i64 0,.int .i64 0,.int .i64 0,.int .i64 0,.int .i64 0] from Ef 5 rfl rfl rfl rfl rfl,show isK 5=true from rfl];go_enter Tryz.func39,Tryz.ntmps39
  go_wp2_with fail
  exact bodyPost_ret (v:=.tuple #[.agg #[.int .i64 0,.int .i64 0,.int .i64 0,.int .i64 0,.int .i64 0,.int .i64 0,.int .i64 0,.int .i64 0],.bool true]) (by simp[results,Tryz.results39,go_sem]) rfl ⟨rfl,by repeat(first|exact Aa _|refine Af ?_|refine F4 ?_ (by simp))⟩
 skip
 by_cases h6:k=6
 ·subst h6;rw[show Hw 6=.agg #[.int .i64 0,.int .i64 0,.int .i64 0,.int .i64 0,.int .i64 0,.int .i64 0,.int .i64 0,.int .i64 0] from Ef 6 rfl rfl rfl rfl rfl,show isK 6=true from rfl];go_enter Tryz.func39,Tryz.ntmps39
  go_wp2_with fail
  exact bodyPost_ret (v:=.tuple #[.agg #[.int .i64 0,.int .i64 0,.int .i64 0,.int .i64 0,.int .i64 0,.int .i64 0,.int .i64 0,.int .i64 0],.bool true]) (by simp[results,Tryz.results39,go_sem]) rfl ⟨rfl,by repeat(first|exact Aa _|refine Af ?_|refine F4 ?_ (by simp))⟩
 have e1:Hw k=.agg #[.int .i64 0,.int .i64 0,.int .i64 0,.int .i64 0,.int .i64 0,.int .i64 0,.int .i64 0,.int .i64 0]:=Ef k (by unfold fQ0;rw[if_neg h2]) (by unfold fQ1;rw[if_neg h2]) (by unfold fC1;rw[if_neg h4]) (by unfold fS1;rw[if_neg h3]) (by unfold fA1;rw[if_neg h4]);have e2:isK k=false:=by
  unfold isK;rcases Int.lt_or_le k 1 with h|h
  ·rw[decide_eq_false (by omega)];rfl
  rw[decide_eq_false (show¬k≤6 by omega)];simp
 rw[e1,e2];go_enter Tryz.func39,Tryz.ntmps39
 go_wp2_with fail
 exact bodyPost_ret (v:=.tuple #[.agg #[.int .i64 0,.int .i64 0,.int .i64 0,.int .i64 0,.int .i64 0,.int .i64 0,.int .i64 0,.int .i64 0],.bool false]) (by simp[results,Tryz.results39,go_sem]) rfl ⟨rfl,by repeat(first|exact Aa _|refine Af ?_|refine F4 ?_ (by simp))⟩
structure NSl (w:World) (a:Option Addr) (n cap:Nat) (F:Nat→Nat→Int):Prop where
 le:n≤cap
 lim:cap≤9223372036854775807
 wf: ∀i j,i<n→j<4→ -9223372036854775808≤F i j∧F i j≤9223372036854775807
 at':n=0∨ ∃b o,a=some ⟨b,o,none⟩∧ ∀i j,i<n→j<4→w.cell? ⟨b,o+i*4+j,none⟩=some (.int .i64 (F i j))
theorem NSl.go{w W:World}{a:Option Addr}{n cap:Nat}{F:Nat→Nat→Int}(h:NSl w a n cap F)(hB:Below w.heap.size w W):NSl W a n cap F:=by
 refine⟨h.le,h.lim,h.wf,h.at'.imp id ?_⟩;rintro⟨b,o,e,hc⟩;exact⟨b,o,e,fun i j hi hj=>Ae hB (hc i j hi hj)⟩
theorem NSl.at{w:World}{a:Option Addr}{n cap:Nat}{F:Nat→Nat→Int}(h:NSl w a n cap F)(hn:0<n): ∃b o,a=some ⟨b,o,none⟩∧ ∀i j,i<n→j<4→w.cell? ⟨b,o+i*4+j,none⟩=some (.int .i64 (F i j)):=by
 rcases h.at' with e|h
 ·omega
 exact h
theorem NSl.cut{w:World}{a:Option Addr}{n cap:Nat}{F:Nat→Nat→Int}(h:NSl w a n cap F){m:Nat}(hm:m≤n):NSl w a m cap F:=by
 refine⟨Nat.le_trans hm h.le,h.lim,fun i j hi hj=>h.wf i j (by omega) hj,?_⟩;rcases h.at' with e| ⟨b,o,e,hc⟩
 ·exact .inl (by omega)
 exact .inr ⟨b,o,e,fun i j hi hj=>hc i j (by omega) hj⟩
def kO(F:Nat→Nat→Int)(n:Nat)(x:Int):Int:=if 0≤x∧x<(n:Int) then F x.toNat 0 else 0
theorem IJ(a:Option Addr)(n cap:Nat)(F:Nat→Nat→Int)(x:Int)(w:World)(h:NSl w a n cap F):
  Calls Tryz.prog 97 #[.slice a n cap,.int .i64 x] w fun e w'=>e=.returned (.int .i64 (kO F n x))∧w'=w:=by
 have hl:n≤9223372036854775807:=Nat.le_trans h.le h.lim;obtain⟨m,hm⟩:=nme ((n:Int)-1:Int);have q1:wrap64 ((n:Int)-1)=m:=by rw[IntWalk.wrap64_in _ ⟨by omega,by omega⟩,hm]
 by_cases hx:0≤x∧x<(n:Int)
 ·obtain⟨b,o,rfl,hc⟩:=h.at (by omega);obtain⟨j,rfl⟩: ∃j:Nat,x=(j:Int):=⟨x.toNat,by omega⟩;have hj:j<n:=by omega
  have c0:w.cell? ⟨b,o+j*4,none⟩=some (.int .i64 (F j 0)):=by simpa using hc j 0 hj (by omega)
  have HV:Hid (kO F n (j:Int)=F j 0):=by show _=_;unfold kO;rw[if_pos hx];rfl
  have HW:Hid (hld 0 m (j:Int)=true):=RN (by omega) (by omega);have hle:=h.le;clear hc h hx hm hl;go_enter Tryz.func97,Tryz.ntmps97
  go_wp2_with fail
  refine(Co (j:Int) 0 m _).mono ?_;rintro e w1 ⟨rfl,hw⟩;rw[hw,HW.out];clear hw w1 q1;go_wp2_with fail
  go_ret
  rw[HV.out];exact⟨rfl,rfl⟩
 have HV:Hid (kO F n x=0):=by show _=_;unfold kO;rw[if_neg hx]
 have HW:Hid (hld 0 m x=false):=by
  show _=_;cases e:hld 0 m x with
  |false=>rfl
  |true=>exact absurd (C7 e) (by omega)
 clear h hx hm hl;go_enter Tryz.func97,Tryz.ntmps97
 go_wp2_with fail
 refine(Co x 0 m _).mono ?_;rintro e w1 ⟨rfl,hw⟩;rw[hw,HW.out];clear hw w1 q1;go_wp2_with fail
 go_ret
 rw[HV.out];exact⟨rfl,rfl⟩
structure Ce (w W:World) (C:List (Nat×Nat×Value)):Prop where
 cells: ∀p∈C,W.cell? ⟨p.1,p.2.1,none⟩=some p.2.2
 bel:Below w.heap.size w W
theorem CG(w:World):Ce w w []:=⟨(fun _ h=>by cases h),Aa _⟩
theorem Ce.go{w W W':World}{C:List (Nat×Nat×Value)}(h:Ce w W C)(k:Below W.heap.size W W'):Ce w W' C:=⟨fun p hp=>Ae k (h.cells p hp),AU h.bel k⟩
theorem Ce.cel{w W:World}{C:List (Nat×Nat×Value)}(h:Ce w W C)(b i:Nat)(u:Value)(hm:(b,i,u)∈C:=by simp):W.cell? ⟨b,i,none⟩=some u:=h.cells _ hm
theorem Ce.lt{w W:World}{C:List (Nat×Nat×Value)}(h:Ce w W C)(b i:Nat)(u:Value)(hm:(b,i,u)∈C:=by simp):b<W.heap.size:=World.block_lt_of_cell? _ _ (h.cells _ hm)
theorem C8{a w:World}(h:Below a.heap.size a w)(n:Nat):Below a.heap.size a (w.drewN n):=⟨h.os,h.tape,h.output,h.size,h.block⟩
theorem Ce.drew{w W:World}{C:List (Nat×Nat×Value)}(h:Ce w W C)(n:Nat):Ce w (W.drewN n) C:=⟨fun p hp=>h.cells p hp,C8 h.bel n⟩
theorem NSl.drew{w:World}{a:Option Addr}{n cap:Nat}{F:Nat→Nat→Int}(h:NSl w a n cap F)(k:Nat):NSl (w.drewN k) a n cap F:=⟨h.le,h.lim,h.wf,h.at'⟩
theorem Ce.box2{w W:World}{C:List (Nat×Nat×Value)}(h:Ce w W C)(u0 u1:Value)(t:TypeId)(g:Nat)(hg:g=W.heap.size):Ce w (W.alloc (.cells #[u0,u1] t)) ((g,0,u0)::(g,1,u1)::C):=by
 subst hg;refine⟨fun p hp=> ?_,Af h.bel⟩;simp only[List.mem_cons]at hp;rcases hp with rfl|rfl|hp
 ·simp[go_sem]
 ·simp[go_sem]
 exact Ae (Af (Aa _)) (h.cells p hp)
theorem Ce.box4{w W:World}{C:List (Nat×Nat×Value)}(h:Ce w W C)(u0 u1 u2 u3:Value)(t:TypeId)(g:Nat)(hg:g=W.heap.size):Ce w (W.alloc (.cells #[u0,u1,u2,u3] t)) ((g,0,u0)::(g,1,u1)::(g,2,u2)::(g,3,u3)::C):=by
 subst hg;refine⟨fun p hp=> ?_,Af h.bel⟩;simp only[List.mem_cons]at hp;rcases hp with rfl|rfl|rfl|rfl|hp
 ·simp[go_sem]
 ·simp[go_sem]
 ·simp[go_sem]
 ·simp[go_sem]
 exact Ae (Af (Aa _)) (h.cells p hp)
theorem Ce.box7{w W:World}{C:List (Nat×Nat×Value)}(h:Ce w W C)(u0 u1 u2 u3 u4 u5 u6:Value)(t:TypeId)(g:Nat)(hg:g=W.heap.size):Ce w (W.alloc (.cells #[u0,u1,u2,u3,u4,u5,u6] t)) ((g,0,u0)::(g,1,u1)::(g,2,u2)::(g,3,u3)::(g,4,u4)::(g,5,u5)::(g,6,u6)::C):=by
 subst hg;refine⟨fun p hp=> ?_,Af h.bel⟩;simp only[List.mem_cons]at hp;rcases hp with rfl|rfl|rfl|rfl|rfl|rfl|rfl|hp
 ·simp[go_sem]
 ·simp[go_sem]
 ·simp[go_sem]
 ·simp[go_sem]
 ·simp[go_sem]
 ·simp[go_sem]
 ·simp[go_sem]
 exact Ae (Af (Aa _)) (h.cells p hp)
theorem Ce.box8{w W:World}{C:List (Nat×Nat×Value)}(h:Ce w W C)(u0 u1 u2 u3 u4 u5 u6 u7:Value)(t:TypeId)(g:Nat)(hg:g=W.heap.size):Ce w (W.alloc (.cells #[u0,u1,u2,u3,u4,u5,u6,u7] t)) ((g,0,u0)::(g,1,u1)::(g,2,u2)::(g,3,u3)::(g,4,u4)::(g,5,u5)::(g,6,u6)::(g,7,u7)::C):=by
 subst hg;refine⟨fun p hp=> ?_,Af h.bel⟩;simp only[List.mem_cons]at hp;rcases hp with rfl|rfl|rfl|rfl|rfl|rfl|rfl|rfl|hp
 ·simp[go_sem]
 ·simp[go_sem]
 ·simp[go_sem]
 ·simp[go_sem]
 ·simp[go_sem]
 ·simp[go_sem]
 ·simp[go_sem]
 ·simp[go_sem]
 exact Ae (Af (Aa _)) (h.cells p hp)
def CS(F:Nat→Nat→Int)(i:Nat):Int:=
 if isK (F i 0)=false then 90
 else if i=0 then(if¬F i 0=6 then 90 else if¬F i 1=0 then 1 else if hld 0 0 (F i 2)=false then 94 else if hld 0 (fA1 (F i 0)) (F i 3)=false then 95 else 0)
 else(if¬kO F i (F i 1)=6 then 1 else if hld 1 1073741824 (F i 2)=false then 94 else if hld 0 (fA1 (F i 0)) (F i 3)=false then 95 else 0)
theorem Mj(a:Option Addr)(n cap:Nat)(F:Nat→Nat→Int)(i:Nat)(w:World)(h:NSl w a n cap F)(hi:i<n):
  Calls Tryz.prog 82 #[.slice a n cap,.int .i64 (i:Int)] w fun e w'=>e=.returned (.int .i64 (CS F i))∧Below w.heap.size w w':=by
 obtain⟨b,o,rfl,hc⟩:=h.at (by omega);have c0:w.cell? ⟨b,o+i*4,none⟩=some (.int .i64 (F i 0)):=by simpa using hc i 0 hi (by omega)
 have c1:=hc i 1 hi (by omega);have c2:=hc i 2 hi (by omega);have c3:=hc i 3 hi (by omega);obtain⟨K,eK⟩:=nmd (F i 0);obtain⟨Pa,eP⟩:=nmd (F i 1);obtain⟨Q,eQ⟩:=nmd (F i 2);obtain⟨A,eA⟩:=nmd (F i 3);rw[eK]at c0;rw[eP]at c1;rw[eQ]at c2;rw[eA]at c3;obtain⟨q0,f1⟩:=nmd (fQ0 K);obtain⟨q1,f2⟩:=nmd (fQ1 K);obtain⟨cl,f3⟩:=nmd (fC1 K);obtain⟨sp,f4⟩:=nmd (fS1 K);obtain⟨a1,f5⟩:=nmd (fA1 K);have HFA:Hid _:=Ef K f1 f2 f3 f4 f5;obtain⟨E,hE⟩:=nmd (CS F i);rw[hE];by_cases hi0:i=0
 ·subst hi0;have HE:Hid (E=if isK K=false then 90 else(if¬K=6 then 90 else if¬Pa=0 then 1 else if hld 0 0 Q=false then 94 else if hld 0 a1 A=false then 95 else 0)):=by
   show _=_;rw[←hE,CS,eK,eP,eQ,eA,f5,if_pos (rfl:(0:Nat)=0)]
  have c0':w.cell? ⟨b,o,none⟩=some (.int .i64 K):=by simpa using c0
  have c1':w.cell? ⟨b,o+1,none⟩=some (.int .i64 Pa):=by simpa using c1
  have c2':w.cell? ⟨b,o+2,none⟩=some (.int .i64 Q):=by simpa using c2
  have c3':w.cell? ⟨b,o+3,none⟩=some (.int .i64 A):=by simpa using c3
  clear hc eK eP eQ eA f1 f2 f3 f4 f5 hE c0 c1 c2 c3;go_enter Tryz.func82,Tryz.ntmps82
  go_wp2_with fail
  have S0:Hid _:=(CG w).box4 (.int .i64 K) (.int .i64 Pa) (.int .i64 Q) (.int .i64 A) 78 _ rfl;refine(Fm K _).mono ?_;rintro e w1 ⟨rfl,hb⟩;rw[HFA.out];obtain⟨g,eg⟩:=nme w.heap.size;rw[←eg]at S0;rw[←eg];clear eg;have S1:Hid _:=S0.out.go hb;have x0:=S1.out.cel g 0 (.int .i64 K);have x1:=S1.out.cel g 1 (.int .i64 Pa);have x2:=S1.out.cel g 2 (.int .i64 Q);have x3:=S1.out.cel g 3 (.int .i64 A);have hl:=S1.out.lt g 0 (.int .i64 K);have S2:Hid _:=(S1.out.box8 (.int .i64 q0) (.int .i64 q1) (.int .i64 0) (.int .i64 cl) (.int .i64 0) (.int .i64 sp) (.int .i64 0) (.int .i64 a1) 90 _ rfl);clear hb S0 S1 HFA;obtain⟨m,em⟩:=nme w1.heap.size;have S3:Hid _:=S2.out.box2 (.int .i64 0) (.int .i64 0) 88 (m+1) (by simp[em]);rw[←em]at S3;clear S2;rcases hK:isK K with _|_
  ·have HR:Hid (E=90):=by
    show E=90;rw[HE.out,if_pos hK]
   clear HE;go_wp2_with fail
   go_ret
   rw[HR.out];exact⟨rfl,S3.out.bel⟩
  by_cases h6:K=6
  ·by_cases hP:Pa=0
   ·have HE3:Hid (E=if hld 0 0 Q=false then 94 else if hld 0 a1 A=false then 95 else 0):=by
     show E=_;rw[HE.out,if_neg (by rw[hK];decide),if_neg (by omega),if_neg (by omega)]
    clear HE hK;rename Hid (E=_)=>HE
    subst h6;subst hP;go_wp2_with fail
    go_quiet (fail)
    have S4:Hid _:=S3.out.drew nq;clear S3;rename Hid (Ce _ _ _)=>S3
    go_wp2_with fail
    rw[←em];clear em;refine(Es Q 0 0 _).mono ?_;rintro e w8 ⟨rfl,hb⟩;have S8:Hid _:=S3.out.go hb;clear hb S3;rcases hQ:hld 0 0 Q with _|_
    ·have HR:Hid (E=94):=by
      show E=94;rw[HE.out,if_pos hQ]
     go_wp2_with fail
     go_ret
     rw[HR.out];exact⟨rfl,S8.out.bel⟩
    have HE2:Hid (E=if hld 0 a1 A=false then 95 else 0):=by
     show E=_;rw[HE.out,if_neg (by rw[hQ];decide)]
    clear hQ HE;have y0:=S8.out.cel m 6 (.int .i64 0);have y1:=S8.out.cel m 7 (.int .i64 a1);have y2:=S8.out.cel g 3 (.int .i64 A);go_wp2_with fail
    refine(Es A 0 a1 _).mono ?_;rintro e w9 ⟨rfl,hb⟩;have S9:Hid _:=S8.out.go hb;clear hb S8 y0 y1 y2;rcases hA:hld 0 a1 A with _|_
    ·have HR:Hid (E=95):=by
      show E=95;rw[HE2.out,if_pos hA]
     go_wp2_with fail
     go_ret
     rw[HR.out];exact⟨rfl,S9.out.bel⟩
    have HR:Hid (E=0):=by
     show E=0;rw[HE2.out,if_neg (by rw[hA];decide)]
    go_wp2_with fail
    go_ret
    rw[HR.out];exact⟨rfl,S9.out.bel⟩
   have HR:Hid (E=1):=by
    show E=1;rw[HE.out,if_neg (by rw[hK];decide),if_neg (by omega),if_pos (by omega)]
   clear HE hK;subst h6;have d:decide (Pa=0)=false:=decide_eq_false hP;go_wp2_with fail
   go_ret
   rw[HR.out];exact⟨rfl,S3.out.bel⟩
  have HR:Hid (E=90):=by
   show E=90;rw[HE.out,if_neg (by rw[hK];decide),if_pos h6]
  clear HE hK;have d:decide (K=6)=false:=decide_eq_false h6;go_wp2_with fail
  go_ret
  rw[HR.out];exact⟨rfl,S3.out.bel⟩
 have HE:Hid (E=if isK K=false then 90 else(if¬kO F i Pa=6 then 1 else if hld 1 1073741824 Q=false then 94 else if hld 0 a1 A=false then 95 else 0)):=by
  show _=_;rw[←hE,CS,eK,eP,eQ,eA,f5,if_neg hi0]
 have HN:Hid (NSl w (some ⟨b,o,none⟩) i cap F):=h.cut (by omega);have hic:i≤cap:=Nat.le_trans (by omega) h.le;have dz:((i:Int)==0)=false:=by simp;omega
 clear h hc eK eP eQ eA f1 f2 f3 f4 f5 hE hi0;go_enter Tryz.func82,Tryz.ntmps82
 go_wp2_with fail
 have S0:Hid _:=(CG w).box4 (.int .i64 K) (.int .i64 Pa) (.int .i64 Q) (.int .i64 A) 78 _ rfl;refine(Fm K _).mono ?_;rintro e w1 ⟨rfl,hb⟩;rw[HFA.out];obtain⟨g,eg⟩:=nme w.heap.size;rw[←eg]at S0;rw[←eg];clear eg;have S1:Hid _:=S0.out.go hb;have x0:=S1.out.cel g 0 (.int .i64 K);have x1:=S1.out.cel g 1 (.int .i64 Pa);have x2:=S1.out.cel g 2 (.int .i64 Q);have x3:=S1.out.cel g 3 (.int .i64 A);have hl:=S1.out.lt g 0 (.int .i64 K);have S2:Hid _:=(S1.out.box8 (.int .i64 q0) (.int .i64 q1) (.int .i64 0) (.int .i64 cl) (.int .i64 0) (.int .i64 sp) (.int .i64 0) (.int .i64 a1) 90 _ rfl);clear hb S0 S1 HFA;obtain⟨m,em⟩:=nme w1.heap.size;have S3:Hid _:=S2.out.box2 (.int .i64 1) (.int .i64 1073741824) 88 (m+1) (by simp[em]);rw[←em]at S3;clear S2;rcases hK:isK K with _|_
 ·have HR:Hid (E=90):=by
   show E=90;rw[HE.out,if_pos hK]
  clear HE;go_wp2_with fail
  go_ret
  rw[HR.out];exact⟨rfl,S3.out.bel⟩
 by_cases h6:kO F i Pa=6
 ·have HE3:Hid (E=if hld 1 1073741824 Q=false then 94 else if hld 0 a1 A=false then 95 else 0):=by
   show E=_;rw[HE.out,if_neg (by rw[hK];decide),if_neg (by omega)]
  clear HE hK;rename Hid (E=_)=>HE
  have d:(kO F i Pa != 6)=false:=by simpa using h6
  go_wp2_with fail
  go_quiet ((go_at_call 97;exact Calls.quiet_of_same (IJ _ i cap F Pa _ ((HN.out.go S3.out.bel).drew _))))
  have S4:Hid _:=S3.out.drew nq;clear S3;rename Hid (Ce _ _ _)=>S3
  go_wp2_with fail
  rw[←em];clear em;refine(Es Q 1 1073741824 _).mono ?_;rintro e w8 ⟨rfl,hb⟩;have S8:Hid _:=S3.out.go hb;clear hb S3;rcases hQ:hld 1 1073741824 Q with _|_
  ·have HR:Hid (E=94):=by
    show E=94;rw[HE.out,if_pos hQ]
   go_wp2_with fail
   go_ret
   rw[HR.out];exact⟨rfl,S8.out.bel⟩
  have HE2:Hid (E=if hld 0 a1 A=false then 95 else 0):=by
   show E=_;rw[HE.out,if_neg (by rw[hQ];decide)]
  clear hQ HE;have y0:=S8.out.cel m 6 (.int .i64 0);have y1:=S8.out.cel m 7 (.int .i64 a1);have y2:=S8.out.cel g 3 (.int .i64 A);go_wp2_with fail
  refine(Es A 0 a1 _).mono ?_;rintro e w9 ⟨rfl,hb⟩;have S9:Hid _:=S8.out.go hb;clear hb S8 y0 y1 y2;rcases hA:hld 0 a1 A with _|_
  ·have HR:Hid (E=95):=by
    show E=95;rw[HE2.out,if_pos hA]
   go_wp2_with fail
   go_ret
   rw[HR.out];exact⟨rfl,S9.out.bel⟩
  have HR:Hid (E=0):=by
   show E=0;rw[HE2.out,if_neg (by rw[hA];decide)]
  go_wp2_with fail
  go_ret
  rw[HR.out];exact⟨rfl,S9.out.bel⟩
 have HR:Hid (E=1):=by
  show E=1;rw[HE.out,if_neg (by rw[hK];decide),if_pos h6]
 clear HE hK;have d:(kO F i Pa != 6)=true:=by simpa using h6
 go_wp2_with fail
 go_quiet ((go_at_call 97;exact Calls.quiet_of_same (IJ _ i cap F Pa _ ((HN.out.go S3.out.bel).drew _))))
 have S4:Hid _:=S3.out.drew nq;clear S3;rename Hid (Ce _ _ _)=>S3
 go_wp2_with fail
 go_ret
 rw[HR.out];exact⟨rfl,S3.out.bel⟩
end Go.Proofs.YtbikpmmpgbggaaaGreatDoor
