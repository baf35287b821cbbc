/- Contracts of the program's functions, part 10: own work, joined in build order. -/
import Derived.Test.YtbikpmmpgbggaaaGreatDoorJ9
namespace Go.Proofs.YtbikpmmpgbggaaaGreatDoor
open Go.RowKit
set_option maxRecDepth 100000
set_option linter.unusedVariables false
set_option maxHeartbeats 16000000
structure TR (Q G:Nat):Prop where
 ge:Q≤G
 le:G≤Q+1
 lt:G<4294967296
theorem PR(b N cap b' o' cap' j k:Nat)(F Y:Nat→Nat)(w:World)(hF:Bo w b cap N F)(dF:Dg F N)(hY:Sl w (some ⟨b',o',none⟩) (k+2) cap' Y)(dY:Dg Y (k+2))(hj:j+k+2<N)(hN:N≤1099511627776)
  (htop:2147483648≤Y (k+1)) (hlt:U (fro F j) (k+3)<U Y (k+2)*4294967296):
  Calls Tryz.prog 133 #[.slice (some ⟨b,0,none⟩) N cap,.slice (some ⟨b',o',none⟩) (k+2) cap',.int .i64 (j:Int)] w fun e w'=> ∃G:Nat,e=.returned (.int .u64 (G:Int))∧TR (U (fro F j) (k+3)/U Y (k+2)) G∧ ∃n,w'=w.drewN n:=by
 obtain⟨b2,o2,eb,hw⟩:=hY.at 0 (by omega);cases eb;have g:=Xi (R:=fro F j) (fun i hi=>dF _ (by omega)) dY htop hlt;have cu2:w.cell? ⟨b,j+(k+2),none⟩=some (.int .u64 (fro F j (k+2):Nat)):=hF.cell (by omega);have cu1:w.cell? ⟨b,j+(k+1),none⟩=some (.int .u64 (fro F j (k+1):Nat)):=hF.cell (by omega);have cu0:w.cell? ⟨b,j+k,none⟩=some (.int .u64 (fro F j k:Nat)):=hF.cell (by omega);have cy0:w.cell? ⟨b',o'+k,none⟩=some (.int .u64 (Y k:Nat)):=hw k (by omega);have cy1:w.cell? ⟨b',o'+(k+1),none⟩=some (.int .u64 (Y (k+1):Nat)):=hw (k+1) (by omega);have l2:fro F j (k+2)<4294967296:=dF _ (by omega);have l1:fro F j (k+1)<4294967296:=dF _ (by omega);have l0:fro F j k<4294967296:=dF _ (by omega);generalize fro F j (k+2)=u2 at*;generalize fro F j (k+1)=u1 at*;generalize fro F j k=u0 at*;have m1:=dY (k+1) (by omega);have m0:=dY k (by omega);generalize Y (k+1)=y1 at*;generalize Y k=y0 at*;generalize U (fro F j) (k+3)/U Y (k+2)=Q at*;have HG:Hid (RgD (u2*4294967296+u1) u0 y1 y0 Q):=g;clear hF dF hY dY hw g hlt;obtain⟨A,hA⟩:=nme (u2*4294967296+u1);have hAl:A<18446744073709551616:=by omega
 have n1:IntKind.u64.wrap ((u2:Int)*4294967296)=((u2*4294967296:Nat):Int):=by rw[IntKind.wrap_u64];omega
 have n2:IntKind.u64.wrap (((u2*4294967296:Nat):Int)+(u1:Int))=(A:Int):=by rw[IntKind.wrap_u64];omega
 rw[←hA]at HG;have E1:Hid (((u2:Int)*4294967296+(u1:Int))/(y1:Int)=((A/y1:Nat):Int)∧((u2:Int)*4294967296+(u1:Int))%(y1:Int)=((A%y1:Nat):Int)):=⟨by rw[hA];simp,by rw[hA];simp⟩;clear hA;have hy1:((y1:Int)==0)=false:=by simp;omega
 have D0:Hid (Gs A y1 Q (A/y1) (A%y1)):=TH HG.out;have hq0:A/y1<18446744073709551616:=Nat.lt_of_le_of_lt (Nat.div_le_self _ _) hAl;have hr0:A%y1<4294967296:=Nat.lt_trans (Nat.mod_lt _ (by omega)) m1;go_enter Tryz.func133,Tryz.ntmps133
 go_wp2_with fail
 go_region
 go_wp2_with fail
 go_loopw [9,10] (fun a c wr=> ∃(q r nd:Nat),a=.int .u64 (q:Int)∧c=.int .u64 (r:Int)∧wr=w.drewN nd∧r<4294967296∧q<18446744073709551616∧Hid (Gs A y1 Q q r)) (fun a _ _=>(intOf a).toNat)
 case atStart=>exact⟨A/y1,A%y1,1,by rw[E1.out.1],by rw[E1.out.2],rfl,hr0,hq0,D0⟩
 case round=>
  obtain⟨q,r,nd,rfl,rfl,rfl,hr,hq,HS⟩:=hrel;clear hr0 hq0 D0 n1 n2 hAl;by_cases hge:4294967296≤q
  ·have d1:decide (4294967296≤(q:Int))=true:=decide_eq_true (by omega);have d1':decide (4294967296≤q)=true:=decide_eq_true hge;obtain⟨hq1,HN⟩:=HS.out.step HG.out (.inl hge);obtain⟨v,hv⟩:=nme (q-1);have ev:(q:Int)-1=(v:Int):=by omega
   have vl:v<18446744073709551616:=by omega
   obtain⟨t,ht⟩:=nme (r+y1);have et:(r:Int)+(y1:Int)=(t:Int):=by omega
   have tl:t<18446744073709551616:=by omega
   have HM:Hid (Gs A y1 Q v t∧v<q):=⟨by rw[hv,ht];exact HN,by omega⟩;clear HN hv ht hge;by_cases hb:4294967296≤t
   ·have d2:decide (4294967296≤(t:Int))=true:=decide_eq_true (by omega);have d2':decide (4294967296≤t)=true:=decide_eq_true hb;have HE:Hid _:=HM.out.1.broke HG.out hb;clear hb;go_wp2_with fail
    go_quiet (fail)
    go_wp2_with fail
    go_ret
    exact⟨v,rfl,⟨HM.out.1.ge,HE.out.2,HE.out.1⟩,_,rfl⟩
   have d2:decide (4294967296≤(t:Int))=false:=decide_eq_false (by omega);have d2':decide (4294967296≤t)=false:=decide_eq_false hb;go_wp2_with fail
   go_quiet (fail)
   go_wp2_with fail
   go_roundw
   case rel=>exact⟨v,t,_,rfl,rfl,rfl,by omega,vl,HM.out.1⟩
   case measure=>simp[intOf];have:=HM.out.2;omega
  have d1:decide (4294967296≤(q:Int))=false:=decide_eq_false (by omega);have d1':decide (4294967296≤q)=false:=decide_eq_false hge;have ql:q<4294967296:=by omega
  have pl:=(TJ ql m0 (show 0<4294967296 by omega)).1;rw[Nat.add_zero]at pl;have e1:(q:Int)*(y0:Int)=((q*y0:Nat):Int):=(Int.natCast_mul ..).symm;obtain⟨qy,eq⟩:=nme (q*y0);rw[←eq]at e1 pl;have w1:IntKind.u64.wrap ((q:Int)*(y0:Int))=(qy:Int):=by rw[e1,IntKind.wrap_u64];omega
  have w2:IntKind.u64.wrap ((r:Int)*4294967296)=(r:Int)*4294967296:=by rw[IntKind.wrap_u64];omega
  obtain⟨ru,er⟩:=nme (r*4294967296+u0);have w3:IntKind.u64.wrap ((r:Int)*4294967296+(u0:Int))=(ru:Int):=by rw[IntKind.wrap_u64];omega
  have EQ:Hid (qy=q*y0∧ru=r*4294967296+u0):=⟨eq,er⟩;clear e1 eq er;have x1:(k:Int)+2-2=(k:Int):=by omega
  have x2:(j:Int)+((k:Int)+2)-2=((j+k:Nat):Int):=by omega
  have x3:(k:Int)<(k:Int)+2:=by omega
  have x4:k<k+2:=by omega
  have x5:j+k<N:=by omega
  obtain⟨bb,d3⟩:=nmd (decide (ru<qy));have d4:decide ((r:Int)*4294967296+(u0:Int)<(qy:Int))=bb:=by
   rw[←d3];exact decide_eq_decide.2 (by have:=EQ.out.2;omega)
  have d5:decide (r*4294967296+u0<qy)=bb:=by rw[←d3,EQ.out.2]
  have DB:Hid (decide (ru<qy)=bb):=d3;go_wp2_with fail
  go_quiet (fail)
  clear d3 d4 d5 w1 w2 w3 x1 x2 x3 x4 x5 pl;cases bb
  ·have hgt:=of_decide_eq_false DB.out;have HE:Hid (q≤Q+1):=HS.out.done HG.out ql (by rw[←EQ.out.1,←EQ.out.2];omega);clear hgt DB EQ;go_wp2_with fail
   go_ret
   exact⟨q,rfl,⟨HS.out.ge,HE.out,ql⟩,_,World.drewN_drewN ..⟩
  have hgt:=of_decide_eq_true DB.out;obtain⟨hq1,HN⟩:=HS.out.step HG.out (.inr (by rw[←EQ.out.1,←EQ.out.2];exact hgt));obtain⟨v,hv⟩:=nme (q-1);have ev:(q:Int)-1=(v:Int):=by omega
  have vl:v<18446744073709551616:=by omega
  obtain⟨t,ht⟩:=nme (r+y1);have et:(r:Int)+(y1:Int)=(t:Int):=by omega
  have tl:t<18446744073709551616:=by omega
  have HM:Hid (Gs A y1 Q v t∧v<q):=⟨by rw[hv,ht];exact HN,by omega⟩;clear HN hv ht hgt DB EQ;by_cases hb:4294967296≤t
  ·have d2:decide (4294967296≤(t:Int))=true:=decide_eq_true (by omega);have d2':decide (4294967296≤t)=true:=decide_eq_true hb;have HE:Hid _:=HM.out.1.broke HG.out hb;clear hb;go_wp2_with fail
   go_ret
   exact⟨v,rfl,⟨HM.out.1.ge,HE.out.2,HE.out.1⟩,_,rfl⟩
  have d2:decide (4294967296≤(t:Int))=false:=decide_eq_false (by omega);have d2':decide (4294967296≤t)=false:=decide_eq_false hb;go_wp2_with fail
  go_roundw
  case rel=>exact⟨v,t,_,rfl,rfl,rfl,by omega,vl,HM.out.1⟩
  case measure=>simp[intOf];have:=HM.out.2;omega
theorem Rx(b N cap j n q cap':Nat)(a':Option Addr)(F Y:Nat→Nat)(w:World)(hF:Bo w b cap N F)(dF:Dg F N)(hY:Sl w a' n cap' Y)(dY:Dg Y n)(hj:j+n<N)(hN:N≤1099511627776)(hq:q<4294967296)
  (hne: ∀b' o',a'=some ⟨b',o',none⟩→b'≠b):
  Calls Tryz.prog 134 #[.slice (some ⟨b,0,none⟩) N cap,.slice a' n cap',.int .i64 (j:Int),.int .u64 (q:Int)] w fun e w'=> ∃(bo c:Nat) (H:Nat→Nat),e=.returned (.int .u64 (bo:Int))∧Bo w' b cap N H∧Ls F Y N n j q (n+1) c bo H∧w.grownBy w' (some b):=by
 have HH:Hid (Bo w b cap N F∧Dg F N∧Sl w a' n cap' Y∧Dg Y n∧ ∀b' o',a'=some ⟨b',o',none⟩→b'≠b):=⟨hF,dF,hY,dY,hne⟩;clear hF dF hY dY hne;go_enter Tryz.func134,Tryz.ntmps134
 go_wp2_with fail
 go_loopw [10,11,12] (fun c bo t wr=> ∃(i cc bb:Nat) (H:Nat→Nat),i≤n+1∧t=.int .i64 (i:Int)∧c=.int .u64 (cc:Int)∧bo=.int .u64 (bb:Int)∧Hid (Bo wr b cap N H∧Ls F Y N n j q i cc bb H∧w.grownBy wr (some b))) (fun _ _ t _=>n+1- (intOf t).toNat)
 case atStart=>exact⟨0,0,0,F,by omega,rfl,rfl,rfl,⟨HH.out.1,TI F Y N n j q HH.out.2.1,World.grownBy.refl _ _⟩⟩
 case round=>
  obtain⟨i,cc,bb,H,hi,rfl,rfl,rfl,hP⟩:=hrel;by_cases hin:i≤n
  ·have hle:(i:Int)≤n:=by omega
   have hcd:wr.cell? ⟨b,j+i,none⟩=some (.int .u64 (F (j+i):Nat)):=by
    rw[←hP.out.2.1.out (j+i) (by omega)];exact hP.out.1.cell (by omega)
   have hfd:wr.frozen? ⟨b,j+i,none⟩=false:=hP.out.1.frozen _;have lf:=HH.out.2.1 (j+i) (by omega);have lc:=hP.out.2.1.lc;have lb:=hP.out.2.1.lb;obtain⟨d,ed⟩:=nme (Am Y n 0 i);have ld:d<4294967296:=by rw[ed];exact Ep HH.out.2.2.2.1 i
   have ED:Hid (d=Am Y n 0 i):=ed;have DG:Hid (Calls Tryz.prog 102 #[.slice a' n cap',.int .i64 (i:Int)] wr fun e w'=>e=.returned (.int .u64 (d:Int))∧w'=wr):=by
    rw[ed];exact Dn _ _ _ Y i _ (HH.out.2.2.1.apart hP.out.2.2 HH.out.2.2.2.2) (by omega)
   clear ed;obtain⟨f,ef⟩:=nme (F (j+i));have EF:Hid (f=F (j+i)):=ef;rw[←ef]at hcd lf;clear ef;have pl:=(TJ hq ld lc).1;have e1:(q:Int)*(d:Int)=((q*d:Nat):Int):=(Int.natCast_mul ..).symm;obtain⟨qd,eqd⟩:=nme (q*d);rw[←eqd]at e1 pl;have m1:IntKind.u64.wrap ((q:Int)*(d:Int))=(qd:Int):=by rw[e1,IntKind.wrap_u64];omega
   obtain⟨p,ep⟩:=nme (qd+cc);have m2:IntKind.u64.wrap ((qd:Int)+(cc:Int))=(p:Int):=by rw[IntKind.wrap_u64];omega
   have EP:Hid (p=q*d+cc):=by show _=_;rw[ep,eqd]
   have r1:IntKind.u64.wrap (4294967296+(f:Int))=4294967296+(f:Int):=by rw[IntKind.wrap_u64];omega
   have r2:IntKind.u64.wrap (4294967296+(f:Int)- (p:Int)%4294967296)=4294967296+(f:Int)- (p:Int)%4294967296:=by rw[IntKind.wrap_u64];omega
   obtain⟨s,es⟩: ∃s,s=4294967296+f-p%4294967296-bb:=⟨_,rfl⟩;have r3:IntKind.u64.wrap (4294967296+(f:Int)- (p:Int)%4294967296- (bb:Int))=(s:Int):=by rw[IntKind.wrap_u64];omega
   have hsl:s<8589934592:=by omega
   have r4:IntKind.u64.wrap (1- (s:Int)/4294967296)=((1-s/4294967296:Nat):Int):=by rw[IntKind.wrap_u64];omega
   have S:Hid (Bo (wr.setCell ⟨b,j+i,none⟩ (.int .u64 ((s%4294967296:Nat):Int))) b cap N (put H (j+i) (s%4294967296))∧Ls F Y N n j q (i+1) (p/4294967296) (1-s/4294967296) (put H (j+i) (s%4294967296))∧w.grownBy (wr.setCell ⟨b,j+i,none⟩ (.int .u64 ((s%4294967296:Nat):Int))) (some b)):=
    ⟨hP.out.1.set (j+i) (by omega),hP.out.2.1.step ED.out HH.out.2.2.2.1 hq EP.out (by rw[←EF.out];exact es) (by rw[←EF.out];exact lf),AZ _ hP.out.2.2 _ _⟩
   have hpl:p<18446744073709551616:=by omega
   clear e1 eqd ep es pl;go_wp2_with fail
   refine(DG.out).mono ?_;rintro e w' ⟨rfl,rfl⟩;go_wp2_with fail
   go_roundw
   case rel=>exact⟨i+1,_,_,_,by omega,by go_num,by go_num,by go_num,S.out⟩
   case measure=>simp[intOf];omega
  obtain rfl:i=n+1:=by omega
  go_wp2_with fail
  go_ret
  exact⟨bb,cc,H,rfl,hP.out⟩
theorem Ry(b N cap j n cap':Nat)(a':Option Addr)(F Y:Nat→Nat)(w:World)(hF:Bo w b cap N F)(dF:Dg F N)(hY:Sl w a' n cap' Y)(dY:Dg Y n)(hj:j+n<N)(hN:N≤1099511627776)
  (hne: ∀b' o',a'=some ⟨b',o',none⟩→b'≠b):
  Calls Tryz.prog 135 #[.slice (some ⟨b,0,none⟩) N cap,.slice a' n cap',.int .i64 (j:Int)] w fun e w'=> ∃(u:Value) (c:Nat) (H:Nat→Nat),e=.returned u∧Bo w' b cap N H∧Bk F Y N n j (n+1) c H∧w.grownBy w' (some b):=by
 have HH:Hid (Bo w b cap N F∧Dg F N∧Sl w a' n cap' Y∧Dg Y n∧ ∀b' o',a'=some ⟨b',o',none⟩→b'≠b):=⟨hF,dF,hY,dY,hne⟩;clear hF dF hY dY hne;go_enter Tryz.func135,Tryz.ntmps135
 go_wp2_with fail
 go_loopw [6,7] (fun c t wr=> ∃(i cc:Nat) (H:Nat→Nat),i≤n+1∧t=.int .i64 (i:Int)∧c=.int .u64 (cc:Int)∧Hid (Bo wr b cap N H∧Bk F Y N n j i cc H∧w.grownBy wr (some b))) (fun _ t _=>n+1- (intOf t).toNat)
 case atStart=>exact⟨0,0,F,by omega,rfl,rfl,⟨HH.out.1,TL F Y N n j HH.out.2.1,World.grownBy.refl _ _⟩⟩
 case round=>
  obtain⟨i,cc,H,hi,rfl,rfl,hP⟩:=hrel;by_cases hin:i≤n
  ·have hle:(i:Int)≤n:=by omega
   have hcd:wr.cell? ⟨b,j+i,none⟩=some (.int .u64 (F (j+i):Nat)):=by
    rw[←hP.out.2.1.out (j+i) (by omega)];exact hP.out.1.cell (by omega)
   have hfd:wr.frozen? ⟨b,j+i,none⟩=false:=hP.out.1.frozen _;have lf:=HH.out.2.1 (j+i) (by omega);have lc:=hP.out.2.1.lc;obtain⟨d,ed⟩:=nme (Am Y n 0 i);have ld:d<4294967296:=by rw[ed];exact Ep HH.out.2.2.2.1 i
   have ED:Hid (d=Am Y n 0 i):=ed;have DG:Hid (∀k,Calls Tryz.prog 102 #[.slice a' n cap',.int .i64 (i:Int)] (wr.drewN k) fun e w'=>e=.returned (.int .u64 (d:Int))∧w'=wr.drewN k):=fun k=>by
    rw[ed];exact Dn _ _ _ Y i _ ((HH.out.2.2.1.apart hP.out.2.2 HH.out.2.2.2.2).mono (Bd (Aa wr) k)) (by omega)
   clear ed;obtain⟨f,ef⟩:=nme (F (j+i));have EF:Hid (f=F (j+i)):=ef;rw[←ef]at hcd lf;clear ef;have m1:IntKind.u64.wrap ((f:Int)+(d:Int))=(f:Int)+(d:Int):=by rw[IntKind.wrap_u64];omega
   obtain⟨s,es⟩:=nme (f+d+cc);have m2:IntKind.u64.wrap ((f:Int)+(d:Int)+(cc:Int))=(s:Int):=by rw[IntKind.wrap_u64];omega
   have hsl:s<18446744073709551616:=by omega
   have S:Hid (∀nq,Bo ((wr.drewN nq).setCell ⟨b,j+i,none⟩ (.int .u64 ((s%4294967296:Nat):Int))) b cap N (put H (j+i) (s%4294967296))∧Bk F Y N n j (i+1) (s/4294967296) (put H (j+i) (s%4294967296))∧w.grownBy ((wr.drewN nq).setCell ⟨b,j+i,none⟩ (.int .u64 ((s%4294967296:Nat):Int))) (some b)):=fun nq=>
    ⟨(hP.out.1.drewN nq).set (j+i) (by omega),hP.out.2.1.step ED.out HH.out.2.2.2.1 (by rw[←EF.out];exact es) (by rw[←EF.out];exact lf),AZ _ (w':=wr.drewN nq) ⟨hP.out.2.2.os,hP.out.2.2.tape,hP.out.2.2.output,hP.out.2.2.size,hP.out.2.2.block⟩ _ _⟩
   clear es;go_wp2_with fail
   go_quiet ((go_at_call 102;exact Calls.quiet_of_same (DG.out _)))
   go_wp2_with fail
   go_roundw
   case rel=>exact⟨i+1,_,_,by omega,by go_num,by go_num,S.out _⟩
   case measure=>simp[intOf];omega
  obtain rfl:i=n+1:=by omega
  go_wp2_with fail
  exact bodyPost_end (v:=.tuple #[]) (by simp[results,Tryz.results135,go_sem]) rfl ⟨_,cc,H,rfl,hP.out⟩
theorem PU(D:Nat→Nat)(n:Nat):(Gu D n).size=n:=by simp[Gu,strOfNums,ByteArray.size]
theorem LP(x k:Nat):(AQ x k).size=k:=PU _ _
theorem Jd{x m:Nat}(h:x<2^m):bitLen x≤m:=by
 rcases Nat.lt_or_ge m (bitLen x)with hh|hh
 ·have h1:=(bitLen_spec x).2 (by intro e;subst e;simp[bitLen]at hh);have h2:(2:Nat)^m≤2^(bitLen x-1):=Nat.pow_le_pow_right (by omega) (by omega);omega
 exact hh
theorem JK{H:Nat→Nat}{Z:Nat}: ∀{n:Nat},(∀j,j<n→H j=Z/B j%4294967296)→U H n=Z%B n
 |0,_=>by rw[Ch,Gb,Nat.mod_one]
 |n+1,h=>by
  rw[AP,JK fun j hj=>h j (by omega),h n (by omega),DK,Nat.mod_mul,Nat.mul_comm (B n)]
theorem Rz{F:Nat→Nat}{n q:Nat}(h:Dg F n)(hq:q≤n):U F n/B q=U (fun j=>F (q+j)) (n-q):=by
 obtain⟨t,rfl⟩: ∃t,n=q+t:=⟨n-q,by omega⟩;rw[Df,Nat.add_mul_div_left _ _ (Jt q),Nat.div_eq_of_lt (DM (h.mono (by omega))),Nat.zero_add,Nat.add_sub_cancel_left]
theorem Wx(F:Nat→Nat)(n:Nat): ∃T,U (Am F n 0) (n+2)=U (Am F n 0) (n+2)∧U F n=Am F n 0 0+4294967296*(Am F n 0 1+4294967296*T):=by
 refine⟨U (fun j=>Am F n 0 (2+j)) n,rfl,?_⟩;rw[←Hl (G:=F) (show n≤1+(1+n) by omega),Df,Df,IE,AP,Ch,AP,Ch,Gb];simp only[Nat.zero_add,Nat.mul_one,Nat.add_zero];have:(fun i=>Am F n 0 (1+(1+i)))=(fun j=>Am F n 0 (2+j)):=by funext i;rw[show 1+(1+i)=2+i by omega]
 rw[this]
theorem Vr{a b T r:Nat}(hr:r<32):(a+4294967296*(b+4294967296*T))/2^r%4294967296=(a+b*4294967296)/2^r%4294967296:=by
 have e:(18446744073709551616:Nat)=2^r*(4294967296*2^(32-r)):=by
  have h1:(18446744073709551616:Nat)=2^64:=by decide
  have h2:(4294967296:Nat)=2^32:=by decide
  rw[h1,h2,←Nat.pow_add,←Nat.pow_add];congr 1
  omega
 have e2:a+4294967296*(b+4294967296*T)=(a+b*4294967296)+2^r*(4294967296*(2^(32-r)*T)):=by
  have:18446744073709551616*T=2^r*(4294967296*2^(32-r))*T:=by rw[←e]
  grind
 rw[e2,Nat.add_mul_div_left _ _ (Nat.pow_pos (by decide)),Nat.add_mul_mod_self_left]
theorem RA{F:Nat→Nat}{n q r j:Nat}(h:Dg F n)(hr:r<32)(hj:q+j<n):
  U F n/2^(32*q+r)/B j%4294967296=(F (q+j)+Am F n 0 (q+j+1)*4294967296)/2^r%4294967296:=by
 rw[Nat.pow_add,←Hi,←Nat.div_div_eq_div_mul,Nat.div_div_eq_div_mul (U F n/B q),Nat.mul_comm (2^r),←Nat.div_div_eq_div_mul (U F n/B q),Nat.div_div_eq_div_mul (U F n),←Mr,Rz h (by omega)];obtain⟨T,_,hT⟩:=Wx (fun i=>F (q+j+i)) (n- (q+j));rw[hT,Vr hr];have e0:Am (fun i=>F (q+j+i)) (n- (q+j)) 0 0=F (q+j):=by rw[BU (by omega)];rfl
 have e1:Am (fun i=>F (q+j+i)) (n- (q+j)) 0 1=Am F n 0 (q+j+1):=by
  by_cases hh:q+j+1<n
  ·rw[BU (by omega),BU (by omega)];show F (q+j+(0+1))=_;congr 1
   omega
  rw[BH (by omega),BH (by omega)]
 rw[e0,e1]
theorem Vs{F H:Nat→Nat}{n q r:Nat}(h:Dg F n)(hr:r<32)(hq:q≤n)(hH: ∀j,j<n-q→H j=(F (q+j)+Am F n 0 (q+j+1)*4294967296)/2^r%4294967296):
  U H (n-q)=U F n/2^(32*q+r):=by
 rw[JK (Z:=U F n/2^(32*q+r)) fun j hj=>(hH j hj).trans (RA h hr (by omega)).symm];refine Nat.mod_eq_of_lt ?_;rw[Nat.pow_add,←Hi,←Nat.div_div_eq_div_mul,Rz h hq];exact Nat.lt_of_le_of_lt (Nat.div_le_self _ _) (DM fun j hj=>h _ (by omega))
structure Le (w0 wr:World) (v:Value) (F:Nat→Nat) (q r i c:Nat) (H:Nat→Nat):Prop where
 own:OR wr 69 w0.heap.size v (q+i) (wd H)
 dg:Dg H (q+i)
 sum:U H (q+i)+c*B (q+i)=U F i*2^r*B q
 car:c<4294967296
 bel:Below w0.heap.size w0 wr
theorem Xl{f c r:Nat}(hf:f<4294967296)(hc:c<4294967296)(hr:r<32):f*2^r+c<18446744073709551616:=by
 have h1:2^r≤2^31:=Nat.pow_le_pow_right (by decide) (by omega);have h2:f*2^r≤4294967295*2147483648:=Nat.mul_le_mul (by omega) h1;omega
theorem Wy{u c b s f t T Bq bi:Nat}(hs:s=f*t+c)(e:u+c*b=T)(hb:b=Bq*bi):u+s%4294967296*b+s/4294967296*(b*4294967296)=T+f*bi*t*Bq:=by
 have h1:=Nat.div_add_mod s 4294967296;have h2:s*b=(4294967296*(s/4294967296)+s%4294967296)*b:=by rw[h1]
 have h3:s*b=(f*t+c)*b:=by rw[hs]
 subst hb;grind
theorem Le.step{w0 wr w2:World}{v v2:Value}{F H:Nat→Nat}{q r i c s:Nat}(h:Le w0 wr v F q r i c H)(hs:s=F i*2^r+c)(hl:s<18446744073709551616)
  (ho:OR w2 69 w0.heap.size v2 (q+i+1) (fun j=>if j=q+i then .int .u64 (((s:Nat):Int)%4294967296) else wd H j)) (hb:Below w0.heap.size w0 w2):
  Le w0 w2 v2 F q r (i+1) (s/4294967296) (put H (q+i) (s%4294967296)):=by
 refine⟨OR.congr ho fun j hj=> ?_,fun j hj=> ?_,?_,by omega,hb⟩
 ·unfold wd put;split
  ·congr 1
  rfl
 ·unfold put;split
  ·exact Nat.mod_lt _ (by decide)
  exact h.dg j (by omega)
 rw[show q+(i+1)=q+i+1 by omega,AP,AN,Cz (F:=put H (q+i) _) (G:=H) fun j hj=>Ar _ _ (by omega),DK,AP];have:=Wy (t:=2^r) hs h.sum (Mr q i);rw[this];grind
theorem Do(v:Value)(x p:Nat)(w:World)(h:Ai w v x)(hx:AG x)(hp:p<1099511627776):
  Calls Tryz.prog 68 #[v,.int .i64 (p:Int)] w (Dm w (x*2^p)):=by
 obtain⟨ax,n,cap,rfl⟩:=h.isAgg;obtain⟨F,hs,hd,h1,hv⟩:=h.open;have hn:n≤4294967296:=CQ (hv.symm▸hx) h1;obtain⟨q,hq⟩:=nme (p/32);have HH:Hid (Sl w ax n cap F∧Dg F n∧U F n=x∧q=p/32):=⟨hs,hd,hv,hq⟩;have q1:(p:Int)/32=(q:Int):=by omega
 have q2:q<34359738368:=by omega
 clear hs hd h1 hv h hx hq;have mk:=Cy (q:Int) (q:Int) q q rfl rfl (Nat.le_refl _) (by omega);go_enter Tryz.func68,Tryz.ntmps68
 go_wp2_with fail
 clear mk;obtain⟨w0,hw0⟩:=nme ((w.alloc (.cells #[.slice ax n cap] 64)).alloc (.cells #[.slice none 0 0] 64));have c1:w0.cell? ⟨w.heap.size,0,none⟩=some (.slice ax n cap):=by rw[hw0];simp[go_sem]
 have c3:w0.cell? ⟨w.heap.size+1,0,none⟩=some (.slice none 0 0):=by rw[hw0];simp[go_sem]
 have f3:w0.frozen? ⟨w.heap.size+1,0,none⟩=false:=by rw[hw0];simp[go_sem]
 have HB:Hid (Below w.heap.size w w0):=by rw[hw0];exact Ao _ _ _
 have S0:w0.heap.size=w.heap.size+1+1:=by rw[hw0];simp
 have R0:Row (w0.alloc (.cells (Cv q) 69)) (w.heap.size+1+1) q (fun _=>0):=Bh _ _ _ S0.symm;rw[←hw0];clear hw0;have L0:Hid (Le w0 (w0.alloc (.cells (Cv q) 69)) (.slice (some ⟨w.heap.size+1+1,0,none⟩) q q) F q (p%32) 0 0 (fun _=>0)):=by
  refine⟨.inr ⟨_,q,_,rfl,by omega,Nat.le_refl _,by simp only[maxLen];omega,R0.1,fun i hi=>rfl⟩,fun j hj=>by show 0<_;omega,?_,by omega,(Below.refl _ _).alloc (Nat.le_refl _) _⟩;rw[Gz fun _ _=>rfl,Ch];omega
 clear R0 S0;have CC:Hid _:=And.intro c1 (And.intro c3 f3);clear c1 c3 f3;go_loopw [5,6,7] (fun l k t wr=> ∃(i c:Nat) (H:Nat→Nat),i≤n∧t=.int .i64 (i:Int)∧k=.int .u64 (c:Int)∧Hid (Le w0 wr l F q (p%32) i c H)) (fun _ _ t _=>n- (intOf t).toNat)
 case atStart=>exact⟨0,0,fun _=>0,by omega,rfl,rfl,L0⟩
 case round=>
  clear L0;obtain⟨i,c,H,hi,rfl,rfl,hP⟩:=hrel;have d1:=cell_later hP.out.bel CC.out.1;have hs7:w0.heap.size≤wr.heap.size:=hP.out.bel.size;by_cases him:i<n
  ·have him':(i:Int)<n:=by omega
   obtain⟨b,o,rfl,hw⟩:=HH.out.1.at i him;have e1:wr.cell? ⟨b,o+i,none⟩=some (.int .u64 (F i:Nat)):=cell_later (Aj HB.out hP.out.bel) (hw i him);have hl:=Xl (HH.out.2.1 i him) hP.out.car (show p%32<32 by omega);obtain⟨s,hs⟩:=nme (F i*2^(p%32)+c);have ES:Hid (s=F i*2^(p%32)+c∧s<18446744073709551616):=⟨hs,hs▸hl⟩;obtain⟨z,hz⟩:=nme (F i*2^(p%32));have r1:IntKind.u64.wrap (((F i:Nat):Int)*2^(p%32))=(z:Int):=by
    have e:((F i:Nat):Int)*2^(p%32)=((F i*2^(p%32):Nat):Int):=by rw[Int.natCast_mul,El]
    rw[e,←hz];exact Dl _ (by omega)
   have r2:IntKind.u64.wrap ((z:Int)+(c:Int))=(s:Int):=by
    rw[←Int.natCast_add,hz,←hs];exact Dl _ (by omega)
   clear hw hs hz hl;have OW:Hid _:=hP.out.own.below (Ah (Aa wr) (o:=.cells #[.int .u64 ((s:Int)%4294967296)] 69));have CE:Hid ((wr.alloc (.cells #[.int .u64 ((s:Int)%4294967296)] 69)).cell? ⟨wr.heap.size,0,none⟩=some (.int .u64 ((s:Int)%4294967296))):=GT wr _ _;have SZ:Hid (w0.heap.size≤(wr.alloc (.cells #[.int .u64 ((s:Int)%4294967296)] 69)).heap.size):=Nat.le_trans hP.out.bel.size (Ah (Aa wr)).size;go_wp2_with (refine(id ?_:wpList Tryz.prog _ _ (⟨some 33,_,_,_,_,_⟩::_) _ _);refine hold ?_)
   intro _;refine A5 rfl (.tmp 29) (.tmp 32) 62 rfl 69 (.int .u64 0) 8 Tryz.underlying62 Tryz.info22b rfl (by omega) w0.heap.size _ (q+i) (wd H) rfl OW.out _ _ rfl _ CE.out rfl (by omega) SZ.out ?_;intro g2 cap2 w2 ho hg2 _ _;have S:Hid _:=hP.out.step ES.out.1 ES.out.2 ho ((hP.out.bel.alloc hs7 _).grown hg2 SZ.out hP.out.own.blk);clear ho hg2 OW;go_wp2_with fail
   have hz3:IntKind.u64.wrap ((s:Int)/4294967296)=((s/4294967296:Nat):Int):=by have:=ES.out.2;rw[IntKind.wrap_u64];omega
   rw[hz3];go_roundw
   case rel=>exact⟨i+1,_,_,by omega,by go_num,rfl,S.out⟩
   case measure=>simp[intOf];omega
  obtain rfl:i=n:=by omega
  have B0:Hid (Below w.heap.size w wr):=Aj HB.out hP.out.bel;have OW:Hid _:=hP.out.own.below (Ah (Aa wr) (o:=.cells #[.int .u64 (c:Int)] 69));have CE:Hid ((wr.alloc (.cells #[.int .u64 (c:Int)] 69)).cell? ⟨wr.heap.size,0,none⟩=some (.int .u64 (c:Int))):=GT wr _ _;have SZ:Hid (w0.heap.size≤(wr.alloc (.cells #[.int .u64 (c:Int)] 69)).heap.size):=Nat.le_trans hP.out.bel.size (Ah (Aa wr)).size;go_wp2_with (refine(id ?_:wpList Tryz.prog _ _ (⟨some 39,_,_,_,_,_⟩::_) _ _);refine hold ?_)
  intro _;refine A5 rfl (.tmp 36) (.tmp 38) 62 rfl 69 (.int .u64 0) 8 Tryz.underlying62 Tryz.info22b rfl (by omega) w0.heap.size _ (q+i) (wd H) rfl OW.out _ _ rfl _ CE.out rfl (by omega) SZ.out ?_;intro g2 cap2 w2 ho hg2 _ _;have hO:OR w2 69 w0.heap.size (.slice (some ⟨g2,0,none⟩) (q+i+1) cap2) (q+i+1) (wd (put H (q+i) c)):=OR.congr ho fun j hj=>by
   unfold wd put;split<;>rfl
  have hdg:Dg (put H (q+i) c) (q+i+1):=fun j hj=>by
   unfold put;split
   ·exact hP.out.car
   exact hP.out.dg j (by omega)
  have hbw:Below w0.heap.size w0 w2:=(hP.out.bel.alloc hs7 _).grown hg2 SZ.out hP.out.own.blk;obtain⟨a,cap1,ea,hsl⟩:=hO.sl (fun t ht=>by have:=hdg t ht;omega);cases ea;have hcr:w2.cell? ⟨w.heap.size+1,0,none⟩=some (.slice none 0 0):=cell_later hbw CC.out.2.1;have hfr:w2.frozen? ⟨w.heap.size+1,0,none⟩=false:=(hbw.frozen (World.block_lt_of_cell? _ _ CC.out.2.1)).trans CC.out.2.2;have EV:Hid (U (put H (q+i) c) (q+i+1)=x*2^p):=by
   show U _ _=x*2^p;have hqp:p=32*q+p%32:=by have:=HH.out.2.2.2;omega
   rw[AP,AN,Cz (F:=put H (q+i) _) (G:=H) fun j hj=>Ar _ _ (by omega),hP.out.sum,HH.out.2.2.1,Hi,Nat.mul_assoc,←Nat.pow_add,Nat.add_comm,←hqp]
  have HS:Hid (Sl w2 (some ⟨g2,0,none⟩) (q+i+1) cap2 (put H (q+i) c)∧Dg (put H (q+i) c) (q+i+1)∧Below w.heap.size w w2):=⟨hsl,hdg,Aj HB.out hbw⟩;clear hsl hdg hbw hO ho hg2 OW CE SZ;go_wp2_with fail
  refine(Eo _ (q+i+1) _ (put H (q+i) c) w2 HS.out.1 HS.out.2.1 (by omega) (fun e=>absurd e (by omega))).mono ?_;rintro e w3 ⟨v3,rfl,hv3,hb3⟩;rw[EV.out]at hv3;have hcr3:w3.cell? ⟨w.heap.size+1,0,none⟩=some (.slice none 0 0):=cell_later hb3 hcr;have hfr3:w3.frozen? ⟨w.heap.size+1,0,none⟩=false:=(hb3.frozen (World.block_lt_of_cell? _ _ hcr)).trans hfr;obtain⟨a3,n3,cap3,rfl⟩:=hv3.isAgg;have HV3:Hid (Ai w3 (.agg #[.slice a3 n3 cap3]) (x*2^p)):=hv3;have B3:Hid (Below w.heap.size w w3):=Aj HS.out.2.2 hb3;clear hv3 hb3 hcr hfr;go_wp2_with fail
  refine bodyPost_ret (v:=.agg #[.slice a3 n3 cap3]) (by simp[results,Tryz.results68,go_sem,hcr3]) rfl ⟨_,rfl,?_,B3.out.setCell (by show _≤_+1;omega) _⟩;exact HV3.out.setCell (Ad hcr3) _
structure Ri (w0 wr:World) (v:Value) (F:Nat→Nat) (n q r j:Nat) (H:Nat→Nat):Prop where
 own:OR wr 69 w0.heap.size v j (wd H)
 dig: ∀t,t<j→H t=(F (q+t)+Am F n 0 (q+t+1)*4294967296)/2^r%4294967296
 bel:Below w0.heap.size w0 wr
theorem Ri.step{w0 wr w2:World}{v v2:Value}{F H:Nat→Nat}{n q r j s:Nat}(h:Ri w0 wr v F n q r j H)(hs:s=F (q+j)+Am F n 0 (q+j+1)*4294967296)
  (ho:OR w2 69 w0.heap.size v2 (j+1) (fun t=>if t=j then .int .u64 (((s:Nat):Int)/2^r%4294967296) else wd H t)) (hb:Below w0.heap.size w0 w2):
  Ri w0 w2 v2 F n q r (j+1) (put H j (s/2^r%4294967296)):=by
 refine⟨OR.congr ho fun t ht=> ?_,fun t ht=> ?_,hb⟩
 ·unfold wd put;split
  ·congr 1
  rfl
 unfold put;split
 ·next e=>rw[e,hs]
 exact h.dig t (by omega)
theorem PV(v:Value)(x p:Nat)(w:World)(h:Ai w v x)(hx:AG x)(hp:p<4611686018427387904):
  Calls Tryz.prog 136 #[v,.int .i64 (p:Int)] w (Dm w (x/2^p)):=by
 obtain⟨ax,n,cap,rfl⟩:=h.isAgg;obtain⟨F,hs,hd,h1,hv⟩:=h.open;have hn:n≤4294967296:=CQ (hv.symm▸hx) h1;obtain⟨q,hq⟩:=nme (p/32);have HH:Hid (Sl w ax n cap F∧Dg F n∧U F n=x∧q=p/32):=⟨hs,hd,hv,hq⟩;have q1:(p:Int)/32=(q:Int):=by omega
 have q2:q<4611686018427387904:=by omega
 clear hs hd h1 hv h hx hq;have HB:Hid (Below w.heap.size w ((w.alloc (.cells #[.slice ax n cap] 64)).alloc (.cells #[.slice none 0 0] 64))):=Ao _ _ _;go_enter Tryz.func136,Tryz.ntmps136
 go_wp2_with fail
 obtain⟨w0,hw0⟩:=nme ((w.alloc (.cells #[.slice ax n cap] 64)).alloc (.cells #[.slice none 0 0] 64));have c1:w0.cell? ⟨w.heap.size,0,none⟩=some (.slice ax n cap):=by rw[hw0];simp[go_sem]
 have c3:w0.cell? ⟨w.heap.size+1,0,none⟩=some (.slice none 0 0):=by rw[hw0];simp[go_sem]
 have f3:w0.frozen? ⟨w.heap.size+1,0,none⟩=false:=by rw[hw0];simp[go_sem]
 rw[←hw0]at HB⊢;clear hw0;have CC:Hid _:=And.intro c1 (And.intro c3 f3);clear c1 c3 f3;go_loopw [5,6] (fun l t wr=> ∃(i j:Nat) (H:Nat→Nat),i=q+j∧(i≤n∨j=0)∧t=.int .i64 (i:Int)∧Hid (Ri w0 wr l F n q (p%32) j H)∧Hid (j=0→l=.slice none 0 0)) (fun _ t _=>n- (intOf t).toNat)
 case atStart=>exact⟨q,0,fun _=>0,by omega,.inr rfl,rfl,⟨OR.nil _ _ _ _,fun i hi=>absurd hi (by omega),Below.refl _ _⟩,fun _=>rfl⟩
 case round=>
  obtain⟨i,j,H,hij,hi,rfl,hP,HZ⟩:=hrel;have HI:Hid (i=q+j∧(i≤n∨j=0)):=⟨hij,hi⟩;have hi9:i<4611686018427387905:=by omega
  have hj9:i<n→j<4294967296:=by omega
  clear hij hi;have d1:=cell_later hP.out.bel CC.out.1;by_cases him:i<n
  ·have him':(i:Int)<n:=by omega
   have hj:=hj9 him;have hf:=HH.out.2.1 i him;have hg:=Ep HH.out.2.1 (i+1);obtain⟨g,eg⟩:=nme (Am F n 0 (i+1));have EG:Hid (g=Am F n 0 (i+1)):=eg;rw[←eg]at hg;clear eg;obtain⟨b,o,rfl,hw⟩:=HH.out.1.at i him;have e1:wr.cell? ⟨b,o+i,none⟩=some (.int .u64 (F i:Nat)):=cell_later (Aj HB.out hP.out.bel) (hw i him);obtain⟨f,ef⟩:=nme (F i);have EF:Hid (f=F i):=ef;rw[←ef]at hf e1;clear ef hw;have r1:IntKind.u64.wrap ((g:Int)*4294967296)=(g:Int)*4294967296:=by rw[IntKind.wrap_u64];omega
   have r2:IntKind.u64.wrap ((f:Int)+(g:Int)*4294967296)=((f+g*4294967296:Nat):Int):=by rw[IntKind.wrap_u64];omega
   have DG:Hid (∀k,Calls Tryz.prog 102 #[.slice (some ⟨b,o,none⟩) n cap,.int .i64 ((i:Int)+1)] (wr.drewN k) fun e w'=>e=.returned (.int .u64 (g:Int))∧w'=wr.drewN k):=fun k=>by
    rw[EG.out];exact Dn _ _ _ F (i+1) _ (HH.out.1.mono (Bd (Aj HB.out hP.out.bel) k)) (by omega)
   go_wp2_with fail
   go_quiet ((go_at_call 102;exact Calls.quiet_of_same (DG.out _)))
   obtain⟨s,hs⟩:=nme (f+g*4294967296);have hsI:(f:Int)+(g:Int)*4294967296=(s:Int):=by omega
   have ES:Hid (s=F (q+j)+Am F n 0 (q+j+1)*4294967296):=by
    show s=_;rw[hs,EF.out,EG.out,HI.out.1]
   rw[hsI];clear hs hsI r1 r2;have OW:Hid _:=hP.out.own.below (Ah (Bd (Aa wr) nq) (o:=.cells #[.int .u64 ((s:Int)/2^(p%32)%4294967296)] 69));have CE:Hid (((wr.drewN nq).alloc (.cells #[.int .u64 ((s:Int)/2^(p%32)%4294967296)] 69)).cell? ⟨wr.heap.size,0,none⟩=some (.int .u64 ((s:Int)/2^(p%32)%4294967296))):=GT (wr.drewN nq) _ _;have SZ:Hid (w0.heap.size≤((wr.drewN nq).alloc (.cells #[.int .u64 ((s:Int)/2^(p%32)%4294967296)] 69)).heap.size):=Nat.le_trans hP.out.bel.size (Ah (Bd (Aa wr) nq)).size;have hs7:w0.heap.size≤wr.heap.size:=hP.out.bel.size;go_wp2_with (refine(id ?_:wpList Tryz.prog _ _ (⟨some 36,_,_,_,_,_⟩::_) _ _);refine hold ?_)
   intro _;refine A5 rfl (.tmp 29) (.tmp 35) 62 rfl 69 (.int .u64 0) 8 Tryz.underlying62 Tryz.info22b rfl (by omega) w0.heap.size _ j (wd H) rfl OW.out _ _ rfl _ CE.out rfl (by omega) SZ.out ?_;intro g2 cap2 w2 ho hg2 _ _;have S:Hid _:=hP.out.step ES.out ho (((Bd hP.out.bel nq).alloc hs7 _).grown hg2 SZ.out hP.out.own.blk);clear ho hg2 OW;go_wp2_with fail
   go_roundw
   case rel=>exact⟨i+1,j+1,_,by have:=HI.out.1;omega,.inl (by omega),by go_num,S.out,fun e=>absurd e (by omega)⟩
   case measure=>simp[intOf];omega
  have B0:Hid (Below w.heap.size w wr):=Aj HB.out hP.out.bel;have hdg:Dg H j:=fun t ht=>by rw[hP.out.dig t ht];exact Nat.mod_lt _ (by decide)
  obtain⟨a,cap1,rfl,hsl⟩:=hP.out.own.sl (fun t ht=>by have:=hdg t ht;omega);have hcr:wr.cell? ⟨w.heap.size+1,0,none⟩=some (.slice none 0 0):=cell_later hP.out.bel CC.out.2.1;have hfr:wr.frozen? ⟨w.heap.size+1,0,none⟩=false:=(hP.out.bel.frozen (World.block_lt_of_cell? _ _ CC.out.2.1)).trans CC.out.2.2;have H0:Hid (j=0→a=none∧cap1=0):=fun e=>by
   have:=HZ.out e;cases this;exact⟨rfl,rfl⟩
  have HS:Hid (Sl wr a j cap1 H∧Dg H j):=⟨hsl,hdg⟩;have EV:Hid (U H j=x/2^p):=by
   show U H j=x/2^p;have hqp:p=32*q+p%32:=by have:=HH.out.2.2.2;omega
   rcases Nat.lt_or_ge n q with hnq|hnq
   ·have hj0:j=0:=by have:=HI.out;omega
    rw[hj0,Ch,←HH.out.2.2.1,Nat.div_eq_of_lt];refine Nat.lt_of_lt_of_le (DM HH.out.2.1) ?_;rw[Hi];exact Nat.pow_le_pow_right (by decide) (by omega)
   have hjn:j=n-q:=by have:=HI.out;omega
   rw[←HH.out.2.2.1,hqp,hjn];exact Vs HH.out.2.1 (by omega) hnq fun t ht=>hP.out.dig t (by omega)
  have hj8:j≤1099511627776:=by have:=HI.out;omega
  clear hsl hdg;go_wp2_with fail
  refine(Eo _ j _ H wr HS.out.1 HS.out.2 hj8 H0.out).mono ?_;rintro e w3 ⟨v3,rfl,hv3,hb3⟩;rw[EV.out]at hv3;have hcr3:w3.cell? ⟨w.heap.size+1,0,none⟩=some (.slice none 0 0):=cell_later hb3 hcr;have hfr3:w3.frozen? ⟨w.heap.size+1,0,none⟩=false:=(hb3.frozen (World.block_lt_of_cell? _ _ hcr)).trans hfr;obtain⟨a3,n3,cap3,rfl⟩:=hv3.isAgg;have HV3:Hid (Ai w3 (.agg #[.slice a3 n3 cap3]) (x/2^p)):=hv3;have B3:Hid (Below w.heap.size w w3):=Aj B0.out hb3;clear hv3 hb3 hcr hfr;go_wp2_with fail
  refine bodyPost_ret (v:=.agg #[.slice a3 n3 cap3]) (by simp[results,Tryz.results136,go_sem,hcr3]) rfl ⟨_,rfl,?_,B3.out.setCell (by show _≤_+1;omega) _⟩;exact HV3.out.setCell (Ad hcr3) _
theorem OO{F G:Nat→Nat}{mx i:Nat}(hi:i<mx)(hF:Dg F mx)(he: ∀j,i+1≤j→F j=G j)(h:F i<G i):U F mx<U G mx:=by
 obtain⟨t,rfl⟩: ∃t,mx=i+1+t:=⟨mx- (i+1),by omega⟩;rw[Df,Df G,Cz (F:=fun j=>F (i+1+j)) (G:=fun j=>G (i+1+j)) fun j hj=>he _ (by omega),AP,AP];have h1:=DM (hF.mono (show i≤i+1+t by omega));have h2:(F i+1)*B i≤G i*B i:=Nat.mul_le_mul_right _ h;rw[Nat.add_mul]at h2;omega
theorem FI(v u:Value)(x y:Nat)(w:World)(h:Ai w v x)(k:Ai w u y)(hx:AG x)(hy:AG y):
  Calls Tryz.prog 69 #[v,u] w fun e w'=>e=.returned (.int .i64 (AW x y))∧Below w.heap.size w w':=by
 obtain⟨ax,n,cap,rfl⟩:=h.isAgg;obtain⟨ay,m,cap',rfl⟩:=k.isAgg;obtain⟨F,hs,hd,h1,hv⟩:=h.open;obtain⟨G,ks,kd,k1,kv⟩:=k.open;have hn:n≤4294967296:=CQ (hv.symm▸hx) h1;have hm:m≤4294967296:=CQ (kv.symm▸hy) k1;obtain⟨mx,hmx⟩:=nme (max n m:Nat);have hm1:n≤mx:=by omega
 have hm2:m≤mx:=by omega
 have hm3:mx≤4294967296:=by omega
 have e1:(if n<m then(m:Int) else(n:Int))=(mx:Int):=by split<;>omega
 clear hmx;have HH:Hid (Sl w ax n cap F∧Dg F n∧U (Am F n 0) mx=x∧Sl w ay m cap' G∧Dg G m∧U (Am G m 0) mx=y):=⟨hs,hd,(Hl hm1).trans hv,ks,kd,(Hl hm2).trans kv⟩;clear hs hd h1 hv ks kd k1 kv h k hx hy;go_enter Tryz.func69,Tryz.ntmps69
 go_wp2_with fail
 obtain⟨w0,hw0⟩:=nme ((w.alloc (.cells #[.slice ax n cap] 64)).alloc (.cells #[.slice ay m cap'] 64));have c1:w0.cell? ⟨w.heap.size,0,none⟩=some (.slice ax n cap):=by rw[hw0];simp[go_sem]
 have c2:w0.cell? ⟨w.heap.size+1,0,none⟩=some (.slice ay m cap'):=by rw[hw0];simp[go_sem]
 have HB:Hid (Below w.heap.size w w0):=by rw[hw0];exact Ao _ _ _
 rw[←hw0];clear hw0;go_loop [5] (fun t=> ∃i:Nat,i≤mx∧t=.int .i64 ((i:Int)-1)∧Hid (∀j,i≤j→Am F n 0 j=Am G m 0 j)) (fun t=>(intOf t+1).toNat)
 case atStart=>exact⟨mx,Nat.le_refl _,rfl,fun j hj=>by rw[BH (by omega),BH (by omega)]⟩
 case round=>
  obtain⟨i,hi,rfl,hE⟩:=hrel;by_cases h0:0<i
  ·obtain⟨k,rfl⟩: ∃k,i=k+1:=⟨i-1,by omega⟩;have hidx:((k+1:Nat):Int)-1=(k:Int):=by omega
   have dF:Hid (Dg (Am F n 0) mx):=fun j _=>Ep HH.out.2.1 j;have dG:Hid (Dg (Am G m 0) mx):=fun j _=>Ep HH.out.2.2.2.2.1 j;obtain⟨f,ef⟩:=nme (Am F n 0 k);obtain⟨g,eg⟩:=nme (Am G m 0 k);have EF:Hid (f=Am F n 0 k∧g=Am G m 0 k):=⟨ef,eg⟩;have DF:=Dn _ _ _ F k _ (HH.out.1.mono HB.out) (by omega);have DG:=Dn _ _ _ G k _ (HH.out.2.2.2.1.mono HB.out) (by omega);rw[←ef]at DF;rw[←eg]at DG;have D2:Hid _:=And.intro DF DG;clear ef eg DF DG;rw[hidx];go_wp2_with fail
   refine D2.out.1.mono ?_;rintro e w2 ⟨rfl,rfl⟩;go_wp2_with fail
   refine D2.out.2.mono ?_;rintro e w2 ⟨rfl,rfl⟩;rcases Nat.lt_trichotomy f g with hh|hh|hh
   ·have t1:decide (f<g)=true:=decide_eq_true hh;have EX:Hid (x<y):=by
     show x<y;rw[←HH.out.2.2.1,←HH.out.2.2.2.2.2];exact OO (by omega) dF.out hE.out (EF.out.1▸EF.out.2▸hh)
    go_wp2_with fail
    go_ret
    exact⟨by rw[Ew EX.out];rfl,HB.out⟩
   ·have t1:decide (f<g)=false:=decide_eq_false (by omega);have t2:decide (g<f)=false:=decide_eq_false (by omega);have EQ:Hid (f=g):=hh;clear hh;go_wp2_with fail
    go_round
    case rel=>
     refine⟨k,by omega,by go_num,fun j hj=> ?_⟩;by_cases e:j=k
     ·subst e;rw[←EF.out.1,←EF.out.2,EQ.out]
     exact hE.out j (by omega)
    case measure=>simp[intOf]
   have t1:decide (f<g)=false:=decide_eq_false (by omega);have t2:decide (g<f)=true:=decide_eq_true hh;have EX:Hid (y<x):=by
    show y<x;rw[←HH.out.2.2.1,←HH.out.2.2.2.2.2];exact OO (by omega) dG.out (fun j hj=>(hE.out j hj).symm) (EF.out.1▸EF.out.2▸hh)
   go_wp2_with fail
   go_ret
   exact⟨by rw[ER EX.out];rfl,HB.out⟩
  obtain rfl:i=0:=by omega
  have EX:Hid (x=y):=by
   show x=y;rw[←HH.out.2.2.1,←HH.out.2.2.2.2.2];exact Cz fun j _=>hE.out j (Nat.zero_le _)
  go_wp2_with fail
  go_ret
  exact⟨by rw[EX.out,H7];rfl,HB.out⟩
def bd(D:Nat→Nat):Nat→Value:=fun j=>.int .u8 ((D j:Nat):Int)
def lenOf(v:Value):Nat:=match v with
 | .slice _ k _=>k
 |_=>0
theorem XE{w:World}{base n:Nat}{v:Value}{D:Nat→Nat}(h:OR w 5 base v n (bd D))(hn:n≠0): ∃g c,v=.slice (some ⟨g,0,none⟩) n c∧(convert 172 9 (.slice (some ⟨g,0,none⟩) n c)).run Tryz.prog w=.ok (.string (Gu D n)) w:=by
 rcases h with⟨_,e⟩| ⟨g,cap,f,rfl,_,hc,_,hr,hf⟩
 ·exact absurd e hn
 refine⟨g,cap,rfl,?_⟩;refine run_convert_bytes_arg (P:=Tryz.prog) w 172 5 (by kernel_rfl) (by kernel_rfl) g 0 n cap _ (by simp) (fun i hi=> ?_) 9 (by kernel_rfl);rw[Nat.zero_add,hr.cell (show i<cap by omega),hf i hi];simp[List.getD,hi,bd]
theorem OR.at{w:World}{e:TypeId}{base n:Nat}{v:Value}{G:Nat→Value}(h:OR w e base v n G)(hn:n≠0): ∃g c,v=.slice (some ⟨g,0,none⟩) n c∧ ∀i,i<n→w.cell? ⟨g,i,none⟩=some (G i):=by
 rcases h with⟨_,e⟩| ⟨g,cap,f,rfl,_,hc,_,hr,hf⟩
 ·exact absurd e hn
 exact⟨g,cap,rfl,fun i hi=>by rw[hr.cell (show i<cap by omega),hf i hi]⟩
structure AM (x:Nat):Prop where
 lt:x<B 1000000
theorem AM.fits{x:Nat}(h:AM x):AG x:=FG h.lt (by omega)
theorem AM.len{F:Nat→Nat}{n:Nat}(h:AM (U F n))(h1:0<n→F (n-1)≠0):n≤1000000:=GS h.lt h1
theorem Xm{y k s nv:Nat}{Y F:Nat→Nat}(dF:Dg F (k+1))(hF0:F k≠0)(hy:U F (k+1)=y)(hs:s=32*(k+1)-bitLen y)(dY:Dg Y nv)(h1:0<nv→Y (nv-1)≠0)(hv:U Y nv=y*2^s):
  s<32∧nv=k+1∧2147483648≤Y k∧bitLen y≤32*(k+1):=by
 have hb:=MU dF hF0;rw[hy]at hb;have hy0:y≠0:=fun e=>by
  have h3:=TD F (k+1) (by omega);rw[hy,e,Nat.add_sub_cancel]at h3;have h4:1*1≤F k*B k:=Nat.mul_le_mul (by omega) (Jt k);omega
 obtain⟨p1,p2⟩:=bitLen_spec y;have p3:=p2 hy0;have hbk:0<bitLen (F k):=by
  rcases Nat.eq_zero_or_pos (bitLen (F k))with e|e
  ·have:=(bitLen_spec (F k)).1;rw[e,Nat.pow_zero]at this;omega
  exact e
 have hbl:bitLen (F k)≤32:=by
  rcases Nat.lt_or_ge 32 (bitLen (F k))with e|e
  ·have h5:=(bitLen_spec (F k)).2 hF0;have h6:2^32≤2^(bitLen (F k)-1):=Nat.pow_le_pow_right (by decide) (by omega);have h7:=dF k (by omega);omega
  exact e
 have q1:y*2^s<B (k+1):=by
  rw[Hi];have:=Nat.mul_lt_mul_of_pos_right p1 (Nat.two_pow_pos s);rw[←Nat.pow_add,show bitLen y+s=32*(k+1) by omega]at this;exact this
 have q2:2147483648*B k≤y*2^s:=by
  have:=Nat.mul_le_mul_right (2^s) p3;rw[←Nat.pow_add,show bitLen y-1+s=32*k+31 by omega,Nat.pow_add,←Hi,Nat.mul_comm]at this;exact this
 have n1:nv≤k+1:=GS (by rw[hv];exact q1) h1;have n2:k<nv:=by
  rcases Nat.lt_or_ge k nv with e|e
  ·exact e
  have h5:=DM dY;have h6:=Hs e;have h7:1*B k≤2147483648*B k:=Nat.mul_le_mul_right _ (by omega);omega
 obtain rfl:nv=k+1:=by omega
 refine⟨by omega,rfl,?_,by omega⟩;rcases Nat.lt_or_ge (Y k) 2147483648 with e|e
 ·exfalso;rw[AP]at hv;have h5:=DM (dY.mono (Nat.le_succ k));have h6:(Y k+1)*B k≤2147483648*B k:=Nat.mul_le_mul_right _ e;rw[Nat.add_mul]at h6;omega
 exact e
def RQR(w:World)(q r:Nat)(e:Ending)(w':World):Prop:= ∃v u,e=.returned (.tuple #[v,u])∧Ai w' v q∧Ai w' u r∧Below w.heap.size w w'
theorem RB(a:Option Addr)(n c:Nat)(w:World):(Instr.field 64 (.agg #[.slice a n c]) 0).run Tryz.prog w=.ok (.slice a n c) w:=by kernel_rfl
structure DS (w wr:World) (ax:Option Addr) (lx cap:Nat) (ay:Option Addr) (n cap':Nat):Prop where
 cx:wr.cell? ⟨w.heap.size,0,none⟩=some (.slice ax lx cap)
 cy:wr.cell? ⟨w.heap.size+1,0,none⟩=some (.slice ay n cap')
 c3:wr.cell? ⟨w.heap.size+1+1,0,none⟩=some (.slice none 0 0)
 c4:wr.cell? ⟨w.heap.size+1+1+1,0,none⟩=some (.slice none 0 0)
 f3:wr.frozen? ⟨w.heap.size+1+1,0,none⟩=false
 f4:wr.frozen? ⟨w.heap.size+1+1+1,0,none⟩=false
 bel:Below w.heap.size w wr
theorem DS.go{w wr w':World}{ax:Option Addr}{lx cap:Nat}{ay:Option Addr}{n cap':Nat}(h:DS w wr ax lx cap ay n cap')(hb:Below wr.heap.size wr w'):DS w w' ax lx cap ay n cap':=
 ⟨cell_later hb h.cx,cell_later hb h.cy,cell_later hb h.c3,cell_later hb h.c4,(hb.frozen (World.block_lt_of_cell? _ _ h.c3)).trans h.f3,(hb.frozen (World.block_lt_of_cell? _ _ h.c4)).trans h.f4,Aj h.bel hb⟩
theorem DS.lt{w wr:World}{ax:Option Addr}{lx cap:Nat}{ay:Option Addr}{n cap':Nat}(h:DS w wr ax lx cap ay n cap'):w.heap.size+4≤wr.heap.size:=by
 have:w.heap.size+1+1+1<wr.heap.size:=World.block_lt_of_cell? _ _ h.c4;omega
theorem DS.grown{w wr w':World}{ax:Option Addr}{lx cap:Nat}{ay:Option Addr}{n cap':Nat}{row:Option Nat}(h:DS w wr ax lx cap ay n cap')(hg:wr.grownBy w' row)(hr: ∀g,row=some g→w.heap.size+4≤g):DS w w' ax lx cap ay n cap':=by
 have ne: ∀i,i<w.heap.size+4→some i≠row:=fun i hi e=>by
  have:=hr i e.symm;omega
 exact⟨hg.cell h.cx (ne _ (by show w.heap.size<_;omega)),hg.cell h.cy (ne _ (by show w.heap.size+1<_;omega)),hg.cell h.c3 (ne _ (by show w.heap.size+1+1<_;omega)),hg.cell h.c4 (ne _ (by show w.heap.size+1+1+1<_;omega)),(World.frozen?_of_block (hg.block _ (World.block_lt_of_cell? _ _ h.c3) (ne _ (by show w.heap.size+1+1<_;omega)))).trans h.f3,(World.frozen?_of_block (hg.block _ (World.block_lt_of_cell? _ _ h.c4) (ne _ (by show w.heap.size+1+1+1<_;omega)))).trans h.f4,h.bel.grown hg h.bel.size (fun g e=>by have:=hr g e;omega)⟩
theorem DS.put2{w w3:World}{ax:Option Addr}{lx cap:Nat}{ay:Option Addr}{n cap':Nat}(h:DS w w3 ax lx cap ay n cap'){a1 a2:Option Addr}{n1 c1 n2 c2 q r:Nat}(h1:Ai w3 (.agg #[.slice a1 n1 c1]) q)(h2:Ai w3 (.agg #[.slice a2 n2 c2]) r):
  Ai ((w3.setCell ⟨w.heap.size+1+1,0,none⟩ (.slice a1 n1 c1)).setCell ⟨w.heap.size+1+1+1,0,none⟩ (.slice a2 n2 c2)) (.agg #[.slice a1 n1 c1]) q∧Ai ((w3.setCell ⟨w.heap.size+1+1,0,none⟩ (.slice a1 n1 c1)).setCell ⟨w.heap.size+1+1+1,0,none⟩ (.slice a2 n2 c2)) (.agg #[.slice a2 n2 c2]) r∧Below w.heap.size w ((w3.setCell ⟨w.heap.size+1+1,0,none⟩ (.slice a1 n1 c1)).setCell ⟨w.heap.size+1+1+1,0,none⟩ (.slice a2 n2 c2)):=by
 have n3:=Ad h.c3;have k4:(w3.setCell ⟨w.heap.size+1+1,0,none⟩ (.slice a1 n1 c1)).cell? ⟨w.heap.size+1+1+1,0,none⟩=some (.slice none 0 0):=(World.cell?_setCell_far _ _ _ _ (by show w.heap.size+1+1≠w.heap.size+1+1+1;omega)).trans h.c4;have n4:=Ad k4;exact⟨(h1.setCell n3 _).setCell n4 _,(h2.setCell n3 _).setCell n4 _,(h.bel.setCell (by show _≤_+1+1;omega) _).setCell (by show _≤_+1+1+1;omega) _⟩
theorem J2(w:World)(ax:Option Addr)(lx cap:Nat)(ay:Option Addr)(n cap':Nat)(t:TypeId):DS w ((((w.alloc (.cells #[.slice ax lx cap] t)).alloc (.cells #[.slice ay n cap'] t)).alloc (.cells #[.slice none 0 0] t)).alloc (.cells #[.slice none 0 0] t)) ax lx cap ay n cap':=
 ⟨by simp[go_sem],by simp[go_sem],by simp[go_sem],by simp[go_sem],by simp[go_sem],by simp[go_sem],Ah (Ah (Ah (Ah (Aa w))))⟩
structure DI (w wr:World) (C:Option Addr×Nat×Nat×Option Addr×Nat) (k g c t gq M b3 o3 cap3:Nat) (Y:Nat→Nat) (X jj:Nat) (F Q:Nat→Nat):Prop where
 u:Bo wr g c t F
 q:Bo wr gq M M Q
 dv:RvD X (U Y (k+2)) t (k+2) jj F Q
 v:Sl wr (some ⟨b3,o3,none⟩) (k+2) cap3 Y
 ds:DS w wr C.1 C.2.1 C.2.2.1 C.2.2.2.1 (k+2) C.2.2.2.2
 dY:Dg Y (k+2)
 top:2147483648≤Y (k+1)
 ht:t=M+(k+2)
 n1:g≠gq
 n2:b3≠g
 n3:b3≠gq
 n4:w.heap.size+4≤g
 n5:w.heap.size+4≤gq
theorem DI.sep{w wr:World}{C:Option Addr×Nat×Nat×Option Addr×Nat}{k g c t gq M b3 o3 cap3:Nat}{Y:Nat→Nat}{X jj:Nat}{F Q:Nat→Nat}(h:DI w wr C k g c t gq M b3 o3 cap3 Y X jj F Q): ∀b' o',some (⟨b3,o3,none⟩:Addr)=some ⟨b',o',none⟩→b'≠g:=fun b' o' e=>by cases e;exact h.n2
structure DL (w w8:World) (C:Option Addr×Nat×Nat×Option Addr×Nat) (k g c t gq M b3 o3 cap3:Nat) (Y:Nat→Nat) (X j:Nat) (F Q:Nat→Nat) (G bo:Nat) (H:Nat→Nat):Prop where
 di: ∃wr,DI w wr C k g c t gq M b3 o3 cap3 Y X (j+1) F Q
 u:Bo w8 g c t H
 q:Bo w8 gq M M Q
 v:Sl w8 (some ⟨b3,o3,none⟩) (k+2) cap3 Y
 ds:DS w w8 C.1 C.2.1 C.2.2.1 C.2.2.2.1 (k+2) C.2.2.2.2
 near:TR (U (fro F j) (k+3)/U Y (k+2)) G
 ls: ∃cc,Ls F Y t (k+2) j G (k+3) cc bo H
 hj:j+k+2<t
theorem DI.less{w wr w8:World}{C:Option Addr×Nat×Nat×Option Addr×Nat}{k g c t gq M b3 o3 cap3:Nat}{Y:Nat→Nat}{X j:Nat}{F Q H:Nat→Nat}{G bo cc nd:Nat}(h:DI w wr C k g c t gq M b3 o3 cap3 Y X (j+1) F Q)(hj:j+k+2<t)(hG:TR (U (fro F j) (k+3)/U Y (k+2)) G)(hH:Bo w8 g c t H)(hL:Ls F Y t (k+2) j G (k+2+1) cc bo H)(hg:(wr.drewN nd).grownBy w8 (some g)):
  DL w w8 C k g c t gq M b3 o3 cap3 Y X j F Q G bo H:=
 ⟨⟨wr,h⟩,hH,(h.q.drewN nd).apart hg (Ne.symm h.n1),(h.v.mono (Bd (Aa wr) nd)).apart hg h.sep,(h.ds.go (Bd (Aa wr) nd)).grown hg (fun g' e=>by cases e;exact h.n4),hG,⟨cc,hL⟩,hj⟩
theorem DL.nums{w w8:World}{C:Option Addr×Nat×Nat×Option Addr×Nat}{k g c t gq M b3 o3 cap3:Nat}{Y:Nat→Nat}{X j:Nat}{F Q H:Nat→Nat}{G bo:Nat}(h:DL w w8 C k g c t gq M b3 o3 cap3 Y X j F Q G bo H):
  U (fro H j) (k+3)+U Y (k+2)*G=U (fro F j) (k+3)+bo*B (k+3)∧U (fro H j) (k+3)<B (k+3)∧U (fro F j) (k+3)<U Y (k+2)*B (k+3)∧U Y (k+2)<B (k+2)∧U Y (k+2)≤B (k+3)∧0<U Y (k+2)∧bo≤1:=by
 obtain⟨wr,hI⟩:=h.di;obtain⟨cc,hL⟩:=h.ls;have hj:=h.hj;have h1:=hI.dv.small (show j<t by omega);have h2:U Y (k+2)<B (k+2):=DM hI.dY;refine⟨hL.done,DM fun i hi=>hL.dg _ (by omega),Nat.lt_of_lt_of_le h1 (Nat.mul_le_mul_left _ (by rw[←IE];exact Hs (by omega))),h2,Nat.le_trans (Nat.le_of_lt h2) (Hs (by omega)),Nat.lt_of_le_of_lt (Nat.zero_le _) hI.dv.lt,hL.lb⟩
theorem DI.put{w w9 wr:World}{C:Option Addr×Nat×Nat×Option Addr×Nat}{k g c t gq M b3 o3 cap3:Nat}{Y:Nat→Nat}{X jj j d:Nat}{Q F0 Q0 H:Nat→Nat}(h:DI w wr C k g c t gq M b3 o3 cap3 Y X jj F0 Q0)(h1:Bo w9 g c t H)(h2:Bo w9 gq M M Q)(h3:Sl w9 (some ⟨b3,o3,none⟩) (k+2) cap3 Y)(h4:DS w w9 C.1 C.2.1 C.2.2.1 C.2.2.2.1 (k+2) C.2.2.2.2)(hd:d<18446744073709551616)(hdv:RvD X (U Y (k+2)) t (k+2) j H (put Q j d)):
  DI w (w9.setCell ⟨gq,j,none⟩ (.int .u64 (d:Int))) C k g c t gq M b3 o3 cap3 Y X j H (put Q j d):=by
 have hg:w9.grownBy (w9.setCell ⟨gq,j,none⟩ (.int .u64 (d:Int))) (some gq):=AZ w9 (World.grownBy.refl w9 _) j _;exact⟨h1.apart hg h.n1,h2.set j hd,hdv,h3.apart hg (fun b' o' e=>by cases e;exact h.n3),h4.grown hg (fun g' e=>by cases e;exact h.n5),h.dY,h.top,h.ht,h.n1,h.n2,h.n3,h.n4,h.n5⟩
theorem DL.keep{w w8:World}{C:Option Addr×Nat×Nat×Option Addr×Nat}{k g c t gq M b3 o3 cap3:Nat}{Y:Nat→Nat}{X j:Nat}{F Q H:Nat→Nat}{G bo:Nat}(h:DL w w8 C k g c t gq M b3 o3 cap3 Y X j F Q G bo H)(hb:bo=0):
  DI w (w8.setCell ⟨gq,j,none⟩ (.int .u64 (G:Int))) C k g c t gq M b3 o3 cap3 Y X j H (put Q j G):=by
 obtain⟨n1,n2,n3,n4,n5,n6,n7⟩:=h.nums;obtain⟨wr,hI⟩:=h.di;obtain⟨cc,hL⟩:=h.ls;have hj:=h.hj;have n0:U (fro H j) (k+3)+U Y (k+2)*G=U (fro F j) (k+3):=by
  rw[hb]at n1;omega
 obtain⟨q1,q2⟩:=TP n0 n2 n5 n6 h.near.ge;have hl:=h.near.lt;clear n1;exact hI.put h.u h.q h.v h.ds (Nat.lt_trans hl (by decide)) (hI.dv.step (show j+(k+2)<t by omega) q1 q2 n4 (fun t' ht'=>hL.out t' ht') hL.dg h.near.lt)
theorem DL.pos{w w8:World}{C:Option Addr×Nat×Nat×Option Addr×Nat}{k g c t gq M b3 o3 cap3:Nat}{Y:Nat→Nat}{X j:Nat}{F Q H:Nat→Nat}{G:Nat}(h:DL w w8 C k g c t gq M b3 o3 cap3 Y X j F Q G 1 H):0<G:=by
 obtain⟨n1,n2,n3,n4,n5,n6,n7⟩:=h.nums;rcases Nat.eq_zero_or_pos G with e|e
 ·exfalso;rw[e,Nat.mul_zero]at n1;omega
 exact e
theorem DL.back{w w8 w9:World}{C:Option Addr×Nat×Nat×Option Addr×Nat}{k g c t gq M b3 o3 cap3:Nat}{Y:Nat→Nat}{X j:Nat}{F Q H H2:Nat→Nat}{G d c2:Nat}(h:DL w w8 C k g c t gq M b3 o3 cap3 Y X j F Q G 1 H)(hd:G=d+1)(hH2:Bo w9 g c t H2)(hB:Bk H Y t (k+2) j (k+2+1) c2 H2)(hg:w8.grownBy w9 (some g)):
  DI w (w9.setCell ⟨gq,j,none⟩ (.int .u64 (d:Int))) C k g c t gq M b3 o3 cap3 Y X j H2 (put Q j d)∧Bo w9 gq M M Q:=by
 obtain⟨n1,n2,n3,n4,n5,n6,n7⟩:=h.nums;obtain⟨wr,hI⟩:=h.di;obtain⟨cc,hL⟩:=h.ls;have hj:=h.hj;have hl:=h.near.lt;have hH2l:U (fro H2 j) (k+3)<B (k+3):=DM fun i hi=>hB.dg _ (by omega);obtain⟨q1,q2,q3⟩:=Vq (p:=B (k+3)) (by rw[Nat.one_mul]at n1;exact n1) n2 hH2l n5 n6 h.near.le hB.done hB.lc n3;have hq9:=h.q.apart hg (Ne.symm hI.n1);refine⟨hI.put hH2 hq9 (h.v.apart hg hI.sep) (h.ds.grown hg (fun g' e=>by cases e;exact hI.n4)) (by omega) (hI.dv.step (show j+(k+2)<t by omega) (by rw[←q2,hd];rfl) q3 n4 (fun t' ht'=>by rw[hB.out t' ht',hL.out t' ht']) hB.dg (by omega)),hq9⟩
theorem DI.fin{w wr:World}{C:Option Addr×Nat×Nat×Option Addr×Nat}{k g c t gq M b3 o3 cap3:Nat}{Y:Nat→Nat}{x y s:Nat}{F Q:Nat→Nat}(h:DI w wr C k g c t gq M b3 o3 cap3 Y (x*2^s) 0 F Q)(hY:U Y (k+2)=y*2^s)(hk:k≤1000000):U Q M=x/y∧U F t/2^s=x%y∧AG (U F t)∧Dg Q M∧Dg F t:=by
 have ht:=h.ht;have hM:t- (k+2)=M:=by omega
 obtain⟨z1,z2⟩:=h.dv.done (by omega);have dQ:=h.dv.dQ;have hl:=h.dv.lt;rw[hM]at z1 dQ;have hb:U Y (k+2)<B (k+2):=DM h.dY;obtain⟨y1,y2⟩:=TQ x y s;refine⟨by rw[z1,hY,y1],by rw[z2,hY,y2],FG (n:=k+2) (by rw[z2];exact Nat.lt_trans (Nat.mod_lt _ (by omega)) hb) (by omega),dQ,h.dv.dF⟩
theorem RC(v u:Value)(x y:Nat)(w:World)(h:Ai w v x)(k:Ai w u y)(hx:AG x)(hy:AG y)(hlt:x<y):
  Calls Tryz.prog 101 #[v,u] w (RQR w 0 x):=by
 obtain⟨ax,n,cap,rfl⟩:=h.isAgg;obtain⟨ay,m,cap',rfl⟩:=k.isAgg;have HH:Hid (Ai w (.agg #[.slice ax n cap]) x∧Ai w (.agg #[.slice ay m cap']) y∧AG x∧AG y):=⟨h,k,hx,hy⟩;have D0:Hid _:=J2 w ax n cap ay m cap' 64;clear h k hx hy;go_enter Tryz.func101,Tryz.ntmps101
 go_wp2_with fail
 refine(FI _ _ x y _ (HH.out.1.mono D0.out.bel) (HH.out.2.1.mono D0.out.bel) HH.out.2.2.1 HH.out.2.2.2).mono ?_;rintro e w1 ⟨rfl,hb1⟩;rw[Ew hlt];have D1:Hid (DS w w1 ax n cap ay m cap'):=D0.out.go hb1;have d1:=D1.out.cx;have d3:=D1.out.c3;have d4:=D1.out.c4;have e3:=D1.out.f3;have e4:=D1.out.f4;clear hb1 D0;go_wp2_with fail
 go_region
 go_wp2_with fail
 have n3:=Ad d3;have n4: ∀k q,(w1.setCell ⟨w.heap.size+1+1,0,none⟩ (.slice none 0 0)).cell? ⟨w.heap.size+1+1+1,0,none⟩≠some (.int k q):=by
  rw[World.cell?_setCell_far _ _ _ _ (by show w.heap.size+1+1≠w.heap.size+1+1+1;omega),d4];intro k q e;cases e
 refine bodyPost_ret (v:=.tuple #[.agg #[.slice none 0 0],.agg #[.slice ax n cap]]) (by simp[results,Tryz.results101,go_sem,d3,d4]) rfl ⟨_,_,rfl,Gc _,?_,?_⟩
 ·exact(((HH.out.1.mono D1.out.bel).setCell n3 _).setCell n4 _).mono (AV (Aa _))
 exact AV ((D1.out.bel.setCell (by show _≤_+1+1;omega) _).setCell (by show _≤_+1+1+1;omega) _)
end Go.Proofs.YtbikpmmpgbggaaaGreatDoor
