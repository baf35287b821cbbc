/- Contracts of the program's functions, part 11: own work, joined in build order. -/
import Derived.Test.YtbikpmmpgbggaaaGreatDoorJ10
import Derived.Deep.LoopGhost
namespace Go.Proofs.YtbikpmmpgbggaaaGreatDoor
open Go.RowKit
set_option maxRecDepth 100000
set_option linter.unusedVariables false
set_option maxHeartbeats 16000000
theorem RD(ax:Option Addr)(lx cap:Nat)(ay:Option Addr)(k cap':Nat)(x y:Nat)(w:World)(h:Ai w (.agg #[.slice ax lx cap]) x)(kk:Ai w (.agg #[.slice ay (k+2) cap']) y)(hx:AM x)(hy:AM y)(hle:y≤x):
  Calls Tryz.prog 101 #[.agg #[.slice ax lx cap],.agg #[.slice ay (k+2) cap']] w (RQR w (x/y) (x%y)):=by
 obtain⟨Fy,hys,dy,hy1,hyv⟩:=kk.open;obtain⟨Fx,hxs,dx,hx1,hxv⟩:=h.open;have hlx:lx≤1000000:=AM.len (hxv.symm▸hx) hx1;have hyB:B (k+1)≤y:=by rw[←hyv];exact Rm (by omega) (hy1 (by omega))
 have hkl:k+2≤lx:=by
  rcases Nat.lt_or_ge (k+1) lx with e|e
  ·exact e
  have h1:=DM dx;have h2:=Hs e;omega
 have hx0:x≠0:=by have:=Jt (k+1);omega
 have hxB:x<B lx:=by rw[←hxv];exact DM dx
 obtain⟨s,hs⟩: ∃s,s=32*(k+2)-bitLen y:=⟨_,rfl⟩;have HH:Hid (Ai w (.agg #[.slice ax lx cap]) x∧Ai w (.agg #[.slice ay (k+2) cap']) y∧AM x∧AM y∧B (k+1)≤y∧x<B lx∧s=32*(k+2)-bitLen y∧y≤x∧x≠0):=⟨h,kk,hx,hy,hyB,hxB,hs,hle,hx0⟩;have HF:Hid (Dg Fy (k+2)∧Fy (k+1)≠0∧U Fy (k+2)=y):=⟨dy,hy1 (by omega),hyv⟩;have D0:Hid _:=J2 w ax lx cap ay (k+2) cap' 64;have hL:bitLen y≤32*(k+2):=by
  refine Jd ?_;rw[←Hi,←hyv];exact DM dy
 obtain⟨L,eL⟩:=nme (bitLen y);have EL:Hid (L=bitLen y):=eL;rw[←eL]at hs hL;clear eL h kk hx hy hys dy hy1 hyv hxs dx hx1 hxv hyB hle hx0 hxB;go_enter Tryz.func101,Tryz.ntmps101
 go_wp2_with fail
 refine(FI _ _ x y _ (HH.out.1.mono D0.out.bel) (HH.out.2.1.mono D0.out.bel) HH.out.2.2.1.fits HH.out.2.2.2.1.fits).mono ?_;rintro e w1 ⟨rfl,hb1⟩;obtain⟨z,ez⟩:=nme (AW x y);have hz:decide (z<0)=false:=by
  refine decide_eq_false ?_;rw[ez];rcases Nat.lt_or_ge y x with e|e
  ·rw[ER e];omega
  rw[Nat.le_antisymm e HH.out.2.2.2.2.2.2.2.1,H7];omega
 rw[←ez];have D1:Hid (DS w w1 ax lx cap ay (k+2) cap'):=D0.out.go hb1;have d1:=D1.out.cx;have d2:=D1.out.cy;clear hb1 D0 ez;have hk1:(((k:Int)+2)==1)=false:=by simp;omega
 go_wp2_with fail
 refine(IF _ y _ (HH.out.2.1.mono D1.out.bel) HH.out.2.2.2.1.fits).mono ?_;rintro e w2 ⟨rfl,hb2⟩;rw[←EL.out];have D2:Hid (DS w w2 ax lx cap ay (k+2) cap'):=D1.out.go hb2;have d1:=D2.out.cx;have d2:=D2.out.cy;clear hb2 D1;have m1:IntKind.i64.wrap (32*((k:Int)+2))=32*((k:Int)+2):=by rw[IntKind.wrap_i64];omega
 have m2:IntKind.i64.wrap (32*((k:Int)+2)- (L:Int))=(s:Int):=by rw[IntKind.wrap_i64];omega
 have m3:32*((k:Int)+2)- (L:Int)=(s:Int):=by omega
 have HSL:Hid (s=32*(k+2)-L∧L≤32*(k+2)):=⟨hs,hL⟩;clear hs hL;have hsB:s<1099511627776:=by have:=HSL.out.1;omega
 go_wp2_with fail
 refine(Do _ y s _ (HH.out.2.1.mono D2.out.bel) HH.out.2.2.2.1.fits hsB).mono ?_;rintro e w3 ⟨v3,rfl,hv3,hb3⟩;obtain⟨a3,n3,cap3,rfl⟩:=hv3.isAgg;have D3:Hid (DS w w3 ax lx cap ay (k+2) cap'):=D2.out.go hb3;obtain⟨Y,sY,dY,tY,vY⟩:=hv3.open;obtain⟨hs32,hn3,hYtop,_⟩:=Xm HF.out.1 HF.out.2.1 HF.out.2.2 HH.out.2.2.2.2.2.2.1 dY tY vY;have hn3':n3=k+2:=hn3;subst hn3';obtain⟨b3,o3,rfl,hw3⟩:=sY.at 0 (by omega);have lb3:b3<w3.heap.size:=World.block_lt_of_cell? _ _ (hw3 0 (by omega));have HY:Hid (Sl w3 (some ⟨b3,o3,none⟩) (k+2) cap3 Y∧Dg Y (k+2)∧2147483648≤Y (k+1)∧U Y (k+2)=y*2^s):=⟨sY,dY,hYtop,vY⟩;clear hv3 hb3 D2 sY dY tY vY hYtop hn3 hw3 d1 d2 m1 m2 m3;have d1:=D3.out.cx;have fd:=RB (some ⟨b3,o3,none⟩) (k+2) cap3;go_wp2_with fail
 refine(Do _ x s _ (HH.out.1.mono D3.out.bel) HH.out.2.2.1.fits hsB).mono ?_;rintro e w4 ⟨v4,rfl,hv4,hb4⟩;obtain⟨a4,m,cap4,rfl⟩:=hv4.isAgg;have D4:Hid (DS w w4 ax lx cap ay (k+2) cap'):=D3.out.go hb4;obtain⟨X,sX,dX,tX,vX⟩:=hv4.open;have hm0:m≠0:=fun e=>by
  have:=(Ge hv4).1 e;have h2:=Nat.two_pow_pos s;rcases Nat.mul_eq_zero.1 this with h3|h3
  ·exact HH.out.2.2.2.2.2.2.2.2 h3
  omega
 have hmx:m≤lx+1:=by
  refine GS (m:=lx+1) ?_ tX;rw[vX,DK];have h2:2^s≤2^32:=Nat.pow_le_pow_right (by decide) (by omega);exact Nat.lt_of_lt_of_le (Nat.mul_lt_mul_of_pos_right HH.out.2.2.2.2.2.1 (Nat.two_pow_pos s)) (Nat.mul_le_mul_left _ h2)
 obtain⟨b4,o4,rfl,hw4⟩:=sX.at 0 (by omega);have HX:Hid ((∀j,j<m→w4.cell? ((⟨b4,o4,none⟩:Addr).add j)=some (wd X j))∧Dg X m∧U X m=x*2^s):=⟨fun j hj=>by
  have h3:(⟨b4,o4,none⟩:Addr).add j=⟨b4,o4+j,none⟩:=by unfold Addr.add;split<;>simp_all
  rw[h3];exact hw4 j hj,dX,vX⟩
 have HY4:Hid (Sl w4 (some ⟨b3,o3,none⟩) (k+2) cap3 Y):=HY.out.1.mono hb4;have lb4:b3<w4.heap.size:=Nat.lt_of_lt_of_le lb3 hb4.size;clear hv4 hb4 D3 sX dX tX vX hw4 d1 lb3 fd;have fd:=RB (some ⟨b4,o4,none⟩) m cap4;go_wp2_with (refine(id ?_:wpList Tryz.prog _ _ (⟨some 52,_,_,_,_,_⟩::_) _ _);refine hold ?_)
 intro _;refine J1 rfl (.tmp 47) (.tmp 51) rfl w4.heap.size _ rfl rfl ⟨b4,o4,none⟩ m cap4 X rfl HX.out.1 (by omega) (Nat.le_refl _) ?_;intro v5 w5 ho5 hg5;have L0:Hid (OR w5 69 w4.heap.size v5 m (wd (Am X m 0))∧DS w w5 ax lx cap ay (k+2) cap'∧Below w4.heap.size w4 w5):=⟨ho5.congr fun j hj=>by show Value.int .u64 _=Value.int .u64 _;rw[BU (by omega),Nat.zero_add],D4.out.grown hg5 (fun g e=>by cases e),(Below.refl _ _).grown hg5 (Nat.le_refl _) (fun g e=>by cases e)⟩;have hsz4:w.heap.size+4≤w4.heap.size:=D4.out.lt;clear ho5 hg5 D4;go_wp2_with fail
 go_loopw [11] (fun l wr=> ∃(t:Nat),m≤t∧t≤lx+2∧Hid (OR wr 69 w4.heap.size l t (wd (Am X m 0))∧DS w wr ax lx cap ay (k+2) cap'∧Below w4.heap.size w4 wr)) (fun l _=>lx+2-lenOf l)
 case atStart=>exact⟨m,Nat.le_refl _,by omega,L0⟩
 case round=>
  clear L0;obtain⟨t,ht1,ht2,hL⟩:=hrel;obtain⟨g,c,rfl,hcg⟩:=hL.out.1.at (by omega);clear hcg;have d1:=hL.out.2.1.cx;by_cases htl:t≤lx+1
  ·have hle:(t:Int)≤(lx:Int)+1:=by omega
   have d3:decide ((t:Int)≤(lx:Int)+1)=true:=decide_eq_true hle;go_wp2_with (refine(id ?_:wpList Tryz.prog _ _ (⟨some 62,_,_,_,_,_⟩::_) _ _);refine hold ?_)
   intro _;refine A5 rfl (.tmp 60) (.tmp 61) 62 rfl 69 (.int .u64 0) 8 Tryz.underlying62 Tryz.info22b rfl (by omega) w4.heap.size _ t (wd (Am X m 0)) rfl (hL.out.1.below (Ah (Aa wr))) _ _ rfl _ (GT wr (.int .u64 0) 69) rfl (by omega) (Nat.le_trans hL.out.2.2.size (Ah (Aa wr) (o:=.cells #[.int .u64 0] 69)).size) ?_;intro g2 cap2 w9 ho hg2 _ _;have S:Hid (OR w9 69 w4.heap.size (.slice (some ⟨g2,0,none⟩) (t+1) cap2) (t+1) (wd (Am X m 0))∧DS w w9 ax lx cap ay (k+2) cap'∧Below w4.heap.size w4 w9):=by
    refine⟨OR.congr ho fun j hj=> ?_,(hL.out.2.1.go (Ah (Aa wr))).grown hg2 (fun g e=>by have:=hL.out.1.blk g e;omega),(hL.out.2.2.alloc hL.out.2.2.size _).grown hg2 (Nat.le_trans hL.out.2.2.size (Ah (Aa wr)).size) hL.out.1.blk⟩;split
    ·rename_i e;rw[e];show Value.int .u64 0=Value.int .u64 ((Am X m 0 t:Nat):Int);rw[BH (by omega)];rfl
    rfl
   clear ho hg2;go_wp2_with fail
   go_roundw
   case rel=>exact⟨t+1,by omega,by omega,S⟩
   case measure=>show lx+2- (t+1)<lx+2-t;omega
  have d3:decide ((t:Int)≤(lx:Int)+1)=false:=decide_eq_false (by omega);obtain⟨M,hM⟩: ∃M,t=M+(k+2):=⟨t- (k+2),by omega⟩;have HMT:Hid (t=M+(k+2)):=hM;have m4:(t:Int)- ((k:Int)+2)=(M:Int):=by omega
  have m5:IntKind.i64.wrap ((M:Int)-1)=(M:Int)-1:=by rw[IntKind.wrap_i64];omega
  have mk:=Cy (M:Int) (M:Int) M M rfl rfl (Nat.le_refl _) (by omega);have hMb:M≤1000000:=by omega
  have hM0:M≠0:=by omega
  have htB:t≤1000002:=by omega
  have hgl:g<wr.heap.size:=by
   obtain⟨g',c',e1,e2⟩:=hL.out.1.at (by omega);cases e1;exact World.block_lt_of_cell? _ _ (e2 0 (by omega))
  have R0:Bo wr g c t (Am X m 0):=by
   rcases hL.out.1 with⟨e,_⟩| ⟨g',c',f,e1,_,h2,h3,h4,h5⟩
   ·cases e
   cases e1;refine⟨⟨f,h4,h5⟩,h2,by simp only[maxLen]at h3;omega,fun j hj=> ?_⟩;have:=Ep HX.out.2.1 j;omega
  have hgw:w4.heap.size≤g:=hL.out.1.blk g rfl;have HR:Hid (Bo wr g c t (Am X m 0)∧DS w wr ax lx cap ay (k+2) cap'∧Below w4.heap.size w4 wr∧w4.heap.size≤g∧m≤t∧ ¬t≤lx+1):=⟨R0,hL.out.2.1,hL.out.2.2,hgw,ht1,htl⟩;clear R0 hM hL ht1 ht2 htl hgw fd;go_wp2_with fail
  clear mk m4;obtain⟨w6,hw6⟩:=nme (wr.alloc (.cells (Cv M) 69));obtain⟨gq,hgq⟩:=nme wr.heap.size;have ba:Below wr.heap.size wr w6:=by rw[hw6];exact Ah (Aa wr)
  have Q0:Bo w6 gq M M (fun _=>0):=by rw[hw6,hgq];exact Row.drow (Bh _ _ _ rfl) (by omega)
  have M0:Hid (DI w w6 (ax,lx,cap,ay,cap') k g c t gq M b3 o3 cap3 Y (x*2^s) M (Am X m 0) (fun _=>0)):=by
   have h1:=HR.out.2.2.2.1;have h2:=HR.out.2.2.1.size;refine⟨HR.out.1.below ba,Q0,?_,HY4.out.mono (Aj HR.out.2.2.1 ba),HR.out.2.1.go ba,HY.out.2.1,HY.out.2.2.1,HMT.out,by omega,by omega,by omega,by omega,by omega⟩;have hst:=TM (X:=x*2^s) (Yv:=U Y (k+2)) (N:=t) (n:=k+2) (F:=Am X m 0) (by rw[Hl HR.out.2.2.2.2.1,HX.out.2.2]) (fun j _=>Ep HX.out.2.1 j) (by omega) (by have:=HMT.out;omega) (by
    show B (k+1)≤_;rw[HY.out.2.2.2];have h1:=HH.out.2.2.2.2.1;have h2:=Nat.mul_le_mul h1 (Nat.two_pow_pos s);rw[Nat.mul_one]at h2;exact h2) (BH (by have:=HR.out.2.2.2.2.2;omega))
   rw[show t- (k+2)=M by have:=HMT.out;omega]at hst;exact hst
  have HYV:Hid (U Y (k+2)=y*2^s):=HY.out.2.2.2;have hkB:k≤1000000:=by omega
  have hMt:M+k+2≤t:=by have:=HMT.out;omega
  rw[←hw6];simp only[←hgq];clear hw6 hgq ba Q0 HR hgl d1 d3 d2 HH HF HX HY HY4 HMT HSL EL hsz4 hm0 hmx hkl hlx hsB lb4 hz hk1;go_loopw [13] (fun tt wr=> ∃(jj:Nat) (F Q:Nat→Nat),jj≤M∧tt=.int .i64 ((jj:Int)-1)∧Hid (DI w wr (ax,lx,cap,ay,cap') k g c t gq M b3 o3 cap3 Y (x*2^s) jj F Q)) (fun tt _=>(intOf tt+1).toNat)
  case atStart=>exact⟨M,Am X m 0,fun _=>0,Nat.le_refl _,rfl,M0⟩
  case round=>
   clear M0 m5;obtain⟨jj,F,Q,hjj,rfl,hI⟩:=hrel;by_cases hj0:0<jj
   ·obtain⟨j,rfl⟩: ∃j,jj=j+1:=⟨jj-1,by omega⟩;have hidx:((j+1:Nat):Int)-1=(j:Int):=by omega
    rw[hidx];have hjt:j+k+2<t:=by omega
    have m6:IntKind.i64.wrap ((j:Int)-1)=(j:Int)-1:=by rw[IntKind.wrap_i64];omega
    clear hidx hj0;go_wp2_with fail
    refine(PR g t c b3 o3 cap3 j k F Y wr hI.out.u hI.out.dv.dF hI.out.v hI.out.dY hjt (by omega) hI.out.top (hI.out.dv.small (show j<t by omega))).mono ?_;rintro e w7 ⟨G,rfl,hG,nd,hw7⟩;rw[hw7];clear hw7 w7;have HG:Hid _:=hG;have hGl:=hG.lt;clear hG;go_wp2_with fail
    refine(Rx g t c j (k+2) G cap3 (some ⟨b3,o3,none⟩) F Y (wr.drewN nd) (hI.out.u.drewN nd) hI.out.dv.dF (hI.out.v.mono (Bd (Aa wr) nd)) hI.out.dY (by omega) (by omega) hGl hI.out.sep).mono ?_;rintro e w8 ⟨bo,cc,H,rfl,hH,hLs,hg8⟩;have hbl:=hLs.lb;have I8:Hid (DL w w8 (ax,lx,cap,ay,cap') k g c t gq M b3 o3 cap3 Y (x*2^s) j F Q G bo H):=hI.out.less hjt HG.out hH hLs hg8;have DH:Hid (Dg H t):=hLs.dg;have SP:Hid _:=hI.out.sep;have DYY:Hid _:=hI.out.dY;have hcq:w8.cell? ⟨gq,j,none⟩=some (.int .u64 (Q j:Nat)):=I8.out.q.cell (by omega);have hfq:w8.frozen? ⟨gq,j,none⟩=false:=I8.out.q.frozen _;clear hH hLs hg8 hI HG;by_cases hbo:bo=1
    ·subst hbo;obtain⟨d,hd⟩: ∃d,G=d+1:=⟨G-1,by have:=I8.out.pos;omega⟩;have hdw:(G:Int)-1=(d:Int):=by omega
     have hdl:d<18446744073709551616:=by omega
     have HD:Hid (G=d+1):=hd;clear hd hcq hfq hbl;go_wp2_with fail
     refine(Ry g t c j (k+2) cap3 (some ⟨b3,o3,none⟩) H Y w8 I8.out.u DH.out I8.out.v DYY.out (by omega) (by omega) SP.out).mono ?_;rintro e w9 ⟨uu,c2,H2,rfl,hH2,hBk,hg9⟩;have S9:Hid _:=I8.out.back HD.out hH2 hBk hg9;have hcq:w9.cell? ⟨gq,j,none⟩=some (.int .u64 (Q j:Nat)):=S9.out.2.cell (by omega);have hfq:w9.frozen? ⟨gq,j,none⟩=false:=S9.out.2.frozen _;clear hH2 hBk hg9;go_wp2_with fail
     go_roundw
     case rel=>exact⟨j,H2,put Q j d,by omega,rfl,S9.out.1⟩
     case measure=>simp[intOf]
    have hb0:((bo:Int)==1)=false:=by simp;omega
    have S9:Hid _:=I8.out.keep (by omega);clear hbo hbl;go_wp2_with fail
    go_roundw
    case rel=>exact⟨j,H,put Q j G,by omega,rfl,S9⟩
    case measure=>simp[intOf]
   obtain rfl:jj=0:=by omega
   have hneg:((0:Nat):Int)-1= -1:=by omega
   rw[hneg];have HE:Hid _:=hI.out.fin HYV.out hkB;clear hneg hj0;go_wp2_with fail
   refine(Ht (some ⟨gq,0,none⟩) M M Q wr hI.out.q.sl HE.out.2.2.2.1 (by omega) hM0).mono ?_;rintro e w7 ⟨k7,rfl,hv7,hb7⟩;rw[HE.out.1]at hv7;have I7:Hid (Ai w7 (.agg #[.slice (some ⟨gq,0,none⟩) k7 M]) (x/y)∧Bo w7 g c t F∧DS w w7 ax lx cap ay (k+2) cap'):=⟨hv7,hI.out.u.below hb7,hI.out.ds.go hb7⟩;clear hv7 hb7 hI;go_wp2_with fail
   refine(Ht (some ⟨g,0,none⟩) t c F w7 I7.out.2.1.sl HE.out.2.2.2.2 (by omega) (by omega)).mono ?_;rintro e w8 ⟨k8,rfl,hv8,hb8⟩;have I8:Hid (Ai w8 (.agg #[.slice (some ⟨gq,0,none⟩) k7 M]) (x/y)∧Ai w8 (.agg #[.slice (some ⟨g,0,none⟩) k8 c]) (U F t)∧DS w w8 ax lx cap ay (k+2) cap'):=⟨I7.out.1.mono hb8,hv8,I7.out.2.2.go hb8⟩;clear hv8 hb8 I7;go_wp2_with fail
   refine(PV _ (U F t) s _ I8.out.2.1 HE.out.2.2.1 (by omega)).mono ?_;rintro e w9 ⟨v9,rfl,hv9,hb9⟩;obtain⟨a9,n9,c9,rfl⟩:=hv9.isAgg;rw[HE.out.2.1]at hv9;have D9:Hid (DS w w9 ax lx cap ay (k+2) cap'):=I8.out.2.2.go hb9;have I9:Hid (Ai w9 (.agg #[.slice (some ⟨gq,0,none⟩) k7 M]) (x/y)∧Ai w9 (.agg #[.slice a9 n9 c9]) (x%y)):=⟨I8.out.1.mono hb9,hv9⟩;have d3:=D9.out.c3;have d4:=D9.out.c4;have e3:=D9.out.f3;have e4:=D9.out.f4;clear hv9 hb9 I8;go_wp2_with fail
   have n3:=Ad d3;have n4: ∀k q,(w9.setCell ⟨w.heap.size+1+1,0,none⟩ (.slice (some ⟨gq,0,none⟩) k7 M)).cell? ⟨w.heap.size+1+1+1,0,none⟩≠some (.int k q):=by
    rw[World.cell?_setCell_far _ _ _ _ (by show w.heap.size+1+1≠w.heap.size+1+1+1;omega),d4];intro k q e;cases e
   refine bodyPost_ret (v:=.tuple #[.agg #[.slice (some ⟨gq,0,none⟩) k7 M],.agg #[.slice a9 n9 c9]]) (by simp[results,Tryz.results101,go_sem,d3,d4]) rfl ⟨_,_,rfl,(I9.out.1.setCell n3 _).setCell n4 _,(I9.out.2.setCell n3 _).setCell n4 _,?_⟩;exact(D9.out.bel.setCell (by show _≤_+1+1;omega) _).setCell (by show _≤_+1+1+1;omega) _
theorem TS(ax:Option Addr)(lx cap:Nat)(ay:Option Addr)(cap':Nat)(x y:Nat)(w:World)(h:Ai w (.agg #[.slice ax lx cap]) x)(kk:Ai w (.agg #[.slice ay 1 cap']) y)(hx:AG x)(hy:AG y)(hle:y≤x):
  Calls Tryz.prog 101 #[.agg #[.slice ax lx cap],.agg #[.slice ay 1 cap']] w (RQR w (x/y) (x%y)):=by
 obtain⟨Fy,hys,dy,hy1,hyv⟩:=kk.open;have e0:Fy 0=y:=by rw[←hyv,AP,Ch,Gb];omega
 have hy0:y≠0:=by rw[←e0];exact hy1 (by omega)
 have hyl:y<4294967296:=by rw[←e0];exact dy 0 (by omega)
 obtain⟨b,o,rfl,hw⟩:=hys.at 0 (by omega);have HH:Hid (Ai w (.agg #[.slice ax lx cap]) x∧Ai w (.agg #[.slice (some ⟨b,o,none⟩) 1 cap']) y∧AG x∧AG y∧y≤x∧w.cell? ⟨b,o+0,none⟩=some (.int .u64 (y:Nat))):=⟨h,kk,hx,hy,hle,by rw[←e0];exact hw 0 (by omega)⟩;have D0:Hid _:=J2 w ax lx cap (some ⟨b,o,none⟩) 1 cap' 64;clear h kk hx hy hys dy hy1 hyv e0 hle hw;go_enter Tryz.func101,Tryz.ntmps101
 go_wp2_with fail
 refine(FI _ _ x y _ (HH.out.1.mono D0.out.bel) (HH.out.2.1.mono D0.out.bel) HH.out.2.2.1 HH.out.2.2.2.1).mono ?_;rintro e w1 ⟨rfl,hb1⟩;obtain⟨z,ez⟩:=nme (AW x y);have hz:decide (z<0)=false:=by
  refine decide_eq_false ?_;rw[ez];rcases Nat.lt_or_ge y x with e|e
  ·rw[ER e];omega
  rw[Nat.le_antisymm e HH.out.2.2.2.2.1,H7];omega
 rw[←ez];have D1:Hid (DS w w1 ax lx cap (some ⟨b,o,none⟩) 1 cap'):=D0.out.go hb1;have d1:=D1.out.cx;have d2:=D1.out.cy;have d5:w1.cell? ⟨b,o,none⟩=some (.int .u64 (y:Nat)):=by
  have:=cell_later D1.out.bel HH.out.2.2.2.2.2;rw[Nat.add_zero]at this;exact this
 have S1:Hid (SR w w1 [] [(.agg #[.slice ax lx cap],x)] [(w.heap.size,.slice ax lx cap),(w.heap.size+1,.slice (some ⟨b,o,none⟩) 1 cap')]):=⟨by simp,by simp;exact HH.out.1.mono D1.out.bel,by simp;exact⟨d1,d2⟩,D1.out.bel⟩;have hx0:x≠0:=by have:=HH.out.2.2.2.2.1;omega
 have HQ:Hid (AG x∧0<y∧y<4294967296∧x≠0∧x%y<18446744073709551616):=⟨HH.out.2.2.1,by omega,hyl,hx0,by have:=Nat.mod_lt x (show 0<y by omega);omega⟩;clear hb1 D0 ez hx0 hyl hy0;go_wp2_with fail
 refine Bg (JB w1 [sR (x),sEq (.pointer (some ⟨w.heap.size+1,0,none⟩)),sEq (.slice (some ⟨b,o,none⟩) 1 cap'),sEq (.pointer (some ⟨b,o,none⟩)),sEq (.int .u64 (y:Int)),sRI (x/y) (x%y),sRI (x/y) (x%y),sR (x/y),sEq (.int .u64 ((x%y:Nat):Int)),sAny,sAny,sEq (.int .u64 ((x%y:Nat):Int))] [(9,10,7)]) 103 (by kernel_rfl) rfl (by kernel_rfl) (JB.start _ _ _) (fun HG HN=>⟨?_,?_,?_,?_,?_,?_,?_,?_,?_,?_,?_,?_,trivial⟩) ?_
 ·intro L vs a w' hJ hF hP hL;have q2:(a.tmps[2]?).getD undef=.pointer (some ⟨w.heap.size,0,none⟩):=hF.old 2 rfl;have cb:=cell_later hJ.bel (S1.out.cell (w.heap.size) (.slice ax lx cap));exact Av (v:=.agg #[.slice ax lx cap]) rfl (by simp[execOp,go_sem,q2,cb]) ⟨_,rfl,hJ.step hL rfl (Below.refl _ _) (by exact((S1.out.rat (.agg #[.slice ax lx cap]) (x)).mono hJ.bel))⟩
 ·intro L vs a w' hJ hF hP hL;have q3:(a.tmps[3]?).getD undef=.pointer (some ⟨w.heap.size+1,0,none⟩):=hF.old 3 rfl;exact Av (v:=.pointer (some ⟨w.heap.size+1,0,none⟩)) rfl (by simp[execOp,go_sem,q3]) ⟨_,rfl,hJ.step hL rfl (Below.refl _ _) (by exact rfl)⟩
 ·intro L vs a w' hJ hF hP hL;have p1:L 1=true:=hP ⟨1,.data⟩ (by simp) rfl;have s1:vs 1=.pointer (some ⟨w.heap.size+1,0,none⟩):=hJ.sp 1 p1;have q28:=hF.slot 1 28 rfl p1;have c2:=cell_later hJ.bel (S1.out.cell (w.heap.size+1) (.slice (some ⟨b,o,none⟩) 1 cap'));exact Av (v:=.slice (some ⟨b,o,none⟩) 1 cap') rfl (by simp[execOp,go_sem,q28,s1,c2]) ⟨_,rfl,hJ.step hL rfl (Below.refl _ _) (by exact rfl)⟩
 ·intro L vs a w' hJ hF hP hL;have p2:L 2=true:=hP ⟨2,.data⟩ (by simp) rfl;have s2:vs 2=.slice (some ⟨b,o,none⟩) 1 cap':=hJ.sp 2 p2;have q29:=hF.slot 2 29 rfl p2;exact Av (v:=.pointer (some ⟨b,o,none⟩)) rfl (by simp[execOp,go_sem,q29,s2]) ⟨_,rfl,hJ.step hL rfl (Below.refl _ _) (by exact rfl)⟩
 ·intro L vs a w' hJ hF hP hL;have p3:L 3=true:=hP ⟨3,.data⟩ (by simp) rfl;have s3:vs 3=.pointer (some ⟨b,o,none⟩):=hJ.sp 3 p3;have q30:=hF.slot 3 30 rfl p3;have c5:=cell_later hJ.bel d5;exact Av (v:=.int .u64 (y:Int)) rfl (by simp[execOp,go_sem,q30,s3,c5]) ⟨_,rfl,hJ.step hL rfl (Below.refl _ _) (by exact rfl)⟩
 ·intro L vs a w' hJ hF hP hL;have p0:L 0=true:=hP ⟨0,.data⟩ (by simp) rfl;have s0:Ai w' (vs 0) (x):=hJ.sp 0 p0;have q27:=hF.slot 0 27 rfl p0;have p4:L 4=true:=hP ⟨4,.data⟩ (by simp) rfl;have s4:vs 4=.int .u64 (y:Int):=hJ.sp 4 p4;have q31:=hF.slot 4 31 rfl p4;refine AO (f:=132) (args:= #[vs 0,.int .u64 (y:Int)]) rfl (by simp[go_sem,q27,q31,s4]) (PO _ x y _ s0 HQ.out.1 HQ.out.2.1 HQ.out.2.2.1 HQ.out.2.2.2.1) ?_;rintro e w2 ⟨v1,rfl,h1,hb⟩;exact⟨_,rfl,_,rfl,hJ.step hL rfl hb (by exact⟨v1,rfl,h1⟩)⟩
 ·intro L vs a w' hJ hF hP hL;have p5:L 5=true:=hP ⟨5,.data⟩ (by simp) rfl;have s5: ∃p,vs 5=.tuple #[p,.int .u64 ((x%y:Nat):Int)]∧Ai w' p (x/y):=hJ.sp 5 p5;have q32:=hF.slot 5 32 rfl p5;exact Av (v:=vs 5) rfl (by simp[execOp,go_sem,q32]) ⟨_,rfl,hJ.step hL rfl (Below.refl _ _) (by exact s5)⟩
 ·intro L vs a w' hJ hF hP hL;have p6:L 6=true:=hP ⟨6,.data⟩ (by simp) rfl;have s6: ∃p,vs 6=.tuple #[p,.int .u64 ((x%y:Nat):Int)]∧Ai w' p (x/y):=hJ.sp 6 p6;have q26:=hF.slot 6 26 rfl p6;obtain⟨vp,e1,e2⟩:=s6;exact Av (v:=vp) rfl (by simp[execOp,go_sem,q26,e1]) ⟨_,rfl,hJ.step hL rfl (Below.refl _ _) (by exact e2)⟩
 ·intro L vs a w' hJ hF hP hL;have p6:L 6=true:=hP ⟨6,.data⟩ (by simp) rfl;have s6: ∃p,vs 6=.tuple #[p,.int .u64 ((x%y:Nat):Int)]∧Ai w' p (x/y):=hJ.sp 6 p6;have q26:=hF.slot 6 26 rfl p6;obtain⟨vp,e1,e2⟩:=s6;exact Av (v:=.int .u64 ((x%y:Nat):Int)) rfl (by simp[execOp,go_sem,q26,e1]) ⟨_,rfl,hJ.step hL rfl (Below.refl _ _) (by exact rfl)⟩
 ·intro L vs a w' hJ hF hP hL;exact Av (v:=.pointer (some ⟨w'.heap.size,0,none⟩)) (w':=w'.alloc (.cells #[.slice none 0 0] 64)) rfl (by simp[execOp,go_sem]) ⟨_,rfl,hJ.alloc hL rfl rfl _⟩
 ·intro L vs a w' hJ hF hP hL;have p9:L 9=true:=hP ⟨9,.data⟩ (by simp) rfl;have q7:=hF.slot 9 7 rfl p9;have p7:L 7=true:=hP ⟨7,.data⟩ (by simp) rfl;have s7:Ai w' (vs 7) (x/y):=hJ.sp 7 p7;have q33:=hF.slot 7 33 rfl p7;obtain⟨bk,e1,e2,e3,e4,e5,e6⟩:=hJ.bx (9,10,7) (by simp) p9;have e7:=e5 hL;obtain⟨aa,nn,cc,e8⟩:=s7.isAgg;exact Dw (w':=w'.setCell ⟨bk,0,none⟩ (.slice aa nn cc)) rfl (by simp[execOp,go_sem,q7,q33,e1,e8,e7,e4]) ⟨undef,rfl,hJ.store (b:=(9,10,7)) (by simp) hL p9 p7 (by decide) rfl e1 e8⟩
 ·intro L vs a w' hJ hF hP hL;have p8:L 8=true:=hP ⟨8,.data⟩ (by simp) rfl;have s8:vs 8=.int .u64 ((x%y:Nat):Int):=hJ.sp 8 p8;have q34:=hF.slot 8 34 rfl p8;exact Av (v:=.int .u64 ((x%y:Nat):Int)) rfl (by simp[execOp,go_sem,q34,s8]) ⟨_,rfl,hJ.step hL rfl (Below.refl _ _) (by exact rfl)⟩
 intro L vs w' hA hJ;have s7:Ai w' (vs 7) (x/y):=hJ.sp 7 (hA 7 (by simp));have s11:vs 11=.int .u64 ((x%y:Nat):Int):=hJ.sp 11 (hA 11 (by simp));obtain⟨bk9,eb9,ge9,lt9,fz9,_,e6⟩:=hJ.bx (9,10,7) (by simp) (hA 9 (by simp));obtain⟨_,u9,eu9,ce9⟩:=e6 (hA 10 (by simp));clear e6;have D2:Hid (DS w w' ax lx cap (some ⟨b,o,none⟩) 1 cap'):=D1.out.go hJ.bel;obtain⟨a9,n9,c9,e9⟩:=s7.isAgg;have eu:u9=.slice a9 n9 c9:=by
  have:=eu9.symm.trans e9;injection this with h1
  simpa using h1
 rw[eu]at ce9;rw[e9]at s7;simp only[DU,Act.put,List.setIfInBounds_toArray,List.set_cons_zero,List.set_cons_succ,Nat.reduceAdd];simp only[eb9,s11];have I2:Hid (Ai w' (.agg #[.slice a9 n9 c9]) (x/y)∧w'.cell? ⟨bk9,0,none⟩=some (.slice a9 n9 c9)∧w.heap.size+4≤bk9):=⟨s7,ce9,Nat.le_trans D1.out.lt ge9⟩;have d3:=D2.out.c3;have d4:=D2.out.c4;have e3:=D2.out.f3;have e4:=D2.out.f4;have d7:=I2.out.2.1;obtain⟨rr,err⟩:=nme (x%y);have ERR:Hid (rr=x%y):=err;simp only[←err];generalize vs=vs1;clear hJ hA s7 s11 eb9 ge9 lt9 fz9 eu9 e9 eu D1 S1 d1 d2 d5 err ce9;go_wp2_with fail
 go_region_with ((go_at_call 67;refine Calls.mono (CA rr _ (by rw[ERR.out];exact HQ.out.2.2.2.2)) ?_;rintro e w3 ⟨v3,rfl,hv3,hb3⟩;obtain⟨a3,n3,c3,rfl⟩:=hv3.isAgg;have hb3:Below w'.heap.size w' w3:=(by first|exact hb3|exact Bf hb3);have D3:Hid (DS w w3 ax lx cap (some ⟨b,o,none⟩) 1 cap'):=D2.out.go hb3;have I3:Hid (Ai w3 (.agg #[.slice a9 n9 c9]) (x/y)∧Ai w3 (.agg #[.slice a3 n3 c3]) rr):=⟨I2.out.1.mono hb3,hv3⟩;have d8:=cell_later hb3 d7;have d13:=D3.out.c3;have d14:=D3.out.c4;have e13:=D3.out.f3;have e14:=D3.out.f4;clear hb3 hv3))
 all_goals have Z:Hid _:=D3.out.put2 I3.out.1 I3.out.2
 all_goals rw[ERR.out]at Z
 all_goals go_wp2_with fail
 all_goals exact bodyPost_ret (v:=.tuple #[.agg #[.slice a9 n9 c9],.agg #[.slice a3 n3 c3]]) (by simp[results,Tryz.results101,go_sem,d13,d14]) rfl ⟨_,_,rfl,Z.out.1,Z.out.2.1,Z.out.2.2⟩
theorem EE(v u:Value)(x y:Nat)(w:World)(h:Ai w v x)(k:Ai w u y)(hx:AM x)(hy:AM y)(hy0:y≠0):
  Calls Tryz.prog 101 #[v,u] w (RQR w (x/y) (x%y)):=by
 rcases Nat.lt_or_ge x y with hlt|hge
 ·rw[Nat.div_eq_of_lt hlt,Nat.mod_eq_of_lt hlt];exact RC v u x y w h k hx.fits hy.fits hlt
 obtain⟨ax,lx,cap,rfl⟩:=h.isAgg;obtain⟨ay,ly,cap',rfl⟩:=k.isAgg;rcases ly with _|_|ly
 ·exact absurd ((Ge k).1 rfl) hy0
 ·exact TS ax lx cap ay cap' x y w h k hx.fits hy.fits hge
 exact RD ax lx cap ay ly cap' x y w h k hx hy hge
structure GC (w wr:World) (d:Nat) (ax:Option Addr) (lx cx:Nat) (ay:Option Addr) (ly cy:Nat) (x y:Nat):Prop where
 c0:wr.cell? ⟨w.heap.size,0,none⟩=some (.slice ax lx cx)
 c1:wr.cell? ⟨w.heap.size+1,0,none⟩=some (.slice ay ly cy)
 c2:wr.cell? ⟨w.heap.size+1+1,0,none⟩=some (.slice none 0 0)
 f0:wr.frozen? ⟨w.heap.size,0,none⟩=false
 f1:wr.frozen? ⟨w.heap.size+1,0,none⟩=false
 f2:wr.frozen? ⟨w.heap.size+1+1,0,none⟩=false
 nx:Ai wr (.agg #[.slice ax lx cx]) x
 ny:Ai wr (.agg #[.slice ay ly cy]) y
 sx:AM x
 sy:AM y
 gcd:Nat.gcd x y=d
 bel:Below w.heap.size w wr
theorem GC.go{w wr w':World}{d:Nat}{ax:Option Addr}{lx cx:Nat}{ay:Option Addr}{ly cy x y:Nat}(h:GC w wr d ax lx cx ay ly cy x y)(hb:Below wr.heap.size wr w'):GC w w' d ax lx cx ay ly cy x y:=
 ⟨cell_later hb h.c0,cell_later hb h.c1,cell_later hb h.c2,(hb.frozen (World.block_lt_of_cell? _ _ h.c0)).trans h.f0,(hb.frozen (World.block_lt_of_cell? _ _ h.c1)).trans h.f1,(hb.frozen (World.block_lt_of_cell? _ _ h.c2)).trans h.f2,h.nx.mono hb,h.ny.mono hb,h.sx,h.sy,h.gcd,Aj h.bel hb⟩
theorem GC.step{w wr:World}{d:Nat}{ax:Option Addr}{lx cx:Nat}{ay:Option Addr}{ly cy x y:Nat}(h:GC w wr d ax lx cx ay ly cy x y){ar:Option Addr}{lr cr:Nat}(hr:Ai wr (.agg #[.slice ar lr cr]) (x%y))(hy:y≠0):
  GC w ((wr.setCell ⟨w.heap.size,0,none⟩ (.slice ay ly cy)).setCell ⟨w.heap.size+1,0,none⟩ (.slice ar lr cr)) d ay ly cy ar lr cr y (x%y):=by
 have n0:=Ad h.c0;have k1:(wr.setCell ⟨w.heap.size,0,none⟩ (.slice ay ly cy)).cell? ⟨w.heap.size+1,0,none⟩=some (.slice ay ly cy):=(World.cell?_setCell_far _ _ _ _ (by show w.heap.size≠w.heap.size+1;omega)).trans h.c1;have n1:=Ad k1;have k0:(wr.setCell ⟨w.heap.size,0,none⟩ (.slice ay ly cy)).cell? ⟨w.heap.size,0,none⟩=some (.slice ay ly cy):=by simp[go_sem,h.c0]
 refine⟨?_,by simp[go_sem,k1],?_,by simp[World.frozen?_setCell,h.f0],by simp[World.frozen?_setCell,h.f1],by simp[World.frozen?_setCell,h.f2],(h.ny.setCell n0 _).setCell n1 _,(hr.setCell n0 _).setCell n1 _,h.sy,⟨Nat.lt_of_lt_of_le (Nat.mod_lt _ (by omega)) (Nat.le_of_lt h.sy.lt)⟩,?_,(h.bel.setCell (Nat.le_refl _) _).setCell (by show _≤_+1;omega) _⟩
 ·rw[World.cell?_setCell_far _ _ _ _ (by show w.heap.size+1≠w.heap.size;omega)];exact k0
 ·rw[World.cell?_setCell_far _ _ _ _ (by show w.heap.size+1≠w.heap.size+1+1;omega),World.cell?_setCell_far _ _ _ _ (by show w.heap.size≠w.heap.size+1+1;omega)];exact h.c2
 rw[←h.gcd,Nat.gcd_comm x y,Nat.gcd_rec y x,Nat.gcd_comm]
theorem TT(v u:Value)(x y:Nat)(w:World)(h:Ai w v x)(k:Ai w u y)(hx:AM x)(hy:AM y):
  Calls Tryz.prog 131 #[v,u] w (Dm w (Nat.gcd x y)):=by
 obtain⟨ax,lx,cx,rfl⟩:=h.isAgg;obtain⟨ay,ly,cy,rfl⟩:=k.isAgg;have ba:Below w.heap.size w (((w.alloc (.cells #[.slice ax lx cx] 64)).alloc (.cells #[.slice ay ly cy] 64)).alloc (.cells #[.slice none 0 0] 64)):=Ah (Ah (Ah (Aa w)));have G0:Hid (GC w (((w.alloc (.cells #[.slice ax lx cx] 64)).alloc (.cells #[.slice ay ly cy] 64)).alloc (.cells #[.slice none 0 0] 64)) (Nat.gcd x y) ax lx cx ay ly cy x y):=⟨by simp[go_sem],by simp[go_sem],by simp[go_sem],by simp[go_sem],by simp[go_sem],by simp[go_sem],h.mono ba,k.mono ba,hx,hy,rfl,ba⟩;obtain⟨d,hd⟩:=nme (Nat.gcd x y);rw[←hd]at G0⊢;clear h k hx hy ba hd;go_enter Tryz.func131,Tryz.ntmps131
 go_wp2_with fail
 go_loopg [6] y (fun gk t wr=> ∃(ax:Option Addr) (lx cx:Nat) (ay:Option Addr) (ly cy x:Nat),Hid (GC w wr d ax lx cx ay ly cy x gk))
 case atStart=>exact⟨ax,lx,cx,ay,ly,cy,x,G0⟩
 case round=>
  clear G0;obtain⟨ax,lx,cx,ay,ly,cy,x,hG⟩:=hrel;have c1:=hG.out.c1;go_wp2_with fail
  refine(EW _ gk _ hG.out.ny hG.out.sy.fits).mono ?_;rintro e w2 ⟨rfl,hb2⟩;have G2:Hid (GC w w2 d ax lx cx ay ly cy x gk):=hG.out.go hb2;clear hb2 hG c1;by_cases hy0:gk=0
  ·have hz:decide (gk=0)=true:=decide_eq_true hy0;have HD:Hid (Ai w2 (.agg #[.slice ax lx cx]) d):=by
    have h1:=G2.out.gcd;rw[hy0,Nat.gcd_zero_right]at h1;have h2:=G2.out.nx;rw[h1]at h2;exact h2
   have d0:=G2.out.c0;have d2:=G2.out.c2;have e2:=G2.out.f2;have BB:Hid (Below w.heap.size w w2):=G2.out.bel;clear hy0 G2;go_wp2_with fail
   refine bodyPost_ret (v:=.agg #[.slice ax lx cx]) (by simp[results,Tryz.results131,go_sem,d2]) rfl ⟨_,rfl,HD.out.setCell (Ad d2) _,BB.out.setCell (by show _≤_+1+1;omega) _⟩
  have hz:decide (gk=0)=false:=decide_eq_false hy0;have d0:=G2.out.c0;have d1:=G2.out.c1;go_wp2_with fail
  refine(EE _ _ x gk _ G2.out.nx G2.out.ny G2.out.sx G2.out.sy hy0).mono ?_;rintro e w3 ⟨v3,u3,rfl,hv3,hu3,hb3⟩;obtain⟨a3,n3,c3,rfl⟩:=hv3.isAgg;obtain⟨a4,n4,c4,rfl⟩:=hu3.isAgg;have b5:Below w3.heap.size w3 ((w3.alloc (.cells #[.slice a3 n3 c3] 64)).alloc (.cells #[.slice a4 n4 c4] 64)):=Ah (Ah (Aa w3));have G5:Hid _:=(G2.out.go (Aj hb3 b5)).step (hu3.mono b5) hy0;have GG:Hid (GC w ((w3.alloc (.cells #[.slice a3 n3 c3] 64)).alloc (.cells #[.slice a4 n4 c4] 64)) d ax lx cx ay ly cy x gk):=G2.out.go (Aj hb3 b5);have d0:=GG.out.c0;have d1:=GG.out.c1;have e0:=GG.out.f0;have e1:=GG.out.f1;have d5:((w3.alloc (.cells #[.slice a3 n3 c3] 64)).alloc (.cells #[.slice a4 n4 c4] 64)).cell? ⟨w3.heap.size+1,0,none⟩=some (.slice a4 n4 c4):=by simp[go_sem]
  have hsz:w.heap.size+2<w3.heap.size:=by
   have:=World.block_lt_of_cell? _ _ (G2.out.go hb3).c2;exact this
  have HLT:Hid (x%gk<gk):=Nat.mod_lt _ (by omega);clear hv3 hu3 hb3 b5 G2 GG hy0;go_wp2_with fail
  go_roundg (x%gk)
  case measure=>exact HLT.out
  case rel=>exact⟨ay,ly,cy,a4,n4,c4,gk,G5⟩
def RRt(w:World)(v:Value)(p q:Nat):Prop:= ∃a n c a' n' c',v=.agg #[.slice a n c,.slice a' n' c']∧Ai w (.agg #[.slice a n c]) p∧Ai w (.agg #[.slice a' n' c']) q
theorem RRt.mono{w w':World}{v:Value}{p q:Nat}(h:RRt w v p q)(hb:Below w.heap.size w w'):RRt w' v p q:=by
 obtain⟨a,n,c,a',n',c',e,h1,h2⟩:=h;exact⟨a,n,c,a',n',c',e,h1.mono hb,h2.mono hb⟩
theorem RRt.setCell{w:World}{v:Value}{p q:Nat}(h:RRt w v p q){x:Addr}(hp: ∀k q,w.cell? x≠some (.int k q))(u:Value):RRt (w.setCell x u) v p q:=by
 obtain⟨a,n,c,a',n',c',e,h1,h2⟩:=h;exact⟨a,n,c,a',n',c',e,h1.setCell hp u,h2.setCell hp u⟩
theorem Be{w0 w:World}{r:Nat}{a1 a2:Option Addr}{n1 k1 n2 k2:Nat}(c0:w.cell? ⟨r,0,none⟩=some (.slice a1 n1 k1))(c1:w.cell? ⟨r,1,none⟩=some (.slice a2 n2 k2)){v u:Value}{p q:Nat}{V:Value}(h:RRt w V p q)(hb:Below w0.heap.size w0 w)(hr:w0.heap.size≤r):
  RRt ((w.setCell ⟨r,0,none⟩ v).setCell ⟨r,1,none⟩ u) V p q∧Below w0.heap.size w0 ((w.setCell ⟨r,0,none⟩ v).setCell ⟨r,1,none⟩ u):=by
 obtain⟨n1,n2⟩:=OL c0 c1 v;exact⟨(h.setCell n1 _).setCell n2 _,(hb.setCell hr _).setCell hr _⟩
def Lg(w:World)(p q:Nat)(e:Ending)(w':World):Prop:= ∃v,e=.returned v∧RRt w' v p q∧Below w.heap.size w w'
def Er(w:World)(p q:Nat)(ok:Bool)(e:Ending)(w':World):Prop:= ∃v,e=.returned (.tuple #[v,.bool ok])∧RRt w' v p q∧Below w.heap.size w w'
theorem CL(w:World):Calls Tryz.prog 55 #[] w (Lg w 0 1):=by
 have ba:Hid (Below w.heap.size w (w.alloc (.cells #[.slice none 0 0,.slice none 0 0] 66))):=Ah (Aa w);go_enter Tryz.func55,Tryz.ntmps55
 go_wp2_with fail
 refine(CA 0 _ (by omega)).mono ?_;rintro e w1 ⟨v1,rfl,hv1,hb1⟩;obtain⟨a1,n1,k1,rfl⟩:=hv1.isAgg;have c0:w1.cell? ⟨w.heap.size,0,none⟩=some (.slice none 0 0):=cell_later hb1 (by simp[go_sem]);have c1:w1.cell? ⟨w.heap.size,1,none⟩=some (.slice none 0 0):=cell_later hb1 (by simp[go_sem]);have f0:w1.frozen? ⟨w.heap.size,0,none⟩=false:=(hb1.frozen (by simp)).trans (by simp[go_sem]);have f1:w1.frozen? ⟨w.heap.size,1,none⟩=false:=(hb1.frozen (by simp)).trans (by simp[go_sem]);have I1:Hid (Ai w1 (.agg #[.slice a1 n1 k1]) 0∧Below w.heap.size w w1):=⟨hv1,Aj ba.out hb1⟩;clear hv1 hb1 ba;go_wp2_with fail
 refine(CA 1 _ (by omega)).mono ?_;rintro e w2 ⟨v2,rfl,hv2,hb2⟩;obtain⟨a2,n2,k2,rfl⟩:=hv2.isAgg;have x0:=cell_later hb2 c0;have x1:=cell_later hb2 c1;have y0:=(hb2.frozen (World.block_lt_of_cell? _ _ c0)).trans f0;have y1:=(hb2.frozen (World.block_lt_of_cell? _ _ c1)).trans f1;have Z:Hid _:=Be (v:=.slice a1 n1 k1) (u:=.slice a2 n2 k2) x0 x1 (V:=.agg #[.slice a1 n1 k1,.slice a2 n2 k2]) (p:=0) (q:=1) ⟨_,_,_,_,_,_,rfl,I1.out.1.mono hb2,hv2⟩ (Aj I1.out.2 hb2) (Nat.le_refl _);clear hv2 hb2 c0 c1 f0 f1 I1;go_wp2_with fail
 exact bodyPost_ret (v:=.agg #[.slice a1 n1 k1,.slice a2 n2 k2]) (by simp[results,Tryz.results55,go_sem,x0,x1]) rfl ⟨_,rfl,Z.out.1,Z.out.2⟩
theorem AM.le{x y:Nat}(h:AM x)(hy:y≤x):AM y:=⟨Nat.lt_of_le_of_lt hy h.lt⟩
theorem RS.rsome{x:Nat}(h:RS x):AM x:=⟨Nat.lt_of_lt_of_le (by rw[←P_B];exact h.lt) (Hs (show 2*90≤1000000 by omega))⟩
theorem RE(v u:Value)(p q:Nat)(w:World)(h:Ai w v p)(k:Ai w u q)(hp:AM p)(hq:AM q)(hq0:0<q):
  Calls Tryz.prog 99 #[v,u] w (Lg w (p/Nat.gcd p q) (q/Nat.gcd p q)):=by
 obtain⟨a,n,c,rfl⟩:=h.isAgg;obtain⟨a',n',c',rfl⟩:=k.isAgg;have HH:Hid (AM p∧AM q∧0<q):=⟨hp,hq,hq0⟩;have S0:Hid (SR w (((w.alloc (.cells #[.slice a n c] 64)).alloc (.cells #[.slice a' n' c'] 64)).alloc (.cells #[.slice none 0 0,.slice none 0 0] 66)) [] [(.agg #[.slice a' n' c'],q),(.agg #[.slice a n c],p)] [(w.heap.size+1,.slice a' n' c'),(w.heap.size,.slice a n c)]):=by
  have:=((((MV w).rnat h).rnat k).box (.slice a n c) 64 _ rfl).box (.slice a' n' c') 64 _ rfl;simp only[World.size_alloc]at this;exact this.go (Ah (Aa _))
 have c2:(((w.alloc (.cells #[.slice a n c] 64)).alloc (.cells #[.slice a' n' c'] 64)).alloc (.cells #[.slice none 0 0,.slice none 0 0] 66)).cell? ⟨w.heap.size+1+1,0,none⟩=some (.slice none 0 0):=by simp[go_sem]
 have c3:(((w.alloc (.cells #[.slice a n c] 64)).alloc (.cells #[.slice a' n' c'] 64)).alloc (.cells #[.slice none 0 0,.slice none 0 0] 66)).cell? ⟨w.heap.size+1+1,1,none⟩=some (.slice none 0 0):=by simp[go_sem]
 have f2:(((w.alloc (.cells #[.slice a n c] 64)).alloc (.cells #[.slice a' n' c'] 64)).alloc (.cells #[.slice none 0 0,.slice none 0 0] 66)).frozen? ⟨w.heap.size+1+1,0,none⟩=false:=by simp[go_sem]
 have f3:(((w.alloc (.cells #[.slice a n c] 64)).alloc (.cells #[.slice a' n' c'] 64)).alloc (.cells #[.slice none 0 0,.slice none 0 0] 66)).frozen? ⟨w.heap.size+1+1,1,none⟩=false:=by simp[go_sem]
 clear h k hp hq hq0;go_enter Tryz.func99,Tryz.ntmps99
 go_wp2_with fail
 obtain⟨w0,hw0⟩:=nme (((w.alloc (.cells #[.slice a n c] 64)).alloc (.cells #[.slice a' n' c'] 64)).alloc (.cells #[.slice none 0 0,.slice none 0 0] 66));rw[←hw0]at S0 c2 c3 f2 f3⊢;clear hw0;refine(TT _ _ p q _ (S0.out.rat (.agg #[.slice a n c]) p) (S0.out.rat (.agg #[.slice a' n' c']) q) HH.out.1 HH.out.2.1).mono ?_;rintro e w1 ⟨v1,rfl,hv1,hb1⟩;obtain⟨a1,n1,k1,rfl⟩:=hv1.isAgg;obtain⟨g,eg⟩:=nme (Nat.gcd p q);rw[←eg]at hv1⊢;have HG:Hid (g≠0∧AM g):=by
  obtain⟨g1,g2,g3⟩:=OM (p:=p) HH.out.2.2;rw[←eg]at g1;exact⟨by omega,HH.out.2.1.le (eg▸Nat.gcd_le_right _ HH.out.2.2)⟩
 have S1:Hid _:=((S0.out.go hb1).rnat hv1).box (.slice a1 n1 k1) 64 _ rfl;have b1:Hid (Below w0.heap.size w0 (w1.alloc (.cells #[.slice a1 n1 k1] 64))):=Aj hb1 (Ah (Aa _));have EG:Hid (g=Nat.gcd p q):=eg;clear hv1 hb1 S0 eg;have d0:=S1.out.cell w.heap.size (.slice a n c);have d5:=S1.out.cell w1.heap.size (.slice a1 n1 k1);go_wp2_with fail
 obtain⟨w2,hw2⟩:=nme (w1.alloc (.cells #[.slice a1 n1 k1] 64));obtain⟨b5,hb5⟩:=nme w1.heap.size;rw[←hw2]at b1;rw[←hw2,←hb5]at S1;rw[←hw2,←hb5];clear hw2 hb5 d0 d5;refine(EE _ _ p g _ (S1.out.rat (.agg #[.slice a n c]) p) (S1.out.rat (.agg #[.slice a1 n1 k1]) g) HH.out.1 HG.out.2 HG.out.1).mono ?_;rintro e w3 ⟨v3,u3,rfl,hv3,hu3,hb3⟩;obtain⟨a3,n3,k3,rfl⟩:=hv3.isAgg;obtain⟨a4,n4,k4,rfl⟩:=hu3.isAgg;have S3:Hid _:=(((S1.out.go hb3).rnat hv3).box (.slice a3 n3 k3) 64 _ rfl).box (.slice a4 n4 k4) 64 _ rfl;have b3:Hid (Below w0.heap.size w0 ((w3.alloc (.cells #[.slice a3 n3 k3] 64)).alloc (.cells #[.slice a4 n4 k4] 64))):=Aj b1.out (Aj hb3 (Ah (Ah (Aa _))));clear hv3 hu3 hb3 S1 b1;simp only[World.size_alloc]at S3;have d1:=S3.out.cell (w.heap.size+1) (.slice a' n' c');have d5:=S3.out.cell b5 (.slice a1 n1 k1);go_wp2_with fail
 obtain⟨w4,hw4⟩:=nme ((w3.alloc (.cells #[.slice a3 n3 k3] 64)).alloc (.cells #[.slice a4 n4 k4] 64));obtain⟨b6,hb6⟩:=nme w3.heap.size;rw[←hw4]at b3;rw[←hw4,←hb6]at S3;rw[←hw4,←hb6];clear hw4 hb6 d1 d5;refine(EE _ _ q g _ (S3.out.rat (.agg #[.slice a' n' c']) q) (S3.out.rat (.agg #[.slice a1 n1 k1]) g) HH.out.2.1 HG.out.2 HG.out.1).mono ?_;rintro e w5 ⟨v5,u5,rfl,hv5,hu5,hb5⟩;obtain⟨a5,n5,k5,rfl⟩:=hv5.isAgg;obtain⟨a6,n6,k6,rfl⟩:=hu5.isAgg;have S5:Hid _:=(((S3.out.go hb5).rnat hv5).box (.slice a5 n5 k5) 64 _ rfl).box (.slice a6 n6 k6) 64 _ rfl;have b5':Hid (Below w0.heap.size w0 ((w5.alloc (.cells #[.slice a5 n5 k5] 64)).alloc (.cells #[.slice a6 n6 k6] 64))):=Aj b3.out (Aj hb5 (Ah (Ah (Aa _))));clear hv5 hu5 hb5 S3 b3;simp only[World.size_alloc]at S5;have d6:=S5.out.cell b6 (.slice a3 n3 k3);have d8:=S5.out.cell w5.heap.size (.slice a5 n5 k5);have x2:=cell_later b5'.out c2;have x3:=cell_later b5'.out c3;have y2:=(b5'.out.frozen (World.block_lt_of_cell? _ _ c2)).trans f2;have y3:=(b5'.out.frozen (World.block_lt_of_cell? _ _ c3)).trans f3;have Z:Hid _:=Be (v:=.slice a3 n3 k3) (u:=.slice a5 n5 k5) x2 x3 (V:=.agg #[.slice a3 n3 k3,.slice a5 n5 k5]) (p:=p/g) (q:=q/g) ⟨_,_,_,_,_,_,rfl,S5.out.rat (.agg #[.slice a3 n3 k3]) (p/g),S5.out.rat (.agg #[.slice a5 n5 k5]) (q/g)⟩ S5.out.bel (by omega);rw[EG.out]at Z;clear c2 c3 f2 f3 b5' S5;go_wp2_with fail
 exact bodyPost_ret (v:=.agg #[.slice a3 n3 k3,.slice a5 n5 k5]) (by simp[results,Tryz.results99,go_sem,x2,x3]) rfl ⟨_,rfl,Z.out.1,Z.out.2⟩
theorem CM(v u:Value)(p q:Nat)(w:World)(h:Ai w v p)(k:Ai w u q)(hp:AM p)(hq:AM q)(hq0:0<q):
  Calls Tryz.prog 59 #[v,u] w (Er w (p/Nat.gcd p q) (q/Nat.gcd p q) true):=by
 obtain⟨a,n,c,rfl⟩:=h.isAgg;obtain⟨a',n',c',rfl⟩:=k.isAgg;have HH:Hid (Ai w (.agg #[.slice a n c]) p∧Ai w (.agg #[.slice a' n' c']) q∧AM p∧AM q):=⟨h,k,hp,hq⟩;have ba:Hid (Below w.heap.size w (((w.alloc (.cells #[.slice a n c] 64)).alloc (.cells #[.slice a' n' c'] 64)).alloc (.cells #[.slice none 0 0,.slice none 0 0] 66))):=Ah (Ah (Ah (Aa w)));have h0:q≠0:=by omega
 clear h k hp hq;go_enter Tryz.func59,Tryz.ntmps59
 go_wp2_with fail
 refine(EW _ q _ (HH.out.2.1.mono ba.out) HH.out.2.2.2.fits).mono ?_;rintro e w1 ⟨rfl,hb1⟩;have c0:w1.cell? ⟨w.heap.size,0,none⟩=some (.slice a n c):=cell_later hb1 (by simp[go_sem]);have c1:w1.cell? ⟨w.heap.size+1,0,none⟩=some (.slice a' n' c'):=cell_later hb1 (by simp[go_sem]);have c2:w1.cell? ⟨w.heap.size+1+1,0,none⟩=some (.slice none 0 0):=cell_later hb1 (by simp[go_sem]);have c3:w1.cell? ⟨w.heap.size+1+1,1,none⟩=some (.slice none 0 0):=cell_later hb1 (by simp[go_sem]);have f2:w1.frozen? ⟨w.heap.size+1+1,0,none⟩=false:=(hb1.frozen (by simp)).trans (by simp[go_sem]);have f3:w1.frozen? ⟨w.heap.size+1+1,1,none⟩=false:=(hb1.frozen (by simp)).trans (by simp[go_sem]);have B1:Hid (Below w.heap.size w w1):=Aj ba.out hb1;clear hb1 ba;have t0:decide (q=0)=false:=decide_eq_false h0;go_wp2_with fail
 refine(RE _ _ p q _ (HH.out.1.mono B1.out) (HH.out.2.1.mono B1.out) HH.out.2.2.1 HH.out.2.2.2 hq0).mono ?_;rintro e w2 ⟨v2,rfl,hv2,hb2⟩;obtain⟨a6,n6,k6,a7,n7,k7,ev6,h6,h7⟩:=hv2;subst ev6;have z0:=cell_later hb2 c2;have z1:=cell_later hb2 c3;have u0:=(hb2.frozen (World.block_lt_of_cell? _ _ c2)).trans f2;have u1:=(hb2.frozen (World.block_lt_of_cell? _ _ c3)).trans f3;have Z:Hid _:=Be (w0:=w) (v:=.slice a6 n6 k6) (u:=.slice a7 n7 k7) z0 z1 (V:=.agg #[.slice a6 n6 k6,.slice a7 n7 k7]) ⟨_,_,_,_,_,_,rfl,h6,h7⟩ (Aj B1.out hb2) (by omega);clear h6 h7 hb2;go_wp2_with fail
 exact bodyPost_ret (v:=.tuple #[.agg #[.slice a6 n6 k6,.slice a7 n7 k7],.bool true]) (by simp[results,Tryz.results59,go_sem,z0,z1]) rfl ⟨_,rfl,Z.out.1,Z.out.2⟩
theorem PW(v u:Value)(p q r s:Nat)(w:World)(h:Rt w v p q)(k:Rt w u r s)(hp:RS p)(hq:RS q)(hr:RS r)(hs:RS s):
  Calls Tryz.prog 52 #[v,u] w fun e w'=>e=.returned (.int .i64 (AW (p*s) (r*q)))∧Below w.heap.size w w':=by
 obtain⟨a,n,c,a',n',c',e0,_,_⟩:=h.raw;subst e0;obtain⟨b,m,d,b',m',d',e1,_,_⟩:=k.raw;subst e1;have HH:Hid (Rt w (.agg #[.slice a n c,.slice a' n' c']) p q∧Rt w (.agg #[.slice b m d,.slice b' m' d']) r s∧RS p∧RS q∧RS r∧RS s):=⟨h,k,hp,hq,hr,hs⟩;have ba:Hid (Below w.heap.size w ((w.alloc (.cells #[.slice a n c,.slice a' n' c'] 105)).alloc (.cells #[.slice b m d,.slice b' m' d'] 105))):=Ah (Ah (Aa w));have HM:Hid (AE (p*s)∧AE (r*q)):=by
  refine⟨BV (n:=180) ?_ (by omega),BV (n:=180) ?_ (by omega)⟩
  ·rw[show 180=90+90 from rfl,FU];exact Nat.mul_lt_mul'' hp.lt hs.lt
  rw[show 180=90+90 from rfl,FU];exact Nat.mul_lt_mul'' hr.lt hq.lt
 clear h k hp hq hr hs;go_enter Tryz.func52,Tryz.ntmps52
 go_wp2_with fail
 refine(Hk _ p q _ (HH.out.1.mono ba.out) HH.out.2.2.2.1.fits).mono ?_;rintro e w1 ⟨v1,u1,rfl,hv1,hu1,hb1⟩;obtain⟨a1,n1,k1,rfl⟩:=hv1.isAgg;obtain⟨a2,n2,k2,rfl⟩:=hu1.isAgg;have c0:w1.cell? ⟨w.heap.size+1,0,none⟩=some (.slice b m d):=cell_later hb1 (by simp[go_sem]);have c1:w1.cell? ⟨w.heap.size+1,1,none⟩=some (.slice b' m' d'):=cell_later hb1 (by simp[go_sem]);have S1:Hid (SR w1 ((w1.alloc (.cells #[.slice a1 n1 k1] 103)).alloc (.cells #[.slice a2 n2 k2] 103)) [(.agg #[.slice a2 n2 k2],q),(.agg #[.slice a1 n1 k1],p)] [] [(w1.heap.size+1,.slice a2 n2 k2),(w1.heap.size,.slice a1 n1 k1)]):=by
  have:=((((MV w1).nat hv1).nat hu1).box (.slice a1 n1 k1) 103 _ rfl).box (.slice a2 n2 k2) 103 _ rfl;simp only[World.size_alloc]at this;exact this
 have x0:=cell_later S1.out.bel c0;have x1:=cell_later S1.out.bel c1;have B1:Hid (Below w.heap.size w w1):=Aj ba.out hb1;clear hv1 hu1 hb1 ba c0 c1;go_wp2_with fail
 obtain⟨w2,hw2⟩:=nme ((w1.alloc (.cells #[.slice a1 n1 k1] 103)).alloc (.cells #[.slice a2 n2 k2] 103));obtain⟨b1,hb1⟩:=nme w1.heap.size;rw[←hw2,←hb1]at S1;rw[←hw2,←hb1];clear hw2 hb1 x0 x1;refine(Hk _ r s _ (HH.out.2.1.mono (Aj B1.out S1.out.bel)) HH.out.2.2.2.2.2.fits).mono ?_;rintro e w3 ⟨v3,u3,rfl,hv3,hu3,hb3⟩;obtain⟨a3,n3,k3,rfl⟩:=hv3.isAgg;obtain⟨a4,n4,k4,rfl⟩:=hu3.isAgg;have S3:Hid _:=((((S1.out.go hb3).nat hv3).nat hu3).box (.slice a3 n3 k3) 103 _ rfl).box (.slice a4 n4 k4) 103 _ rfl;simp only[World.size_alloc]at S3;clear hv3 hu3 hb3 S1;go_wp2_with fail
 obtain⟨w4,hw4⟩:=nme ((w3.alloc (.cells #[.slice a3 n3 k3] 103)).alloc (.cells #[.slice a4 n4 k4] 103));obtain⟨b3,hb3⟩:=nme w3.heap.size;rw[←hw4,←hb3]at S3;rw[←hw4,←hb3];clear hw4 hb3;refine Bg (JB w4 [DJ (p),DJ (s),DJ (p*s),DJ (r),DJ (q),DJ (r*q),sEq (.int .i64 (AW (p*s) (r*q))),sEq (.int .i64 (AW (p*s) (r*q)))] []) 26 (by kernel_rfl) rfl (by kernel_rfl) (JB.start _ _ _) (fun HG HN=>⟨?_,?_,?_,?_,?_,?_,?_,?_,trivial⟩) ?_
 ·intro L vs a w' hJ hF hP hL;have q5:(a.tmps[5]?).getD undef=.pointer (some ⟨b1,0,none⟩):=hF.old 5 rfl;have cb:=cell_later hJ.bel (S3.out.cell (b1) (.slice a1 n1 k1));exact Av (v:=.agg #[.slice a1 n1 k1]) rfl (by simp[execOp,go_sem,q5,cb]) ⟨_,rfl,hJ.step hL rfl (Below.refl _ _) (by exact((S3.out.at (.agg #[.slice a1 n1 k1]) (p)).mono hJ.bel))⟩
 ·intro L vs a w' hJ hF hP hL;have q8:(a.tmps[8]?).getD undef=.pointer (some ⟨b3+1,0,none⟩):=hF.old 8 rfl;have cb:=cell_later hJ.bel (S3.out.cell (b3+1) (.slice a4 n4 k4));exact Av (v:=.agg #[.slice a4 n4 k4]) rfl (by simp[execOp,go_sem,q8,cb]) ⟨_,rfl,hJ.step hL rfl (Below.refl _ _) (by exact((S3.out.at (.agg #[.slice a4 n4 k4]) (s)).mono hJ.bel))⟩
 ·intro L vs a w' hJ hF hP hL;have p0:L 0=true:=hP ⟨0,.data⟩ (by simp) rfl;have s0:Ac w' (vs 0) (p):=hJ.sp 0 p0;have q19:=hF.slot 0 19 rfl p0;have p1:L 1=true:=hP ⟨1,.data⟩ (by simp) rfl;have s1:Ac w' (vs 1) (s):=hJ.sp 1 p1;have q20:=hF.slot 1 20 rfl p1;refine AO (f:=96) (args:= #[vs 0,vs 1]) rfl (by simp[go_sem,q19,q20]) (DO _ _ p s _ s0 s1 HH.out.2.2.1.fits HH.out.2.2.2.2.2.fits (.inl HH.out.2.2.1.p99)) ?_;rintro e w2 ⟨v,rfl,hv,hb⟩;exact⟨_,rfl,_,rfl,hJ.step hL rfl hb (by exact hv)⟩
 ·intro L vs a w' hJ hF hP hL;have q7:(a.tmps[7]?).getD undef=.pointer (some ⟨b3,0,none⟩):=hF.old 7 rfl;have cb:=cell_later hJ.bel (S3.out.cell (b3) (.slice a3 n3 k3));exact Av (v:=.agg #[.slice a3 n3 k3]) rfl (by simp[execOp,go_sem,q7,cb]) ⟨_,rfl,hJ.step hL rfl (Below.refl _ _) (by exact((S3.out.at (.agg #[.slice a3 n3 k3]) (r)).mono hJ.bel))⟩
 ·intro L vs a w' hJ hF hP hL;have q6:(a.tmps[6]?).getD undef=.pointer (some ⟨b1+1,0,none⟩):=hF.old 6 rfl;have cb:=cell_later hJ.bel (S3.out.cell (b1+1) (.slice a2 n2 k2));exact Av (v:=.agg #[.slice a2 n2 k2]) rfl (by simp[execOp,go_sem,q6,cb]) ⟨_,rfl,hJ.step hL rfl (Below.refl _ _) (by exact((S3.out.at (.agg #[.slice a2 n2 k2]) (q)).mono hJ.bel))⟩
 ·intro L vs a w' hJ hF hP hL;have p3:L 3=true:=hP ⟨3,.data⟩ (by simp) rfl;have s3:Ac w' (vs 3) (r):=hJ.sp 3 p3;have q22:=hF.slot 3 22 rfl p3;have p4:L 4=true:=hP ⟨4,.data⟩ (by simp) rfl;have s4:Ac w' (vs 4) (q):=hJ.sp 4 p4;have q23:=hF.slot 4 23 rfl p4;refine AO (f:=96) (args:= #[vs 3,vs 4]) rfl (by simp[go_sem,q22,q23]) (DO _ _ r q _ s3 s4 HH.out.2.2.2.2.1.fits HH.out.2.2.2.1.fits (.inl HH.out.2.2.2.2.1.p99)) ?_;rintro e w2 ⟨v,rfl,hv,hb⟩;exact⟨_,rfl,_,rfl,hJ.step hL rfl hb (by exact hv)⟩
 ·intro L vs a w' hJ hF hP hL;have p2:L 2=true:=hP ⟨2,.data⟩ (by simp) rfl;have s2:Ac w' (vs 2) (p*s):=hJ.sp 2 p2;have q21:=hF.slot 2 21 rfl p2;have p5:L 5=true:=hP ⟨5,.data⟩ (by simp) rfl;have s5:Ac w' (vs 5) (r*q):=hJ.sp 5 p5;have q24:=hF.slot 5 24 rfl p5;refine AO (f:=91) (args:= #[vs 2,vs 5]) rfl (by simp[go_sem,q21,q24]) (Fw _ _ (p*s) (r*q) _ s2 s5 HM.out.1 HM.out.2) ?_;rintro e w2 ⟨rfl,hb⟩;exact⟨_,rfl,_,rfl,hJ.step hL rfl hb (by exact rfl)⟩
 ·intro L vs a w' hJ hF hP hL;have p6:L 6=true:=hP ⟨6,.data⟩ (by simp) rfl;have s6:vs 6=.int .i64 (AW (p*s) (r*q)):=hJ.sp 6 p6;have q25:=hF.slot 6 25 rfl p6;exact Av (v:=.int .i64 (AW (p*s) (r*q))) rfl (by simp[execOp,go_sem,q25,s6]) ⟨_,rfl,hJ.step hL rfl (Below.refl _ _) (by exact rfl)⟩
 intro L vs w' hA hJ;have s7:vs 7=.int .i64 (AW (p*s) (r*q)):=hJ.sp 7 (hA 7 (by simp));simp only[DU,Act.put,List.setIfInBounds_toArray,List.set_cons_zero,List.set_cons_succ,Nat.reduceAdd];simp only[s7];go_wp2_with fail
 go_ret
 exact⟨rfl,Aj B1.out (S3.out.go hJ.bel).bel⟩
theorem RS.mul{x y:Nat}(h:RS x)(k:RS y):x*y<P 180:=by
 rw[show 180=90+90 from rfl,FU];exact Nat.mul_lt_mul'' h.lt k.lt
structure SX (w0 w:World) (N M:List (Value×Nat)) (F G:List (Value×Nat×Nat)) (C:List (Nat×Nat×Value)):Prop where
 nats: ∀p∈N,Ac w p.1 p.2
 rnats: ∀p∈M,Ai w p.1 p.2
 frs: ∀p∈F,Rt w p.1 p.2.1 p.2.2
 rfrs: ∀p∈G,RRt w p.1 p.2.1 p.2.2
 cells: ∀p∈C,w.cell? ⟨p.1,p.2.1,none⟩=some p.2.2
 bel:Below w0.heap.size w0 w
theorem SX.go{w0 w:World}{N M:List (Value×Nat)}{F G:List (Value×Nat×Nat)}{C:List (Nat×Nat×Value)}(h:SX w0 w N M F G C){w':World}(hb:Below w.heap.size w w'):SX w0 w' N M F G C:=
 ⟨fun p hp=>(h.nats p hp).mono hb,fun p hp=>(h.rnats p hp).mono hb,fun p hp=>(h.frs p hp).mono hb,fun p hp=>(h.rfrs p hp).mono hb,fun p hp=>cell_later hb (h.cells p hp),Aj h.bel hb⟩
theorem SX.at{w0 w:World}{N M:List (Value×Nat)}{F G:List (Value×Nat×Nat)}{C:List (Nat×Nat×Value)}(h:SX w0 w N M F G C)(v:Value)(x:Nat)(hm:(v,x)∈N:=by simp):Ac w v x:=h.nats _ hm
theorem SX.rat{w0 w:World}{N M:List (Value×Nat)}{F G:List (Value×Nat×Nat)}{C:List (Nat×Nat×Value)}(h:SX w0 w N M F G C)(v:Value)(x:Nat)(hm:(v,x)∈M:=by simp):Ai w v x:=h.rnats _ hm
theorem SX.cel{w0 w:World}{N M:List (Value×Nat)}{F G:List (Value×Nat×Nat)}{C:List (Nat×Nat×Value)}(h:SX w0 w N M F G C)(b i:Nat)(u:Value)(hm:(b,i,u)∈C:=by simp):w.cell? ⟨b,i,none⟩=some u:=h.cells _ hm
theorem SX.addN{w0 w:World}{N M:List (Value×Nat)}{F G:List (Value×Nat×Nat)}{C:List (Nat×Nat×Value)}(h:SX w0 w N M F G C){v:Value}{x:Nat}(hv:Ac w v x):SX w0 w ((v,x)::N) M F G C:=
 ⟨fun p hp=>by
  rcases List.mem_cons.1 hp with e|e
  ·subst e;exact hv
  exact h.nats p e,h.rnats,h.frs,h.rfrs,h.cells,h.bel⟩
theorem SX.addM{w0 w:World}{N M:List (Value×Nat)}{F G:List (Value×Nat×Nat)}{C:List (Nat×Nat×Value)}(h:SX w0 w N M F G C){v:Value}{x:Nat}(hv:Ai w v x):SX w0 w N ((v,x)::M) F G C:=
 ⟨h.nats,fun p hp=>by
  rcases List.mem_cons.1 hp with e|e
  ·subst e;exact hv
  exact h.rnats p e,h.frs,h.rfrs,h.cells,h.bel⟩
theorem SX.addF{w0 w:World}{N M:List (Value×Nat)}{F G:List (Value×Nat×Nat)}{C:List (Nat×Nat×Value)}(h:SX w0 w N M F G C){v:Value}{x y:Nat}(hv:Rt w v x y):SX w0 w N M ((v,x,y)::F) G C:=
 ⟨h.nats,h.rnats,fun p hp=>by
  rcases List.mem_cons.1 hp with e|e
  ·subst e;exact hv
  exact h.frs p e,h.rfrs,h.cells,h.bel⟩
theorem SX.addG{w0 w:World}{N M:List (Value×Nat)}{F G:List (Value×Nat×Nat)}{C:List (Nat×Nat×Value)}(h:SX w0 w N M F G C){v:Value}{x y:Nat}(hv:RRt w v x y):SX w0 w N M F ((v,x,y)::G) C:=
 ⟨h.nats,h.rnats,h.frs,fun p hp=>by
  rcases List.mem_cons.1 hp with e|e
  ·subst e;exact hv
  exact h.rfrs p e,h.cells,h.bel⟩
theorem SX.addC{w0 w:World}{N M:List (Value×Nat)}{F G:List (Value×Nat×Nat)}{C:List (Nat×Nat×Value)}(h:SX w0 w N M F G C){b i:Nat}{v:Value}(hv:w.cell? ⟨b,i,none⟩=some v):SX w0 w N M F G ((b,i,v)::C):=
 ⟨h.nats,h.rnats,h.frs,h.rfrs,fun p hp=>by
  rcases List.mem_cons.1 hp with e|e
  ·subst e;exact hv
  exact h.cells p e,h.bel⟩
theorem SX.box1{w0 w:World}{N M:List (Value×Nat)}{F G:List (Value×Nat×Nat)}{C:List (Nat×Nat×Value)}(h:SX w0 w N M F G C)(u:Value)(t:TypeId)(g:Nat)(hg:g=w.heap.size):SX w0 (w.alloc (.cells #[u] t)) N M F G ((g,0,u)::C):=by
 subst hg;exact(h.go (w':=w.alloc (.cells #[u] t)) (Ah (Below.refl _ _))).addC (by simp)
theorem SX.box{w0 w:World}{N M:List (Value×Nat)}{F G:List (Value×Nat×Nat)}{C:List (Nat×Nat×Value)}(h:SX w0 w N M F G C)(u u':Value)(t:TypeId)(g:Nat)(hg:g=w.heap.size):SX w0 (w.alloc (.cells #[u,u'] t)) N M F G ((g,0,u)::(g,1,u')::C):=by
 subst hg;have h':=h.go (w':=w.alloc (.cells #[u,u'] t)) (Ah (Below.refl _ _));exact(h'.addC (b:=w.heap.size) (i:=1) (v:=u') (by simp)).addC (by simp)
theorem SX.set{w0 w:World}{N M:List (Value×Nat)}{F G:List (Value×Nat×Nat)}{C:List (Nat×Nat×Value)}(h:SX w0 w N M F G C){b i:Nat}{a:Option Addr}{n c:Nat}(hc:w.cell? ⟨b,i,none⟩=some (.slice a n c))(hlo:w0.heap.size≤b)(C':List (Nat×Nat×Value))(hC: ∀p∈C',p∈C∧p.1≠b)(u:Value):SX w0 (w.setCell ⟨b,i,none⟩ u) N M F G C':=
 ⟨fun p hp=>(h.nats p hp).setCell (Ad hc) u,fun p hp=>(h.rnats p hp).setCell (Ad hc) u,fun p hp=>(h.frs p hp).setCell (Ad hc) u,fun p hp=>(h.rfrs p hp).setCell (Ad hc) u,
  fun p hp=>by
   rw[World.cell?_setCell_far _ _ _ _ (by simpa using Ne.symm (hC p hp).2)];exact h.cells p (hC p hp).1,
  h.bel.setCell (p:=⟨b,i,none⟩) hlo u⟩
theorem GU(w:World):SX w w [] [] [] [] []:=⟨(fun _ h=>by cases h),(fun _ h=>by cases h),(fun _ h=>by cases h),(fun _ h=>by cases h),(fun _ h=>by cases h),Below.refl _ _⟩
structure JD (w0:World) (specs:List Spec) (needs:List (List Nat)) (st val:Nat) (oth:List Nat) (Sto:World→Value→World→Prop) (L:Nat→Bool) (vs:Nat→Value) (w:World):Prop where
 core:L st=false→JB w0 specs [] L vs w
 cl: ∀j,L j=true→ ∀k∈needs.getD j [],L k=true
 fin:L st=true→(∀j∈oth,L j=true)∧ ∃w1,Below w0.heap.size w0 w1∧(specs.getD val sAny).1 w1 (vs val)∧Sto w1 (vs val) w
theorem JD.start(w:World)(specs:List Spec)(needs:List (List Nat))(st val:Nat)(oth:List Nat)(Sto:World→Value→World→Prop):JD w specs needs st val oth Sto (fun _=>false) (fun _=>undef) w.drew:=
 ⟨fun _=>JB.start _ _ _,(fun _ h=>by cases h),(fun h=>by cases h)⟩
theorem Ay{L:Nat→Bool}: ∀k∈([]:List Nat),L k=true:=fun _ h=>by cases h
theorem Ak{L:Nat→Bool}{a:Nat}{l:List Nat}(h:L a=true)(k: ∀j∈l,L j=true): ∀j∈a::l,L j=true:=fun j hj=>by
 rcases List.mem_cons.1 hj with e|e
 ·rw[e];exact h
 exact k j e
theorem JD.open{w0:World}{specs:List Spec}{needs:List (List Nat)}{st val:Nat}{oth:List Nat}{Sto:World→Value→World→Prop}{L:Nat→Bool}{vs:Nat→Value}{w:World}(h:JD w0 specs needs st val oth Sto L vs w){i:Nat}(hL:L i=false)(hi:i∈oth):JB w0 specs [] L vs w:=
 h.core (by
  cases e:L st
  ·rfl
  have:=(h.fin e).1 i hi;rw[hL]at this;cases this)
theorem JD.step{w0:World}{specs:List Spec}{needs:List (List Nat)}{st val:Nat}{oth:List Nat}{Sto:World→Value→World→Prop}{L:Nat→Bool}{vs:Nat→Value}{w:World}(h:JD w0 specs needs st val oth Sto L vs w){i:Nat}(hL:L i=false)(hi:i∈oth)(hne:i≠st){nd:List Nat}(he:needs.getD i []=nd)(hn: ∀k∈nd,L k=true){v:Value}{w':World}(k:JB w0 specs [] (AK L i) (Cu vs i v) w'):JD w0 specs needs st val oth Sto (AK L i) (Cu vs i v) w':=by
 refine⟨fun _=>k,fun j hj m hm=> ?_,fun hs=> ?_⟩
 ·by_cases e:j=i
  ·subst e;rw[he]at hm;have:=hn m hm;unfold AK;split<;>simp_all
  have:=h.cl j (by simpa[AK,e]using hj) m hm;unfold AK;split<;>simp_all
 have hs':L st=true:=by simpa[AK,hne.symm]using hs
 have:=(h.fin hs').1 i hi;rw[hL]at this;cases this
theorem JD.put{w0:World}{specs:List Spec}{needs:List (List Nat)}{st val:Nat}{oth:List Nat}{Sto:World→Value→World→Prop}{L:Nat→Bool}{vs:Nat→Value}{w:World}(h:JD w0 specs needs st val oth Sto L vs w)(hL:L st=false)(hv:val≠st){nd:List Nat}(he:needs.getD st []=nd)(hn: ∀k∈nd,L k=true)(ho: ∀j∈oth,L j=true)(hV:L val=true){w':World}(hs:Sto w (vs val) w'):JD w0 specs needs st val oth Sto (AK L st) (Cu vs st undef) w':=by
 have J:=h.core hL;refine⟨fun e=> ?_,fun j hj m hm=> ?_,fun _=>⟨fun j hj=> ?_,w,J.bel,?_,?_⟩⟩
 ·simp[AK]at e
 ·by_cases e:j=st
  ·subst e;rw[he]at hm;have:=hn m hm;unfold AK;split<;>simp_all
  have:=h.cl j (by simpa[AK,e]using hj) m hm;unfold AK;split<;>simp_all
 ·have:=ho j hj;unfold AK;split<;>simp_all
 ·have:Cu vs st undef val=vs val:=by simp[Cu,hv]
  rw[this];exact J.sp val hV
 have:Cu vs st undef val=vs val:=by simp[Cu,hv]
 rw[this];exact hs
end Go.Proofs.YtbikpmmpgbggaaaGreatDoor
