/- Contracts of the program's functions, part 7: own work, joined in build order. -/
import Derived.Test.YtbikpmmpgbggaaaGreatDoorJ6
import Derived.Deep.Cut
import Derived.Laws.BytesArg
namespace Go.Proofs.YtbikpmmpgbggaaaGreatDoor
open Go.RowKit
set_option maxRecDepth 100000
set_option linter.unusedVariables false
set_option maxHeartbeats 16000000
structure Gd (w wr:World) (g:Nat) (X Y:Value) (p q:Nat):Prop where
 bx:wr.rowIs w.heap.size 103 1 (fun _=>X)
 hy:wr.rowIs (w.heap.size+1) 103 1 (fun _=>Y)
 br:wr.rowIs (w.heap.size+1+1) 103 1 (fun _=>.slice none 0 0)
 nx:Ac wr (.agg #[X]) p
 ny:Ac wr (.agg #[Y]) q
 le:q≤p
 hx:p<P 198
 gcd:Nat.gcd p q=g
 tab:Tab wr
 bel:Below w.heap.size w wr
theorem Gd.go{w wr wr':World}{g:Nat}{X Y:Value}{p q:Nat}(h:Gd w wr g X Y p q)(hb:Below wr.heap.size wr wr'):Gd w wr' g X Y p q:=
 ⟨h.bx.of_block (hb.block _ h.bx.lt),h.hy.of_block (hb.block _ h.hy.lt),h.br.of_block (hb.block _ h.br.lt),h.nx.mono hb,h.ny.mono hb,h.le,h.hx,h.gcd,h.tab.go hb,Aj h.bel hb⟩
theorem Vk{w wr:World}{x y:Nat}{ax:Option Addr}{nx cx:Nat}{ay:Option Addr}{ny cy:Nat}(b0:wr.rowIs w.heap.size 103 1 (fun _=>.slice ax nx cx))(b1:wr.rowIs (w.heap.size+1) 103 1 (fun _=>.slice ay ny cy))(b2:wr.rowIs (w.heap.size+1+1) 103 1 (fun _=>.slice none 0 0))(hx:Ac wr (.agg #[.slice ax nx cx]) x)(hy:Ac wr (.agg #[.slice ay ny cy]) y)(le:x≤y)(hP:y<P 198)(tab:Tab wr)(bel:Below w.heap.size w wr):
  Gd w ((wr.setCell ⟨w.heap.size,0,none⟩ (.slice ay ny cy)).setCell ⟨w.heap.size+1,0,none⟩ (.slice ax nx cx)) (Nat.gcd x y) (.slice ay ny cy) (.slice ax nx cx) y x:=by
 have cx':=b0.cell (i:=0) (by omega);have cy':=b1.cell (i:=0) (by omega);have n1: ∀kk q,(wr.setCell ⟨w.heap.size,0,none⟩ (.slice ay ny cy)).cell? ⟨w.heap.size+1,0,none⟩≠some (.int kk q):=by
  rw[World.cell?_setCell_far _ _ _ _ (by simp)];exact Ad cy'
 refine⟨?_,?_,?_,(hy.setCell (Ad cx') _).setCell n1 _,(hx.setCell (Ad cx') _).setCell n1 _,le,hP,Nat.gcd_comm _ _,?_,(bel.setCell (by simp) _).setCell (by simp) _⟩
 ·exact((b0.set 0 (.slice ay ny cy)).setOther (a:=⟨w.heap.size+1,0,none⟩) (by simp) _).congr (fun i hi=>by rw[show i=0 by omega,if_pos rfl])
 ·exact(((b1.setOther (a:=⟨w.heap.size,0,none⟩) (by simp) _)).set 0 (.slice ax nx cx)).congr (fun i hi=>by rw[show i=0 by omega,if_pos rfl])
 ·exact(b2.setOther (a:=⟨w.heap.size,0,none⟩) (by simp<;>omega) _).setOther (a:=⟨w.heap.size+1,0,none⟩) (by simp<;>omega) _
 intro j hj;have hc:=tab j hj;have e1:(⟨w.heap.size,0,none⟩:Addr)≠⟨7,j,none⟩:=fun e=>by rw[←e,cx']at hc;cases hc
 have e2:(⟨w.heap.size+1,0,none⟩:Addr)≠⟨7,j,none⟩:=fun e=>by rw[←e,cy']at hc;cases hc
 exact(World.cell?_setCell_other (h:=e2) ..).trans ((World.cell?_setCell_other (h:=e1) ..).trans hc)
theorem Rh{t q n:Nat}(h:2^t∣q)(h0:q≠0)(hq:q<P n):t<64*n:=by
 have h1:=Nat.le_of_dvd (Nat.pos_of_ne_zero h0) h;rw[DQ]at hq;exact(Nat.pow_lt_pow_iff_right (show 1<2 by decide)).1 (Nat.lt_of_le_of_lt h1 hq)
theorem CP{x:Nat}(hx:x<P 198):Small x:=⟨Nat.lt_of_lt_of_le hx (Dt (show 198≤lim2 by decide))⟩
theorem Vm(v u:Value)(x y:Nat)(w:World)(h:Ac w v x)(k:Ac w u y)(hx:x<P 198)(hy:y<P 198)(hT:Tab w):
  Calls Tryz.prog 122 #[v,u] w (Dk w (Nat.gcd x y)):=by
 obtain⟨ax,nx,cx,rfl⟩:=h.isAgg;obtain⟨ay,ny,cy,rfl⟩:=k.isAgg;have HH:Hid (Ac w (.agg #[.slice ax nx cx]) x∧Ac w (.agg #[.slice ay ny cy]) y∧x<P 198∧y<P 198∧Tab w):=⟨h,k,hx,hy,hT⟩;clear h k hx hy hT;have HB:Hid (Below w.heap.size w (((w.alloc (.cells #[.slice ax nx cx] 103)).alloc (.cells #[.slice ay ny cy] 103)).alloc (.cells #[.slice none 0 0] 103))):=(Ao _ _ _).alloc (by simp<;>omega) _;have r1:=((World.rowIs_alloc w #[.slice ax nx cx] 103 (fun _=>.slice ax nx cx) (fun i hi=>by rw[show i=0 by simpa using hi];rfl)).alloc (.cells #[.slice ay ny cy] 103)).alloc (.cells #[.slice none 0 0] 103);have r2:=(World.rowIs_alloc (w.alloc (.cells #[.slice ax nx cx] 103)) #[.slice ay ny cy] 103 (fun _=>.slice ay ny cy) (fun i hi=>by rw[show i=0 by simpa using hi];rfl)).alloc (.cells #[.slice none 0 0] 103);have r3:=World.rowIs_alloc ((w.alloc (.cells #[.slice ax nx cx] 103)).alloc (.cells #[.slice ay ny cy] 103)) #[.slice none 0 0] 103 (fun _=>.slice none 0 0) (fun i hi=>by rw[show i=0 by simpa using hi];rfl);have RR:Hid ((((w.alloc (.cells #[.slice ax nx cx] 103)).alloc (.cells #[.slice ay ny cy] 103)).alloc (.cells #[.slice none 0 0] 103)).rowIs w.heap.size 103 1 (fun _=>.slice ax nx cx)∧(((w.alloc (.cells #[.slice ax nx cx] 103)).alloc (.cells #[.slice ay ny cy] 103)).alloc (.cells #[.slice none 0 0] 103)).rowIs (w.heap.size+1) 103 1 (fun _=>.slice ay ny cy)∧(((w.alloc (.cells #[.slice ax nx cx] 103)).alloc (.cells #[.slice ay ny cy] 103)).alloc (.cells #[.slice none 0 0] 103)).rowIs (w.heap.size+1+1) 103 1 (fun _=>.slice none 0 0)):=⟨r1,by simpa using r2,by simpa using r3⟩;clear r1 r2 r3;go_enter Tryz.func122,Tryz.ntmps122
 go_wp2_with fail
 refine(Fw _ _ x y _ (HH.out.1.mono HB.out) (HH.out.2.1.mono HB.out) (CP HH.out.2.2.1).fits (CP HH.out.2.2.2.1).fits).mono ?_;rintro e w1 ⟨rfl,hb1⟩;have R1:Hid (w1.rowIs w.heap.size 103 1 (fun _=>.slice ax nx cx)∧w1.rowIs (w.heap.size+1) 103 1 (fun _=>.slice ay ny cy)∧w1.rowIs (w.heap.size+1+1) 103 1 (fun _=>.slice none 0 0)):=⟨RR.out.1.of_block (hb1.block _ RR.out.1.lt),RR.out.2.1.of_block (hb1.block _ RR.out.2.1.lt),RR.out.2.2.of_block (hb1.block _ RR.out.2.2.lt)⟩;have B1:Hid (Below w.heap.size w w1):=Aj HB.out hb1;have N1:Hid (Ac w1 (.agg #[.slice ax nx cx]) x∧Ac w1 (.agg #[.slice ay ny cy]) y∧Tab w1):=⟨HH.out.1.mono B1.out,HH.out.2.1.mono B1.out,HH.out.2.2.2.2.go B1.out⟩;clear hb1 HB RR;go_upto_if 9 with(fail)
 go_cut [9] from 6 (fun s9 wc=> ∃ap np cp aq nq cq p q,Hid (Gd w wc (Nat.gcd x y) (.slice ap np cp) (.slice aq nq cq) p q))
 case first=>
  have c0:=R1.out.1.cell (i:=0) (by omega);have c1:=R1.out.2.1.cell (i:=0) (by omega);have f0:=R1.out.1.frozen 0;have f1:=R1.out.2.1.frozen 0;clear f0 f1;have f0:=R1.out.1.frozen 0;have f1:=R1.out.2.1.frozen 0;go_wp2_with fail
  all_goals first
   | (have hc:AW x y<0:=by assumption
      go_meet
      have hlt:x<y:=by
       rcases Nat.lt_or_ge x y with h|h
       ·exact h
       exact absurd hc (by unfold AW;split<;>(try split)<;>omega)
      refine⟨ay,ny,cy,ax,nx,cx,y,x,Vk R1.out.1 R1.out.2.1 R1.out.2.2 N1.out.1 N1.out.2.1 (Nat.le_of_lt hlt) HH.out.2.2.2.1 N1.out.2.2 B1.out⟩)
   | (have hc:0≤AW x y:=by omega
      go_meet
      have hge:y≤x:=by
       rcases Nat.lt_or_ge x y with h|h
       ·rw[Ew h]at hc;omega
       exact h
      refine⟨ax,nx,cx,ay,ny,cy,x,y,⟨R1.out.1,R1.out.2.1,R1.out.2.2,N1.out.1,N1.out.2.1,hge,HH.out.2.2.1,rfl,N1.out.2.2,B1.out⟩⟩)
 case rest=>
  clear R1 B1 N1 HH;obtain⟨ap,np,cp,aq,nq,cq,p,q,hG⟩:=hcut;have c0:=hG.out.bx.cell (i:=0) (by omega);have c1:=hG.out.hy.cell (i:=0) (by omega);have c2:=hG.out.br.cell (i:=0) (by omega);have f2:=hG.out.br.frozen 0;have SP:Hid (Small p∧Small q):=⟨CP hG.out.hx,(CP hG.out.hx).le hG.out.le⟩;obtain⟨G,ks,k0,k1,kv⟩:=id hG.out.ny.fits;obtain⟨F,hs,h0,h1,hvv⟩:=id hG.out.nx.fits;have hn:np≤4294967296:=Bb (hvv.symm▸SP.out.1.fits) h1;have hm:nq≤4294967296:=Bb (kv.symm▸SP.out.2.fits) k1;by_cases hq0:nq=0
  ·subst hq0;have hz:q=0:=JG hG.out.ny rfl;have HG:Hid (Nat.gcd x y=p):=by
    show _=_;rw[←hG.out.gcd,hz,Nat.gcd_zero_right]
   clear hz ks k0 k1 kv hs h0 h1 hvv;go_wp2_with fail
   refine bodyPost_ret (v:=.agg #[.slice ap np cp]) (by simp[results,Tryz.results122,go_sem,c2]) rfl ⟨_,rfl,?_,hG.out.bel.setCell (by simp<;>omega) _⟩;rw[HG.out];exact hG.out.nx.setCell (Ad c2) _
  have hqi:((nq:Int)==0)=false:=by simp;omega
  have HF:Hid (Sl wc ap np cp F∧V F np=p∧Sl wc aq nq cq G∧V G nq=q):=⟨hs,hvv,ks,kv⟩;have hl0:=hG.out.bx.lt;have hl1:=hG.out.hy.lt;have hl2:=hG.out.br.lt;clear ks k0 k1 kv hs h0 h1 hvv;go_wp2_with fail
  have BA:Hid (Below wc.heap.size wc (wc.alloc (.cells #[.slice ap np cp,.slice aq nq cq] 62))):=(Below.refl _ _).alloc (Nat.le_refl _) _;have GA:Hid _:=hG.out.go BA.out;refine(Lc wc.heap.size ap np cp F aq nq cq G _ (HF.out.1.mono BA.out) (HF.out.2.2.1.mono BA.out) hn hm GA.out.tab (by simp[go_sem]) (by simp[go_sem])).mono ?_;rintro e w' ⟨⟨t,rfl,ht,d1,d2⟩,hw'⟩;rw[hw'];clear hw' w';rw[HF.out.2.1]at d1;rw[HF.out.2.2.2]at d2;have DV:Hid (2^t∣p∧2^t∣q):=⟨d1,d2⟩;obtain⟨wd,hwd⟩:=nme (wc.alloc (.cells #[.slice ap np cp,.slice aq nq cq] 62));rw[←hwd]at GA⊢;clear hwd BA HF d1 d2 c0 c1 c2 f2 hl0 hl1 hl2 hG;have c0:=GA.out.bx.cell (i:=0) (by omega);have c1:=GA.out.hy.cell (i:=0) (by omega);have ht2:t≤12672:=by
   have hq1:q≠0:=fun e=>hq0 ((DA GA.out.ny).2 e);have h2:=Rh DV.out.2 hq1 (Nat.lt_of_le_of_lt GA.out.le GA.out.hx);omega
  have BD:Hid (p/2^t<P 198∧q/2^t≤p/2^t∧AE (Nat.gcd (p/2^t) (q/2^t))∧t≤68719476736):=by
   have h1:q/2^t≤p/2^t:=Nat.div_le_div_right GA.out.le;have h2:p/2^t<P 198:=Nat.lt_of_le_of_lt (Nat.div_le_self _ _) GA.out.hx;refine⟨h2,h1,(CP (x:=Nat.gcd (p/2^t) (q/2^t)) ?_).fits,by omega⟩;rcases Nat.eq_zero_or_pos (q/2^t)with e|e
   ·rw[e,Nat.gcd_zero_right];exact h2
   exact Nat.lt_of_le_of_lt (Nat.gcd_le_right _ e) (Nat.lt_of_le_of_lt h1 h2)
  clear ht ht2 hq0;have ht3:(t:Int)≤68719476736:=by have:=BD.out.2.2.2;omega
  go_wp2_with fail
  go_region_held3 (fun w'=>w'.cell? ⟨w.heap.size,0,none⟩=some (.slice ap np cp)∧w'.cell? ⟨w.heap.size+1,0,none⟩=some (.slice aq nq cq)) (simp[go_sem, *])
   (first
    | (go_at_call 149;have zz:=c0;clear zz;refine Calls.mono (IY _ p (t:Int) _ (GA.out.nx.mono (AV (Below.refl _ _))) SP.out.1.fits (by omega) (by omega)) ?_;rintro e w1 ⟨v1,rfl,hv1,hb1⟩;rw[Int.toNat_natCast]at hv1;have G1:Hid _:=GA.out.go (Bf hb1);have X1:Hid _:=hv1;clear hv1 c0 c1;have d0:=G1.out.bx.cell (i:=0) (by omega);have d1:=G1.out.hy.cell (i:=0) (by omega);clear hb1)
    | (go_at_call 149;have zz:=d0;clear zz;refine Calls.mono (IY _ q (t:Int) _ G1.out.ny SP.out.2.fits (by omega) (by omega)) ?_;rintro e w2 ⟨v2,rfl,hv2,hb2⟩;rw[Int.toNat_natCast]at hv2;have G2:Hid _:=G1.out.go hb2;have X2:Hid _:=hv2;have Y1:Hid (Ac w2 v1 (p/2^t)):=Ac.mono X1.out hb2;clear hv2 d0 d1;have e0:=G2.out.bx.cell (i:=0) (by omega);have e1:=G2.out.hy.cell (i:=0) (by omega);clear hb2)
    | (go_at_call 156;have zz:=e0;clear zz;refine Calls.mono (NW _ _ (p/2^t) (q/2^t) _ Y1.out X2.out BD.out.1 BD.out.2.1) ?_;rintro e w3 ⟨v3,rfl,hv3,hb3⟩;have G3:Hid _:=G2.out.go hb3;have X3:Hid _:=hv3;clear hv3 e0 e1;have i0:=G3.out.bx.cell (i:=0) (by omega);have i1:=G3.out.hy.cell (i:=0) (by omega);clear hb3)
    | (go_at_call 150;have zz:=i0;clear zz;refine Calls.mono (Kh _ (Nat.gcd (p/2^t) (q/2^t)) t _ X3.out BD.out.2.2.1 BD.out.2.2.2) ?_;rintro e w4 ⟨v4,rfl,hv4,hb4⟩;obtain⟨a4,n4,c4,rfl⟩:=hv4.isAgg;have G4:Hid _:=G3.out.go hb4;have X4:Hid (Ac w4 (.agg #[.slice a4 n4 c4]) (Nat.gcd (p/2^t) (q/2^t)*2^t)):=hv4;clear hv4 i0 i1;have j0:=G4.out.bx.cell (i:=0) (by omega);have j1:=G4.out.hy.cell (i:=0) (by omega);have j2:=G4.out.br.cell (i:=0) (by omega);have g2:=G4.out.br.frozen 0;clear hb4))
  go_wp2_with fail
  have HG:Hid (Nat.gcd x y=Nat.gcd (p/2^t) (q/2^t)*2^t):=by
   show _=_;rw[Wl DV.out.1 DV.out.2,GA.out.gcd]
  refine bodyPost_ret (v:=.agg #[.slice a4 n4 c4]) (by simp[results,Tryz.results122,go_sem,j2]) rfl ⟨_,rfl,?_,G4.out.bel.setCell (by simp<;>omega) _⟩;rw[HG.out];exact X4.out.setCell (Ad j2) _
theorem MP{M:Nat→Nat}{x:Nat}: ∀{K:Nat},(∀i,i<K→M i≤x)→cnt M x K=K
 |0,_=>rfl
 |K+1,h=>by
  unfold cnt;rw[MP fun i hi=>h i (by omega),if_pos (h K (by omega))]
theorem Rj{x:Nat}: ∀{K t:Nat},cnt pw x K=t+1→t<K∧pw t≤x
 |0,t,h=>by
  unfold cnt at h;omega
 |K+1,t,h=>by
  by_cases hk:pw K≤x
  ·rw[MP fun i hi=>Nat.le_trans (Hh (show i≤K by omega)) hk]at h;obtain rfl:t=K:=by omega
   exact⟨by omega,hk⟩
  unfold cnt at h;rw[if_neg hk,Nat.add_zero]at h;obtain⟨h1,h2⟩:=Rj h;exact⟨by omega,h2⟩
theorem Lu{x:Nat}(h:pw 0≤x): ∀{K:Nat},0<K→0<cnt pw x K
 |0,hk=>absurd hk (by omega)
 |1,_=>by
  unfold cnt cnt;rw[if_pos h];omega
 |K+2,_=>by
  have:=Lu h (show 0<K+1 by omega);rw[cnt];omega
theorem Bv.noword{w:World}{b N:Nat}{D:Nat→Nat}(h:Bv w b N D): ∀i z,w.cell? ⟨b,i,none⟩≠some (.int .u64 z):=GO h.1 fun i hi z=>by simp
theorem Bm.bytes{w w':World}{base b N K:Nat}{v:Value}{D:Nat→Nat}(h:Bm w base v K)(hD:Bv w b N D)(hg:w.grownBy w' (some b)):Bm w' base v K:=by
 obtain⟨G,⟨g,cap,f,rfl,k1,k2,k3,k4,k5,k6⟩,h2⟩:=h;refine⟨G,⟨g,cap,f,rfl,k1,k2,k3,k4.of_block (hg.block g k4.lt ?_),k5,k6⟩,fun i hi=>(h2 i hi).keep hg hD.noword⟩;intro e;cases e;obtain⟨c1,e1,_⟩:=k4;obtain⟨c2,e2,_⟩:=hD.1;rw[e1]at e2;simp at e2
theorem Bt.join{D D' D'':Nat→Nat}{o n cut x m:Nat}(hc:n=cut+m)(h:Bt D D' o cut 0 (x/10^m))(k:Bt D' D'' (o+cut) m 0 (x%10^m)):Bt D D'' o n 0 x:=by
 subst hc;refine⟨fun i _ hi=> ?_,fun j hj=> ?_⟩
 ·rcases Nat.lt_or_ge i cut with hh|hh
  ·rw[k.2 _ (by omega),h.1 i (by omega) hh,LJ];congr 1
   omega
  have:=k.1 (i-cut) (by omega) (by omega);rw[show o+cut+(i-cut)=o+i by omega]at this;rw[this,LL _ _ _ (by omega)];congr 1
  omega
 rw[k.2 _ (by omega),h.2 _ (by omega)]
theorem Tz(g o len cap c:Nat)(hc:c≤cap)(w:World):
  (Instr.slice 172 (.slice (some ⟨g,o,none⟩) len cap) none (some (.int .i64 (c:Int))) none).run Tryz.prog w=.ok (.slice (some ⟨g,o,none⟩) c cap) w:=by
 rw[run_slice_h (P:=Tryz.prog) (kh:=.i64) (h:=(c:Int)) (ht:=by kernel_rfl) (h0:=by omega) (h2:=by omega)];have hz:(sizeOf (Tryz.prog.elem 172)).run Tryz.prog w=.ok 1 w:=by kernel_rfl
 rw[hz];simp[Result.andThen,sliced];intro _;simp[Addr.add]
theorem MQ(g o len cap c:Nat)(hc:c<cap)(hl:c≤len)(w:World):
  (Instr.slice 172 (.slice (some ⟨g,o,none⟩) len cap) (some (.int .i64 (c:Int))) none none).run Tryz.prog w=.ok (.slice (some ⟨g,o+c,none⟩) (len-c) (cap-c)) w:=by
 rw[run_slice_l (P:=Tryz.prog) (kl:=.i64) (l:=(c:Int)) (ht:=by kernel_rfl) (h0:=by omega) (h1:=by omega)];have hz:(sizeOf (Tryz.prog.elem 172)).run Tryz.prog w=.ok 1 w:=by kernel_rfl
 have hne: ¬cap=c:=by omega
 rw[hz];simp only[Result.andThen,sliced,Int.toNat_natCast,Nat.mul_one,if_neg hne,Option.map_some];congr 3
 unfold Addr.add;split<;>simp_all
theorem Jc{w w':World}{r:Option Nat}(h:w.drew.grownBy w' r):w.grownBy w' r:=⟨h.os,h.tape,h.output,h.size,h.block⟩
def Kt(w:World)(b N o n x:Nat)(D:Nat→Nat)(e:Ending)(w':World):Prop:=e=.returned (.tuple #[])∧ ∃D',Bv w' b N D'∧Bt D D' o n 0 x∧w.grownBy w' (some b)
theorem Ku(b N o n cap:Nat)(v pv:Value)(x:Nat)(D:Nat→Nat)(w:World)(hD:Bv w b N D)(ho:o+n≤N)(hn:n≤1099511627776)(hcap:n≤cap)(hcap2:cap≤1099511627776)(h:Ac w v x)(hx:x<P 40):
  Calls Tryz.prog 140 #[.slice (some ⟨b,o,none⟩) n cap,v,pv] w (Kt w b N o n x D):=by
 obtain⟨a,m,c,rfl⟩:=h.isAgg;obtain⟨F,hs,h0,h1,hv⟩:=id h.fits;have hm:m≤40:=Cd (hv.symm▸hx) h1;have HH:Hid (Bv w b N D∧Ac w (.agg #[.slice a m c]) x):=⟨hD,h⟩;have HX:Hid (AE x):=⟨Nat.lt_trans hx (Pv (show 40<lim by decide))⟩;clear hD h hs h0 h1 hv hx;go_enter Tryz.func140,Tryz.ntmps140
 go_wp2_with fail
 have ba:Below w.heap.size w (w.alloc (Obj.cells #[Value.slice a m c] 103)):=(Below.refl _ _).alloc (Nat.le_refl _) _;refine(Me b N o n cap _ x D _ (HH.out.1.below ba) ho hn hcap hcap2 (HH.out.2.mono ba) HX.out).mono ?_;rintro e w2 ⟨rfl,D',hb,hf,hg⟩;have I2:Hid (_∧_∧_):=⟨hb,hf,IA (FY ba (some b)) hg (fun j hj=>.inr hj)⟩;clear hb hf hg ba;go_wp2_with fail
 exact bodyPost_end (v:=.tuple #[]) (by simp[results,Tryz.results140,go_sem]) rfl ⟨rfl,D',I2.out⟩
theorem Rk(b N o n cap:Nat)(v pv:Value)(x base K:Nat)(D:Nat→Nat)(w:World)(hD:Bv w b N D)(ho:o+n≤N)(hn:n≤1099511627776)(hcap:n≤cap)(hcap2:cap≤1099511627776)(h:Ac w v x)(hx:P 40≤x)(ht:Tx x)(hxn:x<10^n)(hP:Bm w base pv K)(hK:0<K)(hK2:K≤8)
  (ih: ∀y,y<x→ ∀(o n cap:Nat) (v:Value) (D:Nat→Nat) (w:World),Bv w b N D→o+n≤N→n≤1099511627776→n≤cap→cap≤1099511627776→Ac w v y→y<10^n→Bm w base pv K→Calls Tryz.prog 140 #[.slice (some ⟨b,o,none⟩) n cap,v,pv] w (Kt w b N o n y D)):
  Calls Tryz.prog 140 #[.slice (some ⟨b,o,none⟩) n cap,v,pv] w (Kt w b N o n x D):=by
 obtain⟨a,m,c,rfl⟩:=h.isAgg;obtain⟨F,hs,h0,h1,hv⟩:=id h.fits;have hm:40<m:=by
  rcases Nat.lt_or_ge 40 m with hh|hh
  ·exact hh
  have:=Cx (hs.2.2.1);have:=Dt hh;omega
 have hm2:m≤225:=Cd (hv.symm▸ht.lt) h1;have hp0:pw 0≤x:=Nat.le_trans (show pw 0≤P 40 by decide+kernel) hx;obtain⟨t,ht1⟩: ∃t,cnt pw x K=t+1:=⟨cnt pw x K-1,by have:=Lu hp0 hK;omega⟩;obtain⟨ht2,ht3⟩:=Rj ht1;obtain⟨g,gc,rfl,hg1,hg2,hg3⟩:=id hP.nrow;obtain⟨ap,np,cp,e1,e2⟩:=hg3 t ht2;rw[Nat.zero_add]at e1;have ba:Below w.heap.size w (w.alloc (Obj.cells #[Value.slice a m c] 103)):=(Below.refl _ _).alloc (Nat.le_refl _) _;have HH:Hid (Bv w b N D∧Ac w (.agg #[.slice a m c]) x∧Bm w base (.slice (some ⟨g,0,none⟩) K gc) K∧Ac w (.agg #[.slice ap np cp]) (pw t)∧w.cell? ⟨g,t,none⟩=some (.slice ap np cp)∧JX w g 0 K pw):=⟨hD,h,hP,e2,e1,hg3⟩;have HT:Hid (Tx x∧pw t≤x∧x<10^n∧cnt pw x K=t+1):=⟨ht,ht3,hxn,ht1⟩;have IH:Hid _:=ih;clear hD h hs h0 h1 hv hx ht hxn hP hp0 e1 e2 hg3 ih ht1 ht3 hg1;go_enter Tryz.func140,Tryz.ntmps140
 go_wp2_with fail
 refine(NU _ x g 0 K gc pw _ (HH.out.2.1.mono ba) HT.out.1.fits (HH.out.2.2.2.2.2.mono ba) (fun i hi=>(UQ (show i≤7 by omega)).fits) (by omega)).mono ?_;rintro e w2 ⟨rfl,hb2⟩;rw[HT.out.2.2.2,show(((t+1:Nat):Nat):Int)=(t:Int)+1 from rfl];have B2:Hid (Below w.heap.size w w2):=Aj ba hb2;have c0:w2.cell? ⟨w.heap.size,0,none⟩=some (.slice a m c):=cell_later hb2 (by simp[go_sem]);have c1:w2.cell? ⟨g,t,none⟩=some (.slice ap np cp):=cell_later B2.out HH.out.2.2.2.2.1;have hl0:w.heap.size<w2.heap.size:=World.block_lt_of_cell? _ _ c0;have hl1:g<w2.heap.size:=World.block_lt_of_cell? _ _ c1;have hl2:w.heap.size<w2.heap.size+1:=by omega
 have hl3:g<w2.heap.size+1:=by omega
 have hl4:w.heap.size<w2.heap.size+1+1:=by omega
 have hl5:g<w2.heap.size+1+1:=by omega
 have hwr:IntKind.i64.wrap ((t:Int)+1-1)=(t:Int):=by rw[IntKind.wrap_i64];omega
 have hwr2:IntKind.i64.wrap (t:Int)=(t:Int):=by rw[IntKind.wrap_i64];omega
 have hti:(0:Int)≤(t:Int):=by omega
 have hti2:(t:Int)<(K:Int):=by omega
 have I2:Hid (Ac w2 (.agg #[.slice a m c]) x∧Ac w2 (.agg #[.slice ap np cp]) (pw t)∧Bv w2 b N D∧Bm w2 base (.slice (some ⟨g,0,none⟩) K gc) K∧w.grownBy w2 (some b)):=⟨HH.out.2.1.mono B2.out,HH.out.2.2.2.1.mono B2.out,HH.out.1.below B2.out,HH.out.2.2.1.below B2.out,FY B2.out _⟩;clear hb2 ba HH hg2;go_wp2_with fail
 go_cut [7,8] (fun p q wx=>OE w2 wx (x/pw t) (x%pw t) p q)
 case first=>
  go_region_held3 (fun w'=>w'.cell? ⟨w.heap.size,0,none⟩=some (.slice a m c)∧w'.cell? ⟨g,t,none⟩=some (.slice ap np cp)) (first| (simp[go_sem, *];done)| (trace_state;fail))
   (first
    | (go_at_call 119;refine Calls.mono (PI _ _ x (pw t) _ ?_ ?_ HT.out.1.small (HT.out.1.le HT.out.2.1).small (Kr t) ((Vf HT.out.1 HT.out.2.1).imp .inl id)) ?_;(refine Ac.mono I2.out.1 ?_;repeat(first|exact Below.refl _ _|refine Ah ?_|refine AV ?_));(refine Ac.mono I2.out.2.1 ?_;repeat(first|exact Below.refl _ _|refine Ah ?_|refine AV ?_));rintro e w3 ⟨v3,u3,rfl,hv3,hu3,hb3⟩;obtain⟨a5,n5,cap5,rfl⟩:=hv3.isAgg;obtain⟨a6,n6,cap6,rfl⟩:=hu3.isAgg;(first|have⟨p1,p2,p3,p4,p5,p6,p7,p8,p9⟩:=En hb3|have⟨p1,p2,p3,p4,p5,p6,p7,p8,p9⟩:=EU hb3);have X5:Hid (Ac w3 (.agg #[.slice a5 n5 cap5]) (x/pw t)∧Ac w3 (.agg #[.slice a6 n6 cap6]) (x%pw t)):=⟨hv3,hu3⟩;(have B3:Hid (Below w2.heap.size w2 w3):=Aj (by repeat(first|exact Below.refl _ _|refine Ah ?_|refine AV ?_)) hb3);have z3:=B3.out.size;have g0:=Nat.lt_of_lt_of_le hl0 z3;have g1:=Nat.lt_of_lt_of_le hl1 z3;(first|have e0:w2.heap.size<w3.heap.size:=Mo p3| (have e0:w2.heap.size<w3.heap.size:=Kn p3;have e1:w2.heap.size+1<w3.heap.size:=Ko p3)|skip);clear hv3 hu3 hb3 z3))
  all_goals(have y3:=B3.out.size)
  all_goals go_wp2_with fail
  all_goals go_meet
  all_goals go_light
  all_goals clear HT I2 IH B2 c0 c1 hwr hwr2 hti hti2 ho hn hcap hcap2 hK hK2 hm hm2 ht2
  all_goals(have BB:=B3.out)
  all_goals(have X6:=X5.out.1)
  all_goals(have X7:=X5.out.2)
  all_goals clear X5 B3
  all_goals refine⟨_,_,a5,n5,cap5,a6,n6,cap6,rfl,rfl,?_,?_,?_,?_,?_,?_,?_⟩
  all_goals try(simp(config:={maxDischargeDepth:=9}) [go_sem, *];done)
  all_goals try(repeat(first|exact BB|refine Ah ?_|refine QY ?_ (Nat.le_trans ?_ (Nat.le_refl _))))
  all_goals try(repeat(first|exact X6|exact X7|refine Ac.mono ?_ (Ah (Below.refl _ _))|refine Ac.setCell ?_ (Ad (a:=none) (n:=0) (c:=0) ?_) _))
  all_goals try omega
  all_goals try(simp(config:={maxDischargeDepth:=9}) [go_sem, *];done)
  all_goals(dsimp only;omega)
 case rest=>
  obtain⟨bp,bq,a5,n5,c5,a6,n6,c6,rfl,rfl,d0,d1,hv5,hu5,hB,lp,lq⟩:=hcut;have I3:Hid (Ac wc (.agg #[.slice a5 n5 c5]) (x/pw t)∧Ac wc (.agg #[.slice a6 n6 c6]) (x%pw t)∧Bv wc b N D∧Bm wc base (.slice (some ⟨g,0,none⟩) K gc) K∧w.grownBy wc (some b)):=⟨hv5,hu5,I2.out.2.2.1.below hB,I2.out.2.2.2.1.below hB,IA I2.out.2.2.2.2 (FY hB (some b)) (fun j hj=>.inr hj)⟩;have hbb:b<w2.heap.size:=I2.out.2.2.1.1.lt;have hpb:b≠bp:=by omega
  have hqb:b≠bq:=by omega
  clear hv5 hu5 hB I2 B2 c0 c1 hl0 hl1 hl2 hl3 hl4 hl5 lp lq hbb;go_wp2_with fail
  obtain⟨M,hM⟩: ∃M,M=19*2^t:=⟨_,rfl⟩;have hpw:pw t=10^M:=by rw[hM];rfl
  have hMn:M<n:=(Nat.pow_lt_pow_iff_right (show 1<10 by decide)).1 (hpw▸Nat.lt_of_le_of_lt HT.out.2.1 HT.out.2.2.1);have hM0:0<M:=by rw[hM];exact Nat.mul_pos (by decide) (Nat.two_pow_pos t)
  have hMi:(19:Int)*2^t=(M:Int):=by rw[hM];simp
  rw[hMi];have J:Hid (pw t=10^M∧x/pw t<x∧x%pw t<x∧x/pw t<10^(n-M)∧x%pw t<10^M):=by
   have h0:=HT.out.2.1;have h1:=Wm t;have h2:0<x:=Nat.lt_of_lt_of_le (Kr t) h0;refine⟨hpw,Nat.div_lt_self h2 h1,Nat.lt_of_lt_of_le (Nat.mod_lt _ (Kr t)) h0,?_,hpw▸Nat.mod_lt _ (Kr t)⟩;refine Nat.div_lt_of_lt_mul ?_;rw[hpw,←Nat.pow_add,Nat.add_sub_cancel' (Nat.le_of_lt hMn)];exact HT.out.2.2.1
  clear hM hpw hMi hwr hwr2 hti hti2 HT;obtain⟨k,rfl⟩: ∃k,n=k+M:=⟨n-M,by omega⟩;rw[Nat.add_sub_cancel]at J;have hk0:0<k:=by omega
  have hw1:wrap64 (((k+M:Nat):Int)-wrap64 (M:Int))=(k:Int):=by
   have:wrap64 (M:Int)=(M:Int):=by simp only[wrap64];omega
   rw[this];simp only[wrap64];omega
  rw[hw1];have sl1:=Tz b o (k+M) cap k (by omega);have sl2:=MQ b o (k+M) cap k (by omega) (by omega);rw[Nat.add_sub_cancel_left]at sl2;have hbp:some bp≠some b:=fun e=>hpb (Option.some.inj e).symm;have hbq:some bq≠some b:=fun e=>hqb (Option.some.inj e).symm;clear hw1;go_region_held3 (fun w'=>w'.cell? ⟨bp,0,none⟩=some (.slice a5 n5 c5)) (first| (simp[go_sem, *];done)| (trace_state;fail))
   (first
    | (go_at_call 140;refine Calls.mono (IH.out (x/pw t) J.out.2.1 o k cap _ D _ ?_ ?_ ?_ ?_ ?_ ?_ ?_ ?_) ?_;exact I3.out.2.2.1;omega;omega;omega;omega;exact I3.out.1;exact J.out.2.2.2.1;exact I3.out.2.2.2.1;rintro e w4 ⟨rfl,D4,hb4,hf4,hg4⟩;have d2:w4.cell? ⟨bp,0,none⟩=some (.slice a5 n5 c5):=hg4.cell d0 hbp;have d3:w4.cell? ⟨bq,0,none⟩=some (.slice a6 n6 c6):=hg4.cell d1 hbq;have I4:Hid (Bv w4 b N D4∧Bt D D4 o k 0 (x/pw t)∧wc.grownBy w4 (some b)):=⟨hb4,hf4,(by first|exact hg4|exact Jc hg4)⟩;clear hb4 hf4 hg4))
  have I5:Hid (Ac w4 (.agg #[.slice a6 n6 c6]) (x%pw t)∧Bm w4 base (.slice (some ⟨g,0,none⟩) K gc) K∧w.grownBy w4 (some b)):=⟨I3.out.2.1.keep I4.out.2.2 I3.out.2.2.1.noword,I3.out.2.2.2.1.bytes I3.out.2.2.1 I4.out.2.2,IA I3.out.2.2.2.2 I4.out.2.2 (fun j hj=>.inr hj)⟩;clear d0 d1 d2 I3;go_wp2_with fail
  go_region_held3 (fun w'=>w'.cell? ⟨bq,0,none⟩=some (.slice a6 n6 c6)) (first| (simp[go_sem, *];done)| (trace_state;fail))
   (first
    | (go_at_call 140;refine Calls.mono (IH.out (x%pw t) J.out.2.2.1 (o+k) M (cap-k) _ D4 _ ?_ ?_ ?_ ?_ ?_ ?_ ?_ ?_) ?_;exact I4.out.1;omega;omega;omega;omega;exact I5.out.1;exact J.out.2.2.2.2;exact I5.out.2.1;rintro e w6 ⟨rfl,D6,hb6,hf6,hg6⟩;have d4:w6.cell? ⟨bq,0,none⟩=some (.slice a6 n6 c6):=hg6.cell d3 hbq;have I6:Hid (Bv w6 b N D6∧Bt D4 D6 (o+k) M 0 (x%pw t)∧w4.grownBy w6 (some b)):=⟨hb6,hf6,(by first|exact hg6|exact Jc hg6)⟩;clear hb6 hf6 hg6))
  go_wp2_with fail
  refine bodyPost_end (v:=.tuple #[]) (by simp[results,Tryz.results140,go_sem]) rfl ⟨rfl,D6,I6.out.1,?_,IA I5.out.2.2 I6.out.2.2 (fun j hj=>.inr hj)⟩;have h1:=I4.out.2.1;have h2:=I6.out.2.1;rw[J.out.1]at h1 h2;exact h1.join rfl h2
theorem TA(b N:Nat)(pv:Value)(base K:Nat)(hK:0<K)(hK2:K≤8): ∀(x:Nat),Tx x→ ∀(o n cap:Nat) (v:Value) (D:Nat→Nat) (w:World),Bv w b N D→o+n≤N→n≤1099511627776→n≤cap→cap≤1099511627776→Ac w v x→x<10^n→Bm w base pv K→Calls Tryz.prog 140 #[.slice (some ⟨b,o,none⟩) n cap,v,pv] w (Kt w b N o n x D):=by
 intro x;induction x using Nat.strongRecOn with
 |ind x ih=>
  intro ht o n cap v D w hD ho hn hcap hcap2 h hxn hP;rcases Nat.lt_or_ge x (P 40)with hx|hx
  ·exact Ku b N o n cap v pv x D w hD ho hn hcap hcap2 h hx
  exact Rk b N o n cap v pv x base K D w hD ho hn hcap hcap2 h hx ht hxn hP hK hK2 fun y hy=>ih y hy (ht.le (Nat.le_of_lt hy))
def MR(w:World)(u:Value)(x:Nat):Prop:=x<P 40∨ ∃base K,0<K∧K≤8∧Bm w base u K
theorem Kv(v:Value)(x:Nat)(w:World)(h:Ac w v x)(ht:Tx x):
  Calls Tryz.prog 141 #[v] w fun e w'=> ∃u,e=.returned u∧MR w' u x∧Below w.heap.size w w':=by
 rcases Nat.lt_or_ge x (P 40)with hx|hx
 ·refine(JE v x w h hx).mono ?_;rintro e w' ⟨rfl,hb⟩;exact⟨_,rfl,.inl hx,hb⟩
 refine(JY v x w h hx ht).mono ?_;rintro e w' ⟨u,rfl,K,h1,h2,h3,hb⟩;exact⟨_,rfl,.inr ⟨_,K,h1,h2,h3⟩,hb⟩
theorem Vn(b N o n cap:Nat)(v pv:Value)(x:Nat)(D:Nat→Nat)(w:World)(ht:Tx x)(hD:Bv w b N D)(ho:o+n≤N)(hn:n≤1099511627776)(hcap:n≤cap)(hcap2:cap≤1099511627776)(h:Ac w v x)(hxn:x<10^n)(hP:MR w pv x):
  Calls Tryz.prog 140 #[.slice (some ⟨b,o,none⟩) n cap,v,pv] w (Kt w b N o n x D):=by
 rcases hP with hx| ⟨base,K,h1,h2,h3⟩
 ·exact Ku b N o n cap v pv x D w hD ho hn hcap hcap2 h hx
 exact TA b N pv base K h1 h2 x ht o n cap v D w hD ho hn hcap hcap2 h hxn h3
def Gu(D:Nat→Nat)(n:Nat):ByteArray:=strOfNums ((List.range n).map fun i=>((D i:Nat):Int))
theorem NY{D E:Nat→Nat}{n:Nat}(h: ∀i,i<n→D i=E i):Gu D n=Gu E n:=by
 unfold Gu;congr 1
 refine List.map_congr_left fun i hi=> ?_;rw[h i (by simpa using hi)]
theorem PM{w:World}{b N:Nat}{D:Nat→Nat}(h:Bv w b N D)(o n cap:Nat)(ho:o+n≤N):
  (convert 172 9 (.slice (some ⟨b,o,none⟩) n cap)).run Tryz.prog w=.ok (.string (Gu (fun i=>D (o+i)) n)) w:=by
 refine run_convert_bytes_arg (P:=Tryz.prog) w 172 5 (by kernel_rfl) (by kernel_rfl) b o n cap _ (by simp) (fun i hi=> ?_) 9 (by kernel_rfl);rw[h.cell (show o+i<N by omega)];simp[List.getD,hi]
def AQ(x k:Nat):ByteArray:=Gu (fun i=>Dz x (k-1-i)) k
def Mp(w:World)(x:Nat)(e:Ending)(w':World):Prop:= ∃k,e=.returned (.string (AQ x k))∧CY x k∧Below w.heap.size w w'
theorem GP{x n:Nat}(h:x<P n):bitLen x≤64*n:=by
 rw[DQ]at h;rcases Nat.lt_or_ge (64*n) (bitLen x)with hh|hh
 ·have h1:=(bitLen_spec x).2 (by intro e;subst e;simp[bitLen]at hh);have h2:(2:Nat)^(64*n)≤2^(bitLen x-1):=Nat.pow_le_pow_right (by omega) (by omega);omega
 exact hh
theorem TB(v:Value)(x:Nat)(w:World)(h:Ac w v x)(ht:Tx x):Calls Tryz.prog 108 #[v] w (Mp w x):=by
 obtain⟨a,m,c,rfl⟩:=h.isAgg;have hL:bitLen x≤64*225:=GP ht.lt;obtain⟨L,hLL⟩:=nme (bitLen x);obtain⟨n,hnn⟩:=nme (L*30103/100000+1);have hxn:x<10^n:=by rw[hnn,hLL];exact Wn (C4 x)
 have HH:Hid (Ac w (.agg #[.slice a m c]) x∧Tx x∧x<10^n∧L=bitLen x):=⟨h,ht,hxn,hLL⟩;rw[←hLL]at hL;have mk:=Ta ((L:Int)*30103/100000+1) ((L:Int)*30103/100000+1) n n (by rw[hnn];omega) (by rw[hnn];omega) (Nat.le_refl _) (by omega);have hn0:0<n:=by omega
 have hn1:n≤100000:=by omega
 clear h ht hxn hLL hnn;go_enter Tryz.func108,Tryz.ntmps108
 go_wp2_with fail
 have ba:Below w.heap.size w (w.alloc (Obj.cells #[Value.slice a m c] 103)):=(Below.refl _ _).alloc (Nat.le_refl _) _;refine(Ec _ x _ (HH.out.1.mono ba) HH.out.2.1.fits).mono ?_;rintro e w1 ⟨rfl,hb1⟩;rw[←HH.out.2.2.2];have B1:Hid (Below w.heap.size w w1):=Aj ba hb1;have c0:w1.cell? ⟨w.heap.size,0,none⟩=some (.slice a m c):=cell_later hb1 (by simp[go_sem]);have hl0:w.heap.size<w1.heap.size:=World.block_lt_of_cell? _ _ c0;clear hb1 ba;go_wp2_with fail
 have bo:Below w1.heap.size w1 (w1.alloc (.cells (Gr n) 5)):=(Below.refl _ _).alloc (Nat.le_refl _) _;have c1:(w1.alloc (.cells (Gr n) 5)).cell? ⟨w.heap.size,0,none⟩=some (.slice a m c):=cell_later bo c0;have I1:Hid (Bv (w1.alloc (.cells (Gr n) 5)) w1.heap.size n (fun _=>0)∧Ac (w1.alloc (.cells (Gr n) 5)) (.agg #[.slice a m c]) x∧Below w.heap.size w (w1.alloc (.cells (Gr n) 5))):=⟨Md _ _ _ rfl,HH.out.1.mono (Aj B1.out bo),Aj B1.out bo⟩;obtain⟨w2,hw2⟩:=nme (w1.alloc (.cells (Gr n) 5));rw[←hw2]at I1 c1⊢;clear hw2 bo mk;go_region_held3 (fun w'=>w'.cell? ⟨w.heap.size,0,none⟩=some (.slice a m c)) (first| (simp[go_sem, *];done)| (trace_state;fail))
  (first
   | (go_at_call 141;refine Calls.mono (Kv _ x _ ?_ HH.out.2.1) ?_;exact I1.out.2.1;rintro e w3 ⟨u3,rfl,hp3,hb3⟩;have c3:w3.cell? ⟨w.heap.size,0,none⟩=some (.slice a m c):=cell_later hb3 c1;have I3:Hid (MR w3 u3 x∧Below w2.heap.size w2 w3):=⟨hp3,(by first|exact hb3|exact Bf hb3)⟩;clear hp3 hb3)
   | (go_at_call 140;refine Calls.mono (Vn w1.heap.size n 0 n n _ _ x (fun _=>0) _ HH.out.2.1 ?_ ?_ ?_ ?_ ?_ ?_ HH.out.2.2.1 ?_) ?_;exact I1.out.1.below I3.out.2;omega;omega;omega;omega;exact I1.out.2.1.mono I3.out.2;exact I3.out.1;rintro e w4 ⟨rfl,D4,hb4,hf4,hg4⟩;have c4:w4.cell? ⟨w.heap.size,0,none⟩=some (.slice a m c):=hg4.cell c3 (fun e=>by simp at e;omega);have I4:Hid (Bv w4 w1.heap.size n D4∧Bt (fun _=>0) D4 0 n 0 x∧w3.grownBy w4 (some w1.heap.size)):=⟨hb4,hf4,(by first|exact hg4|exact Jc hg4)⟩;clear hb4 hf4 hg4))
 clear c0 c1 c3;obtain⟨g,hg⟩:=nme w1.heap.size;have HG:Hid (g=w1.heap.size):=hg;rw[←hg]at I4⊢;clear hg;have I5:Hid (Bv w4 g n D4∧(∀i,i<n→D4 i=Dz x (n-1-i))∧Below w.heap.size w w4):=by
  refine⟨I4.out.1,fun i hi=> ?_,(Aj I1.out.2.2 I3.out.2).grown I4.out.2.2 ?_ ?_⟩
  ·have:=I4.out.2.1.1 i (by omega) hi;rw[Nat.zero_add]at this;exact this
  ·have:=(Aj I1.out.2.2 I3.out.2).size;omega
  intro k hk;cases hk;rw[HG.out];omega
 clear I1 I3 I4 c4 HG hl0 B1;go_wp2_with fail
 go_loop [4] (fun t=> ∃p:Nat,p<n∧t=.int .i64 (p:Int)∧x<10^(n-p)) (fun t=>n- (intOf t).toNat)
 case atStart=>exact⟨0,hn0,rfl,HH.out.2.2.1⟩
 case round=>
  obtain⟨p,hp,rfl,hxp⟩:=hrel;have hcp:w4.cell? ⟨g,p,none⟩=some (.int .u8 (D4 p:Nat)):=I5.out.1.cell hp;have HP:Hid (x<10^(n-p)):=hxp;clear hxp;have sl:=MQ g 0 n n p (by omega) (by omega);rw[Nat.zero_add]at sl;have cv:=PM I5.out.1 p (n-p) (n-p) (by omega);have ce:Gu (fun i=>D4 (p+i)) (n-p)=AQ x (n-p):=NY fun i hi=>by
   rw[I5.out.2.1 (p+i) (by omega)];congr 1
   omega
  rw[ce]at cv;clear ce;by_cases hp1:p+1<n
  ·by_cases hd:D4 p=48
   ·rw[hd]at hcp;have hz:x<10^(n- (p+1)):=by
     have h1:=I5.out.2.1 p hp;rw[hd]at h1;have h2:=(Ks (x:=x) (p:=n-1-p) (by rw[show n-1-p+1=n-p by omega];exact HP.out)).1 h1.symm;rw[show n- (p+1)=n-1-p by omega];exact h2
    have HZ:Hid _:=hz;clear hz hd sl cv;go_wp2_with fail
    go_round
    case rel=>exact⟨p+1,by omega,by go_num,HZ.out⟩
    case measure=>simp[intOf];omega
   have hdb:((D4 p:Int)==48)=false:=by simp;omega
   have HZ:Hid (CY x (n-p)):=by
    refine⟨by omega,HP.out,.inr ?_⟩;rcases Nat.lt_or_ge x (10^(n-p-1))with h3|h3
    ·exact absurd (by rw[I5.out.2.1 p hp];exact(Ks (p:=n-1-p) (by rw[show n-1-p+1=n-p by omega];exact HP.out)).2 (by rw[show n-1-p=n-p-1 by omega];exact h3)) hd
    exact h3
   clear hd;go_wp2_with fail
   go_ret
   exact⟨n-p,rfl,HZ.out,I5.out.2.2⟩
  have HZ:Hid (CY x (n-p)):=⟨by omega,HP.out,.inl (by omega)⟩;go_wp2_with fail
  go_ret
  exact⟨n-p,rfl,HZ.out,I5.out.2.2⟩
def sb(s:ByteArray)(i:Nat):Nat:=if h:i<s.size then(s[i]'h).toNat else 0
theorem BI{s:ByteArray}{i:Nat}(h:i<s.size):(s[i]'h).toNat=sb s i:=by simp[sb,h]
theorem IB(s:ByteArray)(i:Nat):sb s i<256:=by
 unfold sb;split
 ·exact UInt8.toNat_lt _
 omega
def decVal(s:ByteArray):Nat→Nat
 |0=>0
 |i+1=>decVal s i*10+(sb s i-48)
def AF(s:ByteArray)(n:Nat):Prop:= ∀i,i<n→48≤sb s i∧sb s i≤57
theorem OR.sl{w:World}{base n:Nat}{v:Value}{F:Nat→Nat}(h:OR w 69 base v n (wd F))(hF:Ok F n): ∃a cap,v=.slice a n cap∧Sl w a n cap F:=by
 rcases h with⟨rfl,rfl⟩| ⟨g,cap,f,rfl,h1,h2,h3,h4,h5⟩
 ·exact⟨none,0,rfl,Nat.le_refl _,by omega,hF,.inl rfl⟩
 refine⟨_,cap,rfl,h2,by simp only[maxLen]at h3;omega,hF,.inr ⟨g,0,rfl,fun i hi=> ?_⟩⟩;rw[Nat.zero_add,h4.cell (show i<cap by omega),h5 i hi];rfl
theorem JZ{B B':Nat}{w w':World}(h:Below B w w')(hb:B'≤B):Below B' w w':=⟨h.os,h.tape,h.output,h.size,fun i hi=>h.block i (by omega)⟩
theorem Rl(s:ByteArray)(w:World)(h0:0<s.size)(h1:s.size≤400):
  Calls Tryz.prog 113 #[.string s] w fun e w'=>(AF s s.size→F9 w (decVal s s.size) true e w')∧(¬AF s s.size→e=.returned (.tuple #[.agg #[.slice none 0 0],.bool false])∧Below w.heap.size w w'):=by
 have hz:((s.size:Int)==0)=false:=beq_eq_false_iff_ne.2 (by omega);have hgt:decide (400<(s.size:Int))=false:=decide_eq_false (by omega);go_enter Tryz.func113,Tryz.ntmps113
 go_wp2_with fail
 go_loopw [4,17] (fun v t wr=> ∃(i n:Nat) (F:Nat→Nat),i≤s.size∧t=.int .i64 (i:Int)∧OR wr 69 (w.heap.size+1) v n (wd F)∧Ok F n∧V F n=decVal s i∧n≤i∧AF s i∧Below (w.heap.size+1) (w.alloc (Obj.cells #[Value.slice none 0 0] 103)) wr) (fun _ t _=>s.size- (intOf t).toNat)
 case atStart=>exact⟨0,0,fun _=>0,by omega,rfl,OR.nil _ _ _ _,fun i hi=>absurd hi (by omega),rfl,by omega,fun i hi=>absurd hi (by omega),Below.refl _ _⟩
 case round=>
  obtain⟨i,n,F,hi,rfl,hO,hF,hV,hn,hd,hb⟩:=hrel;have HH:Hid (OR wr 69 (w.heap.size+1) u4 n (wd F)∧Ok F n∧V F n=decVal s i∧AF s i∧Below (w.heap.size+1) (w.alloc (Obj.cells #[Value.slice none 0 0] 103)) wr):=⟨hO,hF,hV,hd,hb⟩;clear hO hF hV hd hb;have hcb:wr.cell? ⟨w.heap.size,0,none⟩=some (.slice none 0 0):=(HH.out.2.2.2.2.cell (show w.heap.size<w.heap.size+1 by omega)).trans (by simp);have hfb:wr.frozen? ⟨w.heap.size,0,none⟩=false:=(HH.out.2.2.2.2.frozen (show w.heap.size<w.heap.size+1 by omega)).trans (by simp[go_sem]);have hsz:w.heap.size+1≤wr.heap.size:=by have:=HH.out.2.2.2.2.size;simpa using this
  by_cases hii:i<s.size
  ·have hc:=BI hii;have hc2:=IB s i;by_cases hlo:sb s i<48
   ·have t1:decide (((sb s i:Nat):Int)<48)=true:=decide_eq_true (by omega);have HN:Hid (¬AF s s.size):=fun hh=>by have:=hh i hii;omega
    clear hlo;go_wp2_with fail
    refine bodyPost_ret (v:=.tuple #[.agg #[.slice none 0 0],.bool false]) (by simp[results,Tryz.results113,go_sem,hcb]) rfl ⟨fun hh=>absurd hh HN.out,fun _=>⟨rfl,?_⟩⟩;exact(Aj ((Below.refl _ _).alloc (Nat.le_refl _) _) (JZ HH.out.2.2.2.2 (by simp))).setCell (Nat.le_refl _) _
   have t1:decide (((sb s i:Nat):Int)<48)=false:=decide_eq_false (by omega);by_cases hhi:57<sb s i
   ·have t2:decide (57<((sb s i:Nat):Int))=true:=decide_eq_true (by omega);have HN:Hid (¬AF s s.size):=fun hh=>by have:=hh i hii;omega
    go_wp2_with fail
    refine bodyPost_ret (v:=.tuple #[.agg #[.slice none 0 0],.bool false]) (by simp[results,Tryz.results113,go_sem,hcb]) rfl ⟨fun hh=>absurd hh HN.out,fun _=>⟨rfl,?_⟩⟩;exact(Aj ((Below.refl _ _).alloc (Nat.le_refl _) _) (JZ HH.out.2.2.2.2 (by simp))).setCell (Nat.le_refl _) _
   have t2:decide (57<((sb s i:Nat):Int))=false:=decide_eq_false (by omega);obtain⟨d,hd⟩: ∃d,sb s i=d+48:=⟨sb s i-48,by omega⟩;have HD:Hid _:=hd;go_wp2_with fail
   refine(MO u4 n d F wr (w.heap.size+1) HH.out.1 HH.out.2.1 hsz (by omega) (by omega)).mono ?_;rintro e w3 ⟨v3,n3,F3,rfl,hO3,hF3,hV3,hn3,hb3⟩;have I3:Hid (OR w3 69 (w.heap.size+1) v3 n3 (wd F3)∧Ok F3 n3∧V F3 n3=decVal s (i+1)∧n3≤i+1∧AF s (i+1)∧Below (w.heap.size+1) (w.alloc (Obj.cells #[Value.slice none 0 0] 103)) w3):=by
    refine⟨hO3,hF3,?_,by omega,fun j hj=> ?_,HH.out.2.2.2.2.trans hb3⟩
    ·rw[hV3,HH.out.2.2.1,decVal,HD.out];omega
    rcases Nat.lt_or_ge j i with hh|hh
    ·exact HH.out.2.2.2.1 j hh
    obtain rfl:j=i:=by omega
    rw[HD.out];omega
   clear hO3 hF3 hV3 hn3 hb3 HH HD;go_wp2_with fail
   go_roundw
   case rel=>exact⟨i+1,n3,F3,by omega,by go_num,I3.out⟩
   case measure=>simp[intOf];omega
  obtain rfl:i=s.size:=by omega
  obtain⟨a4,cap4,rfl,hS⟩:=HH.out.1.sl HH.out.2.1;go_wp2_with fail
  refine(CJ a4 n cap4 F wr hS (by omega)).mono ?_;rintro e w3 ⟨v3,rfl,hv3,hb3⟩;obtain⟨a5,n5,c5,rfl⟩:=hv3.isAgg;have hcb3:=cell_later hb3 hcb;have hfb3:=(hb3.frozen (World.block_lt_of_cell? _ _ hcb)).trans hfb;rw[HH.out.2.2.1]at hv3;have I3:Hid (_∧_):=⟨hv3,(Aj ((Below.refl _ _).alloc (Nat.le_refl _) _) (Aj (JZ HH.out.2.2.2.2 (by simp)) hb3):Below w.heap.size w w3)⟩;clear hv3 hb3 hS;go_wp2_with fail
  refine bodyPost_ret (v:=.tuple #[.agg #[.slice a5 n5 c5],.bool true]) (by simp[results,Tryz.results113,go_sem,hcb3]) rfl ⟨fun _=>⟨_,rfl,I3.out.1.setCell (Ad hcb3) _,I3.out.2.setCell (Nat.le_refl _) _⟩,fun hh=>absurd HH.out.2.2.2.1 hh⟩
theorem GQ(s:ByteArray)(x:Nat)(w:World)(h0:0<s.size)(h1:s.size≤400)(hd:AF s s.size)(hx:decVal s s.size=x):
  Calls Tryz.prog 113 #[.string s] w (F9 w x true):=by
 subst hx;exact(Rl s w h0 h1).mono fun e w' h=>h.1 hd
theorem OI{x:Nat}(h:x≤18446744073709551616):Tx x:=⟨Nat.lt_of_le_of_lt h (by decide+kernel)⟩
theorem UR{x n:Nat}(h:x<P n)(hn:n≤225):Tx x:=⟨Nat.lt_of_lt_of_le h (Dt hn)⟩
theorem Ed:bitLen 0=0:=by simp[bitLen]
theorem ID{x:Nat}(h:0<x):0<bitLen x:=by
 rcases Nat.eq_zero_or_pos (bitLen x)with e|e
 ·have:=C4 x;rw[e]at this;omega
 exact e
end Go.Proofs.YtbikpmmpgbggaaaGreatDoor
