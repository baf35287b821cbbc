/- Contracts of the program's functions, part 3: own work, joined in build order. -/
import Derived.Test.YtcbjkgphpnihiaaGreatDoorJ2
namespace Go.Proofs.YtcbjkgphpnihiaaGreatDoor
open Go.RowKit
set_option maxRecDepth 100000
set_option linter.unusedVariables false
set_option maxHeartbeats 16000000
theorem EZ(b N o n cap:Nat)(F:Nat→Nat)(a:Option Addr)(m cap':Nat)(G:Nat→Nat)(d:Nat)(w:World)(hF:Row w b N F)(hG:Sl w a m cap' G)(ho:o+m≤N)(hn:m≤1099511627776)(hm:m≤cap)(hnc:n≤cap)(hd:d<18446744073709551616)
  (hne: ∀b' o',a=some ⟨b',o',none⟩→b'≠b):
  Calls Tryz.prog 97 #[.slice (some ⟨b,o,none⟩) n cap,.slice a m cap',.int .u64 (d:Int)] w fun e w'=> ∃c:Nat,e=.returned (.int .u64 (c:Int))∧ ∃H,Er w w' b N o F (V G m*d) m c H:=by
 have A0:=Er.start o hF;have HG:Hid (Sl w a m cap' G):=hG;have HN:Hid _:=hne;clear hG hF hne;have hmc:(m:Int)≤cap:=by omega
 go_enter Tryz.func97,Tryz.ntmps97
 go_wp2_with fail
 go_loopw [7,19] (fun cv t wr=> ∃(k c:Nat) (H:Nat→Nat),k≤m∧t=.int .i64 (k:Int)∧cv=.int .u64 ((c:Nat):Int)∧Er w wr b N o F (V G k*d) k c H) (fun _ t _=>m- (intOf t).toNat)
 case atStart=>exact⟨0,0,F,by omega,rfl,rfl,by rw[Bd,Nat.zero_mul];exact A0⟩
 case round=>
  clear A0;obtain⟨k,c,H,hk,rfl,rfl,hA⟩:=hrel;by_cases hkm:k<m
  ·obtain⟨b',o',rfl,hw⟩:=HG.out.at k hkm;have hbb:b'≠b:=HN.out b' o' rfl;have hc1:wr.cell? ⟨b',o'+k,none⟩=some (.int .u64 (G k:Nat)):=hA.2.2.2.2.cell (hw k hkm) (by simpa using hbb);have hc2:wr.cell? ⟨b,o+k,none⟩=some (.int .u64 (H (o+k):Nat)):=hA.1.cell (by omega);have hf2:wr.frozen? ⟨b,o+k,none⟩=false:=hA.1.frozen _;have hGk:G k<18446744073709551616:=HG.out.2.2.1 k hkm;have ad1:=Em (AL (G k) d) c;have ad2:=Em (H (o+k)) (BL (AL (G k) d) c 0);have S:Hid _:=hA.step (by omega) hGk hd;have hb1:((A9 (G k) d:Nat):Int)+((Bw (AL (G k) d) c 0:Nat):Int)<18446744073709551616:=by have:=KZ (G k) d c hGk hd hA.2.2.1;omega
   have hb2:((A9 (G k) d:Nat):Int)+((Bw (AL (G k) d) c 0:Nat):Int)+((Bw (H (o+k)) (BL (AL (G k) d) c 0) 0:Nat):Int)<18446744073709551616:=by
    have:=MZ (G k) d (H (o+k)) c hGk hd (hA.1.2 _ (by omega)) hA.2.2.1;unfold Hb at this;omega
   clear hA hw hbb;go_wp2_with fail
   refine(Fz (G k) d _ hGk hd).mono ?_;rintro e w1 ⟨rfl,rfl⟩;go_wp2_with fail
   go_roundw
   case rel=>exact⟨k+1,_,_,by omega,by go_num,by unfold Hb;go_num,S.out⟩
   case measure=>simp[intOf];omega
  obtain rfl:k=m:=by omega
  have HA:Hid _:=hA;clear hA;go_wp2_with fail
  go_ret
  exact⟨c,rfl,H,HA.out⟩
theorem E0(b N o n cap:Nat)(F:Nat→Nat)(a:Option Addr)(m cap':Nat)(G:Nat→Nat)(d:Nat)(w:World)(hF:Row w b N F)(hG:Sl w a m cap' G)(ho:o+m≤N)(hn:m≤1099511627776)(hm:m≤cap)(hnc:n≤cap)(hd:d<18446744073709551616)
  (hne: ∀b' o',a=some ⟨b',o',none⟩→b'≠b):
  Calls Tryz.prog 116 #[.slice (some ⟨b,o,none⟩) n cap,.slice a m cap',.int .u64 (d:Int)] w fun e w'=> ∃c:Nat,e=.returned (.int .u64 (c:Int))∧ ∃H,Ea w w' b N o F (V G m*d) m c H:=by
 have A0:=Ea.start o hF;have HG:Hid (Sl w a m cap' G):=hG;have HN:Hid _:=hne;clear hG hF hne;have hmc:(m:Int)≤cap:=by omega
 go_enter Tryz.func116,Tryz.ntmps116
 go_wp2_with fail
 go_loopw [7,19] (fun cv t wr=> ∃(k c:Nat) (H:Nat→Nat),k≤m∧t=.int .i64 (k:Int)∧cv=.int .u64 ((c:Nat):Int)∧Ea w wr b N o F (V G k*d) k c H) (fun _ t _=>m- (intOf t).toNat)
 case atStart=>exact⟨0,0,F,by omega,rfl,rfl,by rw[Bd,Nat.zero_mul];exact A0⟩
 case round=>
  clear A0;obtain⟨k,c,H,hk,rfl,rfl,hA⟩:=hrel;by_cases hkm:k<m
  ·obtain⟨b',o',rfl,hw⟩:=HG.out.at k hkm;have hbb:b'≠b:=HN.out b' o' rfl;have hc1:wr.cell? ⟨b',o'+k,none⟩=some (.int .u64 (G k:Nat)):=hA.2.2.2.2.cell (hw k hkm) (by simpa using hbb);have hc2:wr.cell? ⟨b,o+k,none⟩=some (.int .u64 (H (o+k):Nat)):=hA.1.cell (by omega);have hf2:wr.frozen? ⟨b,o+k,none⟩=false:=hA.1.frozen _;have hGk:G k<18446744073709551616:=HG.out.2.2.1 k hkm;have ad1:=Em (AL (G k) d) c;have ad2:=Gu (H (o+k)) (BL (AL (G k) d) c 0);have S:Hid _:=hA.step (by omega) hGk hd;have hb1:((A9 (G k) d:Nat):Int)+((Bw (AL (G k) d) c 0:Nat):Int)<18446744073709551616:=by have:=KZ (G k) d c hGk hd hA.2.2.1;omega
   have hb2:((A9 (G k) d:Nat):Int)+((Bw (AL (G k) d) c 0:Nat):Int)+((CN (H (o+k)) (BL (AL (G k) d) c 0) 0:Nat):Int)<18446744073709551616:=by
    have:=M8 (G k) d (H (o+k)) c hGk hd (hA.1.2 _ (by omega)) hA.2.2.1;unfold Hc at this;omega
   clear hA hw hbb;go_wp2_with fail
   refine(Fz (G k) d _ hGk hd).mono ?_;rintro e w1 ⟨rfl,rfl⟩;go_wp2_with fail
   go_roundw
   case rel=>exact⟨k+1,_,_,by omega,by go_num,by unfold Hc;go_num,S.out⟩
   case measure=>simp[intOf];omega
  obtain rfl:k=m:=by omega
  have HA:Hid _:=hA;clear hA;go_wp2_with fail
  go_ret
  exact⟨c,rfl,H,HA.out⟩
def E4(X Y:Nat→Nat)(n k:Nat)(H:Nat→Nat):Prop:=V H (n+k)=V X n*V Y k∧ ∀j,n+k≤j→H j=0
theorem Is(X Y:Nat→Nat)(n:Nat):E4 X Y n 0 (fun _=>0):=⟨by rw[Dm,Bd,Nat.mul_zero],fun _ _=>rfl⟩
theorem E4.step{w w':World}{g N n k c d:Nat}{X Y H H':Nat→Nat}(h:E4 X Y n k H)(hp:Er w w' g N k H (V X n*d) n c H')(hd:Y k=d):E4 X Y n (k+1) (put H' (k+n) c):=by
 obtain⟨h1,h2⟩:=h;obtain⟨p1,p2,p3,p4,p5⟩:=hp;refine⟨?_,fun j hj=> ?_⟩
 ·have e1:V (put H' (k+n) c) (n+(k+1))=V (put H' (k+n) c) (n+k)+c*P (n+k):=by
   rw[←Nat.add_assoc,At,Nat.add_comm n k,AA]
  have e2:V (put H' (k+n) c) (n+k)=V H k+P k*V (fro H' k) n:=by
   rw[A4 (G:=H') fun i hi=>Aq _ _ (by omega),Nat.add_comm n k,Ba,A4 (F:=H') (G:=H) fun i hi=>p2 i (.inl hi)];rfl
  have e3:V H (n+k)=V H k+P k*V (fro H k) n:=by rw[Nat.add_comm n k,Ba];rfl
  have e4:=congrArg (P k* ·) p4;simp only[Nat.mul_add]at e4;rw[e1,e2,At,hd,Nat.mul_add,←h1,e3,Nat.add_comm n k,DJ];have e5:c*(P k*P n)=P k*(c*P n):=Nat.mul_left_comm ..;have e6:V X n*(d*P k)=P k*(V X n*d):=by rw[←Nat.mul_assoc,Nat.mul_comm]
  omega
 rw[Aq _ _ (by omega),p2 j (.inr (by omega))];exact h2 j (by omega)
theorem Hm(a:Option Addr)(n cap:Nat)(X:Nat→Nat)(a':Option Addr)(m cap':Nat)(Y:Nat→Nat)(w:World)(hX:Sl w a n cap X)(hY:Sl w a' m cap' Y)(hX0:n=0→a=none)(hn:n≤4294967296)(hm:m≤4294967296):
  Calls Tryz.prog 74 #[.slice a n cap,.slice a' m cap'] w (BO w (V X n*V Y m)):=by
 have HX:Hid (Sl w a n cap X∧Sl w a' m cap' Y∧(n=0→a=none)):=⟨hX,hY,hX0⟩;clear hX hY hX0;have mk:=Bl ((n:Int)+m) ((n:Int)+m) (n+m) (n+m) (by omega) (by omega) (Nat.le_refl _) (by omega);go_enter Tryz.func74,Tryz.ntmps74
 go_wp2_with fail
 go_loopw [16] (fun t wr=> ∃(k:Nat) (H:Nat→Nat),k≤m∧t=.int .i64 (k:Int)∧Row wr (w.heap.size+1) (n+m) H∧E4 X Y n k H∧((w.alloc (.cells #[.slice none 0 0] 27)).alloc (.cells (Bh (n+m)) 56)).grownBy wr (some (w.heap.size+1))) (fun t _=>m- (intOf t).toNat)
 case atStart=>exact⟨0,fun _=>0,by omega,rfl,AJ _ _ _ (by simp),Is _ _ _,World.grownBy.refl _ _⟩
 case round=>
  clear mk;obtain⟨k,H,hk,rfl,hR,hM,hg⟩:=hrel;have B0:Hid (Below w.heap.size w wr):=(Ap _ _ _).grown hg (by simp<;>omega) (fun k hk=>by cases hk;omega);by_cases hkm:k<m
  ·obtain⟨b,o,rfl,hw⟩:=HX.out.2.1.at k hkm;have hb:b<w.heap.size:=World.block_lt_of_cell? _ _ (hw k hkm);have hcw:wr.cell? ⟨b,o+k,none⟩=some (.int .u64 (Y k:Nat)):=cell_later B0.out (hw k hkm);have hkm':(k:Int)<m:=by omega
   have hni: ¬(n+m=k):=by omega
   have hYk:Y k<18446744073709551616:=HX.out.2.1.2.2.1 k hkm;have HH:Hid (Row wr (w.heap.size+1) (n+m) H∧E4 X Y n k H∧((w.alloc (.cells #[.slice none 0 0] 27)).alloc (.cells (Bh (n+m)) 56)).grownBy wr (some (w.heap.size+1))):=⟨hR,hM,hg⟩;clear hR hM hg hw;go_wp2_with fail
   refine(EZ (w.heap.size+1) (n+m) k (n+m-k) (n+m-k) H a n cap X (Y k) wr HH.out.1 (HX.out.1.mono B0.out) (by omega) (by omega) (by omega) (Nat.le_refl _) hYk ?_).mono ?_
   ·intro b' o' ha;by_cases e0:n=0
    ·rw[HX.out.2.2 e0]at ha;cases ha
    have:=HX.out.1.ne_block (by omega) (g:=w.heap.size+1) (by omega) b' o' ha;exact this
   rintro e w1 ⟨c,rfl,H',hP⟩;have hc2:w1.cell? ⟨w.heap.size+1,k+n,none⟩=some (.int .u64 (H' (k+n):Nat)):=hP.1.cell (by omega);have hf2:w1.frozen? ⟨w.heap.size+1,k+n,none⟩=false:=hP.1.frozen _;have S:Hid _:=And.intro (hP.1.set (k+n) hP.2.2.1) (And.intro (HH.out.2.1.step hP rfl) (AK _ (Gi HH.out.2.2 hP.2.2.2.2) (k+n) (.int .u64 (c:Int))));clear hP;go_wp2_with fail
   go_roundw
   case rel=>exact⟨k+1,_,by omega,by go_num,S.out.1,S.out.2.1,S.out.2.2⟩
   case measure=>simp[intOf];omega
  obtain rfl:k=m:=by omega
  have hcr:wr.cell? ⟨w.heap.size,0,none⟩=some (.slice none 0 0):=hg.cell (by simp[go_sem]) (by simp);have hfr:wr.frozen? ⟨w.heap.size,0,none⟩=false:=(World.frozen?_of_block (hg.block _ (by simp<;>omega) (by simp))).trans (by simp[go_sem]);have HF:Hid (V H (n+k)=V X n*V Y k):=hM.1;have HR:Hid (Row wr (w.heap.size+1) (n+k) H):=hR;clear hR hM hg;go_wp2_with fail
  refine(Bp _ (n+k) (n+k) H wr (by have:=HR.out.sl (o:=0) (n:=n+k) (cap:=n+k) (by omega) (Nat.le_refl _) (by omega);rw[AB]at this;exact this) (by omega)).mono ?_;rintro e w3 ⟨v3,rfl,hv3,hb3⟩;have hcr3:w3.cell? ⟨w.heap.size,0,none⟩=some (.slice none 0 0):=cell_later hb3 hcr;have hfr3:w3.frozen? ⟨w.heap.size,0,none⟩=false:=(hb3.frozen (World.block_lt_of_cell? _ _ hcr)).trans hfr;obtain⟨a3,n3,cap3,rfl⟩:=hv3.isAgg;have HV3:Hid (Ac w3 (.agg #[.slice a3 n3 cap3]) (V H (n+k))):=hv3;have B3:Hid (Below w.heap.size w w3):=B0.out.trans (hb3.mono B0.out.size);clear hv3 hb3 hcr hfr;go_wp2_with fail
  refine bodyPost_ret (v:=.agg #[.slice a3 n3 cap3]) (by simp[results,Tryz.results74,go_sem,hcr3]) rfl ⟨_,rfl,?_,B3.out.setCell (by simp) _⟩;rw[←HF.out];exact HV3.out.setCell (Af hcr3) _
theorem NY(a:Option Addr)(n cap:Nat)(a':Option Addr)(m cap':Nat)(x y:Nat)(w:World)(h:Ac w (.agg #[.slice a n cap]) x)(k:Ac w (.agg #[.slice a' m cap']) y)(hx:Ar x)(hy:Ar y)(hmn:m≤n)(hsh:m<100):
  Calls Tryz.prog 45 #[.agg #[.slice a n cap],.agg #[.slice a' m cap']] w (BO w (x*y)):=by
 obtain⟨F,hs,h0,h1,hv⟩:=h.fits;obtain⟨G,ks,k0,k1,kv⟩:=k.fits;have hn:n≤4294967296:=AM (hv.symm▸hx) h1;have hm:m≤4294967296:=AM (kv.symm▸hy) k1;have hd:decide ((n:Int)<m)=false:=decide_eq_false (by omega);have HH:Hid (Sl w a n cap F∧V F n=x∧(n=0→a=none)∧Sl w a' m cap' G∧V G m=y∧(m=0→a'=none)):=⟨hs,hv,fun e=>(h0 e).1,ks,kv,fun e=>(k0 e).1⟩;clear hs h0 h1 hv ks k0 k1 kv hx hy h k;have HB:Hid (Below w.heap.size w (((w.alloc (.cells #[.slice a n cap] 27)).alloc (.cells #[.slice a' m cap'] 27)).alloc (.cells #[.slice none 0 0] 27))):=(Ap _ _ _).alloc (by simp<;>omega) _;go_enter Tryz.func45,Tryz.ntmps45
 go_wp2_with fail
 refine(Hm a n cap F a' m cap' G _ (HH.out.1.mono HB.out) (HH.out.2.2.2.1.mono HB.out) HH.out.2.2.1 (by omega) (by omega)).mono ?_;rintro e w3 ⟨v3,rfl,hv3,hb3⟩;have hcr3:w3.cell? ⟨w.heap.size+1+1,0,none⟩=some (.slice none 0 0):=cell_later hb3 (by simp[go_sem]);have hfr3:w3.frozen? ⟨w.heap.size+1+1,0,none⟩=false:=(hb3.frozen (by simp<;>omega)).trans (by simp[go_sem]);obtain⟨a3,n3,cap3,rfl⟩:=hv3.isAgg;have HV3:Hid (Ac w3 (.agg #[.slice a3 n3 cap3]) (V F n*V G m)):=hv3;have B3:Hid (Below w.heap.size w w3):=AU HB.out hb3;clear hv3 hb3;go_wp2_with fail
 refine bodyPost_ret (v:=.agg #[.slice a3 n3 cap3]) (by simp[results,Tryz.results45,go_sem,hcr3]) rfl ⟨_,rfl,?_,B3.out.setCell (by simp<;>omega) _⟩;have e1:V F n*V G m=x*y:=by rw[HH.out.2.1,HH.out.2.2.2.2.1]
 rw[←e1];exact HV3.out.setCell (Af hcr3) _
theorem NZ(a:Option Addr)(n cap:Nat)(a':Option Addr)(m cap':Nat)(x y:Nat)(w:World)(h:Ac w (.agg #[.slice a n cap]) x)(k:Ac w (.agg #[.slice a' m cap']) y)(hx:Ar x)(hy:Ar y)(hmn:n<m)(hsh:n<100):
  Calls Tryz.prog 45 #[.agg #[.slice a n cap],.agg #[.slice a' m cap']] w (BO w (x*y)):=by
 obtain⟨F,hs,h0,h1,hv⟩:=h.fits;obtain⟨G,ks,k0,k1,kv⟩:=k.fits;have hn:n≤4294967296:=AM (hv.symm▸hx) h1;have hm:m≤4294967296:=AM (kv.symm▸hy) k1;have hd:(n:Int)<m:=by omega
 have HH:Hid (Sl w a n cap F∧V F n=x∧(n=0→a=none)∧Sl w a' m cap' G∧V G m=y∧(m=0→a'=none)):=⟨hs,hv,fun e=>(h0 e).1,ks,kv,fun e=>(k0 e).1⟩;clear hs h0 h1 hv ks k0 k1 kv hx hy h k;have HB:Hid (Below w.heap.size w (((w.alloc (.cells #[.slice a' m cap'] 27)).alloc (.cells #[.slice a n cap] 27)).alloc (.cells #[.slice none 0 0] 27))):=(Ap _ _ _).alloc (by simp<;>omega) _;go_enter Tryz.func45,Tryz.ntmps45
 go_wp2_with fail
 refine(Hm a' m cap' G a n cap F _ (HH.out.2.2.2.1.mono HB.out) (HH.out.1.mono HB.out) HH.out.2.2.2.2.2 (by omega) (by omega)).mono ?_;rintro e w3 ⟨v3,rfl,hv3,hb3⟩;have hcr3:w3.cell? ⟨w.heap.size+1+1,0,none⟩=some (.slice none 0 0):=cell_later hb3 (by simp[go_sem]);have hfr3:w3.frozen? ⟨w.heap.size+1+1,0,none⟩=false:=(hb3.frozen (by simp<;>omega)).trans (by simp[go_sem]);obtain⟨a3,n3,cap3,rfl⟩:=hv3.isAgg;have HV3:Hid (Ac w3 (.agg #[.slice a3 n3 cap3]) (V G m*V F n)):=hv3;have B3:Hid (Below w.heap.size w w3):=AU HB.out hb3;clear hv3 hb3;go_wp2_with fail
 refine bodyPost_ret (v:=.agg #[.slice a3 n3 cap3]) (by simp[results,Tryz.results45,go_sem,hcr3]) rfl ⟨_,rfl,?_,B3.out.setCell (by simp<;>omega) _⟩;have e1:V G m*V F n=x*y:=by rw[HH.out.2.1,HH.out.2.2.2.2.1];exact Nat.mul_comm ..
 rw[←e1];exact HV3.out.setCell (Af hcr3) _
theorem FA{w:World}{a:Option Addr}{n cap:Nat}{x m:Nat}(h:Ac w (.agg #[.slice a n cap]) x)(hx:x<P m):n≤m:=by
 obtain⟨F,hs,h0,h1,hv⟩:=h.fits;exact Ch (hv.symm▸hx) h1
theorem Bt(v u:Value)(x y:Nat)(w:World)(h:Ac w v x)(k:Ac w u y)(hx:Ar x)(hy:Ar y)(hsh:x<P 99∨y<P 99):
  Calls Tryz.prog 45 #[v,u] w (BO w (x*y)):=by
 obtain⟨a,n,cap,rfl⟩:=h.isAgg;obtain⟨a',m,cap',rfl⟩:=k.isAgg;have hmin:n≤99∨m≤99:=hsh.imp (FA h) (FA k);rcases Nat.lt_or_ge n m with hh|hh
 ·exact NZ a n cap a' m cap' x y w h k hx hy hh (by omega)
 exact NY a n cap a' m cap' x y w h k hx hy hh (by omega)
def Dig(A u Y y1 q r:Nat):Prop:=q*y1+r=A∧(A*4294967296+u)/Y≤q
theorem Dh{A u Y:Nat}(hA:A<Y)(hu:u<4294967296):(A*4294967296+u)/Y<4294967296:=by
 rw[Nat.div_lt_iff_lt_mul (by omega)];have h:(A+1)*4294967296≤Y*4294967296:=Nat.mul_le_mul_right _ hA;rw[Nat.mul_comm 4294967296 Y];omega
theorem GM(y1 y0 q r u:Nat):q*(y1*4294967296+y0)+(r*4294967296+u)=(q*y1+r)*4294967296+u+q*y0:=by
 rw[Nat.mul_add,Nat.add_mul,Nat.mul_assoc q];omega
theorem FB{A u Y y1 y0:Nat}(hY:Y=y1*4294967296+y0)(hu:u<4294967296)(hy1:0<y1):Dig A u Y y1 (A/y1) (A%y1):=by
 refine⟨by rw[Nat.mul_comm];exact Nat.div_add_mod A y1,?_⟩;have h1:(A*4294967296+u)/Y≤(A*4294967296+u)/(y1*4294967296):=Nat.div_le_div_left (by omega) (by omega);have h2:(A*4294967296+u)/(y1*4294967296)=A/y1:=by
  rw[Nat.mul_comm y1,←Nat.div_div_eq_div_mul,Nat.mul_comm A,Nat.mul_add_div (by omega),Nat.div_eq_of_lt hu,Nat.add_zero]
 omega
theorem It{a b c d:Nat}(h:a+b=c+d)(hc:b<d):c<a:=by omega
theorem Iu{a b c d:Nat}(h:a+b=c+d)(hc:d≤b):a≤c:=by omega
theorem Dig.step{A u Y y1 y0 q r:Nat}(h:Dig A u Y y1 q r)(hY:Y=y1*4294967296+y0)(hA:A<Y)(hu:u<4294967296)(hc:4294967296≤q∨r*4294967296+u<q*y0):0<q∧Dig A u Y y1 (q-1) (r+y1):=by
 obtain⟨h1,h2⟩:=h;have hlt:(A*4294967296+u)/Y<q:=by
  rcases hc with hc|hc
  ·have:=Dh hA hu;omega
  rw[Nat.div_lt_iff_lt_mul (by omega)];have:=GM y1 y0 q r u;rw[h1,←hY]at this;exact It this hc
 refine⟨Nat.lt_of_le_of_lt (Nat.zero_le _) hlt,?_,Nat.le_sub_one_of_lt hlt⟩;have hq0:0<q:=Nat.lt_of_le_of_lt (Nat.zero_le _) hlt;clear hlt hc h2;obtain⟨t,rfl⟩: ∃t,q=t+1:=⟨q-1,by omega⟩;rw[Nat.add_mul]at h1;simp only[Nat.add_sub_cancel];omega
theorem Dig.done{A u Y y1 y0 q r:Nat}(h:Dig A u Y y1 q r)(hY:Y=y1*4294967296+y0)(hA:A<Y)(hc:q*y0≤r*4294967296+u):q=(A*4294967296+u)/Y:=by
 obtain⟨h1,h2⟩:=h;refine Nat.le_antisymm ?_ h2;rw[Nat.le_div_iff_mul_le (by omega)];have:=GM y1 y0 q r u;rw[h1,←hY]at this;exact Iu this hc
theorem Dig.broke{A u Y y1 y0 q r:Nat}(h:Dig A u Y y1 q r)(hY:Y=y1*4294967296+y0)(hA:A<Y)(h0:y0<4294967296)(hr:4294967296≤r):q=(A*4294967296+u)/Y:=by
 refine h.done hY hA ?_;have hq:q<4294967296:=by
  rcases Nat.lt_or_ge q 4294967296 with hq|hq
  ·exact hq
  have h3:4294967296*y1≤q*y1:=Nat.mul_le_mul_right _ hq;have:=h.1;omega
 have h4:q*y0≤4294967296*4294967296:=Nat.mul_le_mul (by omega) (by omega);have h5:4294967296*4294967296≤r*4294967296:=Nat.mul_le_mul_right _ hr;omega
theorem BK{A u Y q:Nat}(hq:q=(A*4294967296+u)/Y)(hY:Y<18446744073709551616)(hA:A<Y):
  IntKind.u64.wrap (IntKind.u64.wrap (IntKind.u64.wrap ((A:Int)*4294967296)+(u:Int))-IntKind.u64.wrap ((q:Int)*(Y:Int)))=(((A*4294967296+u)%Y:Nat):Int):=by
 have h1:=Nat.div_add_mod (A*4294967296+u) Y;rw[←hq,Nat.mul_comm]at h1;have h2:(A*4294967296+u)%Y<Y:=Nat.mod_lt _ (by omega);have e:(q:Int)*(Y:Int)=((q*Y:Nat):Int):=(Int.natCast_mul ..).symm;rw[e];simp only[IntKind.wrap_u64];omega
theorem Jh(lo y:Nat)(w:World)(hl:lo<18446744073709551616)(hy:y<18446744073709551616)(hy0:0<y):
  Calls Tryz.prog 112 #[.int .u64 0,.int .u64 (lo:Int),.int .u64 (y:Int)] w fun e w'=>e=.returned (.tuple #[.int .u64 ((lo/y:Nat):Int),.int .u64 ((lo%y:Nat):Int)])∧ ∃n,w'=w.drewN n:=by
 have h0:((y:Int)==0)=false:=by simp<;>omega
 have h1:decide ((y:Int)≤0)=false:=decide_eq_false (by omega);have h2: ¬(y:Int)=0:=by omega
 go_enter Tryz.func112,Tryz.ntmps112
 go_wp2_with fail
 go_region
 go_wp2_with fail
 go_ret2
 have e1:((lo/y:Nat):Int)=(lo:Int)/(y:Int):=by simp
 have e2:IntKind.u64.wrap ((lo:Int)/(y:Int))=((lo/y:Nat):Int):=by rw[←e1];exact BJ _ (Nat.lt_of_le_of_lt (Nat.div_le_self _ _) hl)
 exact⟨by simp[e2],1,rfl⟩
theorem K3(y s:Nat)(w:World)(hy:y<18446744073709551616)(hs:s=64-bitLen y):Calls Tryz.prog 106 #[.int .u64 (y:Int)] w fun e w'=>e=.returned (.int .i64 (s:Int))∧w'=w:=by
 rw[hs];exact Ih y w hy
theorem Iv(A y1:Nat)(hA:A<18446744073709551616):IntKind.u64.wrap ((A:Int)/(y1:Int))=((A/y1:Nat):Int):=by
 have e1:((A/y1:Nat):Int)=(A:Int)/(y1:Int):=by simp
 rw[←e1];exact BJ _ (Nat.lt_of_le_of_lt (Nat.div_le_self _ _) hA)
theorem Iw(A y1:Nat)(hA:A<18446744073709551616):IntKind.u64.wrap ((A:Int)-IntKind.u64.wrap (((A/y1:Nat):Int)*(y1:Int)))=((A%y1:Nat):Int):=by
 have h1:=Nat.div_add_mod A y1;rw[Nat.mul_comm]at h1;have e:((A/y1:Nat):Int)*(y1:Int)=((A/y1*y1:Nat):Int):=(Int.natCast_mul ..).symm;rw[e];simp only[IntKind.wrap_u64];omega
theorem CT(a b:Nat)(ha:a<4294967296)(hb:b<4294967296):IntKind.u64.wrap ((a:Int)*(b:Int))=(a:Int)*(b:Int):=by
 have e:(a:Int)*(b:Int)=((a*b:Nat):Int):=(Int.natCast_mul ..).symm;have h:a*b≤4294967295*4294967295:=Nat.mul_le_mul (by omega) (by omega);rw[e];exact BJ _ (by omega)
theorem F9{t u g y:Nat}(h:t*4294967296+u<g*y):(4294967296:Int)*(t:Int)+(u:Int)<(g:Int)*(y:Int):=by
 have e:(g:Int)*(y:Int)=((g*y:Nat):Int):=(Int.natCast_mul ..).symm;rw[e];omega
theorem DM{t u g y:Nat}(h: ¬t*4294967296+u<g*y): ¬(4294967296:Int)*(t:Int)+(u:Int)<(g:Int)*(y:Int):=by
 have e:(g:Int)*(y:Int)=((g*y:Nat):Int):=(Int.natCast_mul ..).symm;rw[e];omega
theorem CZ{a b d R s x y:Nat}(ha:a=x)(hb:b=y)(hR:R=d):Ending.returned (.tuple #[.int .u64 ((a:Int)*4294967296+(b:Int)),.int .u64 ((R:Int)/2^s)])=.returned (.tuple #[.int .u64 ((x*4294967296+y:Nat):Int),.int .u64 ((d/2^s:Nat):Int)]):=by
 subst ha hb hR;rw[Dr,show((a*4294967296+b:Nat):Int)=(a:Int)*4294967296+(b:Int) by omega]
theorem Ka(hi lo y s Y y1 y0 A L u1 u0 q r A2 q2 r2:Nat)(w:World)(hh0:0<hi)(hhy:hi<y)(hl:lo<18446744073709551616)(hy:y<18446744073709551616)(hs:s=64-bitLen y)(hs':s≤63)
  (e1:IntKind.u64.wrap ((y:Int)*2^s)=(Y:Int)) (e2:(Y:Int)/4294967296=(y1:Int)) (e3:bits .and .u64 (Y:Int) 4294967295=(y0:Int))
  (e4:bits .or .u64 (IntKind.u64.wrap ((hi:Int)*2^s)) ((lo:Int)/2^(64-s))=(A:Int)) (e5:IntKind.u64.wrap ((lo:Int)*2^s)=(L:Int)) (e6:(L:Int)/4294967296=(u1:Int)) (e7:bits .and .u64 (L:Int) 4294967295=(u0:Int))
  (e8:IntKind.u64.wrap ((A:Int)/(y1:Int))=(q:Int)) (e9:IntKind.u64.wrap ((A:Int)-IntKind.u64.wrap ((q:Int)*(y1:Int)))=(r:Int))
  (hY:Hid (Y=y1*4294967296+y0∧A<Y∧Y<18446744073709551616∧A2=(A*4294967296+u1)%Y∧Dig A u1 Y y1 q r∧Dig A2 u0 Y y1 q2 r2)) (hy0:y0<4294967296) (hy1:0<y1) (hy1':y1<4294967296) (hu1:u1<4294967296) (hu0:u0<4294967296) (hr:r<4294967296) (hr2:r2<4294967296) (hqq:q<18446744073709551616) (hqq2:q2<18446744073709551616)
  (e10:IntKind.u64.wrap ((A2:Int)/(y1:Int))=(q2:Int)) (e11:IntKind.u64.wrap ((A2:Int)-IntKind.u64.wrap ((q2:Int)*(y1:Int)))=(r2:Int)):
  Calls Tryz.prog 112 #[.int .u64 (hi:Int),.int .u64 (lo:Int),.int .u64 (y:Int)] w fun e w'=>e=.returned (.tuple #[.int .u64 (((A*4294967296+u1)/Y*4294967296+(A2*4294967296+u0)/Y:Nat):Int),.int .u64 (((A2*4294967296+u0)%Y/2^s:Nat):Int)])∧w'=w:=by
 have h0:((y:Int)==0)=false:=by simp<;>omega
 have h1:decide ((y:Int)≤(hi:Int))=false:=decide_eq_false (by omega);have h2:((hi:Int)==0)=false:=by simp<;>omega
 have hyn:((y1:Int)==0)=false:=by simp<;>omega
 have hyn': ¬(y1:Int)=0:=by omega
 have HS:Hid _:=hs;clear hs;go_enter Tryz.func112,Tryz.ntmps112
 go_wp2_with fail
 refine(K3 y s _ hy HS.out).mono ?_;rintro e w1 ⟨rfl,rfl⟩;go_wp2_with fail
 have HA2:Hid (A2<Y):=by show A2<Y;rw[hY.out.2.2.2.1];exact Nat.mod_lt _ (by have:=hY.out.2.1;omega)
 go_loop [15,16] (fun a c=> ∃(ga ta:Nat),a=.int .u64 ((ga:Nat):Int)∧c=.int .u64 ((ta:Nat):Int)∧ta<4294967296∧ga<18446744073709551616∧Hid (Dig A u1 Y y1 ga ta)) (fun a _=>(intOf a).toNat)
 case atStart=>exact⟨q,r,rfl,rfl,hr,hqq,hY.out.2.2.2.2.1⟩
 case round=>
  obtain⟨ga,ta,rfl,rfl,hta,hga,HDa⟩:=hrel;by_cases hba:4294967296≤ga
  ·obtain⟨hpa,HNa⟩:=HDa.out.step hY.out.1 hY.out.2.1 hu1 (.inl hba);have dba:decide ((4294967296:Int)≤((ga:Nat):Int))=true:=decide_eq_true (by omega);obtain⟨va,hva⟩:=nme (ga-1);have eva:((ga:Nat):Int)-1=((va:Nat):Int):=by omega
   have vla:va<18446744073709551616:=by omega
   have HMa:Hid (Dig A u1 Y y1 va (ta+y1)∧va<ga):=⟨by rw[hva];exact HNa,by omega⟩;clear HNa hva hba;by_cases hra:4294967296≤ta+y1
   ·have dra:decide ((4294967296:Int)≤((ta:Nat):Int)+(y1:Int))=true:=decide_eq_true (by omega);have HQa:Hid (va=(A*4294967296+u1)/Y):=HMa.out.1.broke hY.out.1 hY.out.2.1 hy0 hra;have hqa:(va:Int)<4294967296:=by have:=Dh hY.out.2.1 hu1;rw[←HQa.out]at this;omega
    clear hra;have e12:IntKind.u64.wrap (IntKind.u64.wrap (IntKind.u64.wrap ((A:Int)*4294967296)+(u1:Int))-IntKind.u64.wrap (((va:Nat):Int)*(Y:Int)))=(A2:Int):=by rw[BK HQa.out hY.out.2.2.1 hY.out.2.1,←hY.out.2.2.2.1]
    go_wp2_with fail
    go_loop [18,16] (fun a c=> ∃(gb tb:Nat),a=.int .u64 ((gb:Nat):Int)∧c=.int .u64 ((tb:Nat):Int)∧tb<4294967296∧gb<18446744073709551616∧Hid (Dig A2 u0 Y y1 gb tb)) (fun a _=>(intOf a).toNat)
    case atStart=>exact⟨q2,r2,rfl,rfl,hr2,hqq2,hY.out.2.2.2.2.2⟩
    case round=>
     obtain⟨gb,tb,rfl,rfl,htb,hgb,HDb⟩:=hrel;by_cases hbb:4294967296≤gb
     ·obtain⟨hpb,HNb⟩:=HDb.out.step hY.out.1 HA2.out hu0 (.inl hbb);have dbb:decide ((4294967296:Int)≤((gb:Nat):Int))=true:=decide_eq_true (by omega);obtain⟨vb,hvb⟩:=nme (gb-1);have evb:((gb:Nat):Int)-1=((vb:Nat):Int):=by omega
      have vlb:vb<18446744073709551616:=by omega
      have HMb:Hid (Dig A2 u0 Y y1 vb (tb+y1)∧vb<gb):=⟨by rw[hvb];exact HNb,by omega⟩;clear HNb hvb hbb;by_cases hrb:4294967296≤tb+y1
      ·have drb:decide ((4294967296:Int)≤((tb:Nat):Int)+(y1:Int))=true:=decide_eq_true (by omega);have HQb:Hid (vb=(A2*4294967296+u0)/Y):=HMb.out.1.broke hY.out.1 HA2.out hy0 hrb;have hqb:(vb:Int)<4294967296:=by have:=Dh HA2.out hu0;rw[←HQb.out]at this;omega
       clear hrb;have e13:IntKind.u64.wrap (IntKind.u64.wrap (IntKind.u64.wrap ((A2:Int)*4294967296)+(u0:Int))-IntKind.u64.wrap (((vb:Nat):Int)*(Y:Int)))=(((A2*4294967296+u0)%Y:Nat):Int):=BK HQb.out hY.out.2.2.1 HA2.out;obtain⟨R,hR⟩:=nme ((A2*4294967296+u0)%Y);rw[←hR]at e13;have HR:Hid _:=hR;clear hR;go_wp2_with fail
       go_ret2
       exact⟨CZ HQa.out HQb.out HR.out,rfl⟩
      have drb:decide ((4294967296:Int)≤((tb:Nat):Int)+(y1:Int))=false:=decide_eq_false (by omega);have hr'b:tb+y1<4294967296:=by omega
      clear hrb;go_wp2_with fail
      go_round
      case rel=>exact⟨vb,tb+y1,rfl,by go_num,hr'b,by omega,HMb.out.1⟩
      case measure=>simp[intOf];have:=HMb.out.2;omega
     by_cases hcb:tb*4294967296+u0<gb*y0
     ·obtain⟨hpb,HNb⟩:=HDb.out.step hY.out.1 HA2.out hu0 (.inr hcb);have dbb:decide ((4294967296:Int)≤((gb:Nat):Int))=false:=decide_eq_false (by omega);have mmb:IntKind.u64.wrap (((gb:Nat):Int)*(y0:Int))=((gb:Nat):Int)*(y0:Int):=CT _ _ (by omega) (by omega);have dcb:decide ((4294967296:Int)*((tb:Nat):Int)+(u0:Int)<((gb:Nat):Int)*(y0:Int))=true:=decide_eq_true (F9 hcb);obtain⟨vb,hvb⟩:=nme (gb-1);have evb:((gb:Nat):Int)-1=((vb:Nat):Int):=by omega
      have vlb:vb<18446744073709551616:=by omega
      have HMb:Hid (Dig A2 u0 Y y1 vb (tb+y1)∧vb<gb):=⟨by rw[hvb];exact HNb,by omega⟩;clear HNb hvb hbb hcb;by_cases hrb:4294967296≤tb+y1
      ·have drb:decide ((4294967296:Int)≤((tb:Nat):Int)+(y1:Int))=true:=decide_eq_true (by omega);have HQb:Hid (vb=(A2*4294967296+u0)/Y):=HMb.out.1.broke hY.out.1 HA2.out hy0 hrb;have hqb:(vb:Int)<4294967296:=by have:=Dh HA2.out hu0;rw[←HQb.out]at this;omega
       clear hrb;have e13:IntKind.u64.wrap (IntKind.u64.wrap (IntKind.u64.wrap ((A2:Int)*4294967296)+(u0:Int))-IntKind.u64.wrap (((vb:Nat):Int)*(Y:Int)))=(((A2*4294967296+u0)%Y:Nat):Int):=BK HQb.out hY.out.2.2.1 HA2.out;obtain⟨R,hR⟩:=nme ((A2*4294967296+u0)%Y);rw[←hR]at e13;have HR:Hid _:=hR;clear hR;go_wp2_with fail
       go_ret2
       exact⟨CZ HQa.out HQb.out HR.out,rfl⟩
      have drb:decide ((4294967296:Int)≤((tb:Nat):Int)+(y1:Int))=false:=decide_eq_false (by omega);have hr'b:tb+y1<4294967296:=by omega
      clear hrb;go_wp2_with fail
      go_round
      case rel=>exact⟨vb,tb+y1,rfl,by go_num,hr'b,by omega,HMb.out.1⟩
      case measure=>simp[intOf];have:=HMb.out.2;omega
     have dbb:decide ((4294967296:Int)≤((gb:Nat):Int))=false:=decide_eq_false (by omega);have mmb:IntKind.u64.wrap (((gb:Nat):Int)*(y0:Int))=((gb:Nat):Int)*(y0:Int):=CT _ _ (by omega) (by omega);have dcb:decide ((4294967296:Int)*((tb:Nat):Int)+(u0:Int)<((gb:Nat):Int)*(y0:Int))=false:=decide_eq_false (DM hcb);have HQb:Hid (gb=(A2*4294967296+u0)/Y):=HDb.out.done hY.out.1 HA2.out (by omega);have hqb:(gb:Int)<4294967296:=by omega
     clear hcb hbb;have e13:IntKind.u64.wrap (IntKind.u64.wrap (IntKind.u64.wrap ((A2:Int)*4294967296)+(u0:Int))-IntKind.u64.wrap (((gb:Nat):Int)*(Y:Int)))=(((A2*4294967296+u0)%Y:Nat):Int):=BK HQb.out hY.out.2.2.1 HA2.out;obtain⟨R,hR⟩:=nme ((A2*4294967296+u0)%Y);rw[←hR]at e13;have HR:Hid _:=hR;clear hR;go_wp2_with fail
     go_ret2
     exact⟨CZ HQa.out HQb.out HR.out,rfl⟩
   have dra:decide ((4294967296:Int)≤((ta:Nat):Int)+(y1:Int))=false:=decide_eq_false (by omega);have hr'a:ta+y1<4294967296:=by omega
   clear hra;go_wp2_with fail
   go_round
   case rel=>exact⟨va,ta+y1,rfl,by go_num,hr'a,by omega,HMa.out.1⟩
   case measure=>simp[intOf];have:=HMa.out.2;omega
  by_cases hca:ta*4294967296+u1<ga*y0
  ·obtain⟨hpa,HNa⟩:=HDa.out.step hY.out.1 hY.out.2.1 hu1 (.inr hca);have dba:decide ((4294967296:Int)≤((ga:Nat):Int))=false:=decide_eq_false (by omega);have mma:IntKind.u64.wrap (((ga:Nat):Int)*(y0:Int))=((ga:Nat):Int)*(y0:Int):=CT _ _ (by omega) (by omega);have dca:decide ((4294967296:Int)*((ta:Nat):Int)+(u1:Int)<((ga:Nat):Int)*(y0:Int))=true:=decide_eq_true (F9 hca);obtain⟨va,hva⟩:=nme (ga-1);have eva:((ga:Nat):Int)-1=((va:Nat):Int):=by omega
   have vla:va<18446744073709551616:=by omega
   have HMa:Hid (Dig A u1 Y y1 va (ta+y1)∧va<ga):=⟨by rw[hva];exact HNa,by omega⟩;clear HNa hva hba hca;by_cases hra:4294967296≤ta+y1
   ·have dra:decide ((4294967296:Int)≤((ta:Nat):Int)+(y1:Int))=true:=decide_eq_true (by omega);have HQa:Hid (va=(A*4294967296+u1)/Y):=HMa.out.1.broke hY.out.1 hY.out.2.1 hy0 hra;have hqa:(va:Int)<4294967296:=by have:=Dh hY.out.2.1 hu1;rw[←HQa.out]at this;omega
    clear hra;have e12:IntKind.u64.wrap (IntKind.u64.wrap (IntKind.u64.wrap ((A:Int)*4294967296)+(u1:Int))-IntKind.u64.wrap (((va:Nat):Int)*(Y:Int)))=(A2:Int):=by rw[BK HQa.out hY.out.2.2.1 hY.out.2.1,←hY.out.2.2.2.1]
    go_wp2_with fail
    go_loop [18,16] (fun a c=> ∃(gb tb:Nat),a=.int .u64 ((gb:Nat):Int)∧c=.int .u64 ((tb:Nat):Int)∧tb<4294967296∧gb<18446744073709551616∧Hid (Dig A2 u0 Y y1 gb tb)) (fun a _=>(intOf a).toNat)
    case atStart=>exact⟨q2,r2,rfl,rfl,hr2,hqq2,hY.out.2.2.2.2.2⟩
    case round=>
     obtain⟨gb,tb,rfl,rfl,htb,hgb,HDb⟩:=hrel;by_cases hbb:4294967296≤gb
     ·obtain⟨hpb,HNb⟩:=HDb.out.step hY.out.1 HA2.out hu0 (.inl hbb);have dbb:decide ((4294967296:Int)≤((gb:Nat):Int))=true:=decide_eq_true (by omega);obtain⟨vb,hvb⟩:=nme (gb-1);have evb:((gb:Nat):Int)-1=((vb:Nat):Int):=by omega
      have vlb:vb<18446744073709551616:=by omega
      have HMb:Hid (Dig A2 u0 Y y1 vb (tb+y1)∧vb<gb):=⟨by rw[hvb];exact HNb,by omega⟩;clear HNb hvb hbb;by_cases hrb:4294967296≤tb+y1
      ·have drb:decide ((4294967296:Int)≤((tb:Nat):Int)+(y1:Int))=true:=decide_eq_true (by omega);have HQb:Hid (vb=(A2*4294967296+u0)/Y):=HMb.out.1.broke hY.out.1 HA2.out hy0 hrb;have hqb:(vb:Int)<4294967296:=by have:=Dh HA2.out hu0;rw[←HQb.out]at this;omega
       clear hrb;have e13:IntKind.u64.wrap (IntKind.u64.wrap (IntKind.u64.wrap ((A2:Int)*4294967296)+(u0:Int))-IntKind.u64.wrap (((vb:Nat):Int)*(Y:Int)))=(((A2*4294967296+u0)%Y:Nat):Int):=BK HQb.out hY.out.2.2.1 HA2.out;obtain⟨R,hR⟩:=nme ((A2*4294967296+u0)%Y);rw[←hR]at e13;have HR:Hid _:=hR;clear hR;go_wp2_with fail
       go_ret2
       exact⟨CZ HQa.out HQb.out HR.out,rfl⟩
      have drb:decide ((4294967296:Int)≤((tb:Nat):Int)+(y1:Int))=false:=decide_eq_false (by omega);have hr'b:tb+y1<4294967296:=by omega
      clear hrb;go_wp2_with fail
      go_round
      case rel=>exact⟨vb,tb+y1,rfl,by go_num,hr'b,by omega,HMb.out.1⟩
      case measure=>simp[intOf];have:=HMb.out.2;omega
     by_cases hcb:tb*4294967296+u0<gb*y0
     ·obtain⟨hpb,HNb⟩:=HDb.out.step hY.out.1 HA2.out hu0 (.inr hcb);have dbb:decide ((4294967296:Int)≤((gb:Nat):Int))=false:=decide_eq_false (by omega);have mmb:IntKind.u64.wrap (((gb:Nat):Int)*(y0:Int))=((gb:Nat):Int)*(y0:Int):=CT _ _ (by omega) (by omega);have dcb:decide ((4294967296:Int)*((tb:Nat):Int)+(u0:Int)<((gb:Nat):Int)*(y0:Int))=true:=decide_eq_true (F9 hcb);obtain⟨vb,hvb⟩:=nme (gb-1);have evb:((gb:Nat):Int)-1=((vb:Nat):Int):=by omega
      have vlb:vb<18446744073709551616:=by omega
      have HMb:Hid (Dig A2 u0 Y y1 vb (tb+y1)∧vb<gb):=⟨by rw[hvb];exact HNb,by omega⟩;clear HNb hvb hbb hcb;by_cases hrb:4294967296≤tb+y1
      ·have drb:decide ((4294967296:Int)≤((tb:Nat):Int)+(y1:Int))=true:=decide_eq_true (by omega);have HQb:Hid (vb=(A2*4294967296+u0)/Y):=HMb.out.1.broke hY.out.1 HA2.out hy0 hrb;have hqb:(vb:Int)<4294967296:=by have:=Dh HA2.out hu0;rw[←HQb.out]at this;omega
       clear hrb;have e13:IntKind.u64.wrap (IntKind.u64.wrap (IntKind.u64.wrap ((A2:Int)*4294967296)+(u0:Int))-IntKind.u64.wrap (((vb:Nat):Int)*(Y:Int)))=(((A2*4294967296+u0)%Y:Nat):Int):=BK HQb.out hY.out.2.2.1 HA2.out;obtain⟨R,hR⟩:=nme ((A2*4294967296+u0)%Y);rw[←hR]at e13;have HR:Hid _:=hR;clear hR;go_wp2_with fail
       go_ret2
       exact⟨CZ HQa.out HQb.out HR.out,rfl⟩
      have drb:decide ((4294967296:Int)≤((tb:Nat):Int)+(y1:Int))=false:=decide_eq_false (by omega);have hr'b:tb+y1<4294967296:=by omega
      clear hrb;go_wp2_with fail
      go_round
      case rel=>exact⟨vb,tb+y1,rfl,by go_num,hr'b,by omega,HMb.out.1⟩
      case measure=>simp[intOf];have:=HMb.out.2;omega
     have dbb:decide ((4294967296:Int)≤((gb:Nat):Int))=false:=decide_eq_false (by omega);have mmb:IntKind.u64.wrap (((gb:Nat):Int)*(y0:Int))=((gb:Nat):Int)*(y0:Int):=CT _ _ (by omega) (by omega);have dcb:decide ((4294967296:Int)*((tb:Nat):Int)+(u0:Int)<((gb:Nat):Int)*(y0:Int))=false:=decide_eq_false (DM hcb);have HQb:Hid (gb=(A2*4294967296+u0)/Y):=HDb.out.done hY.out.1 HA2.out (by omega);have hqb:(gb:Int)<4294967296:=by omega
     clear hcb hbb;have e13:IntKind.u64.wrap (IntKind.u64.wrap (IntKind.u64.wrap ((A2:Int)*4294967296)+(u0:Int))-IntKind.u64.wrap (((gb:Nat):Int)*(Y:Int)))=(((A2*4294967296+u0)%Y:Nat):Int):=BK HQb.out hY.out.2.2.1 HA2.out;obtain⟨R,hR⟩:=nme ((A2*4294967296+u0)%Y);rw[←hR]at e13;have HR:Hid _:=hR;clear hR;go_wp2_with fail
     go_ret2
     exact⟨CZ HQa.out HQb.out HR.out,rfl⟩
   have dra:decide ((4294967296:Int)≤((ta:Nat):Int)+(y1:Int))=false:=decide_eq_false (by omega);have hr'a:ta+y1<4294967296:=by omega
   clear hra;go_wp2_with fail
   go_round
   case rel=>exact⟨va,ta+y1,rfl,by go_num,hr'a,by omega,HMa.out.1⟩
   case measure=>simp[intOf];have:=HMa.out.2;omega
  have dba:decide ((4294967296:Int)≤((ga:Nat):Int))=false:=decide_eq_false (by omega);have mma:IntKind.u64.wrap (((ga:Nat):Int)*(y0:Int))=((ga:Nat):Int)*(y0:Int):=CT _ _ (by omega) (by omega);have dca:decide ((4294967296:Int)*((ta:Nat):Int)+(u1:Int)<((ga:Nat):Int)*(y0:Int))=false:=decide_eq_false (DM hca);have HQa:Hid (ga=(A*4294967296+u1)/Y):=HDa.out.done hY.out.1 hY.out.2.1 (by omega);have hqa:(ga:Int)<4294967296:=by omega
  clear hca hba;have e12:IntKind.u64.wrap (IntKind.u64.wrap (IntKind.u64.wrap ((A:Int)*4294967296)+(u1:Int))-IntKind.u64.wrap (((ga:Nat):Int)*(Y:Int)))=(A2:Int):=by rw[BK HQa.out hY.out.2.2.1 hY.out.2.1,←hY.out.2.2.2.1]
  go_wp2_with fail
  go_loop [18,16] (fun a c=> ∃(gb tb:Nat),a=.int .u64 ((gb:Nat):Int)∧c=.int .u64 ((tb:Nat):Int)∧tb<4294967296∧gb<18446744073709551616∧Hid (Dig A2 u0 Y y1 gb tb)) (fun a _=>(intOf a).toNat)
  case atStart=>exact⟨q2,r2,rfl,rfl,hr2,hqq2,hY.out.2.2.2.2.2⟩
  case round=>
   obtain⟨gb,tb,rfl,rfl,htb,hgb,HDb⟩:=hrel;by_cases hbb:4294967296≤gb
   ·obtain⟨hpb,HNb⟩:=HDb.out.step hY.out.1 HA2.out hu0 (.inl hbb);have dbb:decide ((4294967296:Int)≤((gb:Nat):Int))=true:=decide_eq_true (by omega);obtain⟨vb,hvb⟩:=nme (gb-1);have evb:((gb:Nat):Int)-1=((vb:Nat):Int):=by omega
    have vlb:vb<18446744073709551616:=by omega
    have HMb:Hid (Dig A2 u0 Y y1 vb (tb+y1)∧vb<gb):=⟨by rw[hvb];exact HNb,by omega⟩;clear HNb hvb hbb;by_cases hrb:4294967296≤tb+y1
    ·have drb:decide ((4294967296:Int)≤((tb:Nat):Int)+(y1:Int))=true:=decide_eq_true (by omega);have HQb:Hid (vb=(A2*4294967296+u0)/Y):=HMb.out.1.broke hY.out.1 HA2.out hy0 hrb;have hqb:(vb:Int)<4294967296:=by have:=Dh HA2.out hu0;rw[←HQb.out]at this;omega
     clear hrb;have e13:IntKind.u64.wrap (IntKind.u64.wrap (IntKind.u64.wrap ((A2:Int)*4294967296)+(u0:Int))-IntKind.u64.wrap (((vb:Nat):Int)*(Y:Int)))=(((A2*4294967296+u0)%Y:Nat):Int):=BK HQb.out hY.out.2.2.1 HA2.out;obtain⟨R,hR⟩:=nme ((A2*4294967296+u0)%Y);rw[←hR]at e13;have HR:Hid _:=hR;clear hR;go_wp2_with fail
     go_ret2
     exact⟨CZ HQa.out HQb.out HR.out,rfl⟩
    have drb:decide ((4294967296:Int)≤((tb:Nat):Int)+(y1:Int))=false:=decide_eq_false (by omega);have hr'b:tb+y1<4294967296:=by omega
    clear hrb;go_wp2_with fail
    go_round
    case rel=>exact⟨vb,tb+y1,rfl,by go_num,hr'b,by omega,HMb.out.1⟩
    case measure=>simp[intOf];have:=HMb.out.2;omega
   by_cases hcb:tb*4294967296+u0<gb*y0
   ·obtain⟨hpb,HNb⟩:=HDb.out.step hY.out.1 HA2.out hu0 (.inr hcb);have dbb:decide ((4294967296:Int)≤((gb:Nat):Int))=false:=decide_eq_false (by omega);have mmb:IntKind.u64.wrap (((gb:Nat):Int)*(y0:Int))=((gb:Nat):Int)*(y0:Int):=CT _ _ (by omega) (by omega);have dcb:decide ((4294967296:Int)*((tb:Nat):Int)+(u0:Int)<((gb:Nat):Int)*(y0:Int))=true:=decide_eq_true (F9 hcb);obtain⟨vb,hvb⟩:=nme (gb-1);have evb:((gb:Nat):Int)-1=((vb:Nat):Int):=by omega
    have vlb:vb<18446744073709551616:=by omega
    have HMb:Hid (Dig A2 u0 Y y1 vb (tb+y1)∧vb<gb):=⟨by rw[hvb];exact HNb,by omega⟩;clear HNb hvb hbb hcb;by_cases hrb:4294967296≤tb+y1
    ·have drb:decide ((4294967296:Int)≤((tb:Nat):Int)+(y1:Int))=true:=decide_eq_true (by omega);have HQb:Hid (vb=(A2*4294967296+u0)/Y):=HMb.out.1.broke hY.out.1 HA2.out hy0 hrb;have hqb:(vb:Int)<4294967296:=by have:=Dh HA2.out hu0;rw[←HQb.out]at this;omega
     clear hrb;have e13:IntKind.u64.wrap (IntKind.u64.wrap (IntKind.u64.wrap ((A2:Int)*4294967296)+(u0:Int))-IntKind.u64.wrap (((vb:Nat):Int)*(Y:Int)))=(((A2*4294967296+u0)%Y:Nat):Int):=BK HQb.out hY.out.2.2.1 HA2.out;obtain⟨R,hR⟩:=nme ((A2*4294967296+u0)%Y);rw[←hR]at e13;have HR:Hid _:=hR;clear hR;go_wp2_with fail
     go_ret2
     exact⟨CZ HQa.out HQb.out HR.out,rfl⟩
    have drb:decide ((4294967296:Int)≤((tb:Nat):Int)+(y1:Int))=false:=decide_eq_false (by omega);have hr'b:tb+y1<4294967296:=by omega
    clear hrb;go_wp2_with fail
    go_round
    case rel=>exact⟨vb,tb+y1,rfl,by go_num,hr'b,by omega,HMb.out.1⟩
    case measure=>simp[intOf];have:=HMb.out.2;omega
   have dbb:decide ((4294967296:Int)≤((gb:Nat):Int))=false:=decide_eq_false (by omega);have mmb:IntKind.u64.wrap (((gb:Nat):Int)*(y0:Int))=((gb:Nat):Int)*(y0:Int):=CT _ _ (by omega) (by omega);have dcb:decide ((4294967296:Int)*((tb:Nat):Int)+(u0:Int)<((gb:Nat):Int)*(y0:Int))=false:=decide_eq_false (DM hcb);have HQb:Hid (gb=(A2*4294967296+u0)/Y):=HDb.out.done hY.out.1 HA2.out (by omega);have hqb:(gb:Int)<4294967296:=by omega
   clear hcb hbb;have e13:IntKind.u64.wrap (IntKind.u64.wrap (IntKind.u64.wrap ((A2:Int)*4294967296)+(u0:Int))-IntKind.u64.wrap (((gb:Nat):Int)*(Y:Int)))=(((A2*4294967296+u0)%Y:Nat):Int):=BK HQb.out hY.out.2.2.1 HA2.out;obtain⟨R,hR⟩:=nme ((A2*4294967296+u0)%Y);rw[←hR]at e13;have HR:Hid _:=hR;clear hR;go_wp2_with fail
   go_ret2
   exact⟨CZ HQa.out HQb.out HR.out,rfl⟩
theorem Gk(y:Nat)(h0:0<y)(hy:y<18446744073709551616):y*2^(64-bitLen y)<18446744073709551616∧9223372036854775808≤y*2^(64-bitLen y)∧64-bitLen y≤63:=by
 obtain⟨h1,h2⟩:=bitLen_spec y;have h3:=h2 (by omega);have h4:=Ca y hy;have hb:0<bitLen y:=by
  rcases Nat.eq_zero_or_pos (bitLen y)with e|e
  ·rw[e,Nat.pow_zero]at h1;omega
  exact e
 refine⟨?_,?_,by omega⟩
 ·have:=Nat.mul_lt_mul_of_pos_right h1 (Nat.two_pow_pos (64-bitLen y));rw[←CO (bitLen y) h4]at this;exact this
 have:=Nat.mul_le_mul_right (2^(64-bitLen y)) h3;rw[←Nat.pow_add,show bitLen y-1+(64-bitLen y)=63 by omega]at this;exact this
theorem JI(z:Nat)(hz:z<18446744073709551616):bits .and .u64 (z:Int) 4294967295=((z%4294967296:Nat):Int):=Go.Proofs.Mul64.maskN z hz
theorem LZ(A u1 u0 D M:Nat)(h:D+M=A*4294967296+u1):A*18446744073709551616+(u1*4294967296+u0)=D*4294967296+(M*4294967296+u0):=by omega
theorem L4{A L u1 u0 Y T:Nat}(hL:L=u1*4294967296+u0)(hT:T=A*18446744073709551616+L)(hY:0<Y):
  T/Y=(A*4294967296+u1)/Y*4294967296+((A*4294967296+u1)%Y*4294967296+u0)/Y∧T%Y=((A*4294967296+u1)%Y*4294967296+u0)%Y:=by
 have h1:=Nat.div_add_mod (A*4294967296+u1) Y;have e:T=Y*((A*4294967296+u1)/Y*4294967296)+((A*4294967296+u1)%Y*4294967296+u0):=by
  rw[←Nat.mul_assoc,hT,hL];exact LZ _ _ _ _ _ h1
 rw[e,Nat.mul_add_div hY,Nat.mul_add_mod];exact⟨rfl,rfl⟩
theorem Hn(hi lo y:Nat)(w:World)(hhy:hi<y)(hl:lo<18446744073709551616)(hy:y<18446744073709551616):
  Calls Tryz.prog 112 #[.int .u64 (hi:Int),.int .u64 (lo:Int),.int .u64 (y:Int)] w fun e w'=>e=.returned (.tuple #[.int .u64 (((hi*18446744073709551616+lo)/y:Nat):Int),.int .u64 (((hi*18446744073709551616+lo)%y:Nat):Int)])∧ ∃n,w'=w.drewN n:=by
 by_cases h0:hi=0
 ·subst h0;rw[Nat.zero_mul,Nat.zero_add];exact Jh lo y w hl hy (by omega)
 obtain⟨n1,n2,n3⟩:=Gk y (by omega) hy;obtain⟨s,hs⟩: ∃s,s=64-bitLen y:=⟨_,rfl⟩;rw[←hs]at n1 n2 n3;obtain⟨Y,hY⟩:=nme (y*2^s);rw[←hY]at n1 n2;have hp:=Nat.two_pow_pos s;have hhi:(hi+1)*2^s≤Y:=by rw[hY];exact Nat.mul_le_mul_right _ hhy
 rw[Nat.add_mul,Nat.one_mul]at hhi;have hlo:lo/2^(64-s)<2^s:=by
  rw[Nat.div_lt_iff_lt_mul (Nat.two_pow_pos _),←CO s (by omega)];exact hl
 obtain⟨A,hA⟩:=nme (hi*2^s+lo/2^(64-s));obtain⟨L,hL⟩:=nme (lo*2^s%18446744073709551616);have hL64:L<18446744073709551616:=by rw[hL];exact Nat.mod_lt _ (by omega)
 have hAY:A<Y:=by omega
 have e1:IntKind.u64.wrap ((y:Int)*2^s)=(Y:Int):=by
  rw[show(y:Int)*2^s=((y*2^s:Nat):Int) by rw[Int.natCast_mul,Ci],←hY];exact BJ _ n1
 have e4:bits .or .u64 (IntKind.u64.wrap ((hi:Int)*2^s)) ((lo:Int)/2^(64-s))=(A:Int):=by
  rw[show(hi:Int)*2^s=((hi*2^s:Nat):Int) by rw[Int.natCast_mul,Ci],BJ _ (by omega),Dr,bits_or_u64_nat _ _ (by omega) (by omega),Fu _ _ s (Nat.mul_mod_left _ _) hlo,hA]
 have e5:IntKind.u64.wrap ((lo:Int)*2^s)=(L:Int):=by
  rw[show(lo:Int)*2^s=((lo*2^s:Nat):Int) by rw[Int.natCast_mul,Ci],Ey,hL]
 obtain⟨y1,hy1⟩:=nme (Y/4294967296);have hy1p:0<y1:=by omega
 obtain⟨A2,hA2⟩:=nme ((A*4294967296+L/4294967296)%Y);have hA2Y:A2<Y:=by rw[hA2];exact Nat.mod_lt _ (by omega)
 have hYs:Y=y1*4294967296+Y%4294967296:=by omega
 have hc:=Ka hi lo y s Y y1 (Y%4294967296) A L (L/4294967296) (L%4294967296) (A/y1) (A%y1) A2 (A2/y1) (A2%y1) w (by omega) hhy hl hy hs n3
  e1 (by omega) (JI Y n1) e4 e5 (by omega) (JI L hL64) (Iv A y1 (by omega)) (Iw A y1 (by omega))
  ⟨hYs,hAY,n1,hA2,FB hYs (by omega) hy1p,FB hYs (by omega) hy1p⟩
  (Nat.mod_lt _ (by omega)) hy1p (by omega) (by omega) (Nat.mod_lt _ (by omega)) (by have:=Nat.mod_lt A hy1p;omega) (by have:=Nat.mod_lt A2 hy1p;omega) (Nat.lt_of_le_of_lt (Nat.div_le_self _ _) (by omega)) (Nat.lt_of_le_of_lt (Nat.div_le_self _ _) (by omega))
  (Iv A2 y1 (by omega)) (Iw A2 y1 (by omega))
 refine hc.mono fun e w' hh=>⟨hh.1.trans ?_,0,hh.2⟩;have hT:(hi*18446744073709551616+lo)*2^s=A*18446744073709551616+L:=by
  have:=KX lo s (by omega);rw[←hL]at this;rw[Nat.add_mul,hA,Nat.add_mul,Nat.mul_right_comm];omega
 obtain⟨g1,g2⟩:=L4 (A:=A) (L:=L) (u1:=L/4294967296) (u0:=L%4294967296) (Y:=Y) (by omega) hT (by omega);rw[hY,Nat.mul_div_mul_right _ _ hp,←hY]at g1;rw[hY,Nat.mul_mod_mul_right,←hY]at g2;rw[hA2,←g1,←g2,Nat.mul_div_cancel _ hp]
theorem GN(G:Nat→Nat)(m:Nat):V G (m+1)=G 0+18446744073709551616*V (fun i=>G (1+i)) m:=by
 rw[Nat.add_comm m 1,Ba,CK,At,Bd,CP,Nat.zero_add,Nat.mul_one]
def DW(w wr:World)(b N o n y:Nat)(F:Nat→Nat)(k rest:Nat)(H:Nat→Nat):Prop:=
 Row wr b N H∧(∀j,j<o+k∨o+n≤j→H j=F j)∧rest<y∧V (fro F o) n=y*(P k*V (fro H (o+k)) (n-k))+(rest*P k+V (fro F o) k)∧w.grownBy wr (some b)
theorem DW.start{w:World}{b N n y:Nat}{F:Nat→Nat}(o:Nat)(h:Row w b N F)(hy:0<y):DW w w b N o n y F n 0 F:=
 ⟨h,fun _ _=>rfl,hy,by rw[Nat.sub_self,Bd];simp,World.grownBy.refl _ _⟩
theorem N0(X y q P r' U rest T f c:Nat)(h1:rest*18446744073709551616+f=y*q+r')(h2:X=y*(P*18446744073709551616*U)+(rest*(P*18446744073709551616)+(c+f*P))):
  X=y*(P*(q+18446744073709551616*U))+(r'*P+c):=by
 have e1:y*(P*(q+18446744073709551616*U))=y*q*P+y*(P*18446744073709551616*U):=by
  rw[Nat.mul_add,Nat.mul_add,Nat.mul_assoc y q,Nat.mul_comm q,Nat.mul_assoc P]
 have e2:=congrArg (· *P) h1;simp only[Nat.add_mul]at e2;have e3:rest*(P*18446744073709551616)=rest*18446744073709551616*P:=by rw[Nat.mul_assoc,Nat.mul_comm P]
 rw[h2,e1,e3];omega
theorem DW.step{w wr:World}{b N o n y:Nat}{F:Nat→Nat}{t rest:Nat}{H:Nat→Nat}(h:DW w wr b N o n y F (t+1) rest H)(hn:o+n≤N)(ht:t<n)(hy:y<18446744073709551616):
  (rest*18446744073709551616+H (o+t))/y<18446744073709551616∧
  DW w (wr.setCell ⟨b,o+t,none⟩ (.int .u64 (((rest*18446744073709551616+H (o+t))/y:Nat):Int))) b N o n y F t ((rest*18446744073709551616+H (o+t))%y) (put H (o+t) ((rest*18446744073709551616+H (o+t))/y)):=by
 obtain⟨h1,h2,h3,h4,h5⟩:=h;have hH:H (o+t)<18446744073709551616:=h1.2 _ (by omega);have hF:H (o+t)=F (o+t):=h2 _ (by omega);have hq:(rest*18446744073709551616+H (o+t))/y<18446744073709551616:=by
  rw[Nat.div_lt_iff_lt_mul (by omega)];have:(rest+1)*18446744073709551616≤y*18446744073709551616:=Nat.mul_le_mul_right _ h3;rw[Nat.mul_comm 18446744073709551616 y];omega
 refine⟨hq,h1.set _ hq,fun j hj=> ?_,Nat.mod_lt _ (by omega),?_,AK _ h5 _ _⟩
 ·rw[Aq _ _ (by omega)];exact h2 j (by omega)
 have e1:V (fro (put H (o+t) ((rest*18446744073709551616+H (o+t))/y)) (o+t)) (n-t)=(rest*18446744073709551616+H (o+t))/y+18446744073709551616*V (fro H (o+(t+1))) (n- (t+1)):=by
  rw[show n-t=(n- (t+1))+1 by omega,GN];congr 1
  ·exact AA _ _ _
  congr 1
  refine A4 fun i hi=> ?_;show put H (o+t) _ (o+t+(1+i))=H (o+(t+1)+i);rw[Aq _ _ (by omega),show o+t+(1+i)=o+(t+1)+i by omega]
 rw[e1];rw[Bo,At]at h4;refine N0 _ _ _ _ _ _ rest 0 (H (o+t)) _ (Nat.div_add_mod _ _).symm ?_;rw[h4,hF];rfl
theorem Es(b N o n cap y:Nat)(F:Nat→Nat)(w:World)(hF:Row w b N F)(ho:o+n≤N)(hn:n≤1099511627776)(hy0:0<y)(hy:y<18446744073709551616):
  Calls Tryz.prog 105 #[.slice (some ⟨b,o,none⟩) n cap,.int .u64 (y:Int)] w fun e w'=> ∃c:Nat,e=.returned (.int .u64 (c:Int))∧ ∃H,DW w w' b N o n y F 0 c H:=by
 have A0:=DW.start (n:=n) o hF hy0;clear hF;go_enter Tryz.func105,Tryz.ntmps105
 go_wp2_with fail
 go_loopw [5,6] (fun cv t wr=> ∃(k c:Nat) (H:Nat→Nat),k≤n∧t=.int .i64 ((k:Int)-1)∧cv=.int .u64 ((c:Nat):Int)∧DW w wr b N o n y F k c H) (fun _ t _=>(intOf t+1).toNat)
 case atStart=>exact⟨n,0,F,Nat.le_refl _,rfl,rfl,A0⟩
 case round=>
  clear A0;obtain⟨k,c,H,hk,rfl,rfl,hA⟩:=hrel;by_cases hk0:k=0
  ·subst hk0;have HA:Hid _:=hA;clear hA;go_wp2_with fail
   go_ret
   exact⟨c,rfl,H,HA.out⟩
  obtain⟨t,rfl⟩: ∃t,k=t+1:=⟨k-1,by omega⟩;have hc2:wr.cell? ⟨b,o+t,none⟩=some (.int .u64 (H (o+t):Nat)):=hA.1.cell (by omega);have hf2:wr.frozen? ⟨b,o+t,none⟩=false:=hA.1.frozen _;have S:Hid _:=(hA.step ho (by omega) hy).2;have hcy:c<y:=hA.2.2.1;have hH:H (o+t)<18446744073709551616:=hA.1.2 _ (by omega);clear hA;go_wp2_with fail
  refine(Hn c (H (o+t)) y _ hcy hH hy).mono ?_;rintro e w1 ⟨rfl,nd,rfl⟩;go_wp2_with fail
  go_roundw
  case rel=>exact⟨t,_,_,by omega,by go_num,rfl,by obtain⟨q1,q2,q3,q4,q5⟩:=S.out;exact⟨q1,q2,q3,q4,CX q5 nd⟩⟩
  case measure=>simp[intOf]
theorem DW.fin{w wr:World}{b N o n y c:Nat}{F H:Nat→Nat}(h:DW w wr b N o n y F 0 c H):V (fro H o) n=V (fro F o) n/y∧c=V (fro F o) n%y:=by
 obtain⟨_,_,h3,h4,_⟩:=h;rw[CP,Bd,Nat.one_mul,Nat.mul_one,Nat.add_zero,Nat.sub_zero,Nat.add_zero]at h4;rw[h4,Nat.mul_add_div (by omega),Nat.div_eq_of_lt h3,Nat.add_zero,Nat.mul_add_mod,Nat.mod_eq_of_lt h3];exact⟨rfl,rfl⟩
def DY(A u Y y1 q r:Nat):Prop:=q*y1+r=A∧(A*18446744073709551616+u)/Y≤q
theorem JJ(y1 y0 q r u:Nat):q*(y1*18446744073709551616+y0)+(r*18446744073709551616+u)=(q*y1+r)*18446744073709551616+u+q*y0:=by
 rw[Nat.mul_add,Nat.add_mul,Nat.mul_assoc q];omega
theorem Kb{A u Y y1 y0:Nat}(hY:Y=y1*18446744073709551616+y0)(hu:u<18446744073709551616)(hy1:0<y1):DY A u Y y1 (A/y1) (A%y1):=by
 refine⟨by rw[Nat.mul_comm];exact Nat.div_add_mod A y1,?_⟩;have h1:(A*18446744073709551616+u)/Y≤(A*18446744073709551616+u)/(y1*18446744073709551616):=Nat.div_le_div_left (by omega) (by omega);have h2:(A*18446744073709551616+u)/(y1*18446744073709551616)=A/y1:=by
  rw[Nat.mul_comm y1,←Nat.div_div_eq_div_mul,Nat.mul_comm A,Nat.mul_add_div (by omega),Nat.div_eq_of_lt hu,Nat.add_zero]
 rw[h2]at h1;exact h1
theorem DY.step{A u Y y1 y0 q r:Nat}(h:DY A u Y y1 q r)(hY:Y=y1*18446744073709551616+y0)(hY0:0<Y)(hc:r*18446744073709551616+u<q*y0):0<q∧DY A u Y y1 (q-1) (r+y1):=by
 obtain⟨h1,h2⟩:=h;have hlt:(A*18446744073709551616+u)/Y<q:=by
  rw[Nat.div_lt_iff_lt_mul hY0];have:=JJ y1 y0 q r u;rw[h1,←hY]at this;exact It this hc
 refine⟨Nat.lt_of_le_of_lt (Nat.zero_le _) hlt,?_,Nat.le_sub_one_of_lt hlt⟩;have hq0:0<q:=Nat.lt_of_le_of_lt (Nat.zero_le _) hlt;clear hlt hc h2;obtain⟨t,rfl⟩: ∃t,q=t+1:=⟨q-1,by omega⟩;rw[Nat.add_mul]at h1;simp only[Nat.add_sub_cancel];omega
theorem DY.done{A u Y y1 y0 q r:Nat}(h:DY A u Y y1 q r)(hY:Y=y1*18446744073709551616+y0)(hY0:0<Y)(hc:q*y0≤r*18446744073709551616+u):q=(A*18446744073709551616+u)/Y:=by
 obtain⟨h1,h2⟩:=h;refine Nat.le_antisymm ?_ h2;rw[Nat.le_div_iff_mul_le hY0];have:=JJ y1 y0 q r u;rw[h1,←hY]at this;exact Iu this hc
theorem DY.broke{A u Y y1 y0 q r:Nat}(h:DY A u Y y1 q r)(hY:Y=y1*18446744073709551616+y0)(hY0:0<Y)(hq:q<18446744073709551616)(h0:y0<18446744073709551616)(hr:18446744073709551616≤r):q=(A*18446744073709551616+u)/Y:=by
 refine h.done hY hY0 ?_;have h4:q*y0≤18446744073709551616*18446744073709551616:=Nat.mul_le_mul (Nat.le_of_lt hq) (Nat.le_of_lt h0);have h5:18446744073709551616*18446744073709551616≤r*18446744073709551616:=Nat.mul_le_mul_right _ hr;exact Nat.le_trans h4 (Nat.le_trans h5 (Nat.le_add_right _ _))
theorem Ix{q y0:Nat}(hq:0<q)(hy:y0<18446744073709551616):Df (AL q y0) y0 0=AL (q-1) y0∧CN (AL q y0) y0 0+A9 (q-1) y0=A9 q y0:=by
 obtain⟨t,rfl⟩: ∃t,q=t+1:=⟨q-1,by omega⟩;simp only[Nat.add_sub_cancel];have h1:=EW (t+1) y0;have h2:=EW t y0;have h3:=Ii (AL (t+1) y0) y0 0 (Ep _ _) hy (by omega);have h4:=Ep t y0;have h5:=Ep (t+1) y0;have h6:=Fd (AL (t+1) y0) y0 0;rw[Nat.add_mul,Nat.one_mul]at h1;generalize AL (t+1) y0=a at*;generalize A9 (t+1) y0=b at*;generalize AL t y0=c at*;generalize A9 t y0=d at*;generalize Df a y0 0=e at*;generalize CN a y0 0=f at*;generalize t*y0=g at*;omega
theorem Iy{R Y T low ylow p q:Nat}{R3:Nat}(hR:R=R3*p+low)(hl:low<p)(hY:Y=T*p+ylow)(hT:0<T)(hq:q=R3/T):R/Y≤q:=by
 rw[hq,Nat.le_div_iff_mul_le hT];have h1:R/Y*Y≤R:=Nat.div_mul_le_self R Y;have h2:R/Y*(T*p)≤R/Y*Y:=Nat.mul_le_mul_left _ (by omega);have h3:R/Y*T*p<(R3+1)*p:=by rw[Nat.mul_assoc,Nat.add_mul];omega
 have:=Nat.lt_of_mul_lt_mul_right h3;omega
theorem L5{R Y T low ylow p q:Nat}{R3:Nat}(hR:R=R3*p+low)(hY:Y=T*p+ylow)(hyl:ylow<p)(hT:0<T)(hY0:0<Y)(hq:q=R3/T)(hqT:q≤T):q≤R/Y+1:=by
 rcases Nat.eq_zero_or_pos q with h0|h0
 ·rw[h0];exact Nat.zero_le _
 obtain⟨t,rfl⟩: ∃t,q=t+1:=⟨q-1,by omega⟩;have h1:t≤R/Y:=by
  rw[Nat.le_div_iff_mul_le hY0];have h2:(t+1)*T≤R3:=by rw[hq];exact Nat.div_mul_le_self R3 T
  have h3:t*Y≤t*((T+1)*p):=Nat.mul_le_mul_left _ (by rw[hY,Nat.add_mul];omega);have h4:t*(T+1)≤R3:=by rw[Nat.add_mul]at h2;rw[Nat.mul_add];omega
  have h5:t*((T+1)*p)≤R3*p:=by rw[←Nat.mul_assoc];exact Nat.mul_le_mul_right _ h4
  omega
 exact Nat.succ_le_succ h1
def Di(r0 r1 r2 y0 y1:Nat):Nat:=if y1≤r2 then 18446744073709551615 else((r2*18446744073709551616+r1)*18446744073709551616+r0)/(y1*18446744073709551616+y0)
theorem K5(b o cap b' o' cap':Nat)(r2 y1:Nat)(w:World)(hr2:w.cell? ⟨b,o+2,none⟩=some (.int .u64 (r2:Int)))(hy1:w.cell? ⟨b',o'+1,none⟩=some (.int .u64 (y1:Int)))(h:y1≤r2):
  Calls Tryz.prog 119 #[.slice (some ⟨b,o,none⟩) 3 cap,.slice (some ⟨b',o',none⟩) 2 cap'] w fun e w'=>e=.returned (.int .u64 18446744073709551615)∧ ∃n,w'=w.drewN n:=by
 have hd:decide ((y1:Int)≤(r2:Int))=true:=decide_eq_true (by omega);have hd':decide (y1≤r2)=true:=decide_eq_true h;go_enter Tryz.func119,Tryz.ntmps119
 go_wp2_with fail
 go_region
 go_wp2_with fail
 go_ret
 exact⟨rfl,1,rfl⟩
theorem Nm{f:FuncId}{args:Array Value}{w:World}{k n:Nat}{v:Value}(h:Calls Tryz.prog f args (w.drewN (k+n)) fun e w'=>e=.returned v∧ ∃m,w'=(w.drewN (k+n)).drewN m):
  Calls Tryz.prog f args (w.drewN (k+n)) fun e w''=>e=.returned v∧ ∃m,w''=w.drewN (k+m):=
 h.mono fun _ _ ⟨he,m,hm⟩=>⟨he,n+m,by rw[hm,World.drewN_drewN,Nat.add_assoc]⟩
theorem L6(r2 r1 y1 q r A:Nat)(w:World)(h:r2<y1)(l1:r1<18446744073709551616)(m1:y1<18446744073709551616)(hA:A=r2*18446744073709551616+r1)(hq:q=A/y1∧r=A%y1):
  Calls Tryz.prog 112 #[.int .u64 (r2:Int),.int .u64 (r1:Int),.int .u64 (y1:Int)] w fun e w'=>e=.returned (.tuple #[.int .u64 (q:Int),.int .u64 (r:Int)])∧ ∃n,w'=w.drewN n:=by
 rw[hq.1,hq.2,hA];exact Hn r2 r1 y1 w h l1 m1
theorem K6(b o cap b' o' cap':Nat)(r0 r1 r2 y0 y1 G:Nat)(w:World)(hG:G=((r2*18446744073709551616+r1)*18446744073709551616+r0)/(y1*18446744073709551616+y0))(hr0:w.cell? ⟨b,o,none⟩=some (.int .u64 (r0:Int)))(hr1:w.cell? ⟨b,o+1,none⟩=some (.int .u64 (r1:Int)))(hr2:w.cell? ⟨b,o+2,none⟩=some (.int .u64 (r2:Int)))
  (hy0:w.cell? ⟨b',o',none⟩=some (.int .u64 (y0:Int))) (hy1:w.cell? ⟨b',o'+1,none⟩=some (.int .u64 (y1:Int))) (h:r2<y1) (l0:r0<18446744073709551616) (l1:r1<18446744073709551616) (m0:y0<18446744073709551616) (m1:y1<18446744073709551616):
  Calls Tryz.prog 119 #[.slice (some ⟨b,o,none⟩) 3 cap,.slice (some ⟨b',o',none⟩) 2 cap'] w fun e w'=>e=.returned (.int .u64 (G:Int))∧ ∃n,w'=w.drewN n:=by
 have hd':decide (y1≤r2)=false:=decide_eq_false (by omega);obtain⟨A,hA⟩:=nme (r2*18446744073709551616+r1);have HA:Hid (A=r2*18446744073709551616+r1):=hA;have hq0:A/y1<18446744073709551616:=by
  rw[Nat.div_lt_iff_lt_mul (by omega),hA];have:(r2+1)*18446744073709551616≤y1*18446744073709551616:=Nat.mul_le_mul_right _ h;rw[Nat.mul_comm 18446744073709551616 y1];omega
 have hrr:A%y1<y1:=Nat.mod_lt _ (by omega);have D0:Hid (DY A r0 (y1*18446744073709551616+y0) y1 (A/y1) (A%y1)):=Kb rfl l0 (by omega);obtain⟨q,hq⟩:=nme (A/y1);obtain⟨r,hr⟩:=nme (A%y1);rw[←hq]at hq0 D0;rw[←hr]at hrr D0;have HQ:Hid (q=A/y1∧r=A%y1):=⟨hq,hr⟩;rw[←hA]at hG;have HG:Hid (G=(A*18446744073709551616+r0)/(y1*18446744073709551616+y0)):=hG;clear hq hr hA hG;go_enter Tryz.func119,Tryz.ntmps119
 go_wp2_with fail
 go_region
 go_wp2_with fail
 go_quiet ((go_at_call 112;exact Nm (L6 r2 r1 y1 q r A _ h l1 m1 HA.out HQ.out)))
 go_wp2_with fail
 refine(Fz q y0 _ hq0 m0).mono ?_;rintro e w1 ⟨rfl,rfl⟩;have hYp:0<y1*18446744073709551616+y0:=by omega
 go_wp2_with fail
 go_loop [5,6,7,8] (fun a c d e=> ∃(g t:Nat),a=.int .u64 ((g:Nat):Int)∧c=.int .u64 ((t:Nat):Int)∧d=.int .u64 ((A9 g y0:Nat):Int)∧e=.int .u64 ((AL g y0:Nat):Int)∧t<18446744073709551616∧g<18446744073709551616∧Hid (DY A r0 (y1*18446744073709551616+y0) y1 g t)) (fun a _ _ _=>(intOf a).toNat)
 case atStart=>exact⟨q,r,rfl,rfl,rfl,rfl,by omega,hq0,D0⟩
 case round=>
  obtain⟨g,t,rfl,rfl,rfl,rfl,ht,hg,HD⟩:=hrel;have me:=EW g y0;have ml:=Ep g y0;rcases Nat.lt_trichotomy t (A9 g y0)with h1|h1|h1
  ·have d1:decide (t<A9 g y0)=true:=decide_eq_true h1;have hc:t*18446744073709551616+r0<g*y0:=by omega
   clear me ml h1;obtain⟨hp,HN⟩:=HD.out.step rfl hYp hc;obtain⟨v,hv⟩:=nme (g-1);have ev:((g:Nat):Int)-1=((v:Nat):Int):=by omega
   have vl:v<18446744073709551616:=by omega
   obtain⟨mp1,mp2⟩:=Ix hp m0;rw[←hv]at mp1 mp2;have HM:Hid (DY A r0 (y1*18446744073709551616+y0) y1 v (t+y1)∧v<g):=⟨by rw[hv];exact HN,by omega⟩;have ad:=Em t y1;have sb:=Gu (AL g y0) y0;have ae:=ET t y1 0;have ahl:=Fe t y1 0 ht m1 (by omega);have mvl:=Gw v y0 vl m0;have mv2:((A9 g y0:Nat):Int)- ((CN (AL g y0) y0 0:Nat):Int)=((A9 v y0:Nat):Int):=by omega
   have mvb:((A9 v y0:Nat):Int)<18446744073709551616:=by omega
   clear HN hv hc mp2 mvl;by_cases hcy:Bw t y1 0=0
   ·have hcb:(((Bw t y1 0:Nat):Int) != 0)=false:=by simp[hcy]
    have al:BL t y1 0=t+y1:=by rw[hcy]at ae;omega
    have hlt:t+y1<18446744073709551616:=by rw[←al];exact En _ _ _
    clear ae hcy ahl;go_wp2_with fail
    go_round
    case rel=>exact⟨v,t+y1,rfl,by go_num,rfl,rfl,hlt,vl,HM.out.1⟩
    case measure=>simp[intOf];have:=HM.out.2;omega
   have hcb:(((Bw t y1 0:Nat):Int) != 0)=true:=by simp;omega
   have hge:18446744073709551616≤t+y1:=by omega
   have HQ2:Hid (v=(A*18446744073709551616+r0)/(y1*18446744073709551616+y0)):=HM.out.1.broke rfl hYp vl m0 hge;clear ae hcy ahl hge;go_wp2_with fail
   go_ret
   exact⟨AN (congrArg _ (HQ2.out.trans HG.out.symm)),1+nq,rfl⟩
  ·have d1:decide (t<A9 g y0)=false:=decide_eq_false (by omega);have d2:(((A9 g y0:Nat):Int)==((t:Nat):Int))=true:=by simp;omega
   by_cases h2:r0<AL g y0
   ·have d3:decide (r0<AL g y0)=true:=decide_eq_true h2;have hc:t*18446744073709551616+r0<g*y0:=by omega
    clear me ml h1 h2;obtain⟨hp,HN⟩:=HD.out.step rfl hYp hc;obtain⟨v,hv⟩:=nme (g-1);have ev:((g:Nat):Int)-1=((v:Nat):Int):=by omega
    have vl:v<18446744073709551616:=by omega
    obtain⟨mp1,mp2⟩:=Ix hp m0;rw[←hv]at mp1 mp2;have HM:Hid (DY A r0 (y1*18446744073709551616+y0) y1 v (t+y1)∧v<g):=⟨by rw[hv];exact HN,by omega⟩;have ad:=Em t y1;have sb:=Gu (AL g y0) y0;have ae:=ET t y1 0;have ahl:=Fe t y1 0 ht m1 (by omega);have mvl:=Gw v y0 vl m0;have mv2:((A9 g y0:Nat):Int)- ((CN (AL g y0) y0 0:Nat):Int)=((A9 v y0:Nat):Int):=by omega
    have mvb:((A9 v y0:Nat):Int)<18446744073709551616:=by omega
    clear HN hv hc mp2 mvl;by_cases hcy:Bw t y1 0=0
    ·have hcb:(((Bw t y1 0:Nat):Int) != 0)=false:=by simp[hcy]
     have al:BL t y1 0=t+y1:=by rw[hcy]at ae;omega
     have hlt:t+y1<18446744073709551616:=by rw[←al];exact En _ _ _
     clear ae hcy ahl;go_wp2_with fail
     go_round
     case rel=>exact⟨v,t+y1,rfl,by go_num,rfl,rfl,hlt,vl,HM.out.1⟩
     case measure=>simp[intOf];have:=HM.out.2;omega
    have hcb:(((Bw t y1 0:Nat):Int) != 0)=true:=by simp;omega
    have hge:18446744073709551616≤t+y1:=by omega
    have HQ2:Hid (v=(A*18446744073709551616+r0)/(y1*18446744073709551616+y0)):=HM.out.1.broke rfl hYp vl m0 hge;clear ae hcy ahl hge;go_wp2_with fail
    go_ret
    exact⟨AN (congrArg _ (HQ2.out.trans HG.out.symm)),1+nq,rfl⟩
   have d3:decide (r0<AL g y0)=false:=decide_eq_false h2;have HQ2:Hid (g=(A*18446744073709551616+r0)/(y1*18446744073709551616+y0)):=HD.out.done rfl hYp (by omega);clear me ml h1 h2;go_wp2_with fail
   go_ret
   exact⟨AN (congrArg _ (HQ2.out.trans HG.out.symm)),1+nq,rfl⟩
  have d1:decide (t<A9 g y0)=false:=decide_eq_false (by omega);have d2:(((A9 g y0:Nat):Int)==((t:Nat):Int))=false:=by simp;omega
  have HQ2:Hid (g=(A*18446744073709551616+r0)/(y1*18446744073709551616+y0)):=HD.out.done rfl hYp (by omega);clear me ml h1;go_wp2_with fail
  go_ret
  exact⟨AN (congrArg _ (HQ2.out.trans HG.out.symm)),1+nq,rfl⟩
end Go.Proofs.YtcbjkgphpnihiaaGreatDoor
