/- Contracts of the program's functions, part 2: own work, joined in build order. -/
import Derived.Test.YtcbjkgphpnihiaaGreatDoorJ1
import Derived.Laws.Bits64b
import Derived.Shelf.Bits.Mul64
namespace Go.Proofs.YtcbjkgphpnihiaaGreatDoor
open Go.RowKit
set_option maxRecDepth 100000
set_option linter.unusedVariables false
set_option maxHeartbeats 16000000
theorem DP{w:World}{ops:Array Oper}{rest:List Oper}{op:Oper}{ac:Act}{Q:Exit→Act→World→Prop}(hgd:op.guard=none)(s x:Operand)
  (ho:op.op=.call {callee:=.builtin .append,args:= #[s,x],argTypes:= #[25,25]})
  (g n cap:Nat) (b:Nat) (cap':Nat) (hs:ac.eval s=.slice (some ⟨g,0,none⟩) n cap) (hx:ac.eval x=.slice (some ⟨b,0,none⟩) 1 cap')
  (N:Nat) (F:Nat→Nat) (c:Nat) (hF:Row w g N F) (hc:w.cell? ⟨b,0,none⟩=some (.int .u64 (c:Int))) (hlt:c<18446744073709551616) (hcap:n+1≤cap) (hfit:n<N)
  (h: ∀w',Row w' g N (put F n c)→w.grownBy w' (some g)→wpList Tryz.prog ops Q rest (ac.put op.dst (.slice (some ⟨g,0,none⟩) (n+1) cap)) w'):wpList Tryz.prog ops Q (op::rest) ac w:=by
 obtain⟨i,hi,hz,hsz,hb⟩:=info_parts Tryz.info22;obtain⟨cur,hg,hcs,hcur⟩:=hF.1;have hr:=run_append_room (P:=Tryz.prog) w 25 op.type 56 i Tryz.underlying25 hi g n cap cur hg ⟨b,0,none⟩ 1 cap' [.int .u64 (c:Int)] (by rw[hsz];rfl)
  (by intro j u hj;match j,hj with|0,hj=>simp at hj;subst hj;simpa[Addr.add]using hc) (by intro u hu;simp at hu;subst hu;rfl) hcap (by rw[hsz];simp;omega)
 refine wpList_plain hgd fun K hK=> ?_;unfold Oper.wp execOp;simp only[ho,resolve,invoke,builtin,Sem.run_bind,Sem.run_pure,Result.andThen_ok,List.map_toArray,List.map_cons,List.map_nil,hs,hx,hr];refine hK _ _ (h _ ⟨⟨_,setRow_heap w g _ _ _ _ hg,?_,fun j hj=> ?_⟩,fun j hj=> ?_⟩ ⟨rfl,rfl,rfl,by simp[World.setRow],fun k _ hne=>setRow_other w g k _ (fun e=>hne (by rw[e]))⟩)
 ·simp[hsz];omega
 ·rw[List.getElem?_toArray,hsz,Nat.mul_one,List.append_assoc];show _=some (Value.int .u64 ((put F n c j:Nat):Int));have e1:(cur.toList.take n).length=n:=by simp;omega
  by_cases h1:j<n
  ·rw[Aq _ _ (by omega),List.getElem?_append_left (by omega),List.getElem?_take_of_lt h1];simpa using hcur j hj
  by_cases h2:j=n
  ·subst h2;rw[AA,List.getElem?_append_right (by omega),e1];simp
  rw[Aq _ _ h2,List.getElem?_append_right (by omega),e1,List.getElem?_append_right (by simp;omega),List.getElem?_drop];simp only[List.length_cons,List.length_nil];rw[show n+(0+1)+(j-n- (0+1))=j by omega];simpa using hcur j hj
 unfold put;split
 ·exact hlt
 exact hF.2 j hj
theorem Ex{w:World}{g N n cap:Nat}{H:Nat→Nat}(h:Row w g N H)(hn:0<n)(hN:n≤N)(hc:n≤cap)(hm:cap≤9223372036854775807)(hp:P (n-1)≤V H n):Ac w (.agg #[.slice (some ⟨g,0,none⟩) n cap]) (V H n):=by
 have hs:=h.sl (o:=0) (n:=n) (cap:=cap) (by omega) hc hm;rw[AB]at hs;refine⟨_,n,cap,H,rfl,hs,fun e=>absurd e (by omega),fun _ h0=> ?_,rfl⟩;obtain⟨t,rfl⟩: ∃t,n=t+1:=⟨n-1,by omega⟩;simp only[Nat.add_sub_cancel]at h0 hp;rw[At,h0,Nat.zero_mul,Nat.add_zero]at hp;have:=BU (h.2.mono (show t≤N by omega));omega
theorem NV(a:Option Addr)(n cap:Nat)(a':Option Addr)(m cap':Nat)(x y:Nat)(w:World)(h:Ac w (.agg #[.slice a n cap]) x)(k:Ac w (.agg #[.slice a' m cap']) y)(hx:Ar x)(hy:Ar y)(hmn:m≤n):
  Calls Tryz.prog 44 #[.agg #[.slice a n cap],.agg #[.slice a' m cap']] w (BO w (x+y)):=by
 obtain⟨F,hs,h0,h1,hv⟩:=h.fits;obtain⟨G,ks,k0,k1,kv⟩:=k.fits;have hn:n≤4294967296:=AM (hv.symm▸hx) h1;have hd:decide ((n:Int)<m)=false:=decide_eq_false (by omega);have HL:Hid (Sl w a n cap F∧V F n=x∧(0<n→F (n-1)≠0)):=⟨hs,hv,h1⟩;have HS:Hid (Sl w a' m cap' G∧V G m=y):=⟨ks,kv⟩;have HN:Hid (Ac w (.agg #[.slice a n cap]) x):=h;clear hs h0 h1 hv ks k0 k1 kv hx hy h k;by_cases e0:m=0
 ·have hne0:((m:Int)==0)=true:=by simp<;>omega
  have hy0:y=0:=by rw[←HS.out.2,e0];rfl
  clear e0;go_enter Tryz.func44,Tryz.ntmps44
  go_wp2_with fail
  go_region
  go_wp2_with fail
  have hB:Below w.heap.size w (((w.alloc (.cells #[.slice a n cap] 27)).alloc (.cells #[.slice a' m cap'] 27)).alloc (.cells #[.slice a n cap] 27)).drew:=((Ap _ _ _).alloc (by simp<;>omega) _).drew;refine bodyPost_ret (v:=.agg #[.slice a n cap]) (by simp[results,Tryz.results44,go_sem]) rfl ⟨_,rfl,?_,hB⟩;rw[show x+y=x by omega];exact HN.out.mono hB
 have hne0:((m:Int)==0)=false:=by simp<;>omega
 have mk:=Bl (n:Int) ((n:Int)+1) n (n+1) rfl (by omega) (by omega) (by omega);have HB:Hid (Below w.heap.size w ((((w.alloc (.cells #[.slice a n cap] 27)).alloc (.cells #[.slice a' m cap'] 27)).alloc (.cells #[.slice none 0 0] 27)).alloc (.cells (Bh (n+1)) 56)).drew):=(((Ap _ _ _).alloc (by simp<;>omega) _).alloc (by simp<;>omega) _).drew;clear HN;go_enter Tryz.func44,Tryz.ntmps44
 go_wp2_with fail
 go_region
 go_wp2_with (refine(id ?_:wpList Tryz.prog _ _ (⟨some 33,_,_,_,_,_⟩::_) _ _);refine Bz rfl (.tmp 31) (.tmp 32) rfl _ _ _ _ _ _ _ rfl rfl (n+1) (fun _=>0) F (AJ _ (n+1) _ (by simp)) (HL.out.1.mono HB.out) (by omega) (by omega) ?_)
 intro w1 hR1 hg1;have hcr:w1.cell? ⟨w.heap.size+1+1,0,none⟩=some (.slice none 0 0):=hg1.cell (by simp[go_sem]) (by simp<;>omega);have hfr:w1.frozen? ⟨w.heap.size+1+1,0,none⟩=false:=(World.frozen?_of_block (hg1.block _ (by simp<;>omega) (by simp<;>omega))).trans (by simp[go_sem]);have B1:Hid (Below w.heap.size w w1):=HB.out.grown hg1 (by simp<;>omega) (fun k hk=>by cases hk;omega);have R1:Hid (Row w1 (w.heap.size+1+1+1) (n+1) (over (fun _=>0) 0 F n)):=hR1;clear hR1 hg1 HB mk;go_wp2_with fail
 refine(Eo _ (n+1) 0 n (n+1) _ a' m cap' G w1 R1.out (HS.out.1.mono B1.out) (by omega) (by omega) (by omega) (HS.out.1.ne_block (by omega) (by omega))).mono ?_;rintro e w2 ⟨c,rfl,H,S⟩;have hg2:=S.2.2.2.2;have hcr2:w2.cell? ⟨w.heap.size+1+1,0,none⟩=some (.slice none 0 0):=hg2.cell hcr (by simp<;>omega);have hfr2:w2.frozen? ⟨w.heap.size+1+1,0,none⟩=false:=(World.frozen?_of_block (hg2.block _ (World.block_lt_of_cell? _ _ hcr) (by simp<;>omega))).trans hfr;have B2:Hid (Below w.heap.size w w2):=B1.out.grown hg2 B1.out.size (fun k hk=>by cases hk;omega);have S2:Hid (Row w2 (w.heap.size+1+1+1) (n+1) H∧V H n+c*P n=x+y):=⟨S.1,by
  obtain⟨q1,q2,q3,q4,_⟩:=S;rw[AB,AB,Dq,HL.out.2.1,HS.out.2]at q4;omega⟩
 have hc1:c≤1:=S.2.2.1;have hw2:w.heap.size+1+1+1<w2.heap.size:=S.1.1.lt;have HP:Hid (P (n-1)≤x+y):=by
  obtain⟨_,q2,q3⟩:=HL.out;have:=Fq (F:=F) (n:=n) (m:=n-1) (by omega) (q3 (by omega));show P (n-1)≤x+y;omega
 clear S hg2 hcr hfr R1 B1;by_cases hc:c=0
 ·subst hc;go_wp2_with fail
  refine bodyPost_ret (v:=.agg #[.slice (some ⟨w.heap.size+1+1+1,0,none⟩) n (n+1)]) (by simp[results,Tryz.results44,go_sem,hcr2]) rfl ⟨_,rfl,?_,B2.out.setCell (by simp<;>omega) _⟩;have e1:V H n=x+y:=by have:=S2.out.2;omega
  rw[←e1];exact(Ex S2.out.1 (by omega) (by omega) (by omega) (by omega) (by rw[e1];exact HP.out)).setCell (Af hcr2) _
 have hcb:(((c:Nat):Int) != 0)=true:=by simp<;>omega
 go_wp2_with (refine(id ?_:wpList Tryz.prog _ _ (⟨some 42,_,_,_,_,_⟩::_) _ _);refine DP rfl (.tmp 39) (.tmp 41) rfl _ _ _ _ _ rfl rfl (n+1) H c (S2.out.1.below (((Below.refl _ _).alloc (Nat.le_refl _) _))) (by simp) (by omega) (by omega) (by omega) ?_)
 intro w3 hR3 hg3;have hcr3:w3.cell? ⟨w.heap.size+1+1,0,none⟩=some (.slice none 0 0):=hg3.cell (cell_later ((Below.refl _ _).alloc (Nat.le_refl _) _) hcr2) (by simp<;>omega);have hfr3:w3.frozen? ⟨w.heap.size+1+1,0,none⟩=false:=(World.frozen?_of_block (hg3.block _ (by simp;have:=World.block_lt_of_cell? _ _ hcr2;simp only at this;omega) (by simp<;>omega))).trans ((((Below.refl _ _).alloc (Nat.le_refl _) _).frozen (World.block_lt_of_cell? _ _ hcr2)).trans hfr2);have B3:Hid (Below w.heap.size w w3):=(B2.out.alloc B2.out.size _).grown hg3 (by have:=B2.out.size;simp;omega) (fun k hk=>by cases hk;omega);have R3:Hid (Row w3 (w.heap.size+1+1+1) (n+1) (put H n c)):=hR3;clear hR3 hg3 hcr2 hfr2;go_wp2_with fail
 have e1:V (put H n c) (n+1)=x+y:=by
  rw[At,AA,A4 (G:=H) fun i hi=>Aq _ _ (by omega)];exact S2.out.2
 refine bodyPost_ret (v:=.agg #[.slice (some ⟨w.heap.size+1+1+1,0,none⟩) (n+1) (n+1)]) (by simp[results,Tryz.results44,go_sem,hcr3]) rfl ⟨_,rfl,?_,B3.out.setCell (by simp<;>omega) _⟩;rw[←e1];refine(Ex R3.out (by omega) (by omega) (by omega) (by omega) ?_).setCell (Af hcr3) _;rw[At,AA,Nat.add_sub_cancel];have:1*P n≤c*P n:=Nat.mul_le_mul_right _ (by omega);omega
theorem NW(a:Option Addr)(n cap:Nat)(a':Option Addr)(m cap':Nat)(x y:Nat)(w:World)(h:Ac w (.agg #[.slice a n cap]) x)(k:Ac w (.agg #[.slice a' m cap']) y)(hx:Ar x)(hy:Ar y)(hmn:n<m):
  Calls Tryz.prog 44 #[.agg #[.slice a n cap],.agg #[.slice a' m cap']] w (BO w (x+y)):=by
 obtain⟨F,hs,h0,h1,hv⟩:=h.fits;obtain⟨G,ks,k0,k1,kv⟩:=k.fits;have hn:m≤4294967296:=AM (kv.symm▸hy) k1;have hd:(n:Int)<m:=by omega
 have HL:Hid (Sl w a' m cap' G∧V G m=y∧(0<m→G (m-1)≠0)):=⟨ks,kv,k1⟩;have HS:Hid (Sl w a n cap F∧V F n=x):=⟨hs,hv⟩;have HN:Hid (Ac w (.agg #[.slice a' m cap']) y):=k;clear hs h0 h1 hv ks k0 k1 kv hx hy h k;by_cases e0:n=0
 ·have hne0:((n:Int)==0)=true:=by simp<;>omega
  have hy0:x=0:=by rw[←HS.out.2,e0];rfl
  clear e0;go_enter Tryz.func44,Tryz.ntmps44
  go_wp2_with fail
  go_region
  go_wp2_with fail
  have hB:Below w.heap.size w (((w.alloc (.cells #[.slice a n cap] 27)).alloc (.cells #[.slice a' m cap'] 27)).alloc (.cells #[.slice a' m cap'] 27)).drew:=((Ap _ _ _).alloc (by simp<;>omega) _).drew;refine bodyPost_ret (v:=.agg #[.slice a' m cap']) (by simp[results,Tryz.results44,go_sem]) rfl ⟨_,rfl,?_,hB⟩;rw[show x+y=y by omega];exact HN.out.mono hB
 have hne0:((n:Int)==0)=false:=by simp<;>omega
 have mk:=Bl (m:Int) ((m:Int)+1) m (m+1) rfl (by omega) (by omega) (by omega);have HB:Hid (Below w.heap.size w ((((w.alloc (.cells #[.slice a n cap] 27)).alloc (.cells #[.slice a' m cap'] 27)).alloc (.cells #[.slice none 0 0] 27)).alloc (.cells (Bh (m+1)) 56)).drew):=(((Ap _ _ _).alloc (by simp<;>omega) _).alloc (by simp<;>omega) _).drew;clear HN;go_enter Tryz.func44,Tryz.ntmps44
 go_wp2_with fail
 go_region
 go_wp2_with (refine(id ?_:wpList Tryz.prog _ _ (⟨some 33,_,_,_,_,_⟩::_) _ _);refine Bz rfl (.tmp 31) (.tmp 32) rfl _ _ _ _ _ _ _ rfl rfl (m+1) (fun _=>0) G (AJ _ (m+1) _ (by simp)) (HL.out.1.mono HB.out) (by omega) (by omega) ?_)
 intro w1 hR1 hg1;have hcr:w1.cell? ⟨w.heap.size+1+1,0,none⟩=some (.slice none 0 0):=hg1.cell (by simp[go_sem]) (by simp<;>omega);have hfr:w1.frozen? ⟨w.heap.size+1+1,0,none⟩=false:=(World.frozen?_of_block (hg1.block _ (by simp<;>omega) (by simp<;>omega))).trans (by simp[go_sem]);have B1:Hid (Below w.heap.size w w1):=HB.out.grown hg1 (by simp<;>omega) (fun k hk=>by cases hk;omega);have R1:Hid (Row w1 (w.heap.size+1+1+1) (m+1) (over (fun _=>0) 0 G m)):=hR1;clear hR1 hg1 HB mk;go_wp2_with fail
 refine(Eo _ (m+1) 0 m (m+1) _ a n cap F w1 R1.out (HS.out.1.mono B1.out) (by omega) (by omega) (by omega) (HS.out.1.ne_block (by omega) (by omega))).mono ?_;rintro e w2 ⟨c,rfl,H,S⟩;have hg2:=S.2.2.2.2;have hcr2:w2.cell? ⟨w.heap.size+1+1,0,none⟩=some (.slice none 0 0):=hg2.cell hcr (by simp<;>omega);have hfr2:w2.frozen? ⟨w.heap.size+1+1,0,none⟩=false:=(World.frozen?_of_block (hg2.block _ (World.block_lt_of_cell? _ _ hcr) (by simp<;>omega))).trans hfr;have B2:Hid (Below w.heap.size w w2):=B1.out.grown hg2 B1.out.size (fun k hk=>by cases hk;omega);have S2:Hid (Row w2 (w.heap.size+1+1+1) (m+1) H∧V H m+c*P m=x+y):=⟨S.1,by
  obtain⟨q1,q2,q3,q4,_⟩:=S;rw[AB,AB,Dq,HL.out.2.1,HS.out.2]at q4;omega⟩
 have hc1:c≤1:=S.2.2.1;have hw2:w.heap.size+1+1+1<w2.heap.size:=S.1.1.lt;have HP:Hid (P (m-1)≤x+y):=by
  obtain⟨_,q2,q3⟩:=HL.out;have:=Fq (F:=G) (n:=m) (m:=m-1) (by omega) (q3 (by omega));show P (m-1)≤x+y;omega
 clear S hg2 hcr hfr R1 B1;by_cases hc:c=0
 ·subst hc;go_wp2_with fail
  refine bodyPost_ret (v:=.agg #[.slice (some ⟨w.heap.size+1+1+1,0,none⟩) m (m+1)]) (by simp[results,Tryz.results44,go_sem,hcr2]) rfl ⟨_,rfl,?_,B2.out.setCell (by simp<;>omega) _⟩;have e1:V H m=x+y:=by have:=S2.out.2;omega
  rw[←e1];exact(Ex S2.out.1 (by omega) (by omega) (by omega) (by omega) (by rw[e1];exact HP.out)).setCell (Af hcr2) _
 have hcb:(((c:Nat):Int) != 0)=true:=by simp<;>omega
 go_wp2_with (refine(id ?_:wpList Tryz.prog _ _ (⟨some 42,_,_,_,_,_⟩::_) _ _);refine DP rfl (.tmp 39) (.tmp 41) rfl _ _ _ _ _ rfl rfl (m+1) H c (S2.out.1.below (((Below.refl _ _).alloc (Nat.le_refl _) _))) (by simp) (by omega) (by omega) (by omega) ?_)
 intro w3 hR3 hg3;have hcr3:w3.cell? ⟨w.heap.size+1+1,0,none⟩=some (.slice none 0 0):=hg3.cell (cell_later ((Below.refl _ _).alloc (Nat.le_refl _) _) hcr2) (by simp<;>omega);have hfr3:w3.frozen? ⟨w.heap.size+1+1,0,none⟩=false:=(World.frozen?_of_block (hg3.block _ (by simp;have:=World.block_lt_of_cell? _ _ hcr2;simp only at this;omega) (by simp<;>omega))).trans ((((Below.refl _ _).alloc (Nat.le_refl _) _).frozen (World.block_lt_of_cell? _ _ hcr2)).trans hfr2);have B3:Hid (Below w.heap.size w w3):=(B2.out.alloc B2.out.size _).grown hg3 (by have:=B2.out.size;simp;omega) (fun k hk=>by cases hk;omega);have R3:Hid (Row w3 (w.heap.size+1+1+1) (m+1) (put H m c)):=hR3;clear hR3 hg3 hcr2 hfr2;go_wp2_with fail
 have e1:V (put H m c) (m+1)=x+y:=by
  rw[At,AA,A4 (G:=H) fun i hi=>Aq _ _ (by omega)];exact S2.out.2
 refine bodyPost_ret (v:=.agg #[.slice (some ⟨w.heap.size+1+1+1,0,none⟩) (m+1) (m+1)]) (by simp[results,Tryz.results44,go_sem,hcr3]) rfl ⟨_,rfl,?_,B3.out.setCell (by simp<;>omega) _⟩;rw[←e1];refine(Ex R3.out (by omega) (by omega) (by omega) (by omega) ?_).setCell (Af hcr3) _;rw[At,AA,Nat.add_sub_cancel];have:1*P m≤c*P m:=Nat.mul_le_mul_right _ (by omega);omega
theorem Ei(v u:Value)(x y:Nat)(w:World)(h:Ac w v x)(k:Ac w u y)(hx:Ar x)(hy:Ar y):
  Calls Tryz.prog 44 #[v,u] w (BO w (x+y)):=by
 obtain⟨a,n,cap,rfl⟩:=h.isAgg;obtain⟨a',m,cap',rfl⟩:=k.isAgg;rcases Nat.lt_or_ge n m with hh|hh
 ·exact NW a n cap a' m cap' x y w h k hx hy hh
 exact NV a n cap a' m cap' x y w h k hx hy hh
theorem EU(r:Nat):256^r=2^(r*8):=by
 rw[show(256:Nat)=2^8 from rfl,←Nat.pow_mul,Nat.mul_comm]
theorem Fu(h e s:Nat)(hm:h%2^s=0)(he:e<2^s):h ||| e=h+e:=by
 obtain⟨A,rfl⟩: ∃A,h=A <<< s:=⟨h/2^s,by rw[Nat.shiftLeft_eq];exact(Nat.div_mul_cancel (Nat.dvd_of_mod_eq_zero hm)).symm⟩;exact(Nat.shiftLeft_add_eq_or_of_lt he A).symm
theorem Ci(s:Nat):((2^s:Nat):Int)=(2:Int)^s:=by simp
theorem BJ(a:Nat)(ha:a<18446744073709551616):IntKind.u64.wrap (a:Int)=(a:Int):=by rw[IntKind.wrap_u64];omega
theorem Ey(a:Nat):IntKind.u64.wrap (a:Int)=((a%18446744073709551616:Nat):Int):=by rw[IntKind.wrap_u64];omega
theorem DU(d r:Nat)(hd:d<256)(hr:r<8):d*256^r<256^(r+1)∧d*256^r<18446744073709551616:=by
 have h1:d*256^r<256*256^r:=Nat.mul_lt_mul_of_pos_right hd (Nat.pow_pos (by decide));have h2:(256:Nat)^(r+1)≤256^8:=Nat.pow_le_pow_right (by decide) (by omega);rw[Nat.pow_succ]at*;have h3:(256:Nat)^8=18446744073709551616:=by decide
 omega
theorem Nj(h d r:Nat)(hh:h<18446744073709551616)(hm:h%256^(r+1)=0)(hd:d<256)(hr:r<8):
  bits .or .u64 (h:Int) (IntKind.u64.wrap ((d:Int)*2^(r*8)))=((h+d*256^r:Nat):Int):=by
 obtain⟨h1,h2⟩:=DU d r hd hr;have e:(d:Int)*2^(r*8)=((d*256^r:Nat):Int):=by rw[EU,Int.natCast_mul,Ci]
 rw[e,BJ _ h2,bits_or_u64_nat _ _ hh h2,Fu h (d*256^r) ((r+1)*8) (by rw[←EU];exact hm) (by rw[←EU];exact h1)]
theorem J7{h d r:Nat}(hh:h<18446744073709551616)(hm:h%256^(r+1)=0)(hd:d<256)(hr:r<8):h+d*256^r<18446744073709551616:=by
 obtain⟨h1,_⟩:=DU d r hd hr;have h2:h+256^(r+1)≤18446744073709551616:=by
  obtain⟨A,rfl⟩:=Nat.dvd_of_mod_eq_zero hm;have e:(18446744073709551616:Nat)=256^(r+1)*256^(7-r):=by rw[←Nat.pow_add,show r+1+(7-r)=8 by omega]
  rw[e]at hh⊢;have hA:A<256^(7-r):=Nat.lt_of_mul_lt_mul_left hh;rw[←Nat.mul_succ];exact Nat.mul_le_mul_left _ hA
 omega
def BSl(w:World)(a:Option Addr)(n cap:Nat)(D:Nat→Nat):Prop:=
 n≤cap∧cap≤9223372036854775807∧(∀i,i<n→D i<256)∧(n=0∨ ∃b o,a=some ⟨b,o,none⟩∧ ∀i,i<n→w.cell? ⟨b,o+i,none⟩=some (.int .u8 (D i:Nat)))
def BV(D:Nat→Nat):Nat→Nat
 |0=>0
 |n+1=>BV D n*256+D n
theorem Il{D:Nat→Nat}: ∀{k:Nat},(∀i,i<k→D i=0)→BV D k=0
 |0,_=>rfl
 |k+1,h=>by rw[BV,Il fun i hi=>h i (by omega),h k (by omega)]
theorem JE{D:Nat→Nat}{k:Nat}(h: ∀i,i<k→D i=0): ∀n,BV D (k+n)=BV (fun i=>D (k+i)) n
 |0=>Il h
 |n+1=>by rw[←Nat.add_assoc,BV,BV,JE h n]
theorem BSl.mono{w w':World}{a:Option Addr}{n cap:Nat}{D:Nat→Nat}(h:BSl w a n cap D)(hb:Below w.heap.size w w'):BSl w' a n cap D:=by
 obtain⟨h1,h2,h3,h4⟩:=h;refine⟨h1,h2,h3,h4.imp id ?_⟩;rintro⟨b,o,ha,hw⟩;exact⟨b,o,ha,fun i hi=>cell_later hb (hw i hi)⟩
def DQ(D:Nat→Nat)(n N i:Nat)(H:Nat→Nat):Prop:=
 V H N=BV D i*256^(n-i)∧ ∀q,q<N→H q%256^(min 8 (n-i-8*q))=0
theorem J8(n:Nat):P n=256^(8*n):=by
 unfold P;rw[show(18446744073709551616:Nat)=256^8 from rfl,←Nat.pow_mul]
theorem BSl.cut{w:World}{a:Option Addr}{n cap:Nat}{D:Nat→Nat}(h:BSl w a n cap D)(k m c:Nat)(a':Option Addr)(hk:k+m=n)(hc:k+c=cap)(ha: ∀b o,0<m→a=some ⟨b,o,none⟩→a'=some ⟨b,o+k,none⟩):BSl w a' m c (fun i=>D (k+i)):=by
 obtain⟨h1,h2,h3,h4⟩:=h;refine⟨by omega,by omega,fun i hi=>h3 _ (by omega),?_⟩;by_cases h0:m=0
 ·exact .inl h0
 rcases h4 with h4| ⟨b,o,rfl,hw⟩
 ·omega
 refine .inr ⟨b,o+k,ha b o (by omega) rfl,fun i hi=> ?_⟩;rw[Nat.add_assoc];exact hw _ (by omega)
theorem Fv(H:Nat→Nat)(q N e:Nat)(hq:q<N):V (put H q (H q+e)) N=V H N+e*P q:=by
 obtain⟨t,rfl⟩: ∃t,N=q+1+t:=⟨N- (q+1),by omega⟩;rw[Ba _ (q+1),Ba H (q+1),At,At,AA,A4 (F:=put H q (H q+e)) (G:=H) (n:=q) fun i hi=>Aq _ _ (by omega),
  A4 (F:=fun i=>put H q (H q+e) (q+1+i)) (G:=fun i=>H (q+1+i)) fun i hi=>Aq _ _ (by omega),Nat.add_mul]
 omega
theorem DQ.mod{D:Nat→Nat}{n N i:Nat}{H:Nat→Nat}(h:DQ D n N i H)(hi:i<n)(hN:N=(n+7)/8):H ((n-1-i)/8)%256^((n-1-i)%8+1)=0:=by
 have:=h.2 ((n-1-i)/8) (by omega);rwa[show min 8 (n-i-8*((n-1-i)/8))=(n-1-i)%8+1 by omega]at this
theorem DQ.step{D:Nat→Nat}{n N i:Nat}{H:Nat→Nat}(h:DQ D n N i H)(hi:i<n)(hN:N=(n+7)/8):
  DQ D n N (i+1) (put H ((n-1-i)/8) (H ((n-1-i)/8)+D i*256^((n-1-i)%8))):=by
 have hm:=h.mod hi hN;obtain⟨h1,h2⟩:=h;refine⟨?_,fun q hq=> ?_⟩
 ·rw[Fv _ _ _ _ (by omega),h1,J8,Nat.mul_assoc,←Nat.pow_add,show n-i=(n-1-i)+1 by omega,show n- (i+1)=n-1-i by omega,show(n-1-i)%8+8*((n-1-i)/8)=n-1-i by omega,BV,Nat.add_mul,Nat.pow_succ,Nat.mul_comm (256^(n-1-i)) 256,Nat.mul_assoc]
 by_cases e:q=(n-1-i)/8
 ·subst e;rw[AA,show min 8 (n- (i+1)-8*((n-1-i)/8))=(n-1-i)%8 by omega];have d1:256^((n-1-i)%8)∣H ((n-1-i)/8):=Nat.dvd_trans (Nat.pow_dvd_pow 256 (Nat.le_succ _)) (Nat.dvd_of_mod_eq_zero hm);exact Nat.mod_eq_zero_of_dvd (Nat.dvd_add d1 (Nat.dvd_mul_left _ _))
 rw[Aq _ _ e];rcases Nat.lt_or_ge q ((n-1-i)/8)with hl|hl
 ·have:=h2 q hq;rwa[show min 8 (n-i-8*q)=min 8 (n- (i+1)-8*q) by omega]at this
 rw[show min 8 (n- (i+1)-8*q)=0 by omega,Nat.pow_zero,Nat.mod_one]
theorem Im(D:Nat→Nat)(n N:Nat):DQ D n N 0 (fun _=>0):=⟨by rw[Dm];simp[BV],fun q _=>Nat.zero_mod _⟩
theorem H6(a:Option Addr)(n cap:Nat)(D:Nat→Nat)(w:World)(h:BSl w a n cap D)(hn:n≤1099511627776):
  Calls Tryz.prog 15 #[.slice a n cap] w (BO w (BV D n)):=by
 go_enter Tryz.func15,Tryz.ntmps15
 have HD:Hid (BSl w a n cap D):=h;have hnc:=h.1;have hcm:=h.2.1;clear h;go_wp2_with fail
 go_loop [0] (fun t=> ∃(k m c:Nat) (a':Option Addr),k+m=n∧k+c=cap∧t=.slice a' m c∧(∀b o,0<m→a=some ⟨b,o,none⟩→a'=some ⟨b,o+k,none⟩)∧ ∀i,i<k→D i=0) (fun t=>match t with| .slice _ m _=>m|_=>0)
 case atStart=>exact⟨0,n,cap,a,by omega,by omega,rfl,fun b o _ e=>e,fun i hi=>absurd hi (by omega)⟩
 case round=>
  obtain⟨k,m,c,a',hk,hc,rfl,ha',hz⟩:=hrel;have HA:Hid (∀b o,0<m→a=some ⟨b,o,none⟩→a'=some ⟨b,o+k,none⟩):=ha';have HZ:Hid (∀i,i<k→D i=0):=hz;have HK:Hid (k+m=n∧k+c=cap):=⟨hk,hc⟩;have hmn:m≤n:=by omega
  have hmc:m≤c:=by omega
  have hcc:c≤cap:=by omega
  have HE:Hid (BSl w a' m c (fun i=>D (k+i))):=HD.out.cut k m c a' hk hc ha';have HV:Hid (BV D n=BV (fun i=>D (k+i)) m):=by
   show BV D n=_;rw[←hk];exact JE hz m
  clear hk hc ha' hz;by_cases hm0:m=0
  ·subst hm0;have mk:=Bl (0:Int) (0:Int) 0 0 rfl rfl (Nat.le_refl _) (by omega);go_wp2_with fail
   refine wp_loop_rounds 1 ?_;rw[rounds_succ];go_wp2_with fail
   refine(Bp _ 0 0 (fun _=>0) _ (by have:=(AJ (w.alloc (.cells #[.slice none 0 0] 27)) 0 (w.heap.size+1) (by simp)).sl (o:=0) (n:=0) (cap:=0) (by omega) (Nat.le_refl _) (by omega);rw[AB]at this;exact this) (by omega)).mono ?_;rintro e w3 ⟨v3,rfl,hv3,hb3⟩;have hcr3:w3.cell? ⟨w.heap.size,0,none⟩=some (.slice none 0 0):=cell_later hb3 (by simp[go_sem]);have hfr3:w3.frozen? ⟨w.heap.size,0,none⟩=false:=(hb3.frozen (by simp<;>omega)).trans (by simp[go_sem]);obtain⟨a3,n3,cap3,rfl⟩:=hv3.isAgg;have HV3:Hid (Ac w3 (.agg #[.slice a3 n3 cap3]) (V (fun _=>0) 0)):=hv3;have B3:Hid (Below w.heap.size w w3):=AU (Ap _ _ _) hb3;clear hv3 hb3;go_wp2_with fail
   refine bodyPost_ret (v:=.agg #[.slice a3 n3 cap3]) (by simp[results,Tryz.results15,go_sem,hcr3]) rfl ⟨_,rfl,?_,B3.out.setCell (Nat.le_refl _) _⟩;rw[HV.out];exact HV3.out.setCell (Af hcr3) _
  obtain⟨b',o',rfl,hw⟩: ∃b o,a'=some ⟨b,o,none⟩∧ ∀i,i<m→w.cell? ⟨b,o+i,none⟩=some (.int .u8 (D (k+i):Nat)):=by
   rcases HE.out.2.2.2 with h0|h0
   ·omega
   exact h0
  have hc0:w.cell? ⟨b',o',none⟩=some (.int .u8 (D k:Nat)):=hw 0 (by omega);have hb:b'<w.heap.size:=World.block_lt_of_cell? _ _ hc0;have hpos:(0:Int)<(m:Int):=by omega
  have HW:Hid (∀i,i<m→w.cell? ⟨b',o'+i,none⟩=some (.int .u8 (D (k+i):Nat))):=hw;clear hw;by_cases hd:D k=0
  ·rw[hd]at hc0;have hHK:(k+1)+(m-1)=n∧(k+1)+(c-1)=cap:=by have:=HK.out;omega
   go_wp2_with fail
   go_round
   case rel=>
    refine⟨k+1,m-1,c-1,_,hHK.1,hHK.2,rfl,fun b o h1 h2=> ?_,fun i hi=> ?_⟩
    ·have:=HA.out b o (by omega) h2;cases this;rw[if_neg (by omega),Nat.add_assoc]
    by_cases e:i=k
    ·rw[e,hd]
    exact HZ.out i (by omega)
   case measure=>simp;omega
  have hne:(((D k:Nat):Int)==0)=false:=by simp<;>omega
  have mk:=Bl (((m:Int)+7)/8) (((m:Int)+7)/8) ((m+7)/8) ((m+7)/8) (by omega) (by omega) (Nat.le_refl _) (by omega);go_wp2_with fail
  go_loopw [25] (fun t wr=> ∃(i:Nat) (H:Nat→Nat),i≤m∧t=.int .i64 (i:Int)∧Row wr (w.heap.size+1) ((m+7)/8) H∧DQ (fun i=>D (k+i)) m ((m+7)/8) i H∧((w.alloc (.cells #[.slice none 0 0] 27)).alloc (.cells (Bh ((m+7)/8)) 56)).grownBy wr (some (w.heap.size+1))) (fun t _=>m- (intOf t).toNat)
  case atStart=>exact⟨0,fun _=>0,by omega,rfl,AJ _ _ _ (by simp),Im _ _ _,World.grownBy.refl _ _⟩
  case round=>
   obtain⟨i,H,hi,rfl,hR,hF,hg⟩:=hrel;by_cases him:i<m
   ·have hcb:wr.cell? ⟨b',o'+i,none⟩=some (.int .u8 (D (k+i):Nat)):=hg.cell (cell_later (Ap _ _ _) (HW.out i him)) (by simp only[ne_eq,Option.some.injEq];have:=hb;omega);have hcw:wr.cell? ⟨w.heap.size+1,(m-1-i)/8,none⟩=some (.int .u64 (H ((m-1-i)/8):Nat)):=hR.cell (by omega);have hfw:wr.frozen? ⟨w.heap.size+1,(m-1-i)/8,none⟩=false:=hR.frozen _;have hdb:((D (k+i):Nat):Int)<256:=by have:D (k+i)<256:=HE.out.2.2.1 i him;omega
    have him':(i:Int)<m:=by omega
    have HH:Hid (Row wr (w.heap.size+1) ((m+7)/8) H∧DQ (fun i=>D (k+i)) m ((m+7)/8) i H∧((w.alloc (.cells #[.slice none 0 0] 27)).alloc (.cells (Bh ((m+7)/8)) 56)).grownBy wr (some (w.heap.size+1))):=⟨hR,hF,hg⟩;clear hR hF hg;have hor:=Nj (H ((m-1-i)/8)) (D (k+i)) ((m-1-i)%8) (HH.out.1.2 _ (by omega)) (HH.out.2.1.mod him rfl) (HE.out.2.2.1 i him) (by omega);have hlt2:H ((m-1-i)/8)+D (k+i)*256^((m-1-i)%8)<18446744073709551616:=J7 (HH.out.1.2 _ (by omega)) (HH.out.2.1.mod him rfl) (HE.out.2.2.1 i him) (by omega);have S:Hid _:=HH.out.1.set ((m-1-i)/8) hlt2;have S2:Hid _:=HH.out.2.1.step him rfl;have S3:Hid _:=AK _ HH.out.2.2 ((m-1-i)/8) (.int .u64 ((H ((m-1-i)/8)+D (k+i)*256^((m-1-i)%8):Nat):Int));have OR:Hid _:=hor;clear hor hlt2;go_wp2_with fail
    go_region
    go_wp2_with fail
    rw[OR.out];go_roundw
    case rel=>exact⟨i+1,_,by omega,by go_num,S.out,S2.out,CX S3.out 1⟩
    case measure=>simp[intOf];omega
   obtain rfl:i=m:=by omega
   have hcr:wr.cell? ⟨w.heap.size,0,none⟩=some (.slice none 0 0):=hg.cell (by simp[go_sem]) (by simp);have hfr:wr.frozen? ⟨w.heap.size,0,none⟩=false:=(World.frozen?_of_block (hg.block _ (by simp<;>omega) (by simp))).trans (by simp[go_sem]);have B1:Hid (Below w.heap.size w wr):=(Ap _ _ _).grown hg (by simp<;>omega) (fun k hk=>by cases hk;omega);have HF:Hid (V H ((i+7)/8)=BV (fun i=>D (k+i)) i):=by
    have:=hF.1;rw[Nat.sub_self,Nat.pow_zero,Nat.mul_one]at this;exact this
   have HR:Hid (Row wr (w.heap.size+1) ((i+7)/8) H):=hR;clear hR hF hg;go_wp2_with fail
   refine(Bp _ ((i+7)/8) ((i+7)/8) H wr (by have:=HR.out.sl (o:=0) (n:=(i+7)/8) (cap:=(i+7)/8) (by omega) (Nat.le_refl _) (by omega);rw[AB]at this;exact this) (by omega)).mono ?_;rintro e w3 ⟨v3,rfl,hv3,hb3⟩;have hcr3:w3.cell? ⟨w.heap.size,0,none⟩=some (.slice none 0 0):=cell_later hb3 hcr;have hfr3:w3.frozen? ⟨w.heap.size,0,none⟩=false:=(hb3.frozen (World.block_lt_of_cell? _ _ hcr)).trans hfr;obtain⟨a3,n3,cap3,rfl⟩:=hv3.isAgg;have HV3:Hid (Ac w3 (.agg #[.slice a3 n3 cap3]) (V H ((i+7)/8))):=hv3;have B3:Hid (Below w.heap.size w w3):=B1.out.trans (hb3.mono B1.out.size);clear hv3 hb3 hcr hfr B1;go_wp2_with fail
   refine bodyPost_ret (v:=.agg #[.slice a3 n3 cap3]) (by simp[results,Tryz.results15,go_sem,hcr3]) rfl ⟨_,rfl,?_,B3.out.setCell (Nat.le_refl _) _⟩;rw[HV.out,←HF.out];exact HV3.out.setCell (Af hcr3) _
def BS(x p:Nat):Nat:=x/256^p%256
def AP(x:Nat):Nat:=(bitLen x+7)/8
theorem Hl(x p:Nat):BS x p<256:=Nat.mod_lt _ (by omega)
theorem Nk{F:Nat→Nat}{n q:Nat}(h:Ok F n)(hq:q<n):V F n/P q%18446744073709551616=F q:=by
 obtain⟨t,rfl⟩: ∃t,n=q+(1+t):=⟨n- (q+1),by omega⟩;rw[Ba,Nat.add_mul_div_left _ _ (CV q),Nat.div_eq_of_lt (BU (h.mono (by omega))),Nat.zero_add,Ba,CK,At,Bd,CP,Nat.zero_add,Nat.mul_one,Nat.add_zero,Nat.add_mul_mod_self_left];exact Nat.mod_eq_of_lt (h q hq)
theorem Io{F:Nat→Nat}{n q r:Nat}(h:Ok F n)(hq:q<n)(hr:r<8):F q/2^(r*8)%256=BS (V F n) (8*q+r):=by
 rw[←Nk h hq,←EU,BS,Nat.pow_add,←J8,←Nat.div_div_eq_div_mul];generalize V F n/P q=y;have e:(18446744073709551616:Nat)=256^r*256^(8-r):=by rw[←Nat.pow_add,show r+(8-r)=8 by omega]
 rw[e,Nat.mod_mul_right_div_self];exact Nat.mod_mod_of_dvd _ ⟨256^(7-r),by rw[show 8-r=(7-r)+1 by omega,Nat.pow_succ,Nat.mul_comm]⟩
theorem LX{F:Nat→Nat}{n q r:Nat}(h:Ok F n)(hq:q<n)(hr:r<8):((F q:Nat):Int)/2^(r*8)%256=((BS (V F n) (8*q+r):Nat):Int):=by
 rw[←Io h hq hr];simp
theorem Tryz.info5:(Tryz.prog.info? 5).map (fun i=>(i.zero,i.size,i.bytes))=some (some (.int .u8 0),1,1):=by kernel_rfl
def Ff(m:Nat):Array Value:=madeCells #[.int .u8 0] m
theorem Gv(L C:Int)(n m:Nat)(hL:L=n)(hC:C=m)(hnm:n≤m)(hm:m≤1099511627776)(w:World):
  (Instr.makeSlice 39 (.int .i64 L) (.int .i64 C)).run Tryz.prog w=.ok (.slice (some ⟨w.heap.size,0,none⟩) n m) (w.alloc (.cells (Ff m) 5)):=by
 obtain⟨i,hi,hz,hs,hb⟩:=info_parts Tryz.info5;subst hL hC;rw[run_make w 39 5 i (.int .u8 0) Tryz.underlying39 hi hz .i64 .i64 n m (by omega) (by omega) (by rw[hb];omega) (by omega),hs];simp[Ff,Value.cells]
def CS(w:World)(b N:Nat)(D:Nat→Nat):Prop:=w.rowIs b 5 N (fun j=>.int .u8 ((D j:Nat):Int))∧ ∀i,i<N→D i<256
theorem Fp(w:World)(m g:Nat)(hg:g=w.heap.size):CS (w.alloc (.cells (Ff m) 5)) g m (fun _=>0):=by
 subst hg;exact⟨World.rowIs_made w (.int .u8 0) m _,fun _ _=>by show(0:Nat)<256;omega⟩
theorem CS.set{w:World}{b N:Nat}{F:Nat→Nat}(h:CS w b N F)(i:Nat){v:Nat}(hv:v<256):CS (w.setCell ⟨b,i,none⟩ (.int .u8 (v:Int))) b N (put F i v):=by
 refine⟨(h.1.set i _).congr fun j hj=> ?_,fun j hj=> ?_⟩
 ·unfold put;by_cases e:j=i<;>simp[e]
 unfold put;split
 ·exact hv
 exact h.2 j hj
theorem CS.cell{w:World}{b N:Nat}{F:Nat→Nat}(h:CS w b N F){i:Nat}(hi:i<N):w.cell? ⟨b,i,none⟩=some (.int .u8 (F i:Nat)):=h.1.cell hi
theorem CS.frozen{w:World}{b N:Nat}{F:Nat→Nat}(h:CS w b N F)(i:Nat):w.frozen? ⟨b,i,none⟩=false:=h.1.frozen i
theorem CS.congr{w:World}{b N:Nat}{F G:Nat→Nat}(h:CS w b N F)(e: ∀i,i<N→F i=G i):CS w b N G:=
 ⟨h.1.congr fun i hi=>by rw[e i hi],fun i hi=>by rw[←e i hi];exact h.2 i hi⟩
theorem KW(v:Value)(x:Nat)(w:World)(h:Ac w v x)(hx:Ar x):
  Calls Tryz.prog 69 #[v] w fun e w'=> ∃g,e=.returned (.slice (some ⟨g,0,none⟩) (AP x) (AP x))∧w.heap.size≤g∧CS w' g (AP x) (fun i=>BS x (AP x-1-i))∧Below w.heap.size w w':=by
 obtain⟨a,n,cap,F,rfl,hs,h0,h1,hv⟩:=id h;have hn:n≤4294967296:=AM (hv.symm▸hx) h1;have hbl:bitLen x≤64*n:=by
  by_cases e0:n=0
  ·subst e0;rw[←hv];show bitLen 0≤0;simp[bitLen]
  obtain⟨t,rfl⟩: ∃t,n=t+1:=⟨n-1,by omega⟩;have:=Fb hs.2.2.1 (h1 (by omega));rw[hv]at this;have:=Ca (F t) (hs.2.2.1 t (by omega));omega
 have HL:Hid (AP x=(bitLen x+7)/8):=rfl;obtain⟨L,hL⟩:=nme (AP x);have hLn:L≤8*n:=by rw[hL,HL.out];omega
 have HLL:Hid (L=AP x):=hL;have HH:Hid (Sl w a n cap F∧V F n=x∧Ac w (.agg #[.slice a n cap]) x):=⟨hs,hv,h⟩;clear hs h0 h1 hv h;have mk:=Gv ((((bitLen x:Nat):Int)+7)/8) ((((bitLen x:Nat):Int)+7)/8) L L (by rw[HLL.out,HL.out];omega) (by rw[HLL.out,HL.out];omega) (Nat.le_refl _) (by omega);rw[←hL];clear hL;go_enter Tryz.func69,Tryz.ntmps69
 go_wp2_with fail
 refine(Eg _ x _ (HH.out.2.2.mono ((Below.refl _ _).alloc (Nat.le_refl _) _)) hx).mono ?_;rintro e w1 ⟨rfl,hb1⟩;have c1:w1.cell? ⟨w.heap.size,0,none⟩=some (.slice a n cap):=cell_later hb1 (by simp[go_sem]);have hsz:w.heap.size<w1.heap.size:=World.block_lt_of_cell? _ _ c1;have B1:Hid (Below w.heap.size w w1):=AU ((Below.refl _ _).alloc (Nat.le_refl _) _) hb1;clear hb1 hx;go_wp2_with fail
 go_loopw [13] (fun t wr=> ∃(i:Nat) (E:Nat→Nat),i≤L∧t=.int .i64 (i:Int)∧CS wr w1.heap.size L E∧(∀j,j<i→E j=BS x (L-1-j))∧(w1.alloc (.cells (Ff L) 5)).grownBy wr (some w1.heap.size)) (fun t _=>L- (intOf t).toNat)
 case atStart=>exact⟨0,fun _=>0,by omega,rfl,Fp _ _ _ rfl,fun j hj=>absurd hj (by omega),World.grownBy.refl _ _⟩
 case round=>
  obtain⟨i,E,hi,rfl,hR,hE,hg⟩:=hrel;by_cases hiL:i<L
  ·obtain⟨b,o,rfl,hw⟩:=HH.out.1.at ((L-1-i)/8) (by omega);have hc0:=hw ((L-1-i)/8) (by omega);have hb:b<w.heap.size:=World.block_lt_of_cell? _ _ hc0;have hcw:wr.cell? ⟨b,o+(L-1-i)/8,none⟩=some (.int .u64 (F ((L-1-i)/8):Nat)):=hg.cell (cell_later ((Below.refl _ _).alloc (Nat.le_refl _) _) (cell_later B1.out hc0)) (by simp only[ne_eq,Option.some.injEq];omega);have hcx:wr.cell? ⟨w.heap.size,0,none⟩=some (.slice (some ⟨b,o,none⟩) n cap):=hg.cell (cell_later ((Below.refl _ _).alloc (Nat.le_refl _) _) c1) (by simp only[ne_eq,Option.some.injEq];omega);have hcd:wr.cell? ⟨w1.heap.size,i,none⟩=some (.int .u8 (E i:Nat)):=hR.cell hiL;have hfd:wr.frozen? ⟨w1.heap.size,i,none⟩=false:=hR.frozen _;have hiL':(i:Int)<L:=by omega
   have KK:Hid (CS wr w1.heap.size L E∧(∀j,j<i→E j=BS x (L-1-j))∧(w1.alloc (.cells (Ff L) 5)).grownBy wr (some w1.heap.size)):=⟨hR,hE,hg⟩;clear hR hE hg hw hc0;have BI:Hid (((F ((L-1-i)/8):Nat):Int)/2^((L-1-i)%8*8)%256=((BS x (L-1-i):Nat):Int)):=by
    have:=LX (r:=(L-1-i)%8) HH.out.1.2.2.1 (show(L-1-i)/8<n by omega) (by omega);rw[HH.out.2.1,show 8*((L-1-i)/8)+(L-1-i)%8=L-1-i by omega]at this;exact this
   go_wp2_with fail
   rw[BI.out];go_roundw
   case rel=>
    refine⟨i+1,_,by omega,by go_num,KK.out.1.set i (Hl _ _),fun j hj=> ?_,AK _ KK.out.2.2 _ _⟩;by_cases e:j=i
    ·subst e;exact AA _ _ _
    rw[Aq _ _ e];exact KK.out.2.1 j (by omega)
   case measure=>simp[intOf];omega
  obtain rfl:i=L:=by omega
  have KK:Hid (CS wr w1.heap.size i E∧(∀j,j<i→E j=BS x (i-1-j))∧(w1.alloc (.cells (Ff i) 5)).grownBy wr (some w1.heap.size)):=⟨hR,hE,hg⟩;clear hR hE hg;go_wp2_with fail
  go_ret
  exact⟨_,rfl,by omega,KK.out.1.congr KK.out.2.1,(B1.out.alloc B1.out.size _).grown KK.out.2.2 (by have:=B1.out.size;simp;omega) (fun k hk=>by cases hk;omega)⟩
theorem CO(r:Nat)(hr:r≤64):(18446744073709551616:Nat)=2^r*2^(64-r):=by rw[←Nat.pow_add,show r+(64-r)=64 by omega]
theorem KX(f r:Nat)(hr:r≤64):f*2^r%18446744073709551616+f/2^(64-r)*18446744073709551616=f*2^r:=by
 have e:f*2^r/18446744073709551616=f/2^(64-r):=by
  rw[CO r hr,Nat.mul_comm f,Nat.mul_div_mul_left _ _ (Nat.two_pow_pos r)]
 rw[←e];have:=Nat.mod_add_div (f*2^r) 18446744073709551616;omega
theorem F8(f r:Nat)(hr:r≤64):f*2^r%18446744073709551616=f%2^(64-r)*2^r:=by
 rw[CO r hr,Nat.mul_comm f,Nat.mul_mod_mul_left,Nat.mul_comm]
theorem NX(h f r:Nat)(hh:h<2^r)(hr:r≤63):
  bits .or .u64 (h:Int) (IntKind.u64.wrap ((f:Int)*2^r))=((h+f*2^r%18446744073709551616:Nat):Int)∧h+f*2^r%18446744073709551616<18446744073709551616:=by
 have e:(f:Int)*2^r=((f*2^r:Nat):Int):=by rw[Int.natCast_mul,Ci]
 have hm:=F8 f r (by omega);have hlt:f%2^(64-r)+1≤2^(64-r):=Nat.mod_lt _ (Nat.two_pow_pos _);have hlt2:(f%2^(64-r)+1)*2^r≤2^(64-r)*2^r:=Nat.mul_le_mul_right _ hlt;rw[Nat.mul_comm (2^(64-r)),←CO r (by omega),Nat.add_mul,←hm]at hlt2;have h64:h<18446744073709551616:=by omega
 have hor:f*2^r%18446744073709551616 ||| h=f*2^r%18446744073709551616+h:=Fu _ _ r (by rw[hm];exact Nat.mul_mod_left _ _) hh;refine⟨?_,by omega⟩;rw[e,Ey,bits_or_u64_nat _ _ h64 (Nat.mod_lt _ (by omega)),Nat.or_comm,hor,Nat.add_comm]
theorem Nl(u v r:Nat)(hu:u<18446744073709551616)(hr:r≤63):
  bits .or .u64 ((u/2^r:Nat):Int) (IntKind.u64.wrap ((v:Int)*2^(64-r)))=((u/2^r+v*2^(64-r)%18446744073709551616:Nat):Int)∧u/2^r+v*2^(64-r)%18446744073709551616<18446744073709551616:=by
 have e:(v:Int)*2^(64-r)=((v*2^(64-r):Nat):Int):=by rw[Int.natCast_mul,Ci]
 have hm:=F8 v (64-r) (by omega);rw[show 64- (64-r)=r by omega]at hm;have hd:u/2^r<2^(64-r):=by
  rw[Nat.div_lt_iff_lt_mul (Nat.two_pow_pos r),Nat.mul_comm,←CO r (by omega)];exact hu
 have hlt:v%2^r+1≤2^r:=Nat.mod_lt _ (Nat.two_pow_pos _);have hlt2:(v%2^r+1)*2^(64-r)≤2^r*2^(64-r):=Nat.mul_le_mul_right _ hlt;rw[←CO r (by omega),Nat.add_mul,←hm]at hlt2;have hor:v*2^(64-r)%18446744073709551616 ||| u/2^r=v*2^(64-r)%18446744073709551616+u/2^r:=Fu _ _ (64-r) (by rw[hm];exact Nat.mul_mod_left _ _) hd;refine⟨?_,by omega⟩;rw[e,Ey,bits_or_u64_nat _ _ (by omega) (Nat.mod_lt _ (by omega)),Nat.or_comm,hor,Nat.add_comm]
def GL(F:Nat→Nat)(N f r k:Nat)(H:Nat→Nat):Prop:=
 V H N=V F k*2^r*P f∧H (f+k)<2^r∧ ∀j,f+k<j→H j=0
theorem Jg(F:Nat→Nat)(N f r:Nat):GL F N f r 0 (fun _=>0):=⟨by rw[Dm,Bd];simp,Nat.two_pow_pos r,fun _ _=>rfl⟩
theorem GL.step{F:Nat→Nat}{N f r k:Nat}{H:Nat→Nat}(h:GL F N f r k H)(hk:f+k+1<N)(hr:r≤63)(hF:F k<18446744073709551616):
  GL F N f r (k+1) (put (put H (f+k) (H (f+k)+F k*2^r%18446744073709551616)) (f+k+1) (F k/2^(64-r))):=by
 obtain⟨h1,h2,h3⟩:=h;have z:put H (f+k) (H (f+k)+F k*2^r%18446744073709551616) (f+k+1)=0:=by rw[Aq _ _ (by omega)];exact h3 _ (by omega)
 refine⟨?_,?_,fun j hj=> ?_⟩
 ·have e1:=Fv (put H (f+k) (H (f+k)+F k*2^r%18446744073709551616)) (f+k+1) N (F k/2^(64-r)) hk;rw[z,Nat.zero_add]at e1;rw[e1,Fv _ _ _ _ (by omega),h1,At,Bo,Nat.add_mul,Nat.add_mul,DJ];have e2:=congrArg (· *(P f*P k)) (KX (F k) r (by omega));simp only[Nat.add_mul]at e2;have e3:F k/2^(64-r)*(P f*P k*18446744073709551616)=F k/2^(64-r)*18446744073709551616*(P f*P k):=by rw[Nat.mul_comm (P f*P k) 18446744073709551616,←Nat.mul_assoc]
  have e4:F k*P k*2^r*P f=F k*2^r*(P f*P k):=by rw[Nat.mul_right_comm (F k),Nat.mul_assoc,Nat.mul_comm (P k)]
  omega
 ·rw[show f+(k+1)=f+k+1 by omega,AA,Nat.div_lt_iff_lt_mul (Nat.two_pow_pos _),←CO r (by omega)];exact hF
 rw[Aq _ _ (by omega),Aq _ _ (by omega)];exact h3 j (by omega)
def CY(U:Nat→Nat)(r i:Nat):Nat:=U i/2^r+U (i+1)*2^(64-r)%18446744073709551616
theorem JF(U:Nat→Nat)(r:Nat)(hr:r≤63): ∀k,V (CY U r) k*2^r+U 0%2^r=V U k+U k%2^r*P k
 |0=>by rw[Bd,Bd,CP,Nat.zero_mul,Nat.mul_one]
 |k+1=>by
  have ih:=JF U r hr k;rw[At,At,Bo,Nat.add_mul];have hm:=F8 (U (k+1)) (64-r) (by omega);rw[show 64- (64-r)=r by omega]at hm;have e1:CY U r k*2^r+U k%2^r=U k+U (k+1)%2^r*18446744073709551616:=by
   unfold CY;rw[hm,Nat.add_mul,Nat.mul_assoc,Nat.mul_comm (2^(64-r)),←CO r (by omega)];have:=Nat.div_add_mod (U k) (2^r);rw[Nat.mul_comm]at this;omega
  have e2:=congrArg (· *P k) e1;simp only[Nat.add_mul]at e2;have e3:CY U r k*P k*2^r=CY U r k*2^r*P k:=Nat.mul_right_comm ..;have e4:U (k+1)%2^r*(P k*18446744073709551616)=U (k+1)%2^r*18446744073709551616*P k:=by rw[Nat.mul_assoc,Nat.mul_comm (P k)]
  omega
theorem LY{U:Nat→Nat}{r m:Nat}(hr:r≤63)(h0:U m=0):V (CY U r) m=V U m/2^r:=by
 have h:=JF U r hr m;rw[h0,Nat.zero_mod,Nat.zero_mul,Nat.add_zero]at h;rw[←h,Nat.mul_comm,Nat.mul_add_div (Nat.two_pow_pos r),Nat.div_eq_of_lt (Nat.mod_lt _ (Nat.two_pow_pos r)),Nat.add_zero]
theorem Dr(f k:Nat):((f:Nat):Int)/2^k=((f/2^k:Nat):Int):=by simp
theorem Ip(v:Value)(x s:Nat)(w:World)(h:Ac w v x)(hx:Ar x)(hs0:s≤68719476736):
  Calls Tryz.prog 82 #[v,.int .i64 (s:Int)] w (BO w (x*2^s)):=by
 obtain⟨a,n,cap,F,rfl,hs,h0,h1,hv⟩:=id h;have hn:n≤4294967296:=AM (hv.symm▸hx) h1;have HN:Hid (Ac w (.agg #[.slice a n cap]) x):=h;by_cases hz:s=0∨n=0
 ·have hxx:x*2^s=x:=by
   rcases hz with e|e
   ·rw[e,Nat.pow_zero,Nat.mul_one]
   subst e;have:x=0:=hv.symm;rw[this,Nat.zero_mul]
  have fin: ∀w':World,Below w.heap.size w w'→BO w (x*2^s) (.returned (.agg #[.slice a n cap])) w':=fun w' hb=>⟨_,rfl,by rw[hxx];exact HN.out.mono hb,hb⟩;have FIN:Hid _:=fin;clear fin hxx hs h0 h1 hv hx h;by_cases e:s=0
  ·have hsb:((s:Int)==0)=true:=by simp<;>omega
   clear hz e;go_enter Tryz.func82,Tryz.ntmps82
   go_wp2_with fail
   refine bodyPost_ret (v:=.agg #[.slice a n cap]) (by simp[results,Tryz.results82,go_sem]) rfl (FIN.out _ (Ap _ _ _))
  have hsb:((s:Int)==0)=false:=by simp<;>omega
  have hnb:((n:Int)==0)=true:=by simp<;>omega
  clear hz e;go_enter Tryz.func82,Tryz.ntmps82
  go_wp2_with fail
  refine bodyPost_ret (v:=.agg #[.slice a n cap]) (by simp[results,Tryz.results82,go_sem]) rfl (FIN.out _ (Ap _ _ _))
 have hsb:((s:Int)==0)=false:=by simp<;>omega
 have hnb:((n:Int)==0)=false:=by simp<;>omega
 have mk:=Bl ((s:Int)/64+n+1) ((s:Int)/64+n+1) (s/64+n+1) (s/64+n+1) (by omega) (by omega) (Nat.le_refl _) (by omega);have HH:Hid (Sl w a n cap F∧V F n=x):=⟨hs,hv⟩;clear hs h0 h1 hv hx h;go_enter Tryz.func82,Tryz.ntmps82
 go_wp2_with fail
 go_loopw [33] (fun t wr=> ∃(i:Nat) (H:Nat→Nat),i≤n∧t=.int .i64 (i:Int)∧Row wr (w.heap.size+1+1) (s/64+n+1) H∧GL F (s/64+n+1) (s/64) (s%64) i H∧(((w.alloc (.cells #[.slice a n cap] 27)).alloc (.cells #[.slice none 0 0] 27)).alloc (.cells (Bh (s/64+n+1)) 56)).grownBy wr (some (w.heap.size+1+1))) (fun t _=>n- (intOf t).toNat)
 case atStart=>exact⟨0,fun _=>0,by omega,rfl,AJ _ _ _ (by simp),Jg _ _ _ _,World.grownBy.refl _ _⟩
 case round=>
  clear mk;obtain⟨i,H,hi,rfl,hR,hU,hg⟩:=hrel;have HB:Hid (Below w.heap.size w (((w.alloc (.cells #[.slice a n cap] 27)).alloc (.cells #[.slice none 0 0] 27)).alloc (.cells (Bh (s/64+n+1)) 56))):=(Ap _ _ _).alloc (by simp<;>omega) _;by_cases hin:i<n
  ·obtain⟨b,o,rfl,hw⟩:=HH.out.1.at i hin;have hc0:=hw i hin;have hb:b<w.heap.size:=World.block_lt_of_cell? _ _ hc0;have hcw:wr.cell? ⟨b,o+i,none⟩=some (.int .u64 (F i:Nat)):=hg.cell (cell_later HB.out hc0) (by simp only[ne_eq,Option.some.injEq];omega);have hc1:wr.cell? ⟨w.heap.size+1+1,s/64+i,none⟩=some (.int .u64 (H (s/64+i):Nat)):=hR.cell (by omega);have hf1:wr.frozen? ⟨w.heap.size+1+1,s/64+i,none⟩=false:=hR.frozen _;have hc2:wr.cell? ⟨w.heap.size+1+1,s/64+i+1,none⟩=some (.int .u64 (H (s/64+i+1):Nat)):=hR.cell (by omega);have hf2:wr.frozen? ⟨w.heap.size+1+1,s/64+i+1,none⟩=false:=hR.frozen _;have hin':(i:Int)<n:=by omega
   have hFi:F i<18446744073709551616:=HH.out.1.2.2.1 i hin;obtain⟨o1,o2⟩:=NX (H (s/64+i)) (F i) (s%64) hU.2.1 (by omega);have S1:=(hR.set (s/64+i) o2).set (s/64+i+1) (v:=F i/2^(64-s%64)) (by exact Nat.lt_of_le_of_lt (Nat.div_le_self _ _) hFi);have S2:=hU.step (by omega) (by omega) hFi;have S3:=AK _ (AK _ hg (s/64+i) (.int .u64 ((H (s/64+i)+F i*2^(s%64)%18446744073709551616:Nat):Int))) (s/64+i+1) (.int .u64 ((F i/2^(64-s%64):Nat):Int));have T:Hid _:=And.intro o1 (And.intro S1 (And.intro S2 S3));clear o1 o2 S1 S2 S3 hR hU hg hw hc0;go_wp2_with fail
   go_region
   go_wp2_with fail
   rw[T.out.1,Dr];go_roundw
   case rel=>exact⟨i+1,_,by omega,by go_num,T.out.2.1,T.out.2.2.1,CX T.out.2.2.2 1⟩
   case measure=>simp[intOf];omega
  obtain rfl:i=n:=by omega
  have hcr:wr.cell? ⟨w.heap.size+1,0,none⟩=some (.slice none 0 0):=hg.cell (by simp[go_sem]) (by simp);have hfr:wr.frozen? ⟨w.heap.size+1,0,none⟩=false:=(World.frozen?_of_block (hg.block _ (by simp<;>omega) (by simp))).trans (by simp[go_sem]);have B1:Hid (Below w.heap.size w wr):=HB.out.grown hg (by simp<;>omega) (fun k hk=>by cases hk;omega);have HF:Hid (V H (s/64+i+1)=x*2^s):=by
   have:=hU.1;rw[HH.out.2,DK,Nat.mul_assoc,←Nat.pow_add,show s%64+64*(s/64)=s by omega]at this;exact this
  have HR:Hid (Row wr (w.heap.size+1+1) (s/64+i+1) H):=hR;clear hR hU hg;go_wp2_with fail
  refine(Bp _ (s/64+i+1) (s/64+i+1) H wr (by have:=HR.out.sl (o:=0) (n:=s/64+i+1) (cap:=s/64+i+1) (by omega) (Nat.le_refl _) (by omega);rw[AB]at this;exact this) (by omega)).mono ?_;rintro e w3 ⟨v3,rfl,hv3,hb3⟩;have hcr3:w3.cell? ⟨w.heap.size+1,0,none⟩=some (.slice none 0 0):=cell_later hb3 hcr;have hfr3:w3.frozen? ⟨w.heap.size+1,0,none⟩=false:=(hb3.frozen (World.block_lt_of_cell? _ _ hcr)).trans hfr;obtain⟨a3,n3,cap3,rfl⟩:=hv3.isAgg;have HV3:Hid (Ac w3 (.agg #[.slice a3 n3 cap3]) (V H (s/64+i+1))):=hv3;have B3:Hid (Below w.heap.size w w3):=B1.out.trans (hb3.mono B1.out.size);clear hv3 hb3 hcr hfr B1;go_wp2_with fail
  refine bodyPost_ret (v:=.agg #[.slice a3 n3 cap3]) (by simp[results,Tryz.results82,go_sem,hcr3]) rfl ⟨_,rfl,?_,B3.out.setCell (by simp) _⟩;rw[←HF.out];exact HV3.out.setCell (Af hcr3) _
def Ao(F:Nat→Nat)(n f i:Nat):Nat:=if f+i<n then F (f+i) else 0
theorem Bb{F:Nat→Nat}{n f i:Nat}(h:f+i<n):Ao F n f i=F (f+i):=by simp[Ao,h]
theorem A6{F:Nat→Nat}{n f i:Nat}(h: ¬f+i<n):Ao F n f i=0:=by simp[Ao,h]
theorem KY{F:Nat→Nat}{n t:Nat}(hF:Ok F n)(hf:t/64≤n):V (CY (Ao F n (t/64)) (t%64)) (n-t/64)=V F n/2^t:=by
 rw[LY (by omega) (A6 (by omega)),A4 (F:=Ao F n (t/64)) (G:=fun i=>F (t/64+i)) fun i hi=>Bb (by omega)];have e:V F n=V F (t/64)+P (t/64)*V (fun i=>F (t/64+i)) (n-t/64):=by rw[←Ba,show t/64+(n-t/64)=n by omega]
 rw[e,show 2^t=P (t/64)*2^(t%64) by rw[DK,←Nat.pow_add,show 64*(t/64)+t%64=t by omega],←Nat.div_div_eq_div_mul,Nat.add_mul_div_left _ _ (CV _),Nat.div_eq_of_lt (BU (hF.mono hf)),Nat.zero_add]
theorem Cx(x:Nat):x<2^bitLen x:=(bitLen_spec x).1
theorem Iq{w:World}{a:Option Addr}{n cap:Nat}{F:Nat→Nat}{x:Nat}(hs:Sl w a n cap F)(h1:0<n→F (n-1)≠0)(hv:V F n=x):bitLen x≤64*n:=by
 by_cases e0:n=0
 ·subst e0;rw[←hv];show bitLen 0≤0;simp[bitLen]
 obtain⟨t,rfl⟩: ∃t,n=t+1:=⟨n-1,by omega⟩;have h2:=Fb hs.2.2.1 (h1 (by omega));rw[hv]at h2;have:=Ca (F t) (hs.2.2.1 t (by omega));omega
theorem Fw(v:Value)(x:Nat)(s:Int)(w:World)(h:Ac w v x)(hx:Ar x)(hs0: -9223372036854775808≤s)(hs1:s≤9223372036854775807):
  Calls Tryz.prog 81 #[v,.int .i64 s] w (BO w (x/2^s.toNat)):=by
 obtain⟨a,n,cap,F,rfl,hs,h0,h1,hv⟩:=id h;have hn:n≤4294967296:=AM (hv.symm▸hx) h1;have HN:Hid (Ac w (.agg #[.slice a n cap]) x):=h;have hbl:=Iq hs h1 hv;have HH:Hid (Sl w a n cap F∧V F n=x):=⟨hs,hv⟩;have HX:Hid (Ar x):=hx;clear hs h0 h1 hv h hx;by_cases hz:s≤0
 ·have hxx:x/2^s.toNat=x:=by rw[show s.toNat=0 by omega,Nat.pow_zero,Nat.div_one]
  have FIN:Hid (∀w':World,Below w.heap.size w w'→BO w (x/2^s.toNat) (.returned (.agg #[.slice a n cap])) w'):=fun w' hb=>⟨_,rfl,by rw[hxx];exact HN.out.mono hb,hb⟩;clear hxx hbl;go_enter Tryz.func81,Tryz.ntmps81
  go_wp2_with fail
  refine bodyPost_ret (v:=.agg #[.slice a n cap]) (by simp[results,Tryz.results81,go_sem]) rfl (FIN.out _ (Ap _ _ _))
 obtain⟨t,rfl⟩:=Int.eq_ofNat_of_zero_le (show 0≤s by omega);rw[Int.toNat_natCast];have htz:decide ((t:Int)≤0)=false:=decide_eq_false (by omega);go_enter Tryz.func81,Tryz.ntmps81
 go_wp2_with fail
 refine(Eg _ x _ (HN.out.mono (Ap _ _ _)) HX.out).mono ?_;rintro e w1 ⟨rfl,hb1⟩;have c1:w1.cell? ⟨w.heap.size,0,none⟩=some (.slice a n cap):=cell_later hb1 (by simp[go_sem]);have c2:w1.cell? ⟨w.heap.size+1,0,none⟩=some (.slice none 0 0):=cell_later hb1 (by simp[go_sem]);have f2:w1.frozen? ⟨w.heap.size+1,0,none⟩=false:=(hb1.frozen (by simp<;>omega)).trans (by simp[go_sem]);have hsz:w.heap.size+1<w1.heap.size:=World.block_lt_of_cell? _ _ c2;have B1:Hid (Below w.heap.size w w1):=AU (Ap _ _ _) hb1;clear hb1;by_cases hbig:bitLen x≤t
 ·have hbi:((bitLen x:Nat):Int)≤(t:Int):=by omega
  go_wp2_with fail
  refine bodyPost_ret (v:=.agg #[.slice none 0 0]) (by simp[results,Tryz.results81,go_sem,c2]) rfl ⟨_,rfl,?_,B1.out.setCell (by simp) _⟩;rw[Nat.div_eq_of_lt (Nat.lt_of_lt_of_le (Cx x) (Nat.pow_le_pow_right (by omega) hbig))];exact B7 _
 have hbi:decide (bitLen x≤t)=false:=decide_eq_false (by omega);have hft:t/64<n:=by omega
 have mk:=Bl ((n:Int)- (t:Int)/64) ((n:Int)- (t:Int)/64) (n-t/64) (n-t/64) (by omega) (by omega) (Nat.le_refl _) (by omega);have htb:t≤274877906944:=by omega
 clear hbig;go_wp2_with fail
 go_loopw [31] (fun q wr=> ∃(i:Nat) (H:Nat→Nat),i≤n-t/64∧q=.int .i64 (i:Int)∧Row wr w1.heap.size (n-t/64) H∧(∀j,j<i→H j=CY (Ao F n (t/64)) (t%64) j)∧(w1.alloc (.cells (Bh (n-t/64)) 56)).grownBy wr (some w1.heap.size)) (fun q _=>n-t/64- (intOf q).toNat)
 case atStart=>exact⟨0,fun _=>0,by omega,rfl,AJ _ _ _ rfl,fun j hj=>absurd hj (by omega),World.grownBy.refl _ _⟩
 case round=>
  clear mk;obtain⟨i,H,hi,rfl,hR,hU,hg⟩:=hrel;have HB:Hid (Below w.heap.size w (w1.alloc (.cells (Bh (n-t/64)) 56))):=B1.out.alloc B1.out.size _;by_cases hin:i<n-t/64
  ·obtain⟨b,o,rfl,hw⟩:=HH.out.1.at (t/64+i) (by omega);have hc0:=hw (t/64+i) (by omega);have hb:b<w.heap.size:=World.block_lt_of_cell? _ _ hc0;have hcw:wr.cell? ⟨b,o+(t/64+i),none⟩=some (.int .u64 (F (t/64+i):Nat)):=hg.cell (cell_later HB.out hc0) (by simp only[ne_eq,Option.some.injEq];omega);have hcx:wr.cell? ⟨w.heap.size,0,none⟩=some (.slice (some ⟨b,o,none⟩) n cap):=hg.cell (cell_later ((Below.refl _ _).alloc (Nat.le_refl _) _) c1) (by simp only[ne_eq,Option.some.injEq];omega);have hc1:wr.cell? ⟨w1.heap.size,i,none⟩=some (.int .u64 (H i:Nat)):=hR.cell (by omega);have hf1:wr.frozen? ⟨w1.heap.size,i,none⟩=false:=hR.frozen _;have hin':(i:Int)<((n-t/64:Nat):Int):=by omega
   have hFi:F (t/64+i)<18446744073709551616:=HH.out.1.2.2.1 _ (by omega);have hdl:F (t/64+i)/2^(t%64)<18446744073709551616:=Nat.lt_of_le_of_lt (Nat.div_le_self _ _) hFi;by_cases hlast:t/64+i+1<n
   ·have hc3:wr.cell? ⟨b,o+(t/64+i+1),none⟩=some (.int .u64 (F (t/64+i+1):Nat)):=hg.cell (cell_later HB.out (hw (t/64+i+1) hlast)) (by simp only[ne_eq,Option.some.injEq];omega);have hl':((t:Int)/64+i+1)<n:=by omega
    obtain⟨o1,o2⟩:=Nl (F (t/64+i)) (F (t/64+i+1)) (t%64) hFi (by omega);have ed:CY (Ao F n (t/64)) (t%64) i=F (t/64+i)/2^(t%64)+F (t/64+i+1)*2^(64-t%64)%18446744073709551616:=by
     unfold CY;rw[Bb (by omega),Bb (by omega),Nat.add_assoc]
    rw[←ed]at o1 o2;have T:Hid _:=And.intro o1 (And.intro ((hR.set i hdl).set i o2) (And.intro hU (AK _ (AK _ hg i (.int .u64 ((F (t/64+i)/2^(t%64):Nat):Int))) i (.int .u64 ((CY (Ao F n (t/64)) (t%64) i:Nat):Int)))));clear o1 o2 ed hR hU hg hw hc0;go_wp2_with fail
    go_region
    go_wp2_with fail
    rw[Dr,T.out.1];go_roundw
    case rel=>
     refine⟨i+1,_,by omega,by go_num,T.out.2.1,fun j hj=> ?_,CX T.out.2.2.2 1⟩;by_cases e:j=i
     ·subst e;exact AA _ _ _
     rw[Aq _ _ e,Aq _ _ e];exact T.out.2.2.1 j (by omega)
    case measure=>simp[intOf];omega
   have hl':decide (((t:Int)/64+i+1)<n)=false:=decide_eq_false (by omega);have ed:CY (Ao F n (t/64)) (t%64) i=F (t/64+i)/2^(t%64):=by
    unfold CY;rw[Bb (by omega),A6 (by omega)];simp
   have T:Hid _:=And.intro (hR.set i hdl) (And.intro hU (AK _ hg i (.int .u64 ((F (t/64+i)/2^(t%64):Nat):Int))));have ED:Hid _:=ed;clear ed hR hU hg hw hc0;go_wp2_with fail
   rw[Dr];go_roundw
   case rel=>
    refine⟨i+1,_,by omega,by go_num,T.out.1,fun j hj=> ?_,T.out.2.2⟩;by_cases e:j=i
    ·subst e;rw[AA,ED.out]
    rw[Aq _ _ e];exact T.out.2.1 j (by omega)
   case measure=>simp[intOf];omega
  obtain rfl:i=n-t/64:=by omega
  have hcr:wr.cell? ⟨w.heap.size+1,0,none⟩=some (.slice none 0 0):=hg.cell (cell_later ((Below.refl _ _).alloc (Nat.le_refl _) _) c2) (by simp only[ne_eq,Option.some.injEq];omega);have hfr:wr.frozen? ⟨w.heap.size+1,0,none⟩=false:=(World.frozen?_of_block (hg.block _ (by simp<;>omega) (by simp only[ne_eq,Option.some.injEq];omega))).trans ((((Below.refl _ _).alloc (Nat.le_refl _) _).frozen hsz).trans f2);have B2:Hid (Below w.heap.size w wr):=HB.out.grown hg (by have:=B1.out.size;simp;omega) (fun k hk=>by cases hk;exact B1.out.size);have HF:Hid (V H (n-t/64)=x/2^t):=by
   show V H (n-t/64)=x/2^t;rw[A4 hU,KY HH.out.1.2.2.1 (by omega),HH.out.2]
  have HR:Hid (Row wr w1.heap.size (n-t/64) H):=hR;clear hR hU hg;go_wp2_with fail
  refine(Bp _ (n-t/64) (n-t/64) H wr (by have:=HR.out.sl (o:=0) (n:=n-t/64) (cap:=n-t/64) (by omega) (Nat.le_refl _) (by omega);rw[AB]at this;exact this) (by omega)).mono ?_;rintro e w3 ⟨v3,rfl,hv3,hb3⟩;have hcr3:w3.cell? ⟨w.heap.size+1,0,none⟩=some (.slice none 0 0):=cell_later hb3 hcr;have hfr3:w3.frozen? ⟨w.heap.size+1,0,none⟩=false:=(hb3.frozen (World.block_lt_of_cell? _ _ hcr)).trans hfr;obtain⟨a3,n3,cap3,rfl⟩:=hv3.isAgg;have HV3:Hid (Ac w3 (.agg #[.slice a3 n3 cap3]) (V H (n-t/64))):=hv3;have B3:Hid (Below w.heap.size w w3):=B2.out.trans (hb3.mono B2.out.size);clear hv3 hb3 hcr hfr B2;go_wp2_with fail
  refine bodyPost_ret (v:=.agg #[.slice a3 n3 cap3]) (by simp[results,Tryz.results81,go_sem,hcr3]) rfl ⟨_,rfl,?_,B3.out.setCell (by simp) _⟩;rw[←HF.out];exact HV3.out.setCell (Af hcr3) _
theorem Gj{w:World}{a:Option Addr}{n cap:Nat}{x:Nat}(h:Ac w (.agg #[.slice a n cap]) x)(h0:n=0):x=0:=(Do h).1 h0
end Go.Proofs.YtcbjkgphpnihiaaGreatDoor
namespace Go.Proofs.YtcbjkgphpnihiaaGreatDoor
open Go.RowKit Go.Lib
set_option maxRecDepth 100000
def A9(x y:Nat):Nat:=x*y/18446744073709551616
def AL(x y:Nat):Nat:=x*y%18446744073709551616
theorem Fz(x y:Nat)(w:World)(hx:x<18446744073709551616)(hy:y<18446744073709551616):
  Calls Tryz.prog 109 #[.int .u64 (x:Int),.int .u64 (y:Int)] w fun e w'=>e=.returned (.tuple #[.int .u64 ((A9 x y:Nat):Int),.int .u64 ((AL x y:Nat):Int)])∧w'=w:=by
 unfold A9 AL;obtain⟨bd,bt,bw,hhi⟩:=Lib.mul64_hi x y hx hy;have ba:=Lib.half_mul_le (a:=x/4294967296) (b:=y/4294967296) (by omega) (by omega);have bb:=Lib.half_mul_le (a:=x/4294967296) (b:=y%4294967296) (by omega) (by omega);have bc:=Lib.half_mul_le (a:=x%4294967296) (b:=y/4294967296) (by omega) (by omega);have ba':x/4294967296*(y/4294967296)<18446744073709551616:=by omega
 have bb':x/4294967296*(y%4294967296)<18446744073709551616:=by omega
 have bc':x%4294967296*(y/4294967296)<18446744073709551616:=by omega
 have bh1:x/4294967296*(y/4294967296)+(x/4294967296*(y%4294967296)+x%4294967296*(y%4294967296)/4294967296)/4294967296<18446744073709551616:=by omega
 have bh:x/4294967296*(y/4294967296)+(x/4294967296*(y%4294967296)+x%4294967296*(y%4294967296)/4294967296)/4294967296+((x/4294967296*(y%4294967296)+x%4294967296*(y%4294967296)/4294967296)%4294967296+x%4294967296*(y/4294967296))/4294967296<18446744073709551616:=by omega
 go_enter Tryz.func109,Tryz.ntmps109
 go_wp2
 simp only[Go.Proofs.Mul64.maskN x hx,Go.Proofs.Mul64.maskN y hy,Go.Proofs.Mul64.divN,Go.Proofs.Mul64.mulN,Go.Proofs.Mul64.addN,Go.Proofs.Mul64.wrapN _ bd,Go.Proofs.Mul64.wrapN _ bb',Go.Proofs.Mul64.wrapN _ bt,Go.Proofs.Mul64.maskN _ bt,Go.Proofs.Mul64.wrapN _ bc',Go.Proofs.Mul64.wrapN _ bw,Go.Proofs.Mul64.wrapN _ ba',Go.Proofs.Mul64.wrapN _ bh1,Go.Proofs.Mul64.wrapN _ bh,Go.Proofs.Mul64.wrapM (x*y)];rw[hhi];go_ret2
 exact⟨rfl,rfl⟩
theorem EW(x y:Nat):AL x y+A9 x y*18446744073709551616=x*y:=by unfold AL A9;have:=Nat.mod_add_div (x*y) 18446744073709551616;omega
theorem Ep(x y:Nat):AL x y<18446744073709551616:=Nat.mod_lt _ (by omega)
theorem Gw(x y:Nat)(hx:x<18446744073709551616)(hy:y<18446744073709551616):A9 x y≤18446744073709551614:=by
 have h1:x*y≤18446744073709551615*18446744073709551615:=Nat.mul_le_mul (by omega) (by omega);have:=EW x y;omega
end Go.Proofs.YtcbjkgphpnihiaaGreatDoor
namespace Go.Proofs.YtcbjkgphpnihiaaGreatDoor
open Go.RowKit
set_option maxRecDepth 100000
theorem JH(w d s c:Nat)(hw:w<18446744073709551616)(hd:d<18446744073709551616)(hs:s<18446744073709551616)(hc:c<18446744073709551616):s+c+w*d<18446744073709551616*18446744073709551616:=by
 have h1:w*d≤18446744073709551615*18446744073709551615:=Nat.mul_le_mul (by omega) (by omega);omega
def J9(w d s c:Nat):Nat:=BL s (BL (AL w d) c 0) 0
def Hb(w d s c:Nat):Nat:=A9 w d+Bw (AL w d) c 0+Bw s (BL (AL w d) c 0) 0
def Ir(w d s c:Nat):Nat:=Df s (BL (AL w d) c 0) 0
def Hc(w d s c:Nat):Nat:=A9 w d+Bw (AL w d) c 0+CN s (BL (AL w d) c 0) 0
theorem OS(p t u x s c vb rb qb:Nat)(h1:u+vb=x)(h2:t+rb=u+c+0)(h3:p+qb=s+t+0):p+(vb+rb+qb)=s+x+c:=by omega
theorem OB(p t u x s c vb rb qb:Nat)(h1:u+vb=x)(h2:t+rb=u+c+0)(h3:p+t+0=s+qb):p+x+c=s+(vb+rb+qb):=by omega
theorem MY(w d s c:Nat):J9 w d s c+Hb w d s c*18446744073709551616=s+w*d+c:=by
 unfold J9 Hb;rw[Nat.add_mul,Nat.add_mul];exact OS _ _ _ _ _ _ _ _ _ (EW w d) (ET (AL w d) c 0) (ET s (BL (AL w d) c 0) 0)
theorem MZ(w d s c:Nat)(hw:w<18446744073709551616)(hd:d<18446744073709551616)(hs:s<18446744073709551616)(hc:c<18446744073709551616):Hb w d s c<18446744073709551616:=by
 have h1:=MY w d s c;have h2:=JH w d s c hw hd hs hc;omega
theorem M2(w d s c:Nat)(hs:s<18446744073709551616):Ir w d s c+w*d+c=s+Hc w d s c*18446744073709551616:=by
 unfold Ir Hc;rw[Nat.add_mul,Nat.add_mul];exact OB _ _ _ _ _ _ _ _ _ (EW w d) (ET (AL w d) c 0) (Ii s (BL (AL w d) c 0) 0 hs (En _ _ _) (by omega))
theorem M8(w d s c:Nat)(hw:w<18446744073709551616)(hd:d<18446744073709551616)(hs:s<18446744073709551616)(hc:c<18446744073709551616):Hc w d s c<18446744073709551616:=by
 have h1:=M2 w d s c hs;have h2:=JH w d (Ir w d s c) c hw hd (Fd _ _ _) hc;omega
theorem KZ(w d c:Nat)(hw:w<18446744073709551616)(hd:d<18446744073709551616)(hc:c<18446744073709551616):A9 w d+Bw (AL w d) c 0<18446744073709551616:=by
 have h1:=Gw w d hw hd;have h2:=Fe (AL w d) c 0 (Ep _ _) hc (by omega);omega
def Er(w wr:World)(b N o:Nat)(F:Nat→Nat)(y k c:Nat)(H:Nat→Nat):Prop:=
 Row wr b N H∧(∀j,j<o∨o+k≤j→H j=F j)∧c<18446744073709551616∧V (fro H o) k+c*P k=V (fro F o) k+y∧w.grownBy wr (some b)
def Ea(w wr:World)(b N o:Nat)(F:Nat→Nat)(y k c:Nat)(H:Nat→Nat):Prop:=
 Row wr b N H∧(∀j,j<o∨o+k≤j→H j=F j)∧c<18446744073709551616∧V (fro H o) k+y=V (fro F o) k+c*P k∧w.grownBy wr (some b)
theorem Er.start{w:World}{b N:Nat}{F:Nat→Nat}(o:Nat)(h:Row w b N F):Er w w b N o F 0 0 0 F:=
 ⟨h,fun _ _=>rfl,by omega,by simp[Bd],World.grownBy.refl _ _⟩
theorem Ea.start{w:World}{b N:Nat}{F:Nat→Nat}(o:Nat)(h:Row w b N F):Ea w w b N o F 0 0 0 F:=
 ⟨h,fun _ _=>rfl,by omega,by simp[Bd],World.grownBy.refl _ _⟩
theorem Er.step{w wr:World}{b N o:Nat}{F:Nat→Nat}{G:Nat→Nat}{d k c:Nat}{H:Nat→Nat}(h:Er w wr b N o F (V G k*d) k c H)(hk:o+k<N)(hg:G k<18446744073709551616)(hd:d<18446744073709551616):
  Er w (wr.setCell ⟨b,o+k,none⟩ (.int .u64 (J9 (G k) d (H (o+k)) c:Nat))) b N o F (V G (k+1)*d) (k+1) (Hb (G k) d (H (o+k)) c) (put H (o+k) (J9 (G k) d (H (o+k)) c)):=by
 obtain⟨h1,h2,h3,h4,h5⟩:=h;refine⟨h1.set _ (En _ _ _),fun j hj=> ?_,MZ _ _ _ _ hg hd (h1.2 _ hk) h3,?_,AK _ h5 _ _⟩
 ·rw[Aq _ _ (by omega)];exact h2 j (by omega)
 have hF:F (o+k)=H (o+k):=(h2 _ (by omega)).symm;rw[At,At,At,F6,Bo,Nat.add_mul];show V (fro H o) k+put H (o+k) _ (o+k)*P k+_=V (fro F o) k+F (o+k)*P k+_;rw[AA,hF,Nat.mul_right_comm (G k)];exact Ij _ _ _ _ _ _ _ _ _ (MY _ _ _ _) h4
theorem Ea.step{w wr:World}{b N o:Nat}{F:Nat→Nat}{G:Nat→Nat}{d k c:Nat}{H:Nat→Nat}(h:Ea w wr b N o F (V G k*d) k c H)(hk:o+k<N)(hg:G k<18446744073709551616)(hd:d<18446744073709551616):
  Ea w (wr.setCell ⟨b,o+k,none⟩ (.int .u64 (Ir (G k) d (H (o+k)) c:Nat))) b N o F (V G (k+1)*d) (k+1) (Hc (G k) d (H (o+k)) c) (put H (o+k) (Ir (G k) d (H (o+k)) c)):=by
 obtain⟨h1,h2,h3,h4,h5⟩:=h;refine⟨h1.set _ (Fd _ _ _),fun j hj=> ?_,M8 _ _ _ _ hg hd (h1.2 _ hk) h3,?_,AK _ h5 _ _⟩
 ·rw[Aq _ _ (by omega)];exact h2 j (by omega)
 have hF:F (o+k)=H (o+k):=(h2 _ (by omega)).symm;rw[At,At,At,F6,Bo,Nat.add_mul];show V (fro H o) k+put H (o+k) _ (o+k)*P k+_=V (fro F o) k+F (o+k)*P k+_;rw[AA,hF,Nat.mul_right_comm (G k)];exact Ik _ _ _ _ _ _ _ _ _ (M2 _ _ _ _ (h1.2 _ hk)) h4
end Go.Proofs.YtcbjkgphpnihiaaGreatDoor
