/- Contracts of the program's functions, part 6: own work, joined in build order. -/
import Derived.Test.YtbikpmmpgbggaaaGreatDoorJ5
import Derived.Deep.AppendLies
import Derived.LoopN
import Derived.Deep.LoopGhost
import Derived.Shelf.Spec.TrailingZeros
namespace Go.Proofs.YtbikpmmpgbggaaaGreatDoor
open Go.RowKit
set_option linter.unusedVariables false
set_option maxHeartbeats 16000000
def pw(i:Nat):Nat:=10^(19*2^i)
theorem OH:pw 0=10000000000000000000:=by decide+kernel
theorem Ve(i:Nat):pw (i+1)=pw i*pw i:=by
 unfold pw;rw[←Nat.pow_add,Nat.pow_succ];congr 1
 omega
theorem Hh{i j:Nat}(h:i≤j):pw i≤pw j:=Nat.pow_le_pow_right (by decide) (Nat.mul_le_mul_left _ (Nat.pow_le_pow_right (by decide) h))
theorem Kr(i:Nat):0<pw i:=Nat.pow_pos (by decide)
theorem Wm(i:Nat):2≤pw i:=Nat.le_trans (by rw[OH];omega) (Hh (Nat.zero_le i))
theorem Q7:pw 6<P 99:=by decide+kernel
theorem Tu:P 126≤pw 7:=by decide+kernel
structure Tx (x:Nat):Prop where
 lt:x<P 225
theorem Tx.le{x y:Nat}(h:Tx x)(hy:y≤x):Tx y:=⟨Nat.lt_of_le_of_lt hy h.lt⟩
theorem Tx.small{x:Nat}(h:Tx x):Small x:=⟨Nat.lt_trans h.lt (Pv (show 225<lim2 by decide))⟩
theorem Tx.fits{x:Nat}(h:Tx x):AE x:=h.small.fits
theorem Vf{x i:Nat}(h:Tx x)(hi:pw i≤x):pw i<P 99∨(P 126≤pw i∧x<P 225):=by
 rcases Nat.lt_or_ge i 7 with h1|h1
 ·exact .inl (Nat.lt_of_le_of_lt (Hh (show i≤6 by omega)) Q7)
 exact .inr ⟨Nat.le_trans Tu (Hh h1),h.lt⟩
theorem UQ{i:Nat}(h:i≤7):Tx (pw i):=⟨Nat.lt_of_le_of_lt (Hh h) (by decide+kernel)⟩
theorem Vg:(2:Nat)^100000≤10^30103:=by decide+kernel
theorem Q8{x L E B t:Nat}(hE:0<E)(hEB:2^E≤10^B)(h:x<2^L)(ht:L*B≤(t+1)*E):x<10^(t+1):=by
 refine Nat.lt_of_lt_of_le h ?_;refine(Nat.pow_le_pow_iff_left (n:=E) (by omega)).1 ?_;rw[←Nat.pow_mul,←Nat.pow_mul,Nat.mul_comm L,Nat.pow_mul];refine Nat.le_trans (Nat.pow_le_pow_left hEB L) ?_;rw[←Nat.pow_mul,Nat.mul_comm B];exact Nat.pow_le_pow_right (by omega) ht
theorem Wn{x L:Nat}(h:x<2^L):x<10^(L*30103/100000+1):=by
 refine Q8 (E:=100000) (B:=30103) (by omega) Vg h ?_;have:=Nat.div_add_mod (L*30103) 100000;have:=Nat.mod_lt (L*30103) (show 0<100000 by omega);omega
def CY(x k:Nat):Prop:=0<k∧x<10^k∧(k=1∨10^(k-1)≤x)
theorem CY.unique{x k l:Nat}(h:CY x k)(h':CY x l):k=l:=by
 obtain⟨h1,h2,h3⟩:=h;obtain⟨g1,g2,g3⟩:=h';rcases Nat.lt_trichotomy k l with hh|hh|hh
 ·have:=Nat.pow_le_pow_right (n:=10) (by omega) (show k≤l-1 by omega);omega
 ·exact hh
 have:=Nat.pow_le_pow_right (n:=10) (by omega) (show l≤k-1 by omega);omega
theorem Ks{x p:Nat}(h:x<10^(p+1)):Dz x p=48↔x<10^p:=by
 unfold Dz;rw[Nat.pow_succ]at h;have h1:x/10^p<10:=Nat.div_lt_of_lt_mul (by omega);rw[Nat.mod_eq_of_lt h1];constructor
 ·intro hh;have h2:x/10^p=0:=by omega
  exact(Nat.div_eq_zero_iff_lt (Nat.pow_pos (by omega))).1 h2
 intro hh;rw[Nat.div_eq_of_lt hh]
set_option maxRecDepth 100000
def JX(w:World)(b o K:Nat)(M:Nat→Nat):Prop:= ∀i,i<K→ ∃a n c,w.cell? ⟨b,o+i,none⟩=some (.slice a n c)∧Ac w (.agg #[.slice a n c]) (M i)
theorem JX.mono{w w':World}{b o K:Nat}{M:Nat→Nat}(h:JX w b o K M)(hb:Below w.heap.size w w'):JX w' b o K M:=by
 intro i hi;obtain⟨a,n,c,h1,h2⟩:=h i hi;exact⟨a,n,c,cell_later hb h1,h2.mono hb⟩
def cnt(M:Nat→Nat)(x:Nat):Nat→Nat
 |0=>0
 |k+1=>cnt M x k+(if M k≤x then 1 else 0)
theorem Q9(M:Nat→Nat)(x:Nat): ∀k,cnt M x k≤k
 |0=>Nat.le_refl _
 |k+1=>by
  have:=Q9 M x k;unfold cnt;split<;>omega
theorem NU(v:Value)(x:Nat)(b o K cap:Nat)(M:Nat→Nat)(w:World)(h:Ac w v x)(hx:AE x)(hM:JX w b o K M)(hf: ∀i,i<K→AE (M i))(hK:K≤4294967296):
  Calls Tryz.prog 166 #[.slice (some ⟨b,o,none⟩) K cap,.func (.func 91) #[v] #[]] w fun e w'=>e=.returned (.int .i64 ((cnt M x K:Nat):Int))∧Below w.heap.size w w':=by
 have A0:Hid (Ac w v x∧JX w b o K M∧ ∀i,i<K→AE (M i)):=⟨h,hM,hf⟩;clear h hM hf;go_enter Tryz.func166,Tryz.ntmps166
 go_wp2_with fail
 go_loopw [5,10] (fun nv t wr=> ∃(k:Nat),k≤K∧nv=.int .i64 ((cnt M x k:Nat):Int)∧t=.int .i64 (k:Int)∧Below w.heap.size w wr) (fun _ t _=>K- (intOf t).toNat)
 case atStart=>exact⟨0,Nat.zero_le _,rfl,rfl,Below.refl _ _⟩
 case round=>
  obtain⟨k,hk,rfl,rfl,hb⟩:=hrel;by_cases hk0:k=K
  ·subst hk0;have HB:Hid _:=hb;clear hb;go_wp2_with fail
   go_ret
   exact⟨rfl,HB.out⟩
  have hc:=Q9 M x k;obtain⟨a1,n1,c1,e1,e2⟩:=(A0.out.2.1.mono hb) k (by omega);have HB:Hid _:=hb;have HE:Hid (Ac wr (.agg #[.slice a1 n1 c1]) (M k)):=e2;clear hb e2;go_wp2_with fail
  have ba:Below wr.heap.size wr (wr.alloc (Obj.cells #[Value.slice a1 n1 c1] 103)):=(Below.refl _ _).alloc (Nat.le_refl _) _;refine(Fw v _ x (M k) _ ((A0.out.1.mono HB.out).mono ba) (HE.out.mono ba) hx (A0.out.2.2 k (by omega))).mono ?_;rintro e w3 ⟨rfl,hb3⟩;have B3:Hid (Below w.heap.size w w3):=AY HB.out (AY ba hb3);clear hb3 ba HB HE e1;by_cases hm:M k≤x
  ·have hcm:decide (0≤AW x (M k))=true:=by
    rcases Nat.lt_or_ge (M k) x with h1|h1
    ·rw[ER h1];rfl
    rw[show M k=x by omega,H7];rfl
   go_wp2_with fail
   go_roundw
   case rel=>exact⟨k+1,by omega,by simp[cnt,hm],by simp,B3.out⟩
   case measure=>simp[intOf];omega
  have hcm:decide (0≤AW x (M k))=false:=by
   rw[Ew (by omega)];rfl
  go_wp2_with fail
  go_roundw
  case rel=>exact⟨k+1,by omega,by simp[cnt,hm],by simp,B3.out⟩
  case measure=>simp[intOf];omega
def OR(w:World)(e:TypeId)(base:Nat)(v:Value)(n:Nat)(G:Nat→Value):Prop:=
 (v=.slice none 0 0∧n=0)∨ ∃g cap f,v=.slice (some ⟨g,0,none⟩) n cap∧base≤g∧n≤cap∧cap≤maxLen∧w.rowIs g e cap f∧ ∀i,i<n→f i=G i
theorem OR.owns{w:World}{e:TypeId}{base:Nat}{v:Value}{n:Nat}{G:Nat→Value}(h:OR w e base v n G):w.ownsRow base e 1 v n ((List.range n).map G):=by
 refine⟨by simp,?_⟩;rcases h with h| ⟨g,cap,f,rfl,hb,hn,hc,⟨cur,h1,h2,h3⟩,h4⟩
 ·exact .inl h
 refine .inr ⟨g,cap,cur,rfl,hb,h1,hn,hc,by omega,?_⟩;refine List.ext_getElem? fun i=> ?_;rw[Nat.mul_one];rcases Nat.lt_or_ge i n with hi|hi
 ·rw[List.getElem?_take_of_lt hi,List.getElem?_map,List.getElem?_range hi,Array.getElem?_toList,h3 i (by omega),h4 i hi];rfl
 rw[List.getElem?_eq_none (by simp;omega),List.getElem?_eq_none (by simp;omega)]
theorem OR.of_owns{w:World}{e:TypeId}{base:Nat}{v:Value}{n:Nat}{G:Nat→Value}{xs:List Value}(h:w.ownsRow base e 1 v n xs)(hx: ∀i,i<n→xs[i]? =some (G i)):OR w e base v n G:=by
 rcases h.2 with h| ⟨g,cap,cur,rfl,hb,hg,hn,hc,hs,ht⟩
 ·exact .inl h
 refine .inr ⟨g,cap,fun i=>cur.getD i (.int .u64 0),rfl,hb,hn,hc,⟨cur,hg,by omega,fun i hi=> ?_⟩,fun i hi=> ?_⟩
 ·show _=some (cur.getD i (.int .u64 0));rw[Array.getElem?_eq_getElem (by omega),Array.getD_eq_getD_getElem?,Array.getElem?_eq_getElem (by omega)];rfl
 have:=hx i hi;rw[←ht,List.getElem?_take_of_lt (by omega),Array.getElem?_toList]at this;show cur.getD i (.int .u64 0)=_;rw[Array.getD_eq_getD_getElem?,this];rfl
theorem OR.below{w w':World}{e:TypeId}{base:Nat}{v:Value}{n:Nat}{G:Nat→Value}(h:OR w e base v n G)(hb:Below w.heap.size w w'):OR w' e base v n G:=by
 rcases h with h| ⟨g,cap,f,rfl,hb',hn,hc,h1,h4⟩
 ·exact .inl h
 exact .inr ⟨g,cap,f,rfl,hb',hn,hc,h1.of_block (hb.block g h1.lt),h4⟩
theorem OR.nil(w:World)(e:TypeId)(base:Nat)(G:Nat→Value):OR w e base (.slice none 0 0) 0 G:=.inl ⟨rfl,rfl⟩
theorem OR.congr{w:World}{e:TypeId}{base:Nat}{v:Value}{n:Nat}{G G':Nat→Value}(h:OR w e base v n G)(hG: ∀i,i<n→G i=G' i):OR w e base v n G':=by
 rcases h with h| ⟨g,cap,f,rfl,hb',hn,hc,h1,h4⟩
 ·exact .inl h
 exact .inr ⟨g,cap,f,rfl,hb',hn,hc,h1,fun i hi=>(h4 i hi).trans (hG i hi)⟩
theorem A5{w:World}{ops:Array Oper}{rest:List Oper}{o:Oper}{ac:Act}{Q:Exit→Act→World→Prop}(hgd:o.guard=none)(s x:Operand)(t:TypeId)
  (ho:o.op=.call {callee:=.builtin .append,args:= #[s,x],argTypes:= #[t,t]}) (e:TypeId) (z:Value) (bytes:Nat) (ht:Tryz.prog.underlying t=some (.slice e))
  (hi:(Tryz.prog.info? e).map (fun i=>(i.zero,i.size,i.bytes))=some (some z,1,bytes)) (hz:z.cells.size=1) (hby:bytes≤24) (base:Nat) (v:Value) (n:Nat) (G:Nat→Value) (hs:ac.eval s=v) (hown:OR w e base v n G)
  (b:Nat) (c:Nat) (hx:ac.eval x=.slice (some ⟨b,0,none⟩) 1 c) (u:Value) (hc:w.cell? ⟨b,0,none⟩=some u) (h1:u.oneCell'=true) (hn:n+1≤1099511627776) (hbase:base≤w.heap.size)
  (h: ∀g cap w',OR w' e base (.slice (some ⟨g,0,none⟩) (n+1) cap) (n+1) (fun j=>if j=n then u else G j)→w.grownBy w' v.ownBlock→(v.ownBlock=some g∨g=w.heap.size)→g<w'.heap.size→wpList Tryz.prog ops Q rest (ac.put o.dst (.slice (some ⟨g,0,none⟩) (n+1) cap)) w'):wpList Tryz.prog ops Q (o::rest) ac w:=by
 obtain⟨i,hi,hzz,hsz,hb⟩:=info_parts hi;refine wpList_append_lies w hgd s x t ho base e i z 1 bytes ht hi hzz hsz hb hz (by omega) v n _ hs hown.owns ⟨b,0,none⟩ 1 c [u] hx rfl (fun j u' hj=> ?_) (fun u' hu=>by simp at hu;subst hu;exact h1) (by omega) (by simp only[maxLen];omega) ?_ hbase _ rfl (fun g cap w' k1 k2 k3 k4=>h g cap w' (OR.of_owns k1 fun i hi=> ?_) k2 k3 k4)
 ·match j,hj with
  |0,hj=>simp at hj;subst hj;simpa[Addr.add]using hc
 ·have:=Nat.mul_le_mul (show n+1≤1099511627776 from hn) hby;omega
 rcases Nat.lt_or_ge i n with hh|hh
 ·rw[List.getElem?_append_left (by simpa using hh),List.getElem?_map,List.getElem?_range hh,if_neg (by omega)];rfl
 obtain rfl:i=n:=by omega
 rw[List.getElem?_append_right (by simp),if_pos rfl];simp
def wd(F:Nat→Nat):Nat→Value:=fun j=>.int .u64 ((F j:Nat):Int)
theorem Tryz.info22b:(Tryz.prog.info? 69).map (fun i=>(i.zero,i.size,i.bytes))=some (some (.int .u64 0),1,8):=by kernel_rfl
def Ten(w wr:World)(g cap n:Nat)(F:Nat→Nat)(d k c:Nat)(H:Nat→Nat):Prop:=
 (∃f,wr.rowIs g 69 cap f∧ ∀i,i<n→f i=wd H i)∧Ok H n∧c≤9∧V H k+c*P k=V F k*10+d∧(∀i,k≤i→i<n→H i=F i)∧w.grownBy wr (some g)
theorem Vh(vh c p vf d s fk c2:Nat)(h:vh+c*p=vf*10+d)(e:s+c2*18446744073709551616=fk*10+c):vh+s*p+c2*(p*18446744073709551616)=(vf+fk*p)*10+d:=by
 have h1:(s+c2*18446744073709551616)*p=(fk*10+c)*p:=by rw[e]
 rw[Nat.add_mul,Nat.add_mul,Nat.mul_assoc c2,Nat.mul_comm 18446744073709551616 p,Nat.mul_assoc fk,Nat.mul_comm 10 p,←Nat.mul_assoc fk p 10]at h1;rw[Nat.add_mul];omega
theorem Tv(aB b eB f X c:Nat)(h1:f+eB=X)(h2:b+aB=f+c+0):b+(eB+aB)=X+c:=by omega
theorem Ra(x c:Nat):Cf (AJ x 10) c 0+(Br x 10+BN (AJ x 10) c 0)*18446744073709551616=x*10+c:=by
 have h1:=GJ x 10;have h2:=GE (AJ x 10) c 0;rw[Nat.add_mul];exact Tv _ _ _ _ _ _ h1 h2
theorem Vi(s t x c:Nat)(h:s+t*18446744073709551616=x*10+c)(hx:x<18446744073709551616)(hc:c≤9):t≤9:=by omega
theorem Rb(x c:Nat)(hx:x<18446744073709551616)(hc:c≤9):Br x 10+BN (AJ x 10) c 0≤9:=by
 have h:=Ra x c;generalize Br x 10+BN (AJ x 10) c 0=t at h;generalize Cf (AJ x 10) c 0=s at h;exact Vi s t x c h hx hc
theorem Ten.step{w wr:World}{g cap n:Nat}{F:Nat→Nat}{d k c:Nat}{H:Nat→Nat}(h:Ten w wr g cap n F d k c H)(hk:k<n)(hn:n≤cap)(hF:F k<18446744073709551616):
  Ten w (wr.setCell ⟨g,k,none⟩ (.int .u64 ((Cf (AJ (F k) 10) c 0:Nat):Int))) g cap n F d (k+1) (Br (F k) 10+BN (AJ (F k) 10) c 0) (put H k (Cf (AJ (F k) 10) c 0)):=by
 obtain⟨⟨f,h1,h2⟩,h3,h4,h5,h6,h7⟩:=h;refine⟨⟨_,h1.set k _,fun i hi=> ?_⟩,fun i hi=> ?_,Rb _ _ hF h4,?_,fun i h8 h9=> ?_,AZ w h7 _ _⟩
 ·show(if i=k then _ else f i)=Value.int .u64 ((put H k _ i:Nat):Int);by_cases e:i=k
  ·subst e;rw[if_pos rfl,AN]
  rw[if_neg e,Ar _ _ e,h2 i hi];rfl
 ·unfold put;split
  ·exact FA _ _ _
  exact h3 i hi
 ·rw[Ax,Ax,Bl (F:=put H k _) (G:=H) fun i hi=>Ar _ _ (by omega),AN,Cg];exact Vh _ _ _ _ _ _ _ _ h5 (Ra _ _)
 rw[Ar _ _ (by omega)];exact h6 i (by omega) h9
theorem PK{a b c:World}{r:Option Nat}(h:a.grownBy b r)(k:b.grownBy c r):a.grownBy c r:=
 ⟨k.os.trans h.os,k.tape.trans h.tape,k.output.trans h.output,Nat.le_trans h.size k.size,fun i hi hn=>(k.block i (Nat.lt_of_lt_of_le hi h.size) hn).trans (h.block i hi hn)⟩
def Tw(w:World)(base:Nat)(x n:Nat)(e:Ending)(w':World):Prop:=
 ∃v n' F,e=.returned v∧OR w' 69 base v n' (wd F)∧Ok F n'∧V F n'=x∧n'≤n+1∧Below base w w'
theorem LN(H:Nat→Nat)(n c:Nat):V (put H n c) (n+1)=V H n+c*P n:=by
 rw[Ax,AN,Bl (F:=put H n c) (G:=H) fun i hi=>Ar _ _ (by omega)]
theorem MM(g n cap d:Nat)(F:Nat→Nat)(w:World)(base:Nat)(f:Nat→Value)(hr:w.rowIs g 69 cap f)(hf: ∀i,i<n→f i=wd F i)(hF:Ok F n)(hb:base≤g)(hn:n≤cap)(hn2:n<1099511627776)(hc:cap≤maxLen)(hd:d≤9):
  Calls Tryz.prog 148 #[.slice (some ⟨g,0,none⟩) n cap,.int .u64 (d:Int)] w (Tw w base (V F n*10+d) n):=by
 have A0:Ten w w g cap n F d 0 d F:=⟨⟨f,hr,hf⟩,hF,hd,by rw[Bw,Dh];omega,fun _ _ _=>rfl,World.grownBy.refl _ _⟩;have HF:Hid (Ok F n):=hF;have HB:Hid (base≤g∧cap≤maxLen):=⟨hb,hc⟩;have HG:Hid (g<w.heap.size):=hr.lt;clear hr hf hF hb hc;go_enter Tryz.func148,Tryz.ntmps148
 go_wp2_with fail
 go_loopw [5,14] (fun cv t wr=> ∃(k c:Nat) (H:Nat→Nat),k≤n∧t=.int .i64 (k:Int)∧cv=.int .u64 ((c:Nat):Int)∧Ten w wr g cap n F d k c H) (fun _ t _=>n- (intOf t).toNat)
 case atStart=>exact⟨0,d,F,by omega,rfl,rfl,A0⟩
 case round=>
  clear A0;obtain⟨k,c,H,hk,rfl,rfl,hA⟩:=hrel;by_cases hkm:k<n
  ·have hFk:F k<18446744073709551616:=HF.out k hkm;obtain⟨f',r1,r2⟩:=hA.1;have hc2:wr.cell? ⟨g,k,none⟩=some (.int .u64 ((F k:Nat):Int)):=by rw[r1.cell (show k<cap by omega),r2 k hkm,wd,hA.2.2.2.2.1 k (Nat.le_refl _) hkm]
   have hf2:wr.frozen? ⟨g,k,none⟩=false:=r1.frozen _;have ad1:=Fz (AJ (F k) 10) c;have S:Hid _:=hA.step hkm hn hFk;have hb1:((Br (F k) 10:Nat):Int)+((BN (AJ (F k) 10) c 0:Nat):Int)<18446744073709551616:=by have:=Rb (F k) c hFk hA.2.2.1;omega
   clear hA r1 r2;go_wp2_with fail
   refine(Hg (F k) 10 _ hFk (by omega)).mono ?_;rintro e w1 ⟨rfl,rfl⟩;go_wp2_with fail
   go_roundw
   case rel=>exact⟨k+1,_,_,by omega,by go_num,by go_num,S.out⟩
   case measure=>simp[intOf];omega
  obtain rfl:k=n:=by omega
  have HA:Hid (Ten w wr g cap k F d k c H):=hA;have hc9:c≤9:=hA.2.2.1;clear hA;by_cases hc0:c=0
  ·subst hc0;go_wp2_with fail
   go_ret
   obtain⟨⟨f',r1,r2⟩,h3,h4,h5,h6,h7⟩:=HA.out;refine⟨_,k,H,rfl,.inr ⟨g,cap,f',rfl,HB.out.1,hn,HB.out.2,r1,r2⟩,h3,by omega,by omega,⟨h7.os,h7.tape,h7.output,h7.size,fun j hj=>h7.block j (by have:=HG.out;have:=HB.out.1;omega) (by have:=HB.out.1;intro e;cases e;omega)⟩⟩
  have hne:((c:Int)==0)=false:=by simp;omega
  go_wp2_with (refine(id ?_:wpList Tryz.prog _ _ (⟨some 42,_,_,_,_,_⟩::_) _ _);refine A5 rfl (.tmp 39) (.tmp 41) 62 rfl 69 (.int .u64 0) 8 Tryz.underlying62 Tryz.info22b rfl (by omega) base _ k (wd H) rfl (.inr ⟨g,cap,HA.out.1.choose,rfl,HB.out.1,hn,HB.out.2,HA.out.1.choose_spec.1.alloc _,HA.out.1.choose_spec.2⟩) _ _ rfl _ (by simp;rfl) rfl (by omega) (by simp;have:=HB.out.1;have:=HG.out;have:=HA.out.2.2.2.2.2.size;omega) ?_)
  intro g2 cap2 w2 ho hg _ _;have I2:Hid _:=ho;have G2:Hid ((wr.alloc (Obj.cells #[Value.int IntKind.u64 (c:Int)] 69)).grownBy w2 (some g)):=hg;clear ho hg;go_wp2_with fail
  go_ret
  obtain⟨⟨f',r1,r2⟩,h3,h4,h5,h6,h7⟩:=HA.out;have hg1:=PK (PK ⟨h7.os,h7.tape,h7.output,h7.size,h7.block⟩ (World.grownBy_alloc wr _ (some g))) G2.out;refine⟨_,k+1,put H k c,rfl,OR.congr I2.out fun i hi=> ?_,fun i hi=> ?_,?_,Nat.le_refl _,⟨hg1.os,hg1.tape,hg1.output,hg1.size,fun j hj=>hg1.block j (by have:=HG.out;have:=HB.out.1;omega) (by have:=HB.out.1;intro e;cases e;omega)⟩⟩
  ·unfold wd put;split<;>rfl
  ·unfold put;split
   ·omega
   exact h3 i (by omega)
  rw[LN];exact h5
theorem MN(d:Nat)(w:World)(base:Nat)(hb:base≤w.heap.size)(hd:d≤9):
  Calls Tryz.prog 148 #[.slice none 0 0,.int .u64 (d:Int)] w (Tw w base d 0):=by
 by_cases hc0:d=0
 ·subst hc0;go_enter Tryz.func148,Tryz.ntmps148
  go_wp2_with fail
  refine wp_loop_rounds 1 ?_;rw[rounds_succ];go_wp2_with fail
  go_ret
  exact⟨_,0,fun _=>0,rfl,OR.nil _ _ _ _,fun i hi=>absurd hi (by omega),rfl,by omega,Below.refl _ _⟩
 have hne:((d:Int)==0)=false:=by simp;omega
 have HB:Hid _:=hb;go_enter Tryz.func148,Tryz.ntmps148
 go_wp2_with fail
 refine wp_loop_rounds 1 ?_;rw[rounds_succ];go_wp2_with (refine(id ?_:wpList Tryz.prog _ _ (⟨some 42,_,_,_,_,_⟩::_) _ _);refine A5 rfl (.tmp 39) (.tmp 41) 62 rfl 69 (.int .u64 0) 8 Tryz.underlying62 Tryz.info22b rfl (by omega) base _ 0 (wd fun _=>0) rfl (OR.nil _ _ _ _) _ _ rfl _ (by simp;rfl) rfl (by omega) (by simp;have:=HB.out;omega) ?_)
 intro g2 cap2 w2 ho hg _ _;have I2:Hid _:=ho;have G2:Hid ((w.alloc (Obj.cells #[Value.int IntKind.u64 (d:Int)] 69)).grownBy w2 none):=hg;clear ho hg;go_wp2_with fail
 go_ret
 have hg1:=PK (World.grownBy_alloc w _ none) G2.out;refine⟨_,1,put (fun _=>0) 0 d,rfl,OR.congr I2.out fun i hi=> ?_,fun i hi=> ?_,?_,Nat.le_refl _,⟨hg1.os,hg1.tape,hg1.output,hg1.size,fun j hj=>hg1.block j (by have:=HB.out;omega) (by intro e;cases e)⟩⟩
 ·unfold wd put;split<;>rfl
 ·unfold put;split<;>omega
 rw[LN,Bw,Dh];omega
theorem MO(v:Value)(n d:Nat)(F:Nat→Nat)(w:World)(base:Nat)(hO:OR w 69 base v n (wd F))(hF:Ok F n)(hb:base≤w.heap.size)(hn2:n<1099511627776)(hd:d≤9):
  Calls Tryz.prog 148 #[v,.int .u64 (d:Int)] w (Tw w base (V F n*10+d) n):=by
 rcases hO with⟨rfl,rfl⟩| ⟨g,cap,f,rfl,h1,h2,h3,h4,h5⟩
 ·rw[Bw,Nat.zero_mul,Nat.zero_add];exact MN d w base hb hd
 exact MM g n cap d F w base f h4 h5 hF h1 h2 hn2 h3 hd
theorem Tryz.info27:(Tryz.prog.info? 103).map (fun i=>(i.zero,i.size,i.bytes))=some (some (.agg #[.slice none 0 0]),1,24):=by kernel_rfl
theorem Ac.keep{w w':World}{v:Value}{x b:Nat}(h:Ac w v x)(hg:w.grownBy w' (some b))(hb: ∀i z,w.cell? ⟨b,i,none⟩≠some (.int .u64 z)):Ac w' v x:=by
 obtain⟨a,n,cap,F,rfl,⟨s1,s2,s3,s4⟩,h0,h1,hv⟩:=h;refine⟨a,n,cap,F,rfl,⟨s1,s2,s3,?_⟩,h0,h1,hv⟩;rcases s4 with e| ⟨b',o,rfl,hw⟩
 ·exact .inl e
 rcases Nat.eq_zero_or_pos n with e|hn
 ·exact .inl e
 refine .inr ⟨b',o,rfl,fun i hi=>hg.cell (hw i hi) ?_⟩;intro e;cases e;exact hb _ _ (hw i hi)
def OZ(w:World)(base:Nat)(v:Value)(n:Nat)(G:Nat→Value):Prop:=
 ∃g cap f,v=.slice (some ⟨g,0,none⟩) n cap∧base≤g∧n≤cap∧cap≤maxLen∧w.rowIs g 103 cap f∧(∀i,i<n→f i=G i)∧ ∀i,n≤i→i<cap→f i=.slice none 0 0
theorem GO{w:World}{g cap:Nat}{t:TypeId}{f:Nat→Value}(h:w.rowIs g t cap f)(hf: ∀i,i<cap→ ∀z,f i≠ .int .u64 z): ∀i z,w.cell? ⟨g,i,none⟩≠some (.int .u64 z):=by
 intro i z e;rcases Nat.lt_or_ge i cap with hi|hi
 ·rw[h.cell hi]at e;exact hf i hi z (by simpa using e)
 obtain⟨c,h1,h2,h3⟩:=h;rw[World.cell?]at e;simp[h1]at e;rw[Array.getElem?_eq_none (by omega)]at e;cases e
theorem Mf(k:Nat){j:Nat}(h:j<k):(Builtin.zeroCells (Value.agg #[.slice none 0 0]).cells k)[j]? =some (.slice none 0 0):=by
 have e:(Value.agg #[.slice none 0 0]).cells= #[.slice none 0 0]:=rfl;rw[e];unfold Builtin.zeroCells;rw[Array.getElem?_map,Array.getElem?_range,if_pos (by simpa using h)];simp[Nat.mod_one]
theorem Rc(w:World)(base:Nat)(v:Value)(n:Nat)(G:Nat→Value)(h:OZ w base v n G)(ty:TypeId)(b c:Nat)(u:Value)(hc:w.cell? ⟨b,0,none⟩=some u)(h1:u.oneCell'=true)(hn:n+1≤1099511627776)(hbase:base≤w.heap.size):
  ∃v' w',(Builtin.append_ #[200,200] ty #[v,.slice (some ⟨b,0,none⟩) 1 c]).run Tryz.prog w=.ok v' w'∧OZ w' base v' (n+1) (fun j=>if j=n then u else G j)∧w.grownBy w' v.ownBlock:=by
 obtain⟨g,cap,f,rfl,hb,hnc,hcm,hr,hf,hz⟩:=h;obtain⟨i,hi,hzz,hsz,hby⟩:=info_parts Tryz.info27;obtain⟨cur,hg,hcs,hcur⟩:=id hr;have hnews: ∀j u',[u][j]? =some u'→w.cell? ((⟨b,0,none⟩:Addr).add j)=some u':=by
  intro j u' hj;match j,hj with
  |0,hj=>simp at hj;subst hj;simpa[Addr.add]using hc
 by_cases hroom:n+1≤cap
 ·have e:=run_append_room (P:=Tryz.prog) w 200 ty 103 i Tryz.underlying200 hi g n cap cur hg ⟨b,0,none⟩ 1 c [u] (by rw[hsz];rfl) hnews (by intro u' hu;simp at hu;subst hu;exact h1) hroom (by rw[hsz];simp;omega);refine⟨_,_,e,⟨g,cap,fun j=>if j=n then u else f j,rfl,hb,hroom,hcm,⟨_,setRow_heap w g _ _ _ _ hg,?_,fun j hj=> ?_⟩,fun j hj=> ?_,fun j hj1 hj2=> ?_⟩,⟨rfl,rfl,rfl,by simp[World.setRow],fun k _ hne=>setRow_other w g k _ (fun e=>hne (by rw[e];rfl))⟩⟩
  ·simp[hsz];omega
  ·show _=some (if j=n then u else f j);rw[List.getElem?_toArray,hsz,Nat.mul_one,List.append_assoc];have e1:(cur.toList.take n).length=n:=by simp;omega
   by_cases h1:j<n
   ·rw[if_neg (by omega),List.getElem?_append_left (by omega),List.getElem?_take_of_lt h1];simpa using hcur j hj
   by_cases h2:j=n
   ·subst h2;rw[if_pos rfl,List.getElem?_append_right (by omega),e1];simp
   rw[if_neg h2,List.getElem?_append_right (by omega),e1,List.getElem?_append_right (by simp;omega),List.getElem?_drop];simp only[List.length_cons,List.length_nil];rw[show n+(0+1)+(j-n- (0+1))=j by omega];simpa using hcur j hj
  ·show(if j=n then u else f j)=if j=n then u else G j;split
   ·rfl
   exact hf j (by omega)
  show(if j=n then u else f j)=_;rw[if_neg (by omega)];exact hz j (by omega) hj2
 obtain rfl:n=cap:=by omega
 have e:=run_append_grow (P:=Tryz.prog) w 200 ty 103 i _ Tryz.underlying200 hi hzz ⟨g,0,none⟩ n n cur.toList (by rw[hsz];simp;omega) (by
  intro j u' hj;have hj2:cur[j]? =some u':=by simpa using hj
  rw[Addr.add_lit];simp[World.cell?,hg,hj2]) ⟨b,0,none⟩ 1 c [u] (by rw[hsz];rfl) hnews (by omega) (by omega) (growslice_fits (by omega) (by rw[hby];omega))
 have hge:=grownCap_ge w (n+1) n 103;have hcm2:=grownCap_le_maxLen w (n+1) n 103 (by simp only[maxLen];omega);generalize grownCap w (n+1) n 103=gc at e hge hcm2;refine⟨_,_,e,⟨w.heap.size,gc,fun j=>if j=n then u else if j<n then f j else .slice none 0 0,rfl,hbase,hge,hcm2,⟨_,heap_alloc_new w.drew _,?_,fun j hj=> ?_⟩,fun j hj=> ?_,fun j hj1 hj2=> ?_⟩,⟨rfl,rfl,rfl,by simp,fun k hk _=>heap_alloc_old w.drew _ hk⟩⟩
 ·rw[Array.size_append,Array.size_append,size_zeroCells];show cur.toList.toArray.size+1+(gc- (n+1))*1=gc;simp;omega
 ·show _=some (if j=n then u else if j<n then f j else .slice none 0 0);rcases Nat.lt_trichotomy j n with h2|h2|h2
  ·rw[if_neg (by omega),if_pos h2,Array.append_assoc,Array.getElem?_append_left (by simp;omega)];simpa using hcur j h2
  ·subst h2;rw[if_pos rfl,Array.append_assoc,Array.getElem?_append_right (by simp;omega),Array.getElem?_append_left (by simp;omega)];simp[hcs]
  rw[if_neg (by omega),if_neg (by omega),Array.getElem?_append_right (by simp;omega)];have e3:j- (cur.toList.toArray++[u].toArray).size=j- (n+1):=by simp[hcs]
  rw[e3,Mf _ (by omega)]
 ·show(if j=n then u else if j<n then f j else _)=if j=n then u else G j;split
  ·rfl
  rw[if_pos (by omega)];exact hf j (by omega)
 show(if j=n then u else if j<n then f j else _)=_;rw[if_neg (by omega),if_neg (by omega)]
def Bm(w:World)(base:Nat)(v:Value)(K:Nat):Prop:= ∃G,OZ w base v K G∧ ∀i,i<K→Ac w (.agg #[G i]) (pw i)
theorem Ac.cellOf{w:World}{u:Value}{x:Nat}(h:Ac w (.agg #[u]) x): ∃a n c,u=.slice a n c:=by
 obtain⟨a,n,c,e1⟩:=h.isAgg;exact⟨a,n,c,by simpa using e1⟩
theorem Bm.nrow{w:World}{base:Nat}{v:Value}{K:Nat}(h:Bm w base v K): ∃g cap,v=.slice (some ⟨g,0,none⟩) K cap∧base≤g∧g<w.heap.size∧JX w g 0 K pw:=by
 obtain⟨G,⟨g,cap,f,rfl,k1,k2,k3,k4,k5,k6⟩,h2⟩:=h;refine⟨g,cap,rfl,k1,k4.lt,fun i hi=> ?_⟩;obtain⟨a,n,c,e2⟩:=(h2 i hi).cellOf;refine⟨a,n,c,?_,e2▸h2 i hi⟩;rw[Nat.zero_add,k4.cell (show i<cap by omega),k5 i hi,e2]
theorem Bm.below{w w':World}{base:Nat}{v:Value}{K:Nat}(h:Bm w base v K)(hb:Below w.heap.size w w'):Bm w' base v K:=by
 obtain⟨G,⟨g,cap,f,rfl,k1,k2,k3,k4,k5,k6⟩,h2⟩:=h;exact⟨G,⟨g,cap,f,rfl,k1,k2,k3,k4.of_block (hb.block g k4.lt),k5,k6⟩,fun i hi=>(h2 i hi).mono hb⟩
theorem Bm.lower{w:World}{base base':Nat}{v:Value}{K:Nat}(h:Bm w base v K)(hb:base'≤base):Bm w base' v K:=by
 obtain⟨G,⟨g,cap,f,rfl,k1,k2⟩,h2⟩:=h;exact⟨G,⟨g,cap,f,rfl,by omega,k2⟩,h2⟩
theorem PL{w:World}{b:Nat}{u:Value}{x:Nat}{y:World}(h:w.rowIs b 103 1 fun _=>u)(k:Ac y (.agg #[u]) x): ∀i z,w.cell? ⟨b,i,none⟩≠some (.int .u64 z):=by
 obtain⟨a,n,c,rfl⟩:=k.cellOf;exact GO h fun i hi z=>by simp
theorem Bm.box{w w':World}{base b:Nat}{v:Value}{K:Nat}(h:Bm w base v K)(hb:b<base)(hg:w.grownBy w' (some b))(hw: ∀i z,w.cell? ⟨b,i,none⟩≠some (.int .u64 z)):Bm w' base v K:=by
 obtain⟨G,⟨g,cap,f,rfl,k1,k2,k3,k4,k5,k6⟩,h2⟩:=h;exact⟨G,⟨g,cap,f,rfl,k1,k2,k3,k4.of_block (hg.block g k4.lt (by intro e;cases e;omega)),k5,k6⟩,fun i hi=>(h2 i hi).keep hg hw⟩
theorem Bm.noword{w:World}{base:Nat}{v:Value}{K:Nat}(h:Bm w base v K): ∃g,v.ownBlock=some g∧base≤g∧ ∀i z,w.cell? ⟨g,i,none⟩≠some (.int .u64 z):=by
 obtain⟨G,⟨g,cap,f,rfl,k1,k2,k3,k4,k5,k6⟩,h2⟩:=h;refine⟨g,rfl,k1,GO k4 fun i hi z=> ?_⟩;rcases Nat.lt_or_ge i K with hh|hh
 ·obtain⟨a,n,c,e⟩:=(h2 i hh).cellOf;rw[k5 i hh,e];simp
 rw[k6 i hh hi];simp
theorem hold{p:Prop}(h:True→p):p:=h trivial
theorem JC{w:World}{ops:Array Oper}{rest:List Oper}{o:Oper}{ac:Act}{Q:Exit→Act→World→Prop}(hgd:o.guard=none)(s x:Operand)
  (ho:o.op=.call {callee:=.builtin .append,args:= #[s,x],argTypes:= #[200,200]}) (base:Nat) (v:Value) (K:Nat) (hs:ac.eval s=v) (hown:Bm w base v K)
  (b:Nat) (c:Nat) (hx:ac.eval x=.slice (some ⟨b,0,none⟩) 1 c) (u:Value) (hc:w.cell? ⟨b,0,none⟩=some u) (hu:Ac w (.agg #[u]) (pw K)) (hn:K+1≤1099511627776) (hbase:base≤w.heap.size)
  (h: ∀v' w',Bm w' base v' (K+1)→w.grownBy w' v.ownBlock→(∀y z,Ac w y z→Ac w' y z)→wpList Tryz.prog ops Q rest (ac.put o.dst v') w'):wpList Tryz.prog ops Q (o::rest) ac w:=by
 obtain⟨g,e1,e2,e3⟩:=hown.noword;obtain⟨G,h1,h2⟩:=hown;have hone:u.oneCell'=true:=by
  obtain⟨a,n,c,rfl⟩:=hu.cellOf;rfl
 obtain⟨v',w',hr,k1,k2⟩:=Rc w base v K G h1 o.type b c u hc hone hn hbase;refine wpList_plain hgd fun K' hK=> ?_;unfold Oper.wp execOp;simp only[ho,resolve,invoke,builtin,Sem.run_bind,Sem.run_pure,Result.andThen_ok,List.map_toArray,List.map_cons,List.map_nil,hs,hx,hr];have k3:=k2;rw[e1]at k3;refine hK _ _ (h v' w' ⟨_,k1,fun i hi=> ?_⟩ k2 fun y z hy=>hy.keep k3 e3);by_cases e:i=K
 ·subst e;show Ac w' (.agg #[if i=i then u else G i]) _;rw[if_pos rfl];exact hu.keep k3 e3
 show Ac w' (.agg #[if i=K then u else G i]) _;rw[if_neg e];exact(h2 i (by omega)).keep k3 e3
theorem JE(v:Value)(x:Nat)(w:World)(h:Ac w v x)(hx:x<P 40):
  Calls Tryz.prog 141 #[v] w fun e w'=>e=.returned (.slice none 0 0)∧Below w.heap.size w w':=by
 obtain⟨a,n,c,rfl⟩:=h.isAgg;obtain⟨F,hs,h0,h1,hv⟩:=h.fits;have hn:n≤40:=Cd (hv.symm▸hx) h1;clear h hx hs h0 h1 hv;go_enter Tryz.func141,Tryz.ntmps141
 go_wp2_with fail
 go_ret
 exact⟨rfl,(Below.refl _ _).alloc (Nat.le_refl _) _⟩
theorem JY(v:Value)(x:Nat)(w:World)(h:Ac w v x)(hx:P 40≤x)(ht:Tx x):
  Calls Tryz.prog 141 #[v] w fun e w'=> ∃u,e=.returned u∧ ∃K,0<K∧K≤8∧Bm w' w.heap.size u K∧Below w.heap.size w w':=by
 obtain⟨a,n,c,rfl⟩:=h.isAgg;obtain⟨F,hs,h0,h1,hv⟩:=h.fits;have hn:n≤225:=Cd (hv.symm▸ht.lt) h1;have hn2:40<n:=by
  rcases Nat.lt_or_ge 40 n with hh|hh
  ·exact hh
  have:=Cx (hs.2.2.1);have:=Dt hh;omega
 clear hs h0 h1 hv hx ht h;go_enter Tryz.func141,Tryz.ntmps141
 go_wp2_with fail
 refine(Dj 10000000000000000000 _ (by omega)).mono ?_;rintro e w1 ⟨v1,rfl,hv1,hb1⟩;obtain⟨a1,n1,c1,rfl⟩:=hv1.isAgg;have hs1:w.heap.size<w1.heap.size:=by have:=hb1.size;simp at this;omega
 have hcx:w1.cell? ⟨w.heap.size,0,none⟩=some (.slice a n c):=by
  have:=hb1.block w.heap.size (by simp);rw[World.cell?_of_block this];simp
 have B1:Hid (Below w.heap.size w w1):=AY ((Below.refl _ _).alloc (Nat.le_refl _) _) hb1;have V1:Hid (Ac w1 (.agg #[.slice a1 n1 c1]) (pw 0)):=by rw[OH];exact hv1
 have X1:Hid _:=hcx;clear hb1 hv1 hcx;go_wp2_with fail
 go_loopw [4] (fun pv wr=> ∃(i:Nat) (u:Value),i≤7∧wr.rowIs w1.heap.size 103 1 (fun _=>u)∧Ac wr (.agg #[u]) (pw i)∧Bm wr (w1.heap.size+1) pv (i+1)∧wr.cell? ⟨w.heap.size,0,none⟩=some (.slice a n c)∧Below w.heap.size w wr) (fun pv _=>match pv with| .slice _ k _=>9-k|_=>0)
 case atStart=>
  have hbw:Below w1.heap.size w1 ((w1.alloc (Obj.cells #[Value.slice a1 n1 c1] 103)).alloc (Obj.cells #[Value.slice a1 n1 c1] 103)):=Ao _ _ _;refine⟨0,.slice a1 n1 c1,by omega,?_,V1.out.mono hbw,?_,cell_later hbw X1.out,AY B1.out hbw⟩
  ·exact(World.rowIs_alloc w1 #[Value.slice a1 n1 c1] 103 (fun _=>Value.slice a1 n1 c1) (fun i hi=>by rw[show i=0 by simpa using hi];rfl)).alloc _
  refine⟨fun _=>.slice a1 n1 c1,⟨w1.heap.size+1,1,fun _=>.slice a1 n1 c1,rfl,Nat.le_refl _,Nat.le_refl _,by simp only[maxLen];omega,?_,fun _ _=>rfl,fun i h1 h2=>by omega⟩,fun i hi=> ?_⟩
  ·have h:=World.rowIs_alloc (w1.alloc (Obj.cells #[Value.slice a1 n1 c1] 103)) #[Value.slice a1 n1 c1] 103 (fun _=>Value.slice a1 n1 c1) (fun i hi=>by rw[show i=0 by simpa using hi];rfl);simpa using h
  rw[show i=0 by omega];exact V1.out.mono hbw
 case round=>
  clear V1 X1 B1;obtain⟨i,u,hi,hrow,hu,hP,hcx,hb⟩:=hrel;obtain⟨ap,np,cp,rfl⟩:=hu.cellOf;obtain⟨g,gc,rfl,hg1,hg2,hg3⟩:=id hP.nrow;have hcb:wr.cell? ⟨w1.heap.size,0,none⟩=some (.slice ap np cp):=hrow.cell (by omega);have hfb:wr.frozen? ⟨w1.heap.size,0,none⟩=false:=hrow.frozen _;obtain⟨Fp,ps,p0,p1,pv⟩:=id hu.fits;have hnp:np≤127:=Cd (pv.symm▸(show pw i<P 127 from Nat.lt_of_le_of_lt (Hh hi) (by decide+kernel))) p1;have HH:Hid (wr.rowIs w1.heap.size 103 1 (fun _=>.slice ap np cp)∧Ac wr (.agg #[.slice ap np cp]) (pw i)∧Bm wr (w1.heap.size+1) (.slice (some ⟨g,0,none⟩) (i+1) gc) (i+1)∧Below w.heap.size w wr):=⟨hrow,hu,hP,hb⟩;have H6:Hid (np≤113→i≤6):=fun hh=>by
   rcases Nat.lt_or_ge i 7 with h7|h7
   ·omega
   have e1:=Cx ps.2.2.1;rw[pv]at e1;have e2:=Dt hh;have e3:P 113<pw 7:=by decide+kernel
   have e4:=Hh h7;omega
  clear hrow hu hP hb ps p0 p1 pv hg3;by_cases hl:2*np≤n+1
  ·have hlb:decide (2*(np:Int)-1≤n)=true:=decide_eq_true (by omega);have hi6:i≤6:=H6.out (by omega);go_wp2_with fail
   have htx:Tx (pw i):=UQ hi;refine(DO _ _ (pw i) (pw i) wr HH.out.2.1 HH.out.2.1 htx.fits htx.fits (.inl (Nat.lt_of_le_of_lt (Hh hi6) Q7))).mono ?_;rintro e w2 ⟨v2,rfl,hv2,hb2⟩;rw[←Ve]at hv2;obtain⟨a2,n2,c2,rfl⟩:=hv2.isAgg;have hrow2:=HH.out.1.of_block (hb2.block _ HH.out.1.lt);have hcb2:w2.cell? ⟨w1.heap.size,0,none⟩=some (.slice ap np cp):=hrow2.cell (by omega);have hfb2:w2.frozen? ⟨w1.heap.size,0,none⟩=false:=hrow2.frozen _;have hnw: ∀i z,w2.cell? ⟨w1.heap.size,i,none⟩≠some (.int .u64 z):=PL hrow2 HH.out.2.1;have hgs:w2.grownBy (w2.setCell ⟨w1.heap.size,0,none⟩ (.slice a2 n2 c2)) (some w1.heap.size):=AZ w2 (World.grownBy.refl _ _) _ _;have hrow3:=hrow2.set 0 (.slice a2 n2 c2);have hP3:=(HH.out.2.2.1.below hb2).box (by omega) hgs hnw;have hv3:=hv2.keep hgs hnw;have I3:Hid (_∧_∧_):=⟨hrow3,hP3,hv3⟩;have hcx2:w2.cell? ⟨w.heap.size,0,none⟩=some (.slice a n c):=by
    rw[World.cell?_of_block (hb2.block w.heap.size (by have:=HH.out.1.lt;omega))];exact hcx
   have B2:Hid (Below w.heap.size w w2):=AY HH.out.2.2.2 hb2;have hsz:w1.heap.size+1<w2.heap.size:=Nat.lt_of_lt_of_le (by omega) hb2.size;clear hrow2 hnw hgs hrow3 hP3 hv3 hv2 hb2 htx HH;go_wp2_with (refine(id ?_:wpList Tryz.prog _ _ (⟨some 27,_,_,_,_,_⟩::_) _ _);refine hold ?_)
   intro _;refine JC rfl (.tmp 24) (.tmp 26) rfl (w1.heap.size+1) _ (i+1) rfl (I3.out.2.1.below ((Below.refl _ _).alloc (Nat.le_refl _) _)) w2.heap.size 1 rfl (.slice a2 n2 c2) ?_ (I3.out.2.2.mono ((Below.refl _ _).alloc (Nat.le_refl _) _)) (by omega) ?_ ?_
   ·have e:(w2.setCell ⟨w1.heap.size,0,none⟩ (Value.slice a2 n2 c2)).heap.size=w2.heap.size:=by simp
    have h:=(World.rowIs_alloc (w2.setCell ⟨w1.heap.size,0,none⟩ (Value.slice a2 n2 c2)) #[Value.slice a2 n2 c2] 103 (fun _=>Value.slice a2 n2 c2) (fun i hi=>by rw[show i=0 by simpa using hi];rfl)).cell (i:=0) (by simp);rw[e]at h;exact h
   ·simp;omega
   intro v5 w5 hP5 hg5 hk5;have hg5':((w2.setCell ⟨w1.heap.size,0,none⟩ (Value.slice a2 n2 c2)).alloc (Obj.cells #[Value.slice a2 n2 c2] 103)).grownBy w5 (some g):=hg5;have hn5:=hk5 _ _ (I3.out.2.2.mono ((Below.refl _ _).alloc (Nat.le_refl _) _));have hgs:w2.grownBy (w2.setCell ⟨w1.heap.size,0,none⟩ (.slice a2 n2 c2)) (some w1.heap.size):=AZ w2 (World.grownBy.refl _ _) _ _;have hb3:=B2.out.grown hgs (by omega) (fun k hk=>by cases hk;omega);have hb4:=hb3.alloc (by simp;omega) (Obj.cells #[Value.slice a2 n2 c2] 103);have hb5:=hb4.grown hg5' (by simp;omega) (fun k hk=>by cases hk;omega);have hr5:=((I3.out.1.congr (g:=fun _=>Value.slice a2 n2 c2) (fun i hi=>by rw[show i=0 by omega,if_pos rfl])).alloc (Obj.cells #[Value.slice a2 n2 c2] 103)).of_block (hg5'.block w1.heap.size (by simp;omega) (by intro e;cases e;omega));have hx5:w5.cell? ⟨w.heap.size,0,none⟩=some (.slice a n c):=by
    have n1:some w.heap.size≠some g:=fun e=>by simp at e;omega
    have n2:some w.heap.size≠some w1.heap.size:=fun e=>by simp at e;omega
    refine hg5'.cell ?_ n1;rw[World.cell?_alloc_past _ _ _ (by simp;omega)];exact hgs.cell hcx2 n2
   obtain⟨g5,gc5,rfl,_,_,_⟩:=id hP5.nrow;have I5:Hid (_∧_∧_∧_∧_):=⟨hr5,hn5,hP5,hx5,hb5⟩;clear hP5 hg5 hk5 hg5' hn5 hgs hb3 hb4 hb5 hr5 hx5 I3 B2;go_wp2_with fail
   go_roundw
   case rel=>exact⟨i+1,.slice a2 n2 c2,by omega,I5.out⟩
   case measure=>simp;omega
  have hlb:decide (2*(np:Int)-1≤n)=false:=decide_eq_false (by omega);go_wp2_with fail
  go_ret
  exact⟨_,rfl,i+1,by omega,by omega,HH.out.2.2.1.lower (by omega),HH.out.2.2.2⟩
structure Dv (w wr:World) (x y k:Nat) (X Y:Value) (x':Nat):Prop where
 bx:wr.rowIs w.heap.size 103 1 (fun _=>X)
 hy:wr.rowIs (w.heap.size+1) 103 1 (fun _=>Y)
 br:wr.rowIs (w.heap.size+1+1) 103 1 (fun _=>.slice none 0 0)
 nx:Ac wr (.agg #[X]) x'
 ny:Ac wr (.agg #[Y]) k
 le:k≤x'
 hx:x'≤x
 gcd:Nat.gcd x' k=Nat.gcd x y
 bel:Below w.heap.size w wr
theorem Dv.go{w wr wr':World}{x y k:Nat}{X Y:Value}{x':Nat}(h:Dv w wr x y k X Y x')(hb:Below wr.heap.size wr wr'):Dv w wr' x y k X Y x':=
 ⟨h.bx.of_block (hb.block _ h.bx.lt),h.hy.of_block (hb.block _ h.hy.lt),h.br.of_block (hb.block _ h.br.lt),h.nx.mono hb,h.ny.mono hb,h.le,h.hx,h.gcd,Aj h.bel hb⟩
theorem Dv.drew{w wr:World}{x y k:Nat}{X Y:Value}{x':Nat}(h:Dv w wr x y k X Y x'):Dv w wr.drew x y k X Y x':=h.go (AV (Below.refl _ _))
theorem Dv.put{w wr:World}{x y k:Nat}{X Y:Value}{x':Nat}(h:Dv w wr x y k X Y x'){a:Option Addr}{n c:Nat}{a':Option Addr}{n' c':Nat}{p q:Nat}(hp:Ac wr (.agg #[.slice a n c]) p)(hq:Ac wr (.agg #[.slice a' n' c']) q)(h1:q≤p)(h2:p≤x)(h3:Nat.gcd p q=Nat.gcd x y):
  Dv w ((wr.setCell ⟨w.heap.size,0,none⟩ (.slice a n c)).setCell ⟨w.heap.size+1,0,none⟩ (.slice a' n' c')) x y q (.slice a n c) (.slice a' n' c') p:=by
 obtain⟨ax,nx,cx,ex⟩:=h.nx.cellOf;obtain⟨ay,ny,cy,ey⟩:=h.ny.cellOf;have cx:=h.bx.cell (i:=0) (by omega);have cy:=h.hy.cell (i:=0) (by omega);have n0: ∀kk q,wr.cell? ⟨w.heap.size,0,none⟩≠some (.int kk q):=by rw[cx,ex];exact fun kk q e=>by cases e
 have n1: ∀kk q,(wr.setCell ⟨w.heap.size,0,none⟩ (.slice a n c)).cell? ⟨w.heap.size+1,0,none⟩≠some (.int kk q):=by
  rw[World.cell?_setCell_far _ _ _ _ (by simp),cy,ey];exact fun kk q e=>by cases e
 refine⟨?_,?_,?_,(hp.setCell n0 _).setCell n1 _,(hq.setCell n0 _).setCell n1 _,h1,h2,h3,(h.bel.setCell (by simp) _).setCell (by simp) _⟩
 ·exact((h.bx.set 0 (.slice a n c)).setOther (a:=⟨w.heap.size+1,0,none⟩) (by simp) _).congr (fun i hi=>by rw[show i=0 by omega,if_pos rfl])
 ·exact(((h.hy.setOther (a:=⟨w.heap.size,0,none⟩) (by simp) _)).set 0 (.slice a' n' c')).congr (fun i hi=>by rw[show i=0 by omega,if_pos rfl])
 exact(h.br.setOther (a:=⟨w.heap.size,0,none⟩) (by simp<;>omega) _).setOther (a:=⟨w.heap.size+1,0,none⟩) (by simp<;>omega) _
theorem Dv.start(w:World)(x y:Nat)(ax:Option Addr)(nx cx:Nat)(ay:Option Addr)(ny cy:Nat)(h:Ac w (.agg #[.slice ax nx cx]) x)(k:Ac w (.agg #[.slice ay ny cy]) y)(hyx:y≤x):
  Dv w (((w.alloc (.cells #[.slice ax nx cx] 103)).alloc (.cells #[.slice ay ny cy] 103)).alloc (.cells #[.slice none 0 0] 103)) x y y (.slice ax nx cx) (.slice ay ny cy) x:=by
 have hb:Below w.heap.size w (((w.alloc (.cells #[.slice ax nx cx] 103)).alloc (.cells #[.slice ay ny cy] 103)).alloc (.cells #[.slice none 0 0] 103)):=(Ao _ _ _).alloc (by simp<;>omega) _;have r1:=World.rowIs_alloc w #[.slice ax nx cx] 103 (fun _=>.slice ax nx cx) (fun i hi=>by rw[show i=0 by simpa using hi];rfl);have r2:=World.rowIs_alloc (w.alloc (.cells #[.slice ax nx cx] 103)) #[.slice ay ny cy] 103 (fun _=>.slice ay ny cy) (fun i hi=>by rw[show i=0 by simpa using hi];rfl);have r3:=World.rowIs_alloc ((w.alloc (.cells #[.slice ax nx cx] 103)).alloc (.cells #[.slice ay ny cy] 103)) #[.slice none 0 0] 103 (fun _=>.slice none 0 0) (fun i hi=>by rw[show i=0 by simpa using hi];rfl);exact⟨(r1.alloc _).alloc _,by have:=r2.alloc (.cells #[.slice none 0 0] 103);simpa using this,by simpa using r3,h.mono hb,k.mono hb,hyx,Nat.le_refl _,rfl,hb⟩
theorem Vj(g n y:Nat)(F:Nat→Nat)(wr:World)(p1 b o p3 B:Nat)(x1 x2 x3:Value)(hF:Row wr g n F)(hn:n≤1099511627776)(hy0:0<y)(hy:y<18446744073709551616)(n1:p1≠g)(n2:b≠g)(n3:p3≠g)(hB:B≤g)
  (xv:Nat) (hxv:V F n=xv) (c1:wr.cell? ⟨p1,0,none⟩=some x1) (c2:wr.cell? ⟨b,o,none⟩=some x2) (c3:wr.cell? ⟨p3,0,none⟩=some x3) (f3:wr.frozen? ⟨p3,0,none⟩=false):
  Calls Tryz.prog 151 #[.slice (some ⟨g,0,none⟩) n n,.int .u64 (y:Int)] wr fun e w2=> ∃c:Nat,e=.returned (.int .u64 (c:Int))∧Hid (c=xv%y∧Below B wr w2)∧w2.cell? ⟨p1,0,none⟩=some x1∧w2.cell? ⟨b,o,none⟩=some x2∧Hid (w2.cell? ⟨p3,0,none⟩=some x3∧w2.frozen? ⟨p3,0,none⟩=false):=by
 refine(EN g n 0 n n y F wr hF (by omega) hn hy0 hy).mono ?_;rintro e w2 ⟨c,rfl,H,hD⟩;have hc:=hD.fin.2;rw[AX,hxv]at hc;have hg:=hD.2.2.2.2;exact⟨c,rfl,⟨hc,(Below.refl _ _).grown hg (by have:=hF.1.lt;omega) (fun k hk=>by cases hk;exact hB)⟩,hg.cell c1 (by simpa using n1),hg.cell c2 (by simpa using n2),hg.cell c3 (by simpa using n3),(World.frozen?_of_block (hg.block _ (World.block_lt_of_cell? _ _ c3) (by simpa using n3))).trans f3⟩
theorem Wo(a c x:Nat)(w2:World)(p1 b o:Nat)(x1 x2:Value)(ha:a<18446744073709551616)(hc:c=x%a)(hx:x%a<18446744073709551616)(c1:w2.cell? ⟨p1,0,none⟩=some x1)(c2:w2.cell? ⟨b,o,none⟩=some x2):
  Calls Tryz.prog 179 #[.int .u64 (a:Int),.int .u64 (c:Int)] w2 fun e w3=>e=.returned (.int .u64 ((Nat.gcd a c:Nat):Int))∧w3.cell? ⟨p1,0,none⟩=some x1∧w3.cell? ⟨b,o,none⟩=some x2∧Hid (Below w2.heap.size w2 w3):=by
 refine(Kq a c _ ha (by rw[hc];exact hx)).mono ?_;rintro e w3 ⟨rfl,n,rfl⟩;exact⟨rfl,c1,c2,Bd (Below.refl _ _) _⟩
theorem Re{A x y u v:Nat}(h:(A:Int)= -(1*((u:Int)*x-v*y))):y*v-x*u=A∧x*u≤y*v:=by
 have e1:((y*v:Nat):Int)=v*y:=by push_cast;exact Int.mul_comm _ _
 have e2:((x*u:Nat):Int)=u*x:=by push_cast;exact Int.mul_comm _ _
 omega
theorem Rf{A x y u v:Nat}(h:(A:Int)=1*((u:Int)*x-v*y)):x*u-y*v=A∧y*v≤x*u:=by
 have e1:((y*v:Nat):Int)=v*y:=by push_cast;exact Int.mul_comm _ _
 have e2:((x*u:Nat):Int)=u*x:=by push_cast;exact Int.mul_comm _ _
 omega
theorem Wp{A x y u v:Nat}(h:(A:Int)= -(-1*((u:Int)*x-v*y))):x*u-y*v=A∧y*v≤x*u:=Rf (by rw[h];grind)
theorem Wq{A x y u v:Nat}(h:(A:Int)= -1*((u:Int)*x-v*y)):y*v-x*u=A∧x*u≤y*v:=Re (by rw[h];grind)
theorem NW(v u:Value)(x y:Nat)(w:World)(h:Ac w v x)(k:Ac w u y)(hx:x<P 198)(hyx:y≤x):
  Calls Tryz.prog 156 #[v,u] w (Dk w (Nat.gcd x y)):=by
 have sx:Small x:=⟨Nat.lt_of_lt_of_le hx (Dt (show 198≤lim2 by decide))⟩;obtain⟨ax,nx,cx,rfl⟩:=h.isAgg;obtain⟨ay,ny,cy,rfl⟩:=k.isAgg;have D0:Hid _:=Dv.start w x y ax nx cx ay ny cy h k hyx;have HX:Hid (x<P 198∧Small x):=⟨hx,sx⟩;clear h k hx hyx sx;go_enter Tryz.func156,Tryz.ntmps156
 go_wp2_with fail
 go_loopg [13] y (fun gk t wr=> ∃X Y x',Hid (Dv w wr x y gk X Y x'))
 case atStart=>exact⟨_,_,x,D0.out⟩
 case round=>
  clear D0;obtain⟨X,Y,x',hD⟩:=hrel;obtain⟨ax',nx',cx',rfl⟩:=hD.out.nx.cellOf;obtain⟨ay',ny',cy',rfl⟩:=hD.out.ny.cellOf;have c0:=hD.out.bx.cell (i:=0) (by omega);have c1:=hD.out.hy.cell (i:=0) (by omega);have FX:Hid (Small x'∧x'<P 198∧Small gk):=⟨HX.out.2.le hD.out.hx,Nat.lt_of_le_of_lt hD.out.hx HX.out.1,(HX.out.2.le hD.out.hx).le hD.out.le⟩;have hl1:(ny':Int)≤4294967296:=by
   obtain⟨G,ks,k0,k1,kv⟩:=hD.out.ny.fits;have:=Bb (kv.symm▸FX.out.2.2.fits) k1;omega
  by_cases h1:1<ny'
  ·have h1':(1:Int)<(ny':Int):=by omega
   have hbig:18446744073709551616≤gk:=by
    obtain⟨G,ks,k0,k1,kv⟩:=hD.out.ny.fits;rcases Nat.lt_or_ge gk 18446744073709551616 with hh|hh
    ·have:=(Hr ks k1).1 (kv.symm▸hh);omega
    exact hh
   have BG:Hid (18446744073709551616≤gk):=hbig;clear hbig;go_wp2_with fail
   refine(NT _ _ x' gk _ hD.out.nx hD.out.ny FX.out.1.fits hD.out.le BG.out).mono ?_;rintro e w1 ⟨k0,rfl,hk0,hb1⟩;have D1:Hid _:=hD.out.go hb1;have K0:Hid (x'/2^k0<18446744073709551616):=hk0;clear hb1 hk0 c0 c1;go_wp2_with fail
   refine(NQ x' gk (x'/2^k0) (gk/2^k0) (2^k0) (x'%2^k0) (gk%2^k0) _ K0.out (Nat.div_le_div_right D1.out.le) (by rw[Nat.mul_comm];exact(Nat.div_add_mod _ _).symm) (by rw[Nat.mul_comm];exact(Nat.div_add_mod _ _).symm) (Nat.mod_lt _ (Nat.two_pow_pos _)) (Nat.mod_lt _ (Nat.two_pow_pos _))).mono ?_;rintro e w2 ⟨u0,v0,u1,v1,s,rfl,hFs,hbd,hb2⟩;have D2:Hid _:=D1.out.go hb2;have FS:Hid ((∃p q u2 v2,Fs x' gk (x'/2^k0) (gk/2^k0) p q u0 u1 u2 v0 v1 v2 s)∧(u0<18446744073709551616∧v0<18446744073709551616∧u1<18446744073709551616∧v1<18446744073709551616)):=⟨hFs,hbd⟩;clear hb2 hFs hbd D1 K0;have c0:=D2.out.bx.cell (i:=0) (by omega);have c1:=D2.out.hy.cell (i:=0) (by omega);have hl0:=D2.out.bx.lt;have hl1:=D2.out.hy.lt;have hl2:=D2.out.br.lt;have BA:Hid (Below w2.heap.size w2 (w2.alloc (.cells #[.int .u64 (u0:Int),.int .u64 (v0:Int),.int .u64 (u1:Int),.int .u64 (v1:Int),.bool s] 234))):=(Below.refl _ _).alloc (Nat.le_refl _) _;by_cases hv:v0=0
   ·subst hv;go_wp2_with fail
    have D3:Hid _:=D2.out.go BA.out;refine(Iz _ _ x' gk _ D3.out.nx D3.out.ny FX.out.2.2 (by have:=BG.out;omega) FX.out.2.1 FX.out.1).mono ?_;rintro e w3 ⟨vq,vr,rfl,hvq,hvr,hb3⟩;obtain⟨aq,nq,cq,rfl⟩:=hvq.isAgg;obtain⟨ar,nr,cr,rfl⟩:=hvr.isAgg;have D4:=D3.out.go hb3;have b4:Below w3.heap.size w3 ((w3.alloc (.cells #[.slice aq nq cq] 103)).alloc (.cells #[.slice ar nr cr] 103)):=Ao _ _ _;have hs3:=D4.br.lt;have D5:Hid _:=D4.go b4;have R5:Hid _:=hvr.mono b4;clear D4 b4 hvq hvr hb3 c0 c1 hl0 hl1 hl2 D2 D3 BA;go_wp2_with fail
    have c7:((w3.alloc (.cells #[.slice aq nq cq] 103)).alloc (.cells #[.slice ar nr cr] 103)).cell? ⟨w3.heap.size+1,0,none⟩=some (.slice ar nr cr):=by simp[go_sem]
    obtain⟨w4,hw4⟩:=nme ((w3.alloc (.cells #[.slice aq nq cq] 103)).alloc (.cells #[.slice ar nr cr] 103));obtain⟨br,hbr⟩:=nme (w3.heap.size+1);rw[←hw4]at D5 R5 c7⊢;rw[←hbr]at c7⊢;have hn1:br≠w.heap.size:=by omega
    have hn2:br≠w.heap.size+1:=by omega
    have hn3:w.heap.size≠br:=by omega
    have hn4:w.heap.size+1≠br:=by omega
    clear hw4 hbr hs3;have c0:=D5.out.bx.cell (i:=0) (by omega);have c1:=D5.out.hy.cell (i:=0) (by omega);have f0:=D5.out.bx.frozen 0;have f1:=D5.out.hy.frozen 0;have PT:Hid _:=D5.out.put D5.out.ny R5.out (Nat.le_of_lt (Nat.mod_lt _ (by have:=BG.out;omega))) (Nat.le_trans D5.out.le D5.out.hx) (by rw[←D5.out.gcd,Nat.gcd_comm x' gk,Nat.gcd_rec gk x',Nat.gcd_comm]);have hlt:x'%gk<gk:=Nat.mod_lt _ (by have:=BG.out;omega);clear D5 R5;go_region
    all_goals go_wp2_with fail
    all_goals go_roundg (x'%gk)
    all_goals first
     |exact hlt
     |exact⟨_,_,gk,PT.out⟩
     |exact⟨_,_,gk,PT.out.drew⟩
   have hv':((v0:Int)==0)=false:=by simp;omega
   have HV:Hid (v0≠0):=hv;clear hv;go_wp2_with fail
   have D3:Hid _:=D2.out.go BA.out;obtain⟨⟨p,q,u2,v2,hFs⟩,hbd⟩:=FS.out;obtain⟨A,C,hA,hC,hCA,hAY,hgcd⟩:=hFs.taken HV.out;have TK:Calls Tryz.prog 178 #[.agg #[.int .u64 (u0:Int),.int .u64 (v0:Int),.int .u64 (u1:Int),.int .u64 (v1:Int),.bool s],.agg #[.slice ax' nx' cx'],.agg #[.slice ay' ny' cy']] (w2.alloc (.cells #[.int .u64 (u0:Int),.int .u64 (v0:Int),.int .u64 (u1:Int),.int .u64 (v1:Int),.bool s] 234)) (Gy (w2.alloc (.cells #[.int .u64 (u0:Int),.int .u64 (v0:Int),.int .u64 (u1:Int),.int .u64 (v1:Int),.bool s] 234)) A C):=by
    cases s
    ·rw[Tn]at hA hC;have e1:gk*v0-x'*u0=A∧x'*u0≤gk*v0:=Re hA;have e2:x'*u1-gk*v1=C∧gk*v1≤x'*u1:=Rf hC;have:=Tr u0 v0 u1 v1 _ _ x' gk _ D3.out.nx D3.out.ny FX.out.1.fits FX.out.2.2.fits hbd.1 hbd.2.1 hbd.2.2.1 hbd.2.2.2 e1.2 e2.2;rw[e1.1,e2.1]at this;exact this
    rw[Wi]at hA hC;have e1:x'*u0-gk*v0=A∧gk*v0≤x'*u0:=Wp hA;have e2:gk*v1-x'*u1=C∧x'*u1≤gk*v1:=Wq hC;have:=QZ u0 v0 u1 v1 _ _ x' gk _ D3.out.nx D3.out.ny FX.out.1.fits FX.out.2.2.fits hbd.1 hbd.2.1 hbd.2.2.1 hbd.2.2.2 e1.2 e2.2;rw[e1.1,e2.1]at this;exact this
   refine TK.mono ?_;rintro e w3 ⟨va,vc,rfl,hva,hvc,hb3⟩;obtain⟨aq,nq,cq,rfl⟩:=hva.isAgg;obtain⟨ar,nr,cr,rfl⟩:=hvc.isAgg;have D4:Hid _:=D3.out.go hb3;have PT:Hid _:=D4.out.put hva hvc (Nat.le_of_lt hCA) (Nat.le_trans hAY (Nat.le_trans D4.out.le D4.out.hx)) (by rw[hgcd];exact D4.out.gcd);have hlt:C<gk:=by omega
   clear TK hFs hbd hA hC hCA hAY hgcd hva hvc hb3 c0 c1 hl0 hl1 hl2 D2 D3 BA FS;have c0:=D4.out.bx.cell (i:=0) (by omega);have c1:=D4.out.hy.cell (i:=0) (by omega);have f0:=D4.out.bx.frozen 0;have f1:=D4.out.hy.frozen 0;clear D4;go_wp2_with fail
   go_roundg C
   case measure=>exact hlt
   case rel=>exact⟨_,_,A,PT.out⟩
  have h1':decide ((1:Int)<(ny':Int))=false:=decide_eq_false (by omega);have h1'':decide (1<ny')=false:=decide_eq_false (by omega);have c2:=hD.out.br.cell (i:=0) (by omega);have f2:=hD.out.br.frozen 0;by_cases h0:ny'=0
  ·subst h0;have hz:gk=0:=JG hD.out.ny rfl;have HG:Hid (Nat.gcd x y=x'):=by
    show _=_;rw[←hD.out.gcd,hz,Nat.gcd_zero_right]
   clear hz;go_wp2_with fail
   refine bodyPost_ret (v:=.agg #[.slice ax' nx' cx']) (by simp[results,Tryz.results156,go_sem,c2]) rfl ⟨_,rfl,?_,hD.out.bel.setCell (by simp<;>omega) _⟩;rw[HG.out];exact hD.out.nx.setCell (Ad c2) _
  obtain rfl:ny'=1:=by omega
  clear h0 h1 h1' h1'';obtain⟨G,ks,k0,k1,kv⟩:=id hD.out.ny.fits;obtain⟨F,hs,h0,hh1,hvv⟩:=id hD.out.nx.fits;have hn:nx'≤4294967296:=Bb (hvv.symm▸FX.out.1.fits) hh1;obtain⟨b,o,rfl,hw⟩:=ks.at 0 (by omega);have hG0:G 0<18446744073709551616:=ks.2.2.1 0 (by omega);have hgk:G 0=gk:=by rw[←kv,Ax,Bw,Dh];omega
  have hc:=hw 0 (by omega);rw[Nat.add_zero,hgk]at hc;rw[hgk]at hG0;have hg0:gk≠0:=by
   have:=k1 (by omega);simpa[hgk]using this
  have mk:=Cy (nx':Int) (nx':Int) nx' nx' rfl rfl (Nat.le_refl _) (by omega);have HF:Hid (Sl wr ax' nx' cx' F∧V F nx'=x'):=⟨hs,hvv⟩;clear ks k0 k1 kv hs h0 hh1 hvv hw hgk;have hl0:=hD.out.bx.lt;have hl1:=hD.out.hy.lt;have hl2:=hD.out.br.lt;have hlb:=World.block_lt_of_cell? _ _ hc;have HB:Hid (Below wr.heap.size wr (wr.alloc (.cells (Cv nx') 69))):=(Below.refl _ _).alloc (Nat.le_refl _) _;go_wp2_with (refine(id ?_:wpList Tryz.prog _ _ (⟨some 51,_,_,_,_,_⟩::_) _ _);refine Cs rfl (.tmp 48) (.tmp 50) rfl _ _ _ _ _ _ _ rfl rfl nx' (fun _=>0) F (Bh _ nx' _ rfl) (HF.out.1.mono HB.out) (by omega) (by omega) ?_)
  intro w1 hR1 hg1;have A1:Hid (Below wr.heap.size wr w1):=HB.out.grown hg1 (by simp) (fun k hk=>by cases hk;omega);have R1:Hid (Row w1 wr.heap.size nx' (over (fun _=>0) 0 F nx')):=hR1;have D1:Hid _:=hD.out.go A1.out;have d1:=cell_later A1.out c1;have d2:=cell_later A1.out c2;have g2:=(A1.out.frozen (World.block_lt_of_cell? _ _ c2)).trans f2;have dc:=cell_later A1.out hc;have C0:Hid (w1.cell? ⟨w.heap.size+1+1,0,none⟩=some (.slice none 0 0)∧w1.frozen? ⟨w.heap.size+1+1,0,none⟩=false):=⟨d2,g2⟩;have NE:Hid ((⟨w.heap.size+1+1,0,none⟩:Addr)≠⟨b,o,none⟩):=fun e=>by
   have:=dc;rw[←e,d2]at this;cases this
  have hne1:w.heap.size+1≠wr.heap.size:=by omega
  have hne2:w.heap.size+1+1≠wr.heap.size:=by omega
  have hne3:b≠wr.heap.size:=by omega
  obtain⟨g,hg⟩:=nme wr.heap.size;have hgw:w.heap.size≤g:=by rw[hg];exact hD.out.bel.size
  rw[←hg]at R1 hne1 hne2 hne3;clear hR1 hg1 c0 c1 c2 f2 hc mk d2 g2 HB hl0 hl1 hl2 hlb;go_wp2_with fail
  rw[←hg];clear hg A1;have GX:Hid (x'%gk<18446744073709551616∧0<gk):=⟨Nat.lt_trans (Nat.mod_lt _ (by omega)) hG0,by omega⟩;have VX:Hid (V (over (fun _=>0) 0 F nx') nx'=x'):=by
   show _=_;rw[FD,HF.out.2]
  go_region_held3 (fun w'=>w'.cell? ⟨w.heap.size+1,0,none⟩=some (.slice (some ⟨b,o,none⟩) 1 cy')∧w'.cell? ⟨b,o,none⟩=some (.int .u64 (gk:Int))) (first| (simp[go_sem, *];done)| (refine⟨?_,(World.cell?_setCell_other (h:=NE.out) ..).trans i2⟩;simp[go_sem, *];done))
   (first
    | (go_at_call 151;refine(Vj g nx' gk _ w1.drew (w.heap.size+1) b o (w.heap.size+1+1) w.heap.size _ _ _ R1.out (by omega) GX.out.2 hG0 hne1 hne3 hne2 hgw x' VX.out d1 dc C0.out.1 C0.out.2).mono ?_;rintro e w2 ⟨c,rfl,HC,e1,e2,E3⟩;clear d1 dc)
    | (go_at_call 179;refine(Wo gk c x' _ (w.heap.size+1) b o _ _ hG0 HC.out.1 GX.out.1 e1 e2).mono ?_;rintro e w3 ⟨rfl,a1,a2,B3⟩;clear e1 e2)
    | (go_at_call 95;refine(Dj (Nat.gcd gk c) _ (Nat.lt_of_le_of_lt (Nat.gcd_le_left _ GX.out.2) hG0)).mono ?_;rintro e w4 ⟨v4,rfl,hv4,hb4⟩;obtain⟨a4,n4,c4,rfl⟩:=hv4.isAgg;have i1:=cell_later hb4 a1;have i2:=cell_later hb4 a2;have i3:=cell_later hb4 (cell_later B3.out E3.out.1);have j3:=(hb4.frozen (World.block_lt_of_cell? _ _ (cell_later B3.out E3.out.1))).trans ((B3.out.frozen (World.block_lt_of_cell? _ _ E3.out.1)).trans E3.out.2);have V4:Hid _:=hv4;have B4:Hid (Below w2.heap.size w2 w4):=Aj B3.out hb4;clear hv4 hb4 a1 a2))
  go_wp2_with fail
  have B8:Below w.heap.size w w2:=D1.out.bel.trans (Bf HC.out.2);have B9:Hid (Below w.heap.size w w4):=B8.trans (B4.out.mono B8.size);have V5:Ac w4 (.agg #[.slice a4 n4 c4]) (Nat.gcd gk c):=V4.out;have HG:Hid (Nat.gcd x y=Nat.gcd gk c):=by
   show _=_;rw[HC.out.1,←D1.out.gcd,Nat.gcd_comm x' gk,Nat.gcd_rec gk x',Nat.gcd_comm]
  refine bodyPost_ret (v:=.agg #[.slice a4 n4 c4]) (by simp[results,Tryz.results156,go_sem,i3]) rfl ⟨_,rfl,?_,B9.out.setCell (by simp<;>omega) _⟩;rw[HG.out];exact V5.setCell (Ad i3) _
def Tab(w:World):Prop:=TabAt 7 Lib.deBruijn64tab w
theorem Tab.go{w w':World}(h:Tab w)(hb:Below w.heap.size w w'):Tab w':=fun j hj=>cell_later hb (h j hj)
theorem Rg(x k idx:Nat)(w:World)(hx0:((x:Int)==0)=false)
  (key:IntKind.u64.wrap (bits BinOp.and IntKind.u64 (x:Int) (IntKind.u64.wrap (-(x:Int)))*285870213051353865)/288230376151711744=(idx:Int))
  (hi:idx<64) (hk:k<64) (hcell:w.cell? ⟨7,idx,none⟩=some (.int .u8 k)):
  Calls Tryz.prog 175 #[.int .u64 x] w fun e w'=>e=.returned (.int .i64 k)∧w'=w:=by
 go_enter Tryz.func175,Tryz.ntmps175
 go_wp2_with (simp only[key])
 go_ret
 exact⟨rfl,rfl⟩
theorem Ty(x:Nat)(hx:x<18446744073709551616)(w:World)(hT:Tab w)(hx0:x≠0):
  Calls Tryz.prog 175 #[.int .u64 x] w fun e w'=>(∃k:Nat,e=.returned (.int .i64 (k:Int))∧k<64∧x%2^k=0)∧w'=w:=by
 obtain⟨hlow,hk⟩:=Lib.lowest_bit 64 x hx0 hx;obtain⟨hi,htab⟩:=Lib.deBruijn64_at _ hk;have hcell:=hT _ hi;rw[htab]at hcell;refine(Rg x _ _ w (by simp;omega) (tz64_key x _ hx hx0 hlow) hi hk hcell).mono ?_;rintro e w' ⟨rfl,rfl⟩;refine⟨⟨_,rfl,hk,?_⟩,rfl⟩;obtain⟨m,hm,_⟩:=Lib.ctzFrom_spec 64 x (by omega) hx;have e:Lib.ctz 64 x=Lib.ctzFrom 64 x:=by simp[Lib.ctz,hx0]
 rw[e];exact Nat.mod_eq_zero_of_dvd ⟨_,hm⟩
def lng(n m:Nat):Nat→Nat
 |0=>0
 |1=>n
 |_=>max n m
def sn(f g:Nat):Nat→Nat
 |0=>0
 |1=>f
 |_=>f ||| g
theorem Lc(g:Nat)(a:Option Addr)(n cap:Nat)(F:Nat→Nat)(a':Option Addr)(m cap':Nat)(G:Nat→Nat)(w:World)(hF:Sl w a n cap F)(hG:Sl w a' m cap' G)(hn:n≤4294967296)(hm:m≤4294967296)(hT:Tab w)
  (d0:w.cell? ⟨g,0,none⟩=some (.slice a n cap)) (d1:w.cell? ⟨g,1,none⟩=some (.slice a' m cap')):
  Calls Tryz.prog 155 #[.slice (some ⟨g,0,none⟩) 2 2] w fun e w'=>(∃t:Nat,e=.returned (.int .i64 (t:Int))∧t≤281474976710656∧2^t∣V F n∧2^t∣V G m)∧w'=w:=by
 have HH:Hid (Sl w a n cap F∧Sl w a' m cap' G∧Tab w):=⟨hF,hG,hT⟩;clear hF hG hT;obtain⟨mx,hmx⟩:=nme (max n m:Nat);have hm3:mx≤4294967296:=by omega
 have E1:Hid ((if n<m then(m:Int) else(n:Int))=(mx:Int)):=by show _=_;split<;>omega
 have MX:Hid (lng n m 2=mx):=hmx.symm;clear hmx;go_enter Tryz.func155,Tryz.ntmps155
 go_wp2_with fail
 go_loop [3,12] (fun l t=> ∃k:Nat,k≤2∧t=.int .i64 (k:Int)∧l=.int .i64 ((lng n m k:Nat):Int)) (fun _ t=>2- (intOf t).toNat)
 case atStart=>exact⟨0,by omega,rfl,rfl⟩
 case round=>
  obtain⟨k,hk,rfl,rfl⟩:=hrel;by_cases h0:k=0
  ·subst h0;have hz:Hid (lng n m 1=n):=rfl;have e0:lng n m 0=0:=rfl;rw[e0];have e1:(if 0<n then(n:Int) else 0)=(n:Int):=by split<;>omega
   go_wp2_with fail
   go_round
   case rel=>exact⟨1,by omega,rfl,by first|rfl|rw[e1];rfl⟩
   case measure=>simp[intOf]
  by_cases h1:k=1
  ·subst h1;have e1:=E1.out;have e0:lng n m 1=n:=rfl;rw[e0];go_wp2_with fail
   go_round
   case rel=>exact⟨2,by omega,rfl,by rw[MX.out]⟩
   case measure=>simp[intOf]
  obtain rfl:k=2:=by omega
  rw[MX.out];clear h0 h1 hk;go_wp2_with fail
  go_loop [22] (fun t=> ∃i:Nat,i≤mx∧t=.int .i64 (i:Int)∧Hid (∀j,j<i→Am F n 0 j=0∧Am G m 0 j=0)) (fun t=>mx- (intOf t).toNat)
  case atStart=>exact⟨0,by omega,rfl,fun j hj=>absurd hj (by omega)⟩
  case round=>
   obtain⟨i,hi,rfl,hz⟩:=hrel;by_cases him:i<mx
   ·have him':(i:Int)<(mx:Int):=by omega
    go_wp2_with fail
    go_loop [7,27] (fun q t=> ∃k:Nat,k≤2∧t=.int .i64 (k:Int)∧q=.int .u64 ((sn (Am F n 0 i) (Am G m 0 i) k:Nat):Int)) (fun _ t=>2- (intOf t).toNat)
    case atStart=>exact⟨0,by omega,rfl,rfl⟩
    case round=>
     obtain⟨k,hk,rfl,rfl⟩:=hrel;by_cases h0:k=0
     ·subst h0;by_cases hin:i<n
      ·obtain⟨b,o,rfl,hw⟩:=HH.out.1.at i hin;have hc:=hw i hin;have hFi:F i<18446744073709551616:=HH.out.1.2.2.1 i hin;have e0:Am F n 0 i=F i:=by rw[BU (by omega),Nat.zero_add]
       have hb:bits .or .u64 0 ((F i:Nat):Int)=((F i:Nat):Int):=by
        have:=bits_or_u64_nat 0 (F i) (by omega) hFi;rw[Nat.zero_or]at this;exact this
       have SN:Hid (sn (Am F n 0 i) (Am G m 0 i) 1=F i):=e0;rw[show sn (Am F n 0 i) (Am G m 0 i) 0=0 from rfl];clear hw e0 hFi;go_wp2_with fail
       go_round
       case rel=>exact⟨1,by omega,rfl,by rw[SN.out]⟩
       case measure=>simp[intOf]
      have SN:Hid (sn (Am F n 0 i) (Am G m 0 i) 1=0):=BH (by omega);have hd:decide (i<n)=false:=decide_eq_false hin;rw[show sn (Am F n 0 i) (Am G m 0 i) 0=0 from rfl];go_wp2_with fail
      go_round
      case rel=>exact⟨1,by omega,rfl,by rw[SN.out]⟩
      case measure=>simp[intOf]
     by_cases h1:k=1
     ·subst h1;by_cases hin:i<m
      ·obtain⟨b,o,rfl,hw⟩:=HH.out.2.1.at i hin;have hc:=hw i hin;have hGi:G i<18446744073709551616:=HH.out.2.1.2.2.1 i hin;have hFi:Am F n 0 i<18446744073709551616:=Jb (n:=i+1) HH.out.1.2.2.1 i (by omega);have hb:=bits_or_u64_nat (Am F n 0 i) (G i) hFi hGi;have SN:Hid (sn (Am F n 0 i) (Am G m 0 i) 2=Am F n 0 i ||| G i):=by
        show _ ||| _=_;rw[BU (F:=G) (by omega),Nat.zero_add]
       rw[show sn (Am F n 0 i) (Am G m 0 i) 1=Am F n 0 i from rfl];clear hw hFi hGi;go_wp2_with fail
       go_round
       case rel=>exact⟨2,by omega,rfl,by rw[SN.out]⟩
       case measure=>simp[intOf]
      have SN:Hid (sn (Am F n 0 i) (Am G m 0 i) 2=Am F n 0 i):=by
       show _ ||| _=_;rw[BH (F:=G) (by omega),Nat.or_zero]
      have hd:decide (i<m)=false:=decide_eq_false hin;rw[show sn (Am F n 0 i) (Am G m 0 i) 1=Am F n 0 i from rfl];go_wp2_with fail
      go_round
      case rel=>exact⟨2,by omega,rfl,by rw[SN.out]⟩
      case measure=>simp[intOf]
     obtain rfl:k=2:=by omega
     clear h0 h1 hk;have hcF:Am F n 0 i<18446744073709551616:=Jb (n:=i+1) HH.out.1.2.2.1 i (by omega);have hcG:Am G m 0 i<18446744073709551616:=Jb (n:=i+1) HH.out.2.1.2.2.1 i (by omega);obtain⟨q,hq⟩:=nme (sn (Am F n 0 i) (Am G m 0 i) 2);have hq64:q<18446744073709551616:=by rw[hq];exact Nat.or_lt_two_pow (n:=64) hcF hcG
     rw[←hq];have HQ:Hid (q=Am F n 0 i ||| Am G m 0 i):=hq;clear hq hcF hcG;by_cases hq0:q=0
     ·subst hq0;have hn2:=Nat.or_eq_zero_iff.1 HQ.out.symm;have HZ:Hid _:=hn2;clear hn2;go_wp2_with fail
      go_round
      case rel=>
       refine⟨i+1,by omega,by go_num,fun j hj=> ?_⟩;by_cases e:j=i
       ·rw[e];exact HZ.out
       exact hz.out j (by omega)
      case measure=>simp[intOf];omega
     have hqn:((q:Int) != 0)=true:=by simp;omega
     go_wp2_with fail
     refine(Ty q hq64 _ HH.out.2.2 hq0).mono ?_;rintro e w' ⟨⟨kk,rfl,hk64,hmod⟩,hw'⟩;rw[hw'];clear hw' w';have DV:Hid (2^(64*i+kk)∣V F n∧2^(64*i+kk)∣V G m):=by
      rw[HQ.out]at hmod;have o1:=Wk hmod;exact⟨UP (fun j hj=>(hz.out j hj).1) o1.1 (by omega),UP (fun j hj=>(hz.out j hj).2) o1.2 (by omega)⟩
     clear hmod;go_wp2_with fail
     go_ret
     exact⟨⟨64*i+kk,Ba (by omega),by omega,DV.out⟩,rfl⟩
   obtain rfl:i=mx:=by omega
   go_wp2_with fail
   go_ret
   exact⟨⟨0,rfl,by omega,by rw[Nat.pow_zero];exact Nat.one_dvd _,by rw[Nat.pow_zero];exact Nat.one_dvd _⟩,rfl⟩
end Go.Proofs.YtbikpmmpgbggaaaGreatDoor
