/- Contracts of the program's functions, part 5: own work, joined in build order. -/
import Derived.Test.YtbikpmmpgbggaaaGreatDoorJ4
import Derived.Deep.RegionHeld3
namespace Go.Proofs.YtbikpmmpgbggaaaGreatDoor
open Go.RowKit
set_option maxRecDepth 100000
set_option linter.unusedVariables false
set_option maxHeartbeats 16000000
def sg(s:Bool):Int:=if s then -1 else 1
theorem Tn:sg false=1:=rfl
theorem Wi:sg true= -1:=rfl
theorem PJ{u v q X B:Nat}(h:u≤v)(hq:v≤q)(hX:X<B):u*X+v≤q*B:=by
 have h1:u*X≤v*X:=Nat.mul_le_mul_right _ h;have h2:v*(X+1)≤q*B:=Nat.mul_le_mul hq hX;rw[Nat.mul_add]at h2;omega
structure Fs (X Y x0 y0 p q u0 u1 u2 v0 v1 v2:Nat) (s:Bool):Prop where
 hp:(p:Int)=sg s*(u1*x0-v1*y0)
 hq:(q:Int)= - (sg s*(u2*x0-v2*y0))
 i1:v2*p+v1*q=x0
 i2:u2*p+u1*q=y0
 l2:u2≤v2
 l12:u1+u2≤v1+v2
 pos:1≤v2
 qp:q≤p
 det:sg s*((u1:Int)*v2-v1*u2)=1
 zero:v1=0→u1=1∧u2=0∧v2=1∧s=false∧v0=0
 a1:0≤sg s*((u1:Int)*X-v1*Y)
 a1Y:v1≠0→sg s*((u1:Int)*X-v1*Y)≤Y
 a0:v0≠0→ - (sg s*((u0:Int)*X-v0*Y))≤Y∧sg s*((u1:Int)*X-v1*Y)< - (sg s*((u0:Int)*X-v0*Y))∧sg s*((v0:Int)*u1-u0*v1)=1
theorem Fs.start{X Y x0 y0:Nat}(h:y0≤x0):Fs X Y x0 y0 x0 y0 0 1 0 0 0 1 false:=by
 constructor<;>(try simp[sg])<;>omega
theorem Ic(s:Bool):sg (!s)= -sg s:=by cases s<;>rfl
theorem Fs.real{X Y x0 y0 B X' Y' p q u0 u1 u2 v0 v1 v2:Nat}{s:Bool}(h:Fs X Y x0 y0 p q u0 u1 u2 v0 v1 v2 s)(hX:X=x0*B+X')(hY:Y=y0*B+Y')(hX':X'<B)(hY':Y'<B)(c1:v2≤q)(c2:v1+v2≤p-q):
  0≤ - (sg s*((u2:Int)*X-v2*Y))∧ - (sg s*((u2:Int)*X-v2*Y))<sg s*((u1:Int)*X-v1*Y):=by
 have a1:=PJ h.l2 c1 hX';have a2:=PJ (Nat.le_refl v2) c1 hY';have a3:=PJ h.l12 c2 hX';have a4:=PJ (Nat.le_refl (v1+v2)) c2 hY';have hp:=h.hp;have hq:=h.hq;have hqp:=h.qp;have hpos:=h.pos;have e1:((p-q:Nat):Int)=p-q:=by omega
 have a1':(u2:Int)*X'+v2≤q*B:=by exact_mod_cast a1
 have a2':(v2:Int)*Y'+v2≤q*B:=by exact_mod_cast a2
 have a3':((u1:Int)+u2)*X'+(v1+v2)≤((p-q:Nat):Int)*B:=by exact_mod_cast a3
 have a4':((v1:Int)+v2)*Y'+(v1+v2)≤((p-q:Nat):Int)*B:=by exact_mod_cast a4
 rw[e1]at a3' a4';have n1:0≤(v2:Int)*Y':=Int.mul_nonneg (by omega) (by omega);have n2:0≤((u1:Int)+u2)*X':=Int.mul_nonneg (by omega) (by omega);have n3:0≤(u2:Int)*X':=Int.mul_nonneg (by omega) (by omega);have n4:0≤((v1:Int)+v2)*Y':=Int.mul_nonneg (by omega) (by omega);subst hX hY;cases s
 ·rw[Tn]at hp hq⊢;have E2: -(1*((u2:Int)*((x0*B+X':Nat):Int)-v2*((y0*B+Y':Nat):Int)))=q*B-u2*X'+v2*Y':=by
   push_cast;grind
  have E1:1*((u1:Int)*((x0*B+X':Nat):Int)-v1*((y0*B+Y':Nat):Int))=p*B+u1*X'-v1*Y':=by
   push_cast;grind
  rw[E1,E2];clear hp hq E1 E2 h a1 a2 a3 a4;grind
 rw[Wi]at hp hq⊢;have E2: -(-1*((u2:Int)*((x0*B+X':Nat):Int)-v2*((y0*B+Y':Nat):Int)))=q*B+u2*X'-v2*Y':=by
  push_cast;grind
 have E1: -1*((u1:Int)*((x0*B+X':Nat):Int)-v1*((y0*B+Y':Nat):Int))=p*B-u1*X'+v1*Y':=by
  push_cast;grind
 rw[E1,E2];clear hp hq E1 E2 h a1 a2 a3 a4;grind
theorem Fs.step{X Y x0 y0 B X' Y' p q u0 u1 u2 v0 v1 v2:Nat}{s:Bool}(h:Fs X Y x0 y0 p q u0 u1 u2 v0 v1 v2 s)(hX:X=x0*B+X')(hY:Y=y0*B+Y')(hX':X'<B)(hY':Y'<B)(c1:v2≤q)(c2:v1+v2≤p-q):
  Fs X Y x0 y0 q (p%q) u1 u2 (u1+p/q*u2) v1 v2 (v1+p/q*v2) (!s):=by
 obtain⟨r1,r2⟩:=h.real hX hY hX' hY' c1 c2;have hpos:=h.pos;have hq0:0<q:=by omega
 have hm:q*(p/q)+p%q=p:=Nat.div_add_mod p q;have hd:1≤p/q:=(Nat.le_div_iff_mul_le hq0).2 (by have:=h.qp;omega);generalize p/q=t at hm hd⊢;have hlt:p%q<q:=Nat.mod_lt _ hq0;generalize p%q=r at hm hlt⊢;have hp:=h.hp;have hq:=h.hq;have hmZ:(q:Int)*t+r=p:=by exact_mod_cast hm
 obtain⟨d,rfl⟩: ∃d,t=d+1:=⟨t-1,by omega⟩;have l12:=h.l12;have l2:=h.l2;have lx:d*u2≤d*v2:=Nat.mul_le_mul_left _ l2;have det:=h.det;refine⟨?_,?_,?_,?_,?_,?_,?_,Nat.le_of_lt hlt,?_,fun e=>absurd e (by omega),?_,fun _=> ?_,fun e=> ?_⟩
 ·rw[Ic,hq];grind
 ·rw[Ic];push_cast;grind
 ·have:=h.i1;grind
 ·have:=h.i2;grind
 ·grind
 ·grind
 ·grind
 ·rw[Ic];push_cast;grind
 ·rw[Ic];grind
 ·rw[Ic];by_cases hv:v1=0
  ·obtain⟨z1,z2,z3,z4,z5⟩:=h.zero hv;subst z2 z3 z4;rw[Tn];grind
  have:=h.a1Y hv;grind
 rw[Ic];refine⟨?_,?_,?_⟩
 ·have:=h.a1Y e;grind
 ·grind
 grind
theorem Fs.next_le{X Y x0 y0 p q u0 u1 u2 v0 v1 v2:Nat}{s:Bool}(h:Fs X Y x0 y0 p q u0 u1 u2 v0 v1 v2 s)(c1:v2≤q):v1+p/q*v2≤x0∧u1+p/q*u2≤y0∧v1+v2≤x0∧p/q*v2≤x0∧p/q*u2≤y0:=by
 have hpos:=h.pos;have hq0:0<q:=by omega
 have hm:q*(p/q)+p%q=p:=Nat.div_add_mod p q;have hd:1≤p/q:=(Nat.le_div_iff_mul_le hq0).2 (by have:=h.qp;omega);generalize p/q=t at hm hd⊢;generalize p%q=r at hm⊢;have i1:=h.i1;have i2:=h.i2;obtain⟨m,rfl⟩: ∃m,q=m+1:=⟨q-1,by omega⟩;obtain⟨d,rfl⟩: ∃d,t=d+1:=⟨t-1,by omega⟩;subst hm;refine⟨?_,?_,?_,?_,?_⟩<;>grind
theorem Fs.taken{X Y x0 y0 p q u0 u1 u2 v0 v1 v2:Nat}{s:Bool}(h:Fs X Y x0 y0 p q u0 u1 u2 v0 v1 v2 s)(hv:v0≠0):
  ∃A C:Nat,(A:Int)= - (sg s*((u0:Int)*X-v0*Y))∧(C:Int)=sg s*((u1:Int)*X-v1*Y)∧C<A∧A≤Y∧Nat.gcd A C=Nat.gcd X Y:=by
 obtain⟨b1,b2,b3⟩:=h.a0 hv;have b0:=h.a1;generalize hA: - (sg s*((u0:Int)*X-v0*Y))=A at b1 b2⊢;generalize hC:sg s*((u1:Int)*X-v1*Y)=C at b0 b2⊢;obtain⟨a,rfl⟩:=Int.eq_ofNat_of_zero_le (show 0≤A by omega);obtain⟨c,rfl⟩:=Int.eq_ofNat_of_zero_le b0;refine⟨a,c,rfl,rfl,by omega,by omega,?_⟩;have e1:X=v1*a+v0*c:=by
  have:(X:Int)=v1*a+v0*c:=by rw[←hA,←hC];grind
  exact_mod_cast this
 have e2:Y=u1*a+u0*c:=by
  have:(Y:Int)=u1*a+u0*c:=by rw[←hA,←hC];grind
  exact_mod_cast this
 refine Nat.dvd_antisymm (Nat.dvd_gcd ?_ ?_) (Nat.dvd_gcd ?_ ?_)
 ·rw[e1];exact Nat.dvd_add (Nat.dvd_mul_left_of_dvd (Nat.gcd_dvd_left _ _) _) (Nat.dvd_mul_left_of_dvd (Nat.gcd_dvd_right _ _) _)
 ·rw[e2];exact Nat.dvd_add (Nat.dvd_mul_left_of_dvd (Nat.gcd_dvd_left _ _) _) (Nat.dvd_mul_left_of_dvd (Nat.gcd_dvd_right _ _) _)
 ·refine Int.ofNat_dvd.1 ?_;rw[←hA];refine Int.dvd_neg.2 (Int.dvd_mul_of_dvd_right ?_);exact Int.dvd_sub (Int.dvd_mul_of_dvd_right (Int.ofNat_dvd.2 (Nat.gcd_dvd_left _ _))) (Int.dvd_mul_of_dvd_right (Int.ofNat_dvd.2 (Nat.gcd_dvd_right _ _)))
 refine Int.ofNat_dvd.1 ?_;rw[←hC];refine Int.dvd_mul_of_dvd_right ?_;exact Int.dvd_sub (Int.dvd_mul_of_dvd_right (Int.ofNat_dvd.2 (Nat.gcd_dvd_left _ _))) (Int.dvd_mul_of_dvd_right (Int.ofNat_dvd.2 (Nat.gcd_dvd_right _ _)))
def JW(G:Nat→Nat)(m n r:Nat):Nat:=Am G m 0 (n+1)*2^r%18446744073709551616+Am G m 0 n/2^(64-r)
theorem Xe{G:Nat→Nat}{m n:Nat}(h:m≤n):V (Am G m 0) n=V G m:=by
 rw[Ke h fun i h1 h2=>BH (by omega)];exact Bl fun i hi=>by rw[BU (by omega),Nat.zero_add]
theorem Jb{G:Nat→Nat}{m n:Nat}(hG:Ok G m):Ok (Am G m 0) n:=fun i _=>by
 by_cases h:0+i<m
 ·rw[BU h];exact hG _ h
 rw[BH h];omega
theorem OG{G:Nat→Nat}{m n r:Nat}(hG:Ok G m)(hm:m≤n+2)(hr:r≤63)(hlt:V G m<2^(64*(n+2)-r)):
  JW G m n r=V G m/2^(64*(n+1)-r)∧V G m/2^(64*(n+1)-r)<18446744073709551616:=by
 have hU:Ok (Am G m 0) (n+2):=Jb hG;have e:=Xe (G:=G) hm;unfold JW;rw[←e]at hlt⊢;generalize Am G m 0=U at hU hlt⊢;have h0:=Cx (hU.mono (show n≤n+2 by omega));have h1:=hU n (by omega);have h2:=hU (n+1) (by omega);have ee:2^(64*(n+1)-r)=P n*2^(64-r):=by rw[DQ,←Nat.pow_add,show 64*n+(64-r)=64*(n+1)-r by omega]
 have e2:2^(64*(n+2)-r)=P (n+1)*2^(64-r):=by rw[DQ,←Nat.pow_add,show 64*(n+1)+(64-r)=64*(n+2)-r by omega]
 rw[Ax]at hlt⊢;rw[e2]at hlt;have hU1:U (n+1)<2^(64-r):=by
  refine Nat.lt_of_mul_lt_mul_left (a:=P (n+1)) ?_;rw[Nat.mul_comm (P (n+1)) (U (n+1))];omega
 have hb:U (n+1)*2^r<18446744073709551616:=by
  rw[DR r (by omega),Nat.mul_comm (2^r)];exact Nat.mul_lt_mul_of_pos_right hU1 (Nat.two_pow_pos r)
 rw[Ax,ee,←Nat.div_div_eq_div_mul];have e3:(V U n+U n*P n+U (n+1)*P (n+1))/P n=U n+U (n+1)*18446744073709551616:=by
  rw[Cg,show V U n+U n*P n+U (n+1)*(P n*18446744073709551616)=V U n+P n*(U n+U (n+1)*18446744073709551616) by grind,Nat.add_mul_div_left _ _ (Hd n),Nat.div_eq_of_lt h0,Nat.zero_add]
 have e4:(U n+U (n+1)*18446744073709551616)/2^(64-r)=U (n+1)*2^r+U n/2^(64-r):=by
  rw[DR r (by omega),show U n+U (n+1)*(2^r*2^(64-r))=U n+2^(64-r)*(U (n+1)*2^r) by grind,Nat.add_mul_div_left _ _ (Nat.two_pow_pos _),Nat.add_comm]
 rw[e3,e4,Nat.mod_eq_of_lt hb];refine⟨rfl,?_⟩;have h3:U n/2^(64-r)<2^r:=by
  rw[Nat.div_lt_iff_lt_mul (Nat.two_pow_pos _),←DR r (by omega)];exact h1
 have h4:(U (n+1)+1)*2^r≤2^(64-r)*2^r:=Nat.mul_le_mul_right _ hU1;rw[Nat.mul_comm (2^(64-r)),←DR r (by omega),Nat.add_mul]at h4;omega
theorem Wj(f h r:Nat)(hh:h<18446744073709551616)(hr:r≤63):
  bits .or .u64 (IntKind.u64.wrap ((f:Int)*2^r)) ((h/2^(64-r):Nat):Int)=((f*2^r%18446744073709551616+h/2^(64-r):Nat):Int):=by
 have hd:h/2^(64-r)<2^r:=by
  rw[Nat.div_lt_iff_lt_mul (Nat.two_pow_pos _),←DR r (by omega)];exact hh
 have e:(f:Int)*2^r=((f*2^r:Nat):Int):=by rw[Int.natCast_mul,El]
 have hm:=Jr f r (by omega);have hor:f*2^r%18446744073709551616 ||| h/2^(64-r)=f*2^r%18446744073709551616+h/2^(64-r):=Kf _ _ r (by rw[hm];exact Nat.mul_mod_left _ _) hd;rw[e,Hf,bits_or_u64_nat _ _ (Nat.mod_lt _ (by omega)) (Nat.lt_of_le_of_lt (Nat.div_le_self _ _) hh),hor]
theorem To{w1 w2 w3 w4 w5 w6:World}{g lx ly N xa yb c c2 c3:Nat}{H H2 H3:Nat→Nat}(hx:lx<N)(hy:ly<N)(hle:yb≤xa)
  (p1:Gm w1 w2 g N 0 (fun _=>0) xa lx c H) (p2:Gt w3 w4 g N 0 (put H lx c) yb ly c2 H2) (p3:DE w5 w6 g N ly H2 c2 (N-ly) c3 H3):V H3 N=xa-yb:=by
 obtain⟨_,a2,_,a4,_⟩:=p1;obtain⟨_,b2,_,b4,_⟩:=p2;obtain⟨r3,d2,d3,d4,_⟩:=p3;have s1:V (put H lx c) N=xa:=by
  rw[Ke (m:=lx+1) (by omega) fun i h1 h2=>by rw[Ar _ _ (by omega)];exact a2 i (by omega),Ax,AN];have:=Bl (F:=put H lx c) (G:=H) (n:=lx) fun i hi=>Ar _ _ (by omega);rw[this];rw[AX,AX,GD]at a4;omega
 rw[AX,AX]at b4;have e1:V H2 N=V H2 ly+P ly*V (fro H2 ly) (N-ly):=by
  rw[show V H2 N=V H2 (ly+(N-ly)) by rw[show ly+(N-ly)=N by omega],BT];rfl
 have e2:V (put H lx c) N=V (put H lx c) ly+P ly*V (fro (put H lx c) ly) (N-ly):=by
  rw[show V (put H lx c) N=V (put H lx c) (ly+(N-ly)) by rw[show ly+(N-ly)=N by omega],BT];rfl
 have e3:V (fro H2 ly) (N-ly)=V (fro (put H lx c) ly) (N-ly):=Bl fun i hi=>b2 _ (by omega);have e4:V H3 N=V H3 ly+P ly*V (fro H3 ly) (N-ly):=by
  rw[show V H3 N=V H3 (ly+(N-ly)) by rw[show ly+(N-ly)=N by omega],BT];rfl
 have e5:V H3 ly=V H2 ly:=Bl fun i hi=>d2 _ (by omega);have e6:P N=P ly*P (N-ly):=by rw[←FU,show ly+(N-ly)=N by omega]
 have hlt:=Cx r3.2;have key:V H3 N+yb=xa+c3*P N:=by
  rw[e4,e5,e6];rw[s1]at e2;rw[e2];have q1:=congrArg (P ly* ·) d4;simp only[Nat.mul_add]at q1;rw[e3]at q1;grind
 have hc3:c3=0:=by
  rcases Nat.eq_zero_or_pos c3 with h|h
  ·exact h
  have:1*P N≤c3*P N:=Nat.mul_le_mul_right _ h;omega
 rw[hc3,Nat.zero_mul]at key;omega
theorem Wk{a b c:Nat}(h:(a ||| b)%2^c=0):a%2^c=0∧b%2^c=0:=by
 rw[Nat.or_mod_two_pow]at h;exact Nat.or_eq_zero_iff.1 h
theorem UP{F:Nat→Nat}{n i c:Nat}(hz: ∀j,j<i→Am F n 0 j=0)(hc:Am F n 0 i%2^c=0)(hcc:c≤64):2^(64*i+c)∣V F n:=by
 have hz': ∀j,j<i→j<n→F j=0:=fun j h1 h2=>by have:=hz j h1;rw[BU (by omega),Nat.zero_add]at this;exact this
 rcases Nat.lt_or_ge i n with h|h
 ·rw[BU (by omega),Nat.zero_add]at hc;obtain⟨k,rfl⟩: ∃k,n=i+(k+1):=⟨n-i-1,by omega⟩;rw[BT,Jp fun j hj=>hz' j hj (by omega),Nat.zero_add,Kj,Nat.pow_add,←DQ];refine Nat.mul_dvd_mul_left _ (Nat.dvd_add (Nat.dvd_of_mod_eq_zero hc) (Nat.dvd_mul_right_of_dvd ?_ _));exact Nat.pow_dvd_pow 2 hcc
 rw[Jp fun j hj=>hz' j (by omega) hj];exact Nat.dvd_zero _
theorem Wl{x y t:Nat}(hx:2^t∣x)(hy:2^t∣y):Nat.gcd (x/2^t) (y/2^t)*2^t=Nat.gcd x y:=by
 obtain⟨a,rfl⟩:=hx;obtain⟨b,rfl⟩:=hy;rw[Nat.mul_div_cancel_left _ (Nat.two_pow_pos t),Nat.mul_div_cancel_left _ (Nat.two_pow_pos t),Nat.gcd_mul_left,Nat.mul_comm]
theorem Tq(g N n cap xb:Nat)(a:Option Addr)(X:Nat→Nat)(d:Nat)(wr:World)(xv:Value)(hF:Row wr g N (fun _=>0))(hX:Sl wr a n cap X)(hX0:n=0→a=none)(hnN:n<N)(hN:N≤1099511627776)(hd:d<18446744073709551616)(hxb:xb≠g)(hne: ∀b' o',a=some ⟨b',o',none⟩→b'≠g)(hcx:wr.cell? ⟨xb,0,none⟩=some xv):
  Calls Tryz.prog 158 #[.slice (some ⟨g,0,none⟩) N N,.slice a n cap,.int .u64 (d:Int)] wr fun e w2=> ∃c:Nat,e=.returned (.int .u64 (c:Int))∧ ∃H,Hid (Gm wr w2 g N 0 (fun _=>0) (V X n*d) n c H)∧w2.cell? ⟨xb,0,none⟩=some xv∧w2.cell? ⟨g,n,none⟩=some (.int .u64 (H n:Nat))∧w2.frozen? ⟨g,n,none⟩=false:=by
 refine(H8 g N 0 N N (fun _=>0) a n cap X d wr hF hX (by omega) (by omega) (by omega) (Nat.le_refl _) hd hne).mono ?_;rintro e w2 ⟨c,rfl,H,hP⟩;exact⟨c,rfl,H,hP,hP.2.2.2.2.cell hcx (by simpa using hxb),hP.1.cell hnN,hP.1.frozen _⟩
theorem Ez(v u:Value)(x y a b:Nat)(w:World)(h:Ac w v x)(k:Ac w u y)(hx:AE x)(hy:AE y)(ha:a<18446744073709551616)(hb:b<18446744073709551616)(hle:y*b≤x*a):
  Calls Tryz.prog 191 #[v,.int .u64 (a:Int),u,.int .u64 (b:Int)] w (Dk w (x*a-y*b)):=by
 obtain⟨ax,n,cap,rfl⟩:=h.isAgg;obtain⟨ay,m,cap',rfl⟩:=k.isAgg;obtain⟨F,hs,h0,h1,hv⟩:=h.fits;obtain⟨G,ks,k0,k1,kv⟩:=k.fits;have hn:n≤4294967296:=Bb (hv.symm▸hx) h1;have hm:m≤4294967296:=Bb (kv.symm▸hy) k1;have HH:Hid (Sl w ax n cap F∧V F n=x∧(n=0→ax=none)∧Sl w ay m cap' G∧V G m=y∧(m=0→ay=none)∧a<18446744073709551616∧b<18446744073709551616∧y*b≤x*a):=⟨hs,hv,fun e=>(h0 e).1,ks,kv,fun e=>(k0 e).1,ha,hb,hle⟩;clear hs h0 h1 hv ks k0 k1 kv hx hy h k ha hb hle;obtain⟨mx,hmx⟩:=nme (max n m:Nat);have hm1:n≤mx:=by omega
 have hm2:m≤mx:=by omega
 have hm3:mx≤4294967296:=by omega
 have e1:(if n<m then(m:Int) else(n:Int))=(mx:Int):=by split<;>omega
 have mk:=Cy ((mx:Int)+1) ((mx:Int)+1) (mx+1) (mx+1) (by omega) (by omega) (Nat.le_refl _) (by omega);clear hmx;go_enter Tryz.func191,Tryz.ntmps191
 go_wp2_with fail
 obtain⟨g,hg⟩:=nme (w.heap.size+1+1+1);have HB:Hid (Below w.heap.size w ((((w.alloc (.cells #[.slice ax n cap] 103)).alloc (.cells #[.slice ay m cap'] 103)).alloc (.cells #[.slice none 0 0] 103)).alloc (.cells (Cv (mx+1)) 69))):=((Ao _ _ _).alloc (by simp<;>omega) _).alloc (by simp<;>omega) _;have hR0:=Bh (((w.alloc (.cells #[.slice ax n cap] 103)).alloc (.cells #[.slice ay m cap'] 103)).alloc (.cells #[.slice none 0 0] 103)) (mx+1) g (by rw[hg];simp);obtain⟨W0,hW0⟩:=nme (((((w.alloc (.cells #[.slice ax n cap] 103)).alloc (.cells #[.slice ay m cap'] 103)).alloc (.cells #[.slice none 0 0] 103)).alloc (.cells (Cv (mx+1)) 69)));have c1:W0.cell? ⟨w.heap.size,0,none⟩=some (.slice ax n cap):=by rw[hW0];simp[go_sem]
 have c2:W0.cell? ⟨w.heap.size+1,0,none⟩=some (.slice ay m cap'):=by rw[hW0];simp[go_sem]
 have c3:W0.cell? ⟨w.heap.size+1+1,0,none⟩=some (.slice none 0 0):=by rw[hW0];simp[go_sem]
 have f3:W0.frozen? ⟨w.heap.size+1+1,0,none⟩=false:=by rw[hW0];simp[go_sem]
 have hsz:W0.heap.size=w.heap.size+1+1+1+1:=by rw[hW0];simp
 rw[←hW0]at HB hR0⊢;rw[←hg];have R0:Hid (Row W0 g (mx+1) (fun _=>0)):=hR0;have hxne: ∀b' o',ax=some ⟨b',o',none⟩→b'≠g:=by
  intro b' o' e;by_cases e0:n=0
  ·rw[HH.out.2.2.1 e0]at e;cases e
  exact HH.out.1.ne_block (by omega) (g:=g) (by omega) b' o' e
 have hyne: ∀b' o',ay=some ⟨b',o',none⟩→b'≠g:=by
  intro b' o' e;by_cases e0:m=0
  ·rw[HH.out.2.2.2.2.2.1 e0]at e;cases e
  exact HH.out.2.2.2.1.ne_block (by omega) (g:=g) (by omega) b' o' e
 have XN:Hid _:=hxne;have YN:Hid _:=hyne;have hnN:(n:Int)<(mx:Int)+1:=by omega
 have hg1:w.heap.size≠g:=by omega
 have GG:Hid (w.heap.size≠g∧w.heap.size+1≠g∧w.heap.size+1+1≠g∧w.heap.size+1+1<W0.heap.size∧w.heap.size≤g∧w.heap.size+1<W0.heap.size∧w.heap.size≤W0.heap.size):=by
  show _∧_;omega
 clear hR0 hW0 mk e1 hxne hyne hg hsz;go_region_held3 (fun w'=>w'.cell? ⟨w.heap.size,0,none⟩=some (.slice ax n cap)) (simp[go_sem, *])
  (first
   | (go_at_call 158;refine(Tq g (mx+1) n cap w.heap.size ax F a W0.drew _ R0.out (HH.out.1.mono (AV HB.out)) HH.out.2.2.1 (Nat.lt_succ_of_le hm1) (by omega) HH.out.2.2.2.2.2.2.1 hg1 XN.out c1).mono ?_;rintro e w2 ⟨c,rfl,H,HP,hc4,hq4,hf4⟩))
 have g2:W0.grownBy w2 (some g):=⟨HP.out.2.2.2.2.os,HP.out.2.2.2.2.tape,HP.out.2.2.2.2.output,HP.out.2.2.2.2.size,HP.out.2.2.2.2.block⟩;have d2:w2.cell? ⟨w.heap.size+1,0,none⟩=some (.slice ay m cap'):=g2.cell c2 (by simpa using GG.out.2.1);have d3:w2.cell? ⟨w.heap.size+1+1,0,none⟩=some (.slice none 0 0):=g2.cell c3 (by simpa using GG.out.2.2.1);have k3:w2.frozen? ⟨w.heap.size+1+1,0,none⟩=false:=(World.frozen?_of_block (g2.block _ GG.out.2.2.2.1 (by simpa using GG.out.2.2.1))).trans f3;have B2:Hid (Below w.heap.size w w2):=HB.out.grown g2 GG.out.2.2.2.2.2.2 (fun k hk=>by cases hk;exact GG.out.2.2.2.2.1);have hs2:g<w2.heap.size:=HP.out.1.1.lt;clear g2 hc4 hq4 hf4 c1 c2 c3 f3;have hW3:w2.grownBy (w2.setCell ⟨g,n,none⟩ (.int .u64 (c:Int))) (some g):=AZ w2 (World.grownBy.refl _ _) n _;have R3:Hid (Row (w2.setCell ⟨g,n,none⟩ (.int .u64 (c:Int))) g (mx+1) (put H n c)):=HP.out.1.set n HP.out.2.2.1;have B3:Hid (Below w.heap.size w (w2.setCell ⟨g,n,none⟩ (.int .u64 (c:Int)))):=B2.out.setCell (p:=⟨g,n,none⟩) GG.out.2.2.2.2.1 _;have e2:(w2.setCell ⟨g,n,none⟩ (.int .u64 (c:Int))).cell? ⟨w.heap.size+1,0,none⟩=some (.slice ay m cap'):=hW3.cell d2 (by simpa using GG.out.2.1);have e3:(w2.setCell ⟨g,n,none⟩ (.int .u64 (c:Int))).cell? ⟨w.heap.size+1+1,0,none⟩=some (.slice none 0 0):=hW3.cell d3 (by simpa using GG.out.2.2.1);have l3:(w2.setCell ⟨g,n,none⟩ (.int .u64 (c:Int))).frozen? ⟨w.heap.size+1+1,0,none⟩=false:=(World.frozen?_of_block (hW3.block _ (World.block_lt_of_cell? _ _ d3) (by simpa using GG.out.2.2.1))).trans k3;obtain⟨w3,hw3⟩:=nme (w2.setCell ⟨g,n,none⟩ (.int .u64 (c:Int)));rw[←hw3]at R3 B3 e2 e3 l3⊢;clear hw3 hW3 d2 d3 k3 B2 hs2;go_wp2_with fail
 refine(Ia g (mx+1) 0 (mx+1) (mx+1) (put H n c) ay m cap' G b w3 R3.out (HH.out.2.2.2.1.mono B3.out) (by omega) (by omega) (by omega) (Nat.le_refl _) HH.out.2.2.2.2.2.2.2.1 YN.out).mono ?_;rintro e w4 ⟨cc,rfl,H2,hP2⟩;have P2:Hid _:=hP2;have d2:w4.cell? ⟨w.heap.size+1,0,none⟩=some (.slice ay m cap'):=hP2.2.2.2.2.cell e2 (by simpa using GG.out.2.1);have d3:w4.cell? ⟨w.heap.size+1+1,0,none⟩=some (.slice none 0 0):=hP2.2.2.2.2.cell e3 (by simpa using GG.out.2.2.1);have k3:w4.frozen? ⟨w.heap.size+1+1,0,none⟩=false:=(World.frozen?_of_block (hP2.2.2.2.2.block _ (World.block_lt_of_cell? _ _ e3) (by simpa using GG.out.2.2.1))).trans l3;have B4:Hid (Below w.heap.size w w4):=B3.out.grown hP2.2.2.2.2 B3.out.size (fun k hk=>by cases hk;exact GG.out.2.2.2.2.1);have hg4:g<w4.heap.size:=hP2.1.1.lt;clear hP2 e2 e3 l3;have hmi:(m:Int)≤(mx:Int)+1:=by omega
 have hmn: ¬mx+1=m:=by omega
 have hcc:cc<18446744073709551616:=P2.out.2.2.1;have CC:Hid (cc<18446744073709551616):=hcc;clear hcc;go_wp2_with fail
 refine(MB g (mx+1) m (mx+1-m) (mx+1-m) H2 (some ⟨w4.heap.size,0,none⟩) 1 1 (fun _=>cc) _ (P2.out.1.below ((Below.refl _ _).alloc (Nat.le_refl _) _)) (QC _ cc _ CC.out rfl _) (by omega) (by omega) (by omega) (fun b' o' e=>by cases e;omega)).mono ?_;rintro e w5 ⟨rfl,c3,H3,hS⟩;have e1c:V (fun _=>cc) 1=cc:=by rw[Ax,Bw,Dh,Nat.zero_add,Nat.mul_one]
 rw[e1c]at hS;have FV:Hid (V H3 (mx+1)=x*a-y*b):=by
  show _=_;have:=To (by omega) (by omega) (by rw[HH.out.2.1,HH.out.2.2.2.2.1];exact HH.out.2.2.2.2.2.2.2.2) HP.out P2.out hS;rw[this,HH.out.2.1,HH.out.2.2.2.2.1]
 have bA:Below w4.heap.size w4 (w4.alloc (.cells #[.int .u64 (cc:Int)] 69)):=(Below.refl _ _).alloc (Nat.le_refl _) _;have q3:w5.cell? ⟨w.heap.size+1+1,0,none⟩=some (.slice none 0 0):=hS.2.2.2.2.cell (cell_later bA d3) (by simpa using GG.out.2.2.1);have r3:w5.frozen? ⟨w.heap.size+1+1,0,none⟩=false:=(World.frozen?_of_block (hS.2.2.2.2.block _ (World.block_lt_of_cell? _ _ (cell_later bA d3)) (by simpa using GG.out.2.2.1))).trans ((bA.frozen (World.block_lt_of_cell? _ _ d3)).trans k3);have B5:Hid (Below w.heap.size w w5):=(Aj B4.out bA).grown hS.2.2.2.2 (by have:=B4.out.size;simp;omega) (fun k hk=>by cases hk;exact GG.out.2.2.2.2.1);have R5:Hid (Row w5 g (mx+1) H3):=hS.1;clear hS d2 d3 k3 bA e1c P2 HP CC;go_wp2_with fail
 refine(CJ _ (mx+1) (mx+1) H3 w5 (by have:=R5.out.sl (o:=0) (n:=mx+1) (cap:=mx+1) (by omega) (Nat.le_refl _) (by omega);rw[AX]at this;exact this) (by omega)).mono ?_;rintro e w6 ⟨v6,rfl,hv6,hb6⟩;have s3:w6.cell? ⟨w.heap.size+1+1,0,none⟩=some (.slice none 0 0):=cell_later hb6 q3;have t3:w6.frozen? ⟨w.heap.size+1+1,0,none⟩=false:=(hb6.frozen (World.block_lt_of_cell? _ _ q3)).trans r3;obtain⟨a6,n6,cap6,rfl⟩:=hv6.isAgg;have V6:Hid (Ac w6 (.agg #[.slice a6 n6 cap6]) (V H3 (mx+1))):=hv6;have B6:Hid (Below w.heap.size w w6):=Aj B5.out hb6;clear hv6 hb6 q3 r3;go_wp2_with fail
 refine bodyPost_ret (v:=.agg #[.slice a6 n6 cap6]) (by simp[results,Tryz.results191,go_sem,s3]) rfl ⟨_,rfl,?_,B6.out.setCell (by simp<;>omega) _⟩;rw[←FV.out];exact V6.out.setCell (Ad s3) _
theorem QZ(u0 v0 u1 v1:Nat)(vx vy:Value)(x y:Nat)(w:World)(hx:Ac w vx x)(hy:Ac w vy y)(fx:AE x)(fy:AE y)(b0:u0<18446744073709551616)(b1:v0<18446744073709551616)(b2:u1<18446744073709551616)(b3:v1<18446744073709551616)(l1:y*v0≤x*u0)(l2:x*u1≤y*v1):
  Calls Tryz.prog 178 #[.agg #[.int .u64 (u0:Int),.int .u64 (v0:Int),.int .u64 (u1:Int),.int .u64 (v1:Int),.bool true],vx,vy] w (Gy w (x*u0-y*v0) (y*v1-x*u1)):=by
 obtain⟨ax,nx,cx,rfl⟩:=hx.isAgg;obtain⟨ay,ny,cy,rfl⟩:=hy.isAgg;have HB:Hid (Below w.heap.size w (((((w.alloc (.cells #[.int .u64 (u0:Int),.int .u64 (v0:Int),.int .u64 (u1:Int),.int .u64 (v1:Int),.bool true] 234)).alloc (.cells #[.slice ax nx cx] 103)).alloc (.cells #[.slice ay ny cy] 103)).alloc (.cells #[.slice none 0 0] 103)).alloc (.cells #[.slice none 0 0] 103))):=((((((Below.refl _ _).alloc (Nat.le_refl _) _).alloc (by simp<;>omega) _).alloc (by simp<;>omega) _).alloc (by simp<;>omega) _).alloc (by simp<;>omega) _);have HH:Hid (Ac w (.agg #[.slice ax nx cx]) x∧Ac w (.agg #[.slice ay ny cy]) y∧AE x∧AE y∧(u0<18446744073709551616∧v0<18446744073709551616∧u1<18446744073709551616∧v1<18446744073709551616)∧y*v0≤x*u0∧x*u1≤y*v1):=⟨hx,hy,fx,fy,⟨b0,b1,b2,b3⟩,l1,l2⟩;clear hx hy fx fy b0 b1 b2 b3 l1 l2;go_enter Tryz.func178,Tryz.ntmps178
 go_wp2_with fail
 obtain⟨W0,hW0⟩:=nme ((((((w.alloc (.cells #[.int .u64 (u0:Int),.int .u64 (v0:Int),.int .u64 (u1:Int),.int .u64 (v1:Int),.bool true] 234)).alloc (.cells #[.slice ax nx cx] 103)).alloc (.cells #[.slice ay ny cy] 103)).alloc (.cells #[.slice none 0 0] 103)).alloc (.cells #[.slice none 0 0] 103)));have c0:W0.cell? ⟨w.heap.size,0,none⟩=some (.int .u64 (u0:Int)):=by rw[hW0];simp[go_sem]
 have c1:W0.cell? ⟨w.heap.size,1,none⟩=some (.int .u64 (v0:Int)):=by rw[hW0];simp[go_sem]
 have c2:W0.cell? ⟨w.heap.size,2,none⟩=some (.int .u64 (u1:Int)):=by rw[hW0];simp[go_sem]
 have c3:W0.cell? ⟨w.heap.size,3,none⟩=some (.int .u64 (v1:Int)):=by rw[hW0];simp[go_sem]
 have c4:W0.cell? ⟨w.heap.size+1,0,none⟩=some (.slice ax nx cx):=by rw[hW0];simp[go_sem]
 have c5:W0.cell? ⟨w.heap.size+1+1,0,none⟩=some (.slice ay ny cy):=by rw[hW0];simp[go_sem]
 have c6:W0.cell? ⟨w.heap.size+1+1+1,0,none⟩=some (.slice none 0 0):=by rw[hW0];simp[go_sem]
 have c7:W0.cell? ⟨w.heap.size+1+1+1+1,0,none⟩=some (.slice none 0 0):=by rw[hW0];simp[go_sem]
 have f6:W0.frozen? ⟨w.heap.size+1+1+1,0,none⟩=false:=by rw[hW0];simp[go_sem]
 have f7:W0.frozen? ⟨w.heap.size+1+1+1+1,0,none⟩=false:=by rw[hW0];simp[go_sem]
 rw[←hW0]at HB⊢;clear hW0;have C6:Hid (W0.cell? ⟨w.heap.size+1+1+1,0,none⟩=some (.slice none 0 0)∧W0.cell? ⟨w.heap.size+1+1+1+1,0,none⟩=some (.slice none 0 0)∧W0.frozen? ⟨w.heap.size+1+1+1,0,none⟩=false∧W0.frozen? ⟨w.heap.size+1+1+1+1,0,none⟩=false):=⟨c6,c7,f6,f7⟩;clear c6 c7 f6 f7;go_region_held3 (fun w'=>w'.cell? ⟨w.heap.size,0,none⟩=some (.int .u64 (u0:Int))∧w'.cell? ⟨w.heap.size,1,none⟩=some (.int .u64 (v0:Int))∧w'.cell? ⟨w.heap.size,2,none⟩=some (.int .u64 (u1:Int))∧w'.cell? ⟨w.heap.size,3,none⟩=some (.int .u64 (v1:Int))∧w'.cell? ⟨w.heap.size+1,0,none⟩=some (.slice ax nx cx)∧w'.cell? ⟨w.heap.size+1+1,0,none⟩=some (.slice ay ny cy)) (simp[go_sem, *])
  (first
   | (go_at_call 191;have zz:=c0;clear zz;refine Calls.mono (Ez (.agg #[.slice ax nx cx]) (.agg #[.slice ay ny cy]) x y u0 v0 _ (HH.out.1.mono (AV HB.out)) (HH.out.2.1.mono (AV HB.out)) HH.out.2.2.1 HH.out.2.2.2.1 HH.out.2.2.2.2.1.1 HH.out.2.2.2.2.1.2.1 HH.out.2.2.2.2.2.1) ?_;rintro e w1 ⟨z1,rfl,hv1,hb1⟩;obtain⟨a3,n3,cap3,rfl⟩:=hv1.isAgg;have B1:Hid (Below W0.heap.size W0 w1):=Bf hb1;have X1:Hid (Ac w1 (.agg #[.slice a3 n3 cap3]) (x*u0-y*v0)):=hv1;have d0:=cell_later B1.out c0;have d1:=cell_later B1.out c1;have d2:=cell_later B1.out c2;have d3:=cell_later B1.out c3;have d4:=cell_later B1.out c4;have d5:=cell_later B1.out c5;clear hv1 hb1 c0 c1 c2 c3 c4 c5)
   | (go_at_call 191;have zz:=d0;clear zz;refine Calls.mono (Ez (.agg #[.slice ay ny cy]) (.agg #[.slice ax nx cx]) y x v1 u1 _ (HH.out.2.1.mono (Aj HB.out B1.out)) (HH.out.1.mono (Aj HB.out B1.out)) HH.out.2.2.2.1 HH.out.2.2.1 HH.out.2.2.2.2.1.2.2.2 HH.out.2.2.2.2.1.2.2.1 HH.out.2.2.2.2.2.2) ?_;rintro e w2 ⟨z2,rfl,hv2,hb2⟩;obtain⟨a4,n4,cap4,rfl⟩:=hv2.isAgg;have B2:Hid (Below w1.heap.size w1 w2):=hb2;have X2:Hid (Ac w2 (.agg #[.slice a4 n4 cap4]) (y*v1-x*u1)):=hv2;have e0:=cell_later B2.out d0;have e1:=cell_later B2.out d1;have e2:=cell_later B2.out d2;have e3:=cell_later B2.out d3;have e4:=cell_later B2.out d4;have e5:=cell_later B2.out d5;have e6:=cell_later B2.out (cell_later B1.out C6.out.1);have e7:=cell_later B2.out (cell_later B1.out C6.out.2.1);have g6:=(B2.out.frozen (World.block_lt_of_cell? _ _ (cell_later B1.out C6.out.1))).trans ((B1.out.frozen (World.block_lt_of_cell? _ _ C6.out.1)).trans C6.out.2.2.1);have g7:=(B2.out.frozen (World.block_lt_of_cell? _ _ (cell_later B1.out C6.out.2.1))).trans ((B1.out.frozen (World.block_lt_of_cell? _ _ C6.out.2.1)).trans C6.out.2.2.2);clear hv2 hb2 d0 d1 d2 d3 d4 d5))
 go_wp2_with fail
 have n1: ∀kk q,(w2.setCell ⟨w.heap.size+1+1+1,0,none⟩ (.slice a3 n3 cap3)).cell? ⟨w.heap.size+1+1+1+1,0,none⟩≠some (.int kk q):=by
  rw[World.cell?_setCell_far _ _ _ _ (by simp)];exact Ad e7
 have B9:Hid (Below w.heap.size w w2):=Aj (Aj HB.out B1.out) B2.out;refine bodyPost_ret (v:=.tuple #[.agg #[.slice a3 n3 cap3],.agg #[.slice a4 n4 cap4]]) (by simp[results,Tryz.results178,go_sem,e6,e7]) rfl ⟨_,_,rfl,?_,?_,(B9.out.setCell (by simp<;>omega) _).setCell (by simp<;>omega) _⟩
 ·exact((X1.out.mono B2.out).setCell (Ad e6) _).setCell n1 _
 exact(X2.out.setCell (Ad e6) _).setCell n1 _
theorem Tr(u0 v0 u1 v1:Nat)(vx vy:Value)(x y:Nat)(w:World)(hx:Ac w vx x)(hy:Ac w vy y)(fx:AE x)(fy:AE y)(b0:u0<18446744073709551616)(b1:v0<18446744073709551616)(b2:u1<18446744073709551616)(b3:v1<18446744073709551616)(l1:x*u0≤y*v0)(l2:y*v1≤x*u1):
  Calls Tryz.prog 178 #[.agg #[.int .u64 (u0:Int),.int .u64 (v0:Int),.int .u64 (u1:Int),.int .u64 (v1:Int),.bool false],vx,vy] w (Gy w (y*v0-x*u0) (x*u1-y*v1)):=by
 obtain⟨ax,nx,cx,rfl⟩:=hx.isAgg;obtain⟨ay,ny,cy,rfl⟩:=hy.isAgg;have HB:Hid (Below w.heap.size w (((((w.alloc (.cells #[.int .u64 (u0:Int),.int .u64 (v0:Int),.int .u64 (u1:Int),.int .u64 (v1:Int),.bool false] 234)).alloc (.cells #[.slice ax nx cx] 103)).alloc (.cells #[.slice ay ny cy] 103)).alloc (.cells #[.slice none 0 0] 103)).alloc (.cells #[.slice none 0 0] 103))):=((((((Below.refl _ _).alloc (Nat.le_refl _) _).alloc (by simp<;>omega) _).alloc (by simp<;>omega) _).alloc (by simp<;>omega) _).alloc (by simp<;>omega) _);have HH:Hid (Ac w (.agg #[.slice ax nx cx]) x∧Ac w (.agg #[.slice ay ny cy]) y∧AE x∧AE y∧(u0<18446744073709551616∧v0<18446744073709551616∧u1<18446744073709551616∧v1<18446744073709551616)∧x*u0≤y*v0∧y*v1≤x*u1):=⟨hx,hy,fx,fy,⟨b0,b1,b2,b3⟩,l1,l2⟩;clear hx hy fx fy b0 b1 b2 b3 l1 l2;go_enter Tryz.func178,Tryz.ntmps178
 go_wp2_with fail
 obtain⟨W0,hW0⟩:=nme ((((((w.alloc (.cells #[.int .u64 (u0:Int),.int .u64 (v0:Int),.int .u64 (u1:Int),.int .u64 (v1:Int),.bool false] 234)).alloc (.cells #[.slice ax nx cx] 103)).alloc (.cells #[.slice ay ny cy] 103)).alloc (.cells #[.slice none 0 0] 103)).alloc (.cells #[.slice none 0 0] 103)));have c0:W0.cell? ⟨w.heap.size,0,none⟩=some (.int .u64 (u0:Int)):=by rw[hW0];simp[go_sem]
 have c1:W0.cell? ⟨w.heap.size,1,none⟩=some (.int .u64 (v0:Int)):=by rw[hW0];simp[go_sem]
 have c2:W0.cell? ⟨w.heap.size,2,none⟩=some (.int .u64 (u1:Int)):=by rw[hW0];simp[go_sem]
 have c3:W0.cell? ⟨w.heap.size,3,none⟩=some (.int .u64 (v1:Int)):=by rw[hW0];simp[go_sem]
 have c4:W0.cell? ⟨w.heap.size+1,0,none⟩=some (.slice ax nx cx):=by rw[hW0];simp[go_sem]
 have c5:W0.cell? ⟨w.heap.size+1+1,0,none⟩=some (.slice ay ny cy):=by rw[hW0];simp[go_sem]
 have c6:W0.cell? ⟨w.heap.size+1+1+1,0,none⟩=some (.slice none 0 0):=by rw[hW0];simp[go_sem]
 have c7:W0.cell? ⟨w.heap.size+1+1+1+1,0,none⟩=some (.slice none 0 0):=by rw[hW0];simp[go_sem]
 have f6:W0.frozen? ⟨w.heap.size+1+1+1,0,none⟩=false:=by rw[hW0];simp[go_sem]
 have f7:W0.frozen? ⟨w.heap.size+1+1+1+1,0,none⟩=false:=by rw[hW0];simp[go_sem]
 rw[←hW0]at HB⊢;clear hW0;have C6:Hid (W0.cell? ⟨w.heap.size+1+1+1,0,none⟩=some (.slice none 0 0)∧W0.cell? ⟨w.heap.size+1+1+1+1,0,none⟩=some (.slice none 0 0)∧W0.frozen? ⟨w.heap.size+1+1+1,0,none⟩=false∧W0.frozen? ⟨w.heap.size+1+1+1+1,0,none⟩=false):=⟨c6,c7,f6,f7⟩;clear c6 c7 f6 f7;go_region_held3 (fun w'=>w'.cell? ⟨w.heap.size,0,none⟩=some (.int .u64 (u0:Int))∧w'.cell? ⟨w.heap.size,1,none⟩=some (.int .u64 (v0:Int))∧w'.cell? ⟨w.heap.size,2,none⟩=some (.int .u64 (u1:Int))∧w'.cell? ⟨w.heap.size,3,none⟩=some (.int .u64 (v1:Int))∧w'.cell? ⟨w.heap.size+1,0,none⟩=some (.slice ax nx cx)∧w'.cell? ⟨w.heap.size+1+1,0,none⟩=some (.slice ay ny cy)) (simp[go_sem, *])
  (first
   | (go_at_call 191;have zz:=c0;clear zz;refine Calls.mono (Ez (.agg #[.slice ay ny cy]) (.agg #[.slice ax nx cx]) y x v0 u0 _ (HH.out.2.1.mono (AV HB.out)) (HH.out.1.mono (AV HB.out)) HH.out.2.2.2.1 HH.out.2.2.1 HH.out.2.2.2.2.1.2.1 HH.out.2.2.2.2.1.1 HH.out.2.2.2.2.2.1) ?_;rintro e w1 ⟨z1,rfl,hv1,hb1⟩;obtain⟨a3,n3,cap3,rfl⟩:=hv1.isAgg;have B1:Hid (Below W0.heap.size W0 w1):=Bf hb1;have X1:Hid (Ac w1 (.agg #[.slice a3 n3 cap3]) (y*v0-x*u0)):=hv1;have d0:=cell_later B1.out c0;have d1:=cell_later B1.out c1;have d2:=cell_later B1.out c2;have d3:=cell_later B1.out c3;have d4:=cell_later B1.out c4;have d5:=cell_later B1.out c5;clear hv1 hb1 c0 c1 c2 c3 c4 c5)
   | (go_at_call 191;have zz:=d0;clear zz;refine Calls.mono (Ez (.agg #[.slice ax nx cx]) (.agg #[.slice ay ny cy]) x y u1 v1 _ (HH.out.1.mono (Aj HB.out B1.out)) (HH.out.2.1.mono (Aj HB.out B1.out)) HH.out.2.2.1 HH.out.2.2.2.1 HH.out.2.2.2.2.1.2.2.1 HH.out.2.2.2.2.1.2.2.2 HH.out.2.2.2.2.2.2) ?_;rintro e w2 ⟨z2,rfl,hv2,hb2⟩;obtain⟨a4,n4,cap4,rfl⟩:=hv2.isAgg;have B2:Hid (Below w1.heap.size w1 w2):=hb2;have X2:Hid (Ac w2 (.agg #[.slice a4 n4 cap4]) (x*u1-y*v1)):=hv2;have e0:=cell_later B2.out d0;have e1:=cell_later B2.out d1;have e2:=cell_later B2.out d2;have e3:=cell_later B2.out d3;have e4:=cell_later B2.out d4;have e5:=cell_later B2.out d5;have e6:=cell_later B2.out (cell_later B1.out C6.out.1);have e7:=cell_later B2.out (cell_later B1.out C6.out.2.1);have g6:=(B2.out.frozen (World.block_lt_of_cell? _ _ (cell_later B1.out C6.out.1))).trans ((B1.out.frozen (World.block_lt_of_cell? _ _ C6.out.1)).trans C6.out.2.2.1);have g7:=(B2.out.frozen (World.block_lt_of_cell? _ _ (cell_later B1.out C6.out.2.1))).trans ((B1.out.frozen (World.block_lt_of_cell? _ _ C6.out.2.1)).trans C6.out.2.2.2);clear hv2 hb2 d0 d1 d2 d3 d4 d5))
 go_wp2_with fail
 have n1: ∀kk q,(w2.setCell ⟨w.heap.size+1+1+1,0,none⟩ (.slice a3 n3 cap3)).cell? ⟨w.heap.size+1+1+1+1,0,none⟩≠some (.int kk q):=by
  rw[World.cell?_setCell_far _ _ _ _ (by simp)];exact Ad e7
 have B9:Hid (Below w.heap.size w w2):=Aj (Aj HB.out B1.out) B2.out;refine bodyPost_ret (v:=.tuple #[.agg #[.slice a3 n3 cap3],.agg #[.slice a4 n4 cap4]]) (by simp[results,Tryz.results178,go_sem,e6,e7]) rfl ⟨_,_,rfl,?_,?_,(B9.out.setCell (by simp<;>omega) _).setCell (by simp<;>omega) _⟩
 ·exact((X1.out.mono B2.out).setCell (Ad e6) _).setCell n1 _
 exact(X2.out.setCell (Ad e6) _).setCell n1 _
def stepCells(u0 v0 u1 v1:Nat)(s:Bool):Nat→Value
 |0=>.int .u64 (u0:Int)
 |1=>.int .u64 (v0:Int)
 |2=>.int .u64 (u1:Int)
 |3=>.int .u64 (v1:Int)
 |_=>.bool s
structure Stp (w wr:World) (g:Nat) (u0 v0 u1 v1:Nat) (s:Bool):Prop where
 row:wr.rowIs g 234 5 (stepCells u0 v0 u1 v1 s)
 res:wr.rowIs w.heap.size 234 5 (stepCells 0 0 0 0 false)
 bel:Below w.heap.size w wr
 eq:g=w.heap.size+1
theorem Stp.step{w wr:World}{g u0 v0 u1 v1:Nat}{s:Bool}(h:Stp w wr g u0 v0 u1 v1 s)(u2 v2:Nat):
  Stp w (((((wr.setCell ⟨g,0,none⟩ (.int .u64 (u1:Int))).setCell ⟨g,2,none⟩ (.int .u64 (u2:Int))).setCell ⟨g,1,none⟩ (.int .u64 (v1:Int))).setCell ⟨g,3,none⟩ (.int .u64 (v2:Int))).setCell ⟨g,4,none⟩ (.bool (!s))) g u1 v1 u2 v2 (!s):=by
 obtain⟨h1,h2,h3,h4⟩:=h;have h1':wr.rowIs g 234 5 (stepCells u0 v0 u1 v1 s):=h1;have h2':wr.rowIs w.heap.size 234 5 (stepCells 0 0 0 0 false):=h2;have ne: ∀i,(⟨g,i,none⟩:Addr).block≠w.heap.size:=fun i=>by show g≠_;omega
 refine⟨(((((h1'.set 0 _).set 2 _).set 1 _).set 3 _).set 4 _).congr (fun i hi=> ?_),?_,?_,h4⟩
 ·rcases i with _|_|_|_|_|i
  ·simp[stepCells]
  ·simp[stepCells]
  ·simp[stepCells]
  ·simp[stepCells]
  ·simp[stepCells]
  omega
 ·have e:w.heap.size≠g:=by omega
  exact((((h2'.setOther (a:=⟨g,0,none⟩) e _).setOther (a:=⟨g,2,none⟩) e _).setOther (a:=⟨g,1,none⟩) e _).setOther (a:=⟨g,3,none⟩) e _).setOther (a:=⟨g,4,none⟩) e _
 have e:w.heap.size≤g:=by omega
 exact(((((h3).setCell (p:=⟨g,0,none⟩) e _).setCell (p:=⟨g,2,none⟩) e _).setCell (p:=⟨g,1,none⟩) e _).setCell (p:=⟨g,3,none⟩) e _).setCell (p:=⟨g,4,none⟩) e _
theorem Stp.drew{w wr:World}{g u0 v0 u1 v1:Nat}{s:Bool}(h:Stp w wr g u0 v0 u1 v1 s):Stp w wr.drew g u0 v0 u1 v1 s:=⟨h.row,h.res,AV h.bel,h.eq⟩
theorem Stp.start(w:World):Stp w ((w.alloc (.cells #[.int .u64 0,.int .u64 0,.int .u64 0,.int .u64 0,.bool false] 234)).alloc (.cells #[.int .u64 0,.int .u64 0,.int .u64 1,.int .u64 0,.bool false] 234)) (w.heap.size+1) 0 0 1 0 false:=by
 have h1:=World.rowIs_alloc (w.alloc (.cells #[.int .u64 0,.int .u64 0,.int .u64 0,.int .u64 0,.bool false] 234)) #[.int .u64 0,.int .u64 0,.int .u64 1,.int .u64 0,.bool false] 234 (stepCells 0 0 1 0 false) (fun i hi=>by
  rcases i with _|_|_|_|_|i<;>simp[stepCells]at hi⊢;omega)
 have h2:=World.rowIs_alloc w #[.int .u64 0,.int .u64 0,.int .u64 0,.int .u64 0,.bool false] 234 (stepCells 0 0 0 0 false) (fun i hi=>by
  rcases i with _|_|_|_|_|i<;>simp[stepCells]at hi⊢;omega)
 exact⟨by simpa using h1,(h2.alloc _),Ao _ _ _,rfl⟩
theorem DT(z:Int)(n:Nat)(h:z=(n:Int))(hn:n<18446744073709551616):IntKind.u64.wrap z=(n:Int):=by
 subst h;rw[IntKind.wrap_u64];omega
def Ts(w:World)(X Y x0 y0:Nat)(e:Ending)(w':World):Prop:=
 ∃u0 v0 u1 v1 s,e=.returned (.agg #[.int .u64 ((u0:Nat):Int),.int .u64 ((v0:Nat):Int),.int .u64 ((u1:Nat):Int),.int .u64 ((v1:Nat):Int),.bool s])∧(∃p q u2 v2,Fs X Y x0 y0 p q u0 u1 u2 v0 v1 v2 s)∧(u0<18446744073709551616∧v0<18446744073709551616∧u1<18446744073709551616∧v1<18446744073709551616)∧Below w.heap.size w w'
theorem NQ(X Y x0 y0 B X' Y':Nat)(w:World)(hx:x0<18446744073709551616)(hyx:y0≤x0)(hX:X=x0*B+X')(hY:Y=y0*B+Y')(hX':X'<B)(hY':Y'<B):
  Calls Tryz.prog 176 #[.int .u64 (x0:Int),.int .u64 (y0:Int)] w (Ts w X Y x0 y0):=by
 have HH:Hid (x0<18446744073709551616∧y0≤x0∧X=x0*B+X'∧Y=y0*B+Y'∧X'<B∧Y'<B):=⟨hx,hyx,hX,hY,hX',hY'⟩;clear hx hyx hX hY hX' hY';have S0:Hid _:=Stp.start w;go_enter Tryz.func176,Tryz.ntmps176
 go_wp2_with fail
 go_loopw [0,1,6,7] (fun px py nx ny wr=> ∃(p q u0 u1 u2 v0 v1 v2:Nat) (s:Bool),px=.int .u64 (p:Int)∧py=.int .u64 (q:Int)∧nx=.int .u64 (u2:Int)∧ny=.int .u64 (v2:Int)∧Hid (Fs X Y x0 y0 p q u0 u1 u2 v0 v1 v2 s∧Stp w wr (w.heap.size+1) u0 v0 u1 v1 s∧u0<18446744073709551616∧v0<18446744073709551616∧u1<18446744073709551616∧v1<18446744073709551616∧p≤x0)) (fun _ q _ _ _=>(intOf q).toNat)
 case atStart=>exact⟨x0,y0,0,1,0,0,0,1,false,rfl,rfl,rfl,rfl,⟨Fs.start HH.out.2.1,S0.out,by omega,by omega,by omega,by omega,Nat.le_refl _⟩⟩
 case round=>
  clear S0;obtain⟨p,q,u0,u1,u2,v0,v1,v2,s,rfl,rfl,rfl,rfl,hh⟩:=hrel;have st:=hh.out.2.1;have c0:=st.row.cell (i:=0) (by omega);have c1:=st.row.cell (i:=1) (by omega);have c2:=st.row.cell (i:=2) (by omega);have c3:=st.row.cell (i:=3) (by omega);have c4:=st.row.cell (i:=4) (by omega);simp only[stepCells]at c0 c1 c2 c3 c4;have f0:=st.row.frozen 0;have f1:=st.row.frozen 1;have f2:=st.row.frozen 2;have f3:=st.row.frozen 3;have f4:=st.row.frozen 4;have hqp:=hh.out.1.qp;have hp:=hh.out.2.2.2.2.2.2;have hx:=HH.out.1;have hv2:=hh.out.1.pos;clear st;by_cases k1:v2≤q
  ·have t1:decide (v2≤q)=true:=decide_eq_true k1;obtain⟨n1,n2,n3,n4,n5⟩:=hh.out.1.next_le k1;have hyx:=HH.out.2.1;have hpq:IntKind.u64.wrap ((p:Int)- (q:Int))=((p-q:Nat):Int):=DT _ _ (by omega) (by omega);have hvv:IntKind.u64.wrap ((v1:Int)+(v2:Int))=((v1+v2:Nat):Int):=DT _ _ (by omega) (by omega);by_cases k2:v1+v2≤p-q
   ·have t2:decide (v1+v2≤p-q)=true:=decide_eq_true k2;have t3:decide ((v1:Int)+(v2:Int)≤((p-q:Nat):Int))=true:=decide_eq_true (by omega);have N:Hid _:=hh.out.1.step HH.out.2.2.1 HH.out.2.2.2.1 HH.out.2.2.2.2.1 HH.out.2.2.2.2.2 k1 k2;have ST:Hid _:=hh.out.2.1.step u2 v2;have hmod:p%q<q:=Nat.mod_lt _ (by omega);have bu2:u2<18446744073709551616:=by have:=hh.out.1.l2;omega
    have bv2:v2<18446744073709551616:=by omega
    have e1:(p:Int)/(q:Int)=((p/q:Nat):Int):=by simp
    have e2:(p:Int)%(q:Int)=((p%q:Nat):Int):=by simp
    obtain⟨t,ht⟩:=nme (p/q);obtain⟨r,hr⟩:=nme (p%q);rw[←ht]at n1 n2 n4 n5 e1 N;rw[←hr]at e2 hmod N;clear ht hr;have m1:IntKind.u64.wrap ((t:Int)*(u2:Int))=((t*u2:Nat):Int):=DT _ _ (by simp) (by omega);have m2:IntKind.u64.wrap ((t:Int)*(v2:Int))=((t*v2:Nat):Int):=DT _ _ (by simp) (by omega);have m3:IntKind.u64.wrap ((u1:Int)+((t*u2:Nat):Int))=((u1+t*u2:Nat):Int):=DT _ _ (by simp) (by omega);have m4:IntKind.u64.wrap ((v1:Int)+((t*v2:Nat):Int))=((v1+t*v2:Nat):Int):=DT _ _ (by simp) (by omega);have hq0:((q:Int)==0)=false:=by simp;omega
    have wt:IntKind.u64.wrap (t:Int)=(t:Int):=DT _ _ rfl (by
     have:t*1≤t*v2:=Nat.mul_le_mul_left _ hv2;omega)
    have M3:Hid (IntKind.u64.wrap ((u1:Int)+(t:Int)*(u2:Int))=((u1+t*u2:Nat):Int)):=DT _ _ (by simp) (by omega);have M4:Hid (IntKind.u64.wrap ((v1:Int)+(t:Int)*(v2:Int))=((v1+t*v2:Nat):Int)):=DT _ _ (by simp) (by omega);have HB:Hid (u2<18446744073709551616∧v2<18446744073709551616∧q≤x0):=⟨bu2,bv2,by omega⟩;clear n1 n2 n3 n4 n5 k1 k2 hqp hp hx hv2 bu2 bv2 hyx;go_wp2_with fail
    go_region
    go_wp2_with fail
    go_roundw
    case rel=>
     refine⟨q,r,u1,u2,u1+t*u2,v1,v2,v1+t*v2, !s,rfl,?_,?_,?_,⟨N.out,ST.out.drew,hh.out.2.2.2.2.1,hh.out.2.2.2.2.2.1,HB.out.1,HB.out.2.1,HB.out.2.2⟩⟩
     ·rw[e2]
     ·rw[M3.out]
     rw[M4.out]
    case measure=>simp[intOf];omega
   have t2:decide (v1+v2≤p-q)=false:=decide_eq_false k2;have t3:decide ((v1:Int)+(v2:Int)≤((p-q:Nat):Int))=false:=decide_eq_false (by omega);have R0:=hh.out.2.1.res.cell (i:=0) (by omega);have r0:=hh.out.2.1.res.frozen 0;have R1:=hh.out.2.1.res.cell (i:=1) (by omega);have r1:=hh.out.2.1.res.frozen 1;have R2:=hh.out.2.1.res.cell (i:=2) (by omega);have r2:=hh.out.2.1.res.frozen 2;have R3:=hh.out.2.1.res.cell (i:=3) (by omega);have r3:=hh.out.2.1.res.frozen 3;have R4:=hh.out.2.1.res.cell (i:=4) (by omega);have r4:=hh.out.2.1.res.frozen 4;simp only[stepCells]at R0 R1 R2 R3 R4;clear n1 n2 n3 n4 n5 k1 k2 hqp hp hx hv2 hyx;go_wp2_with fail
   refine bodyPost_ret (v:=.agg #[.int .u64 (u0:Int),.int .u64 (v0:Int),.int .u64 (u1:Int),.int .u64 (v1:Int),.bool s]) (by simp[results,Tryz.results176,go_sem,R0,R1,R2,R3,R4]) rfl ⟨u0,v0,u1,v1,s,rfl,⟨p,q,u2,v2,hh.out.1⟩,⟨hh.out.2.2.1,hh.out.2.2.2.1,hh.out.2.2.2.2.1,hh.out.2.2.2.2.2.1⟩,?_⟩;exact((((hh.out.2.1.bel.setCell (p:=⟨w.heap.size,0,none⟩) (Nat.le_refl _) _).setCell (p:=⟨w.heap.size,1,none⟩) (Nat.le_refl _) _).setCell (p:=⟨w.heap.size,2,none⟩) (Nat.le_refl _) _).setCell (p:=⟨w.heap.size,3,none⟩) (Nat.le_refl _) _).setCell (p:=⟨w.heap.size,4,none⟩) (Nat.le_refl _) _
  have t1:decide (v2≤q)=false:=decide_eq_false k1;have R0:=hh.out.2.1.res.cell (i:=0) (by omega);have r0:=hh.out.2.1.res.frozen 0;have R1:=hh.out.2.1.res.cell (i:=1) (by omega);have r1:=hh.out.2.1.res.frozen 1;have R2:=hh.out.2.1.res.cell (i:=2) (by omega);have r2:=hh.out.2.1.res.frozen 2;have R3:=hh.out.2.1.res.cell (i:=3) (by omega);have r3:=hh.out.2.1.res.frozen 3;have R4:=hh.out.2.1.res.cell (i:=4) (by omega);have r4:=hh.out.2.1.res.frozen 4;simp only[stepCells]at R0 R1 R2 R3 R4;clear k1 hqp hp hx hv2;go_wp2_with fail
  refine bodyPost_ret (v:=.agg #[.int .u64 (u0:Int),.int .u64 (v0:Int),.int .u64 (u1:Int),.int .u64 (v1:Int),.bool s]) (by simp[results,Tryz.results176,go_sem,R0,R1,R2,R3,R4]) rfl ⟨u0,v0,u1,v1,s,rfl,⟨p,q,u2,v2,hh.out.1⟩,⟨hh.out.2.2.1,hh.out.2.2.2.1,hh.out.2.2.2.2.1,hh.out.2.2.2.2.2.1⟩,?_⟩;exact((((hh.out.2.1.bel.setCell (p:=⟨w.heap.size,0,none⟩) (Nat.le_refl _) _).setCell (p:=⟨w.heap.size,1,none⟩) (Nat.le_refl _) _).setCell (p:=⟨w.heap.size,2,none⟩) (Nat.le_refl _) _).setCell (p:=⟨w.heap.size,3,none⟩) (Nat.le_refl _) _).setCell (p:=⟨w.heap.size,4,none⟩) (Nat.le_refl _) _
theorem NS{x:Nat}(h:x≠0):0<bitLen x:=by
 rcases Nat.eq_zero_or_pos (bitLen x)with e|e
 ·have:=C4 x;rw[e]at this;omega
 exact e
theorem Kp(a:Option Addr)(m cap:Nat)(G:Nat→Nat)(n r:Nat)(at':Int)(w:World)(h:Sl w a m cap G)(hat:at'=(n:Int)+1)(hn:n≤4294967296)(hm:m≤4294967296)(hr:r≤63):
  Calls Tryz.prog 190 #[.slice a m cap,.int .i64 at',.int .i64 (r:Int)] w fun e w'=>e=.returned (.int .u64 ((JW G m n r:Nat):Int))∧ ∃k,w'=w.drewN k:=by
 subst hat
 have hO:Hid (Ok G m):=h.2.2.1;have FIN: ∀f l:Nat,Am G m 0 (n+1)=f→Am G m 0 n=l→Hid (bits .or .u64 (IntKind.u64.wrap ((f:Int)*2^r)) ((l/2^(64-r):Nat):Int)=((JW G m n r:Nat):Int)):=by
  intro f l h1 h2;have hl:l<18446744073709551616:=by rw[←h2];exact Jb (n:=n+1) hO.out n (by omega)
  show _=_;rw[Wj f l r hl hr];unfold JW;rw[h1,h2]
 have hr1:(0:Int)≤r:=by omega
 have hr2:(r:Int)≤63:=by omega
 have hr3:(0:Int)≤64- (r:Int):=by omega
 by_cases h1:n+1<m
 ·obtain⟨b,o,rfl,hw⟩:=h.at n (by omega);have hc1:=hw (n+1) h1;have hc2:=hw n (by omega);have F1:=FIN (G (n+1)) (G n) (by rw[BU (by omega),Nat.zero_add]) (by rw[BU (by omega),Nat.zero_add]);clear h hw FIN;go_enter Tryz.func190,Tryz.ntmps190
  go_wp2_with fail
  go_region
  go_wp2_with fail
  go_ret
  exact⟨Ba (by rw[ET];exact F1.out),1,rfl⟩
 by_cases h2:n<m
 ·obtain⟨b,o,rfl,hw⟩:=h.at n (by omega);have hc2:=hw n (by omega);have F1:=FIN 0 (G n) (by rw[BH (by omega)]) (by rw[BU (by omega),Nat.zero_add]);have t1:decide ((n:Int)+1<(m:Int))=false:=decide_eq_false (by omega);clear h hw FIN;go_enter Tryz.func190,Tryz.ntmps190
  go_wp2_with fail
  go_region
  go_wp2_with fail
  go_ret
  exact⟨Ba (by rw[ET];have:=F1.out;rw[show IntKind.u64.wrap (((0:Nat):Int)*2^r)=0 by simp[IntKind.wrap_u64]]at this;exact this),1,rfl⟩
 have F1:=FIN 0 0 (by rw[BH (by omega)]) (by rw[BH (by omega)]);have t1:decide ((n:Int)+1<(m:Int))=false:=decide_eq_false (by omega);have t2:decide (n<m)=false:=decide_eq_false (by omega);clear h FIN;go_enter Tryz.func190,Tryz.ntmps190
 go_wp2_with fail
 go_region
 go_wp2_with fail
 go_ret
 exact⟨Ba (by have:=F1.out;rw[show IntKind.u64.wrap (((0:Nat):Int)*2^r)=0 by simp[IntKind.wrap_u64],Nat.zero_div]at this;exact this),1,rfl⟩
def Vd(w:World)(x y:Nat)(e:Ending)(w':World):Prop:=
 ∃k:Nat,e=.returned (.tuple #[.int .u64 ((x/2^k:Nat):Int),.int .u64 ((y/2^k:Nat):Int)])∧x/2^k<18446744073709551616∧Below w.heap.size w w'
theorem NT(v u:Value)(x y:Nat)(w:World)(h:Ac w v x)(k:Ac w u y)(hx:AE x)(hyx:y≤x)(hy:18446744073709551616≤y):
  Calls Tryz.prog 177 #[v,u] w (Vd w x y):=by
 have hfy:AE y:=⟨Nat.lt_of_le_of_lt hyx hx.lt⟩;obtain⟨ax,n0,cap,rfl⟩:=h.isAgg;obtain⟨ay,m,cap',rfl⟩:=k.isAgg;obtain⟨F,hs,h0,h1,hv⟩:=h.fits;obtain⟨G,ks,k0,k1,kv⟩:=k.fits;have hn:n0≤4294967296:=Bb (hv.symm▸hx) h1;have hm:m≤4294967296:=Bb (kv.symm▸hfy) k1;have hn2:2≤n0:=by
  rcases Nat.lt_or_ge n0 2 with hh|hh
  ·have h5:=(Hr hs h1).2 (by omega);omega
  exact hh
 obtain⟨n,rfl⟩: ∃n,n0=n+2:=⟨n0-2,by omega⟩;have hmn:m≤n+2:=by
  refine Cd (m:=n+2) (F:=G) ?_ k1;rw[kv];exact Nat.lt_of_le_of_lt hyx (hv▸Cx hs.2.2.1)
 obtain⟨b,o,rfl,hw⟩:=hs.at 0 (by omega);have hc:=hw (n+1) (by omega);have hF1:F (n+1)<18446744073709551616:=hs.2.2.1 _ (by omega);have hb0:F (n+1)≠0:=by have:=h1 (by omega);simpa using this
 have hbl:=JT (F:=F) (n:=n+1) hs.2.2.1 hb0;rw[hv]at hbl;have hbp:=NS hb0;have hb64:=Du _ hF1;obtain⟨r,hr⟩: ∃r,r=64-bitLen (F (n+1)):=⟨_,rfl⟩;have hlx:x<2^(64*(n+2)-r):=by
  have:=C4 x;rw[hbl]at this;rw[show 64*(n+2)-r=64*(n+1)+bitLen (F (n+1)) by omega];exact this
 have W1:=OG (G:=F) (m:=n+2) (n:=n) (r:=r) hs.2.2.1 (Nat.le_refl _) (by omega) (by rw[hv];exact hlx);have W2:=OG (G:=G) (m:=m) (n:=n) (r:=r) ks.2.2.1 hmn (by omega) (by rw[kv];exact Nat.lt_of_le_of_lt hyx hlx);rw[hv]at W1;rw[kv]at W2;have HH:Hid (Sl w (some ⟨b,o,none⟩) (n+2) cap F∧Sl w ay m cap' G∧JW F (n+2) n r=x/2^(64*(n+1)-r)∧JW G m n r=y/2^(64*(n+1)-r)∧x/2^(64*(n+1)-r)<18446744073709551616∧r≤63∧bitLen (F (n+1))=64-r):=⟨hs,ks,W1.1,W2.1,W1.2,by omega,by omega⟩;have hlt:b<w.heap.size:=World.block_lt_of_cell? _ _ hc;have hrr:64-bitLen (F (n+1))=r:=hr.symm;clear hs h0 h1 hv ks k0 k1 kv hx hfy h k W1 W2 hlx hbl hyx hy hr hbp hb64 hw hb0;go_enter Tryz.func177,Tryz.ntmps177
 go_wp2_with fail
 refine(Mv (F (n+1)) _ hF1).mono ?_;rintro e w1 ⟨rfl,hw1⟩;rw[hw1,hrr];clear hw1 w1 hrr;have HB:Hid (Below w.heap.size w ((w.alloc (.cells #[.slice (some ⟨b,o,none⟩) (n+2) cap] 103)).alloc (.cells #[.slice ay m cap'] 103))):=Ao _ _ _;go_wp2_with fail
 go_quiet ((go_at_call 190;first|exact Calls.quiet_of (Kp _ _ _ F n r _ _ (HH.out.1.mono (Bd HB.out _)) (by omega) (by omega) (by omega) HH.out.2.2.2.2.2.1)|exact Calls.quiet_of (Kp _ _ _ G n r _ _ (HH.out.2.1.mono (Bd HB.out _)) (by omega) (by omega) (by omega) HH.out.2.2.2.2.2.1)))
 go_wp2_with fail
 rw[HH.out.2.2.1,HH.out.2.2.2.1];go_ret2
 exact⟨64*(n+1)-r,rfl,HH.out.2.2.2.2.1,Bd HB.out _⟩
theorem Kq(x y:Nat)(w:World)(hx:x<18446744073709551616)(hy:y<18446744073709551616):
  Calls Tryz.prog 179 #[.int .u64 (x:Int),.int .u64 (y:Int)] w fun e w'=>e=.returned (.int .u64 ((Nat.gcd x y:Nat):Int))∧ ∃n,w'=w.drewN n:=by
 go_enter Tryz.func179,Tryz.ntmps179
 go_wp2_with fail
 go_loopw [0,1] (fun p q wr=> ∃(a b nd:Nat),p=.int .u64 (a:Int)∧q=.int .u64 (b:Int)∧Hid (a<18446744073709551616∧b<18446744073709551616∧Nat.gcd a b=Nat.gcd x y)∧wr=w.drewN nd) (fun _ q _=>(intOf q).toNat)
 case atStart=>exact⟨x,y,0,rfl,rfl,⟨hx,hy,rfl⟩,rfl⟩
 case round=>
  obtain⟨a,b,nd,rfl,rfl,hh,rfl⟩:=hrel;by_cases hb:b=0
  ·subst hb;go_wp2_with fail
   go_ret
   refine⟨Ba ?_,nd,rfl⟩;rw[←hh.out.2.2,Nat.gcd_zero_right]
  have hb1:((b:Int) != 0)=true:=by simp;omega
  have hb2:((b:Int)==0)=false:=by simp;omega
  have hb0:(0:Int)<b:=by omega
  have hlt:a%b<b:=Nat.mod_lt _ (by omega);have hbb:b<18446744073709551616:=hh.out.2.1;go_wp2_with fail
  go_region
  go_wp2_with fail
  go_roundw
  case rel=>
   refine⟨b,a%b,nd+1,rfl,by simp,⟨hh.out.2.1,by omega,?_⟩,rfl⟩;rw[←hh.out.2.2,Nat.gcd_comm a b,Nat.gcd_rec b a,Nat.gcd_comm]
  case measure=>simp[intOf];omega
def Dz(x p:Nat):Nat:=48+x/10^p%10
theorem Tt(x p:Nat):Dz x p<256:=by have:=Nat.mod_lt (x/10^p) (show 0<10 by omega);unfold Dz;omega
theorem LJ(x p q:Nat):Dz (x/10^q) p=Dz x (q+p):=by unfold Dz;rw[Nat.div_div_eq_div_mul,←Nat.pow_add]
theorem LL(x p q:Nat)(h:p<q):Dz (x%10^q) p=Dz x p:=by
 unfold Dz;obtain⟨t,rfl⟩: ∃t,q=p+(t+1):=⟨q-p-1,by omega⟩;rw[Nat.pow_add,Nat.mod_mul_right_div_self];rw[Nat.mod_mod_of_dvd _ ⟨10^t,by rw[Nat.pow_succ,Nat.mul_comm]⟩]
def Bt(D D':Nat→Nat)(o n k x:Nat):Prop:=(∀i,k≤i→i<n→D' (o+i)=Dz x (n-1-i))∧ ∀j,j<o+k∨o+n≤j→D' j=D j
theorem Bt.start(D:Nat→Nat)(o n x:Nat):Bt D D o n n x:=⟨fun i h1 h2=>absurd h2 (by omega),fun _ _=>rfl⟩
theorem Bt.step{D D':Nat→Nat}{o n t x:Nat}(h:Bt D D' o n (t+1) x)(ht:t<n):Bt D (put D' (o+t) (Dz x (n-1-t))) o n t x:=by
 refine⟨fun i h1 h2=> ?_,fun j hj=> ?_⟩
 ·by_cases e:i=t
  ·subst e;exact AN _ _ _
  rw[Ar _ _ (by omega)];exact h.1 i (by omega) h2
 rw[Ar _ _ (by omega)];exact h.2 j (by omega)
theorem IU(b N o n cap c:Nat)(D:Nat→Nat)(w:World)(hD:Bv w b N D)(ho:o+n≤N)(hn:n≤1099511627776)(hc:c<18446744073709551616):
  Calls Tryz.prog 185 #[.slice (some ⟨b,o,none⟩) n cap,.int .u64 (c:Int)] w fun e w'=>e=.returned (.tuple #[])∧ ∃D',Bv w' b N D'∧Bt D D' o n 0 c∧w.grownBy w' (some b):=by
 have A0:Hid _:=hD;clear hD;go_enter Tryz.func185,Tryz.ntmps185
 go_wp2_with fail
 go_loopw [1,4] (fun cv t wr=> ∃(k:Nat) (D':Nat→Nat),k≤n∧t=.int .i64 ((k:Int)-1)∧cv=.int .u64 ((c/10^(n-k):Nat):Int)∧Bv wr b N D'∧Bt D D' o n k c∧w.grownBy wr (some b)) (fun _ t _=>(intOf t+1).toNat)
 case atStart=>exact⟨n,D,Nat.le_refl _,rfl,by simp,A0.out,Bt.start _ _ _ _,World.grownBy.refl _ _⟩
 case round=>
  obtain⟨k,D',hk,rfl,rfl,hA⟩:=hrel;by_cases hk0:k=0
  ·subst hk0;have HA:Hid _:=hA;clear hA;go_wp2_with fail
   exact bodyPost_end (v:=.tuple #[]) (by simp[results,Tryz.results185,go_sem]) rfl ⟨rfl,D',HA.out⟩
  obtain⟨t,rfl⟩: ∃t,k=t+1:=⟨k-1,by omega⟩;have hc2:wr.cell? ⟨b,o+t,none⟩=some (.int .u8 (D' (o+t):Nat)):=hA.1.cell (by omega);have hf2:wr.frozen? ⟨b,o+t,none⟩=false:=hA.1.frozen _;have HA:Hid _:=hA;obtain⟨c',e'⟩: ∃c',c'=c/10^(n- (t+1)):=⟨_,rfl⟩;have hc':c'<18446744073709551616:=by rw[e'];exact Nat.lt_of_le_of_lt (Nat.div_le_self _ _) hc
  rw[←e'];have HE:Hid _:=e';clear hA e';go_wp2_with fail
  go_roundw
  case rel=>
   have hd:c'%10=c'%10∧48+c'%10=Dz c (n-1-t)∧c'/10=c/10^(n-t):=by
    refine⟨rfl,?_,?_⟩
    ·rw[HE.out];unfold Dz;rw[show n-1-t=n- (t+1) by omega]
    rw[HE.out,Nat.div_div_eq_div_mul,←Nat.pow_succ,show(n- (t+1)).succ=n-t by omega]
   have hb:=HA.out.1.set (o+t) (Tt c (n-1-t));rw[←hd.2.1]at hb;refine⟨t,put D' (o+t) (48+c'%10),by omega,by go_num,?_,?_,?_,?_⟩
   ·rw[←hd.2.2];simp
   ·have:=hb;simpa using this
   ·rw[hd.2.1];exact HA.out.2.1.step (by omega)
   exact AZ _ HA.out.2.2 _ _
  case measure=>simp[intOf]
theorem Bt.chunk{D D' D'':Nat→Nat}{o n j x lo e:Nat}(h:Bt D D' o n (n-19*j) x)(he:e=n-19*j)(hlo:lo=e-19)(k:Bt D' D'' (o+lo) (e-lo) 0 (x/10000000000000000000^j%10000000000000000000)):Bt D D'' o n (n-19*(j+1)) x:=by
 have hp:(10000000000000000000:Nat)=10^19:=by decide
 refine⟨fun i h1 h2=> ?_,fun i hi=> ?_⟩
 ·rcases Nat.lt_or_ge i e with hh|hh
  ·have:=k.1 (i-lo) (by omega) (by omega);rw[show o+lo+(i-lo)=o+i by omega]at this;rw[this,hp,LL _ _ _ (by omega),←Nat.pow_mul,LJ];congr 1
   omega
  rw[k.2 _ (by omega)];exact h.1 i (by omega) h2
 rw[k.2 _ (by omega)];exact h.2 i (by omega)
theorem Bv.kept{w w':World}{b N:Nat}{D:Nat→Nat}{r:Option Nat}(h:Bv w b N D)(g:w.grownBy w' r)(hne:some b≠r):Bv w' b N D:=⟨h.1.of_block (g.block b h.1.lt hne),h.2⟩
theorem IA{a b c:World}{r r':Option Nat}(h:a.grownBy b r)(k:b.grownBy c r')(hr: ∀j,r'=some j→a.heap.size≤j∨r=some j):a.grownBy c r:=by
 refine⟨k.os.trans h.os,k.tape.trans h.tape,k.output.trans h.output,Nat.le_trans h.size k.size,fun i hi hn=> ?_⟩;refine(k.block i (Nat.lt_of_lt_of_le hi h.size) ?_).trans (h.block i hi hn);intro e;rcases hr i e.symm with hh|hh
 ·omega
 exact hn hh.symm
theorem FY{a b:World}(h:Below a.heap.size a b)(r:Option Nat):a.grownBy b r:=⟨h.os,h.tape,h.output,h.size,fun i hi _=>h.block i hi⟩
theorem Me(b N o n cap:Nat)(v:Value)(x:Nat)(D:Nat→Nat)(w:World)(hD:Bv w b N D)(ho:o+n≤N)(hn:n≤1099511627776)(hcap:n≤cap)(hcap2:cap≤1099511627776)(h:Ac w v x)(hx:AE x):
  Calls Tryz.prog 165 #[.slice (some ⟨b,o,none⟩) n cap,v] w fun e w'=>e=.returned (.tuple #[])∧ ∃D',Bv w' b N D'∧Bt D D' o n 0 x∧w.grownBy w' (some b):=by
 obtain⟨a,m,c,rfl⟩:=h.isAgg;obtain⟨F,hs,h0,h1,hv⟩:=h.fits;have hm:m≤4294967296:=Bb (hv.symm▸hx) h1;have HS:Hid (Sl w a m c F∧V F m=x):=⟨hs,hv⟩;have A0:Hid (Bv w b N D):=hD;have mk:=Cy (m:Int) (m:Int) m m rfl rfl (Nat.le_refl _) (by omega);clear hD h hx hs h0 h1 hv;go_enter Tryz.func165,Tryz.ntmps165
 go_wp2_with (refine(id ?_:wpList Tryz.prog _ _ (⟨some 14,_,_,_,_,_⟩::_) _ _);refine Cs rfl (.tmp 11) (.tmp 13) rfl _ _ _ _ _ _ _ rfl rfl m (fun _=>0) F (Bh _ m _ (by simp)) (HS.out.1.mono (Ao _ _ _)) (by omega) (by omega) ?_)
 intro w2 hR2 hg2;have B2:Below w.heap.size w w2:=(Ao w _ _).grown hg2 (by simp<;>omega) (fun k hk=>by cases hk;omega);have hlb:b<w.heap.size:=A0.out.1.lt;have I0:Hid (Bv w2 b N D∧Row w2 (w.heap.size+1) m (over (fun _=>0) 0 F m)∧w.grownBy w2 (some b)):=⟨A0.out.below B2,hR2,FY B2 _⟩;have HV:Hid _:=HS.out.2;clear hR2 hg2 B2 HS A0 mk;go_wp2_with fail
 go_loopw [5] (fun t wr=> ∃(j:Nat) (H D':Nat→Nat),19*j<n+19∧t=.int .i64 ((n:Int)-19*j)∧Row wr (w.heap.size+1) m H∧V H m=x/10000000000000000000^j∧Bv wr b N D'∧Bt D D' o n (n-19*j) x∧w.grownBy wr (some b)) (fun t _=>(intOf t).toNat)
 case atStart=>
  refine⟨0,_,D,by omega,by simp,I0.out.2.1,?_,I0.out.1,Bt.start _ _ _ _,I0.out.2.2⟩;rw[FD,HV.out];simp
 case round=>
  clear I0;obtain⟨j,H,D',hj,rfl,hA⟩:=hrel;have HA:Hid _:=hA;clear hA;by_cases hk0:n≤19*j
  ·go_wp2_with fail
   refine bodyPost_end (v:=.tuple #[]) (by simp[results,Tryz.results165,go_sem]) rfl ⟨rfl,D',HA.out.2.2.1,?_,HA.out.2.2.2.2⟩;have:=HA.out.2.2.2.1;rw[show n-19*j=0 by omega]at this;exact this
  go_wp2_with fail
  refine(EN (w.heap.size+1) m 0 m m 10000000000000000000 H wr HA.out.1 (by omega) (by omega) (by omega) (by omega)).mono ?_;rintro e w3 ⟨q,rfl,H',hD⟩;obtain⟨e1,e2⟩:=hD.fin;rw[AX,AX,HA.out.2.1,Nat.div_div_eq_div_mul,←Nat.pow_succ]at e1;rw[AX,HA.out.2.1]at e2;have hg3:=hD.2.2.2.2;have hql:q<18446744073709551616:=by rw[e2];exact Nat.lt_trans (Nat.mod_lt _ (by omega)) (by omega)
  have I3:Hid (Row w3 (w.heap.size+1) m H'∧V H' m=x/10000000000000000000^(j+1)∧Bv w3 b N D'∧w.grownBy w3 (some b)∧Bt D D' o n (n-19*j) x∧q=x/10000000000000000000^j%10000000000000000000):=⟨hD.1,e1,HA.out.2.2.1.kept hg3 (by intro h;cases h;omega),IA HA.out.2.2.2.2 hg3 (fun k hk=>by cases hk;omega),HA.out.2.2.2.1,e2⟩;clear hD e1 e2 hg3 HA;obtain⟨el,hel⟩:=nme (n-19*j);obtain⟨lo,hlo⟩:=nme (el-19);have hz1:(n:Int)-19*(j:Int)=(el:Int):=by omega
  rw[hz1];have hmx:max (0:Int) ((el:Int)-19)=(lo:Int):=by omega
  have hel2:el≤n:=by omega
  have hel3:0<el:=by omega
  have hto:((el:Int)-19).toNat=lo:=by omega
  have HL:Hid (el=n-19*j∧lo=el-19∧((el:Int)-19).toNat=lo):=⟨hel,hlo,hto⟩;clear hel hlo hmx hz1 hto hk0 hj;go_wp2_with fail
  all_goals have hll:=HL.out.2.1
  ·rw[HL.out.2.2];refine(IU b N (o+lo) (el-lo) (cap-lo) q D' w3 I3.out.2.2.1 (by omega) (by omega) hql).mono ?_;rintro e w4 ⟨rfl,D'',hb4,hf4,hg4⟩;have I4:Hid _:=hf4;have I5:Hid _:=hg4;have I6:Hid _:=hb4;clear hf4 hg4 hb4;go_wp2_with fail
   go_roundw
   case rel=>
    have hel:=HL.out.1;refine⟨j+1,H',D'',by omega,by simp;omega,Row.kept I3.out.1 I5.out (by intro h;cases h;omega),I3.out.2.1,I6.out,?_,IA I3.out.2.2.2.1 I5.out (fun k hk=>Or.inr hk)⟩;have:=I4.out;rw[I3.out.2.2.2.2.2]at this;exact I3.out.2.2.2.2.1.chunk hel hll this
   case measure=>
    have hel:=HL.out.1;simp[intOf];omega
  have HL0:Hid (0=el-19):=(by omega:0=el-19);clear hll;refine(IU b N o el cap q D' w3 I3.out.2.2.1 (by omega) (by omega) hql).mono ?_;rintro e w4 ⟨rfl,D'',hb4,hf4,hg4⟩;have I4:Hid _:=hf4;have I5:Hid _:=hg4;have I6:Hid _:=hb4;clear hf4 hg4 hb4;go_wp2_with fail
  go_roundw
  case rel=>
   have hel:=HL.out.1;refine⟨j+1,H',D'',by omega,by simp;omega,Row.kept I3.out.1 I5.out (by intro h;cases h;omega),I3.out.2.1,I6.out,?_,IA I3.out.2.2.2.1 I5.out (fun k hk=>Or.inr hk)⟩;have:=I4.out;rw[I3.out.2.2.2.2.2]at this;exact I3.out.2.2.2.2.1.chunk (lo:=0) hel HL0.out this
  case measure=>
   have hel:=HL.out.1;simp[intOf];omega
end Go.Proofs.YtbikpmmpgbggaaaGreatDoor
