/- Contracts of the program's functions, part 5: own work, joined in build order. -/
import Derived.Test.YtcbjkgphpnihiaaGreatDoorJ4
import Derived.Deep.RegionHeld3
import Derived.Deep.AppendLies
import Derived.LoopN
namespace Go.Proofs.YtcbjkgphpnihiaaGreatDoor
open Go.RowKit
set_option maxRecDepth 100000
set_option linter.unusedVariables false
set_option maxHeartbeats 16000000
def sg(s:Bool):Int:=if s then -1 else 1
theorem Mb:sg false=1:=rfl
theorem Oa:sg true= -1:=rfl
theorem Kh{u v q X B:Nat}(h:u≤v)(hq:v≤q)(hX:X<B):u*X+v≤q*B:=by
 have h1:u*X≤v*X:=Nat.mul_le_mul_right _ h;have h2:v*(X+1)≤q*B:=Nat.mul_le_mul hq hX;rw[Nat.mul_add]at h2;omega
structure Fs (X Y x0 y0 p q u0 u1 u2 v0 v1 v2:Nat) (s:Bool):Prop where
 hp:(p:Int)=sg s*(u1*x0-v1*y0)
 hq:(q:Int)= - (sg s*(u2*x0-v2*y0))
 i1:v2*p+v1*q=x0
 i2:u2*p+u1*q=y0
 l2:u2≤v2
 l12:u1+u2≤v1+v2
 pos:1≤v2
 qp:q≤p
 det:sg s*((u1:Int)*v2-v1*u2)=1
 zero:v1=0→u1=1∧u2=0∧v2=1∧s=false∧v0=0
 a1:0≤sg s*((u1:Int)*X-v1*Y)
 a1Y:v1≠0→sg s*((u1:Int)*X-v1*Y)≤Y
 a0:v0≠0→ - (sg s*((u0:Int)*X-v0*Y))≤Y∧sg s*((u1:Int)*X-v1*Y)< - (sg s*((u0:Int)*X-v0*Y))∧sg s*((v0:Int)*u1-u0*v1)=1
theorem Fs.start{X Y x0 y0:Nat}(h:y0≤x0):Fs X Y x0 y0 x0 y0 0 1 0 0 0 1 false:=by
 constructor<;>(try simp[sg])<;>omega
theorem E5(s:Bool):sg (!s)= -sg s:=by cases s<;>rfl
theorem Fs.real{X Y x0 y0 B X' Y' p q u0 u1 u2 v0 v1 v2:Nat}{s:Bool}(h:Fs X Y x0 y0 p q u0 u1 u2 v0 v1 v2 s)(hX:X=x0*B+X')(hY:Y=y0*B+Y')(hX':X'<B)(hY':Y'<B)(c1:v2≤q)(c2:v1+v2≤p-q):
  0≤ - (sg s*((u2:Int)*X-v2*Y))∧ - (sg s*((u2:Int)*X-v2*Y))<sg s*((u1:Int)*X-v1*Y):=by
 have a1:=Kh h.l2 c1 hX';have a2:=Kh (Nat.le_refl v2) c1 hY';have a3:=Kh h.l12 c2 hX';have a4:=Kh (Nat.le_refl (v1+v2)) c2 hY';have hp:=h.hp;have hq:=h.hq;have hqp:=h.qp;have hpos:=h.pos;have e1:((p-q:Nat):Int)=p-q:=by omega
 have a1':(u2:Int)*X'+v2≤q*B:=by exact_mod_cast a1
 have a2':(v2:Int)*Y'+v2≤q*B:=by exact_mod_cast a2
 have a3':((u1:Int)+u2)*X'+(v1+v2)≤((p-q:Nat):Int)*B:=by exact_mod_cast a3
 have a4':((v1:Int)+v2)*Y'+(v1+v2)≤((p-q:Nat):Int)*B:=by exact_mod_cast a4
 rw[e1]at a3' a4';have n1:0≤(v2:Int)*Y':=Int.mul_nonneg (by omega) (by omega);have n2:0≤((u1:Int)+u2)*X':=Int.mul_nonneg (by omega) (by omega);have n3:0≤(u2:Int)*X':=Int.mul_nonneg (by omega) (by omega);have n4:0≤((v1:Int)+v2)*Y':=Int.mul_nonneg (by omega) (by omega);subst hX hY;cases s
 ·rw[Mb]at hp hq⊢;have E2: -(1*((u2:Int)*((x0*B+X':Nat):Int)-v2*((y0*B+Y':Nat):Int)))=q*B-u2*X'+v2*Y':=by
   push_cast;grind
  have E1:1*((u1:Int)*((x0*B+X':Nat):Int)-v1*((y0*B+Y':Nat):Int))=p*B+u1*X'-v1*Y':=by
   push_cast;grind
  rw[E1,E2];clear hp hq E1 E2 h a1 a2 a3 a4;grind
 rw[Oa]at hp hq⊢;have E2: -(-1*((u2:Int)*((x0*B+X':Nat):Int)-v2*((y0*B+Y':Nat):Int)))=q*B+u2*X'-v2*Y':=by
  push_cast;grind
 have E1: -1*((u1:Int)*((x0*B+X':Nat):Int)-v1*((y0*B+Y':Nat):Int))=p*B-u1*X'+v1*Y':=by
  push_cast;grind
 rw[E1,E2];clear hp hq E1 E2 h a1 a2 a3 a4;grind
theorem Fs.step{X Y x0 y0 B X' Y' p q u0 u1 u2 v0 v1 v2:Nat}{s:Bool}(h:Fs X Y x0 y0 p q u0 u1 u2 v0 v1 v2 s)(hX:X=x0*B+X')(hY:Y=y0*B+Y')(hX':X'<B)(hY':Y'<B)(c1:v2≤q)(c2:v1+v2≤p-q):
  Fs X Y x0 y0 q (p%q) u1 u2 (u1+p/q*u2) v1 v2 (v1+p/q*v2) (!s):=by
 obtain⟨r1,r2⟩:=h.real hX hY hX' hY' c1 c2;have hpos:=h.pos;have hq0:0<q:=by omega
 have hm:q*(p/q)+p%q=p:=Nat.div_add_mod p q;have hd:1≤p/q:=(Nat.le_div_iff_mul_le hq0).2 (by have:=h.qp;omega);generalize p/q=t at hm hd⊢;have hlt:p%q<q:=Nat.mod_lt _ hq0;generalize p%q=r at hm hlt⊢;have hp:=h.hp;have hq:=h.hq;have hmZ:(q:Int)*t+r=p:=by exact_mod_cast hm
 obtain⟨d,rfl⟩: ∃d,t=d+1:=⟨t-1,by omega⟩;have l12:=h.l12;have l2:=h.l2;have lx:d*u2≤d*v2:=Nat.mul_le_mul_left _ l2;have det:=h.det;refine⟨?_,?_,?_,?_,?_,?_,?_,Nat.le_of_lt hlt,?_,fun e=>absurd e (by omega),?_,fun _=> ?_,fun e=> ?_⟩
 ·rw[E5,hq];grind
 ·rw[E5];push_cast;grind
 ·have:=h.i1;grind
 ·have:=h.i2;grind
 ·grind
 ·grind
 ·grind
 ·rw[E5];push_cast;grind
 ·rw[E5];grind
 ·rw[E5];by_cases hv:v1=0
  ·obtain⟨z1,z2,z3,z4,z5⟩:=h.zero hv;subst z2 z3 z4;rw[Mb];grind
  have:=h.a1Y hv;grind
 rw[E5];refine⟨?_,?_,?_⟩
 ·have:=h.a1Y e;grind
 ·grind
 grind
theorem Fs.next_le{X Y x0 y0 p q u0 u1 u2 v0 v1 v2:Nat}{s:Bool}(h:Fs X Y x0 y0 p q u0 u1 u2 v0 v1 v2 s)(c1:v2≤q):v1+p/q*v2≤x0∧u1+p/q*u2≤y0∧v1+v2≤x0∧p/q*v2≤x0∧p/q*u2≤y0:=by
 have hpos:=h.pos;have hq0:0<q:=by omega
 have hm:q*(p/q)+p%q=p:=Nat.div_add_mod p q;have hd:1≤p/q:=(Nat.le_div_iff_mul_le hq0).2 (by have:=h.qp;omega);generalize p/q=t at hm hd⊢;generalize p%q=r at hm⊢;have i1:=h.i1;have i2:=h.i2;obtain⟨m,rfl⟩: ∃m,q=m+1:=⟨q-1,by omega⟩;obtain⟨d,rfl⟩: ∃d,t=d+1:=⟨t-1,by omega⟩;subst hm;refine⟨?_,?_,?_,?_,?_⟩<;>grind
theorem Fs.taken{X Y x0 y0 p q u0 u1 u2 v0 v1 v2:Nat}{s:Bool}(h:Fs X Y x0 y0 p q u0 u1 u2 v0 v1 v2 s)(hv:v0≠0):
  ∃A C:Nat,(A:Int)= - (sg s*((u0:Int)*X-v0*Y))∧(C:Int)=sg s*((u1:Int)*X-v1*Y)∧C<A∧A≤Y∧Nat.gcd A C=Nat.gcd X Y:=by
 obtain⟨b1,b2,b3⟩:=h.a0 hv;have b0:=h.a1;generalize hA: - (sg s*((u0:Int)*X-v0*Y))=A at b1 b2⊢;generalize hC:sg s*((u1:Int)*X-v1*Y)=C at b0 b2⊢;obtain⟨a,rfl⟩:=Int.eq_ofNat_of_zero_le (show 0≤A by omega);obtain⟨c,rfl⟩:=Int.eq_ofNat_of_zero_le b0;refine⟨a,c,rfl,rfl,by omega,by omega,?_⟩;have e1:X=v1*a+v0*c:=by
  have:(X:Int)=v1*a+v0*c:=by rw[←hA,←hC];grind
  exact_mod_cast this
 have e2:Y=u1*a+u0*c:=by
  have:(Y:Int)=u1*a+u0*c:=by rw[←hA,←hC];grind
  exact_mod_cast this
 refine Nat.dvd_antisymm (Nat.dvd_gcd ?_ ?_) (Nat.dvd_gcd ?_ ?_)
 ·rw[e1];exact Nat.dvd_add (Nat.dvd_mul_left_of_dvd (Nat.gcd_dvd_left _ _) _) (Nat.dvd_mul_left_of_dvd (Nat.gcd_dvd_right _ _) _)
 ·rw[e2];exact Nat.dvd_add (Nat.dvd_mul_left_of_dvd (Nat.gcd_dvd_left _ _) _) (Nat.dvd_mul_left_of_dvd (Nat.gcd_dvd_right _ _) _)
 ·refine Int.ofNat_dvd.1 ?_;rw[←hA];refine Int.dvd_neg.2 (Int.dvd_mul_of_dvd_right ?_);exact Int.dvd_sub (Int.dvd_mul_of_dvd_right (Int.ofNat_dvd.2 (Nat.gcd_dvd_left _ _))) (Int.dvd_mul_of_dvd_right (Int.ofNat_dvd.2 (Nat.gcd_dvd_right _ _)))
 refine Int.ofNat_dvd.1 ?_;rw[←hC];refine Int.dvd_mul_of_dvd_right ?_;exact Int.dvd_sub (Int.dvd_mul_of_dvd_right (Int.ofNat_dvd.2 (Nat.gcd_dvd_left _ _))) (Int.dvd_mul_of_dvd_right (Int.ofNat_dvd.2 (Nat.gcd_dvd_right _ _)))
def Gx(G:Nat→Nat)(m n r:Nat):Nat:=Ao G m 0 (n+1)*2^r%18446744073709551616+Ao G m 0 n/2^(64-r)
theorem OD{G:Nat→Nat}{m n:Nat}(h:m≤n):V (Ao G m 0) n=V G m:=by
 rw[GK h fun i h1 h2=>A6 (by omega)];exact A4 fun i hi=>by rw[Bb (by omega),Nat.zero_add]
theorem FC{G:Nat→Nat}{m n:Nat}(hG:Ok G m):Ok (Ao G m 0) n:=fun i _=>by
 by_cases h:0+i<m
 ·rw[Bb h];exact hG _ h
 rw[A6 h];omega
theorem JK{G:Nat→Nat}{m n r:Nat}(hG:Ok G m)(hm:m≤n+2)(hr:r≤63)(hlt:V G m<2^(64*(n+2)-r)):
  Gx G m n r=V G m/2^(64*(n+1)-r)∧V G m/2^(64*(n+1)-r)<18446744073709551616:=by
 have hU:Ok (Ao G m 0) (n+2):=FC hG;have e:=OD (G:=G) hm;unfold Gx;rw[←e]at hlt⊢;generalize Ao G m 0=U at hU hlt⊢;have h0:=BU (hU.mono (show n≤n+2 by omega));have h1:=hU n (by omega);have h2:=hU (n+1) (by omega);have ee:2^(64*(n+1)-r)=P n*2^(64-r):=by rw[DK,←Nat.pow_add,show 64*n+(64-r)=64*(n+1)-r by omega]
 have e2:2^(64*(n+2)-r)=P (n+1)*2^(64-r):=by rw[DK,←Nat.pow_add,show 64*(n+1)+(64-r)=64*(n+2)-r by omega]
 rw[At]at hlt⊢;rw[e2]at hlt;have hU1:U (n+1)<2^(64-r):=by
  refine Nat.lt_of_mul_lt_mul_left (a:=P (n+1)) ?_;rw[Nat.mul_comm (P (n+1)) (U (n+1))];omega
 have hb:U (n+1)*2^r<18446744073709551616:=by
  rw[CO r (by omega),Nat.mul_comm (2^r)];exact Nat.mul_lt_mul_of_pos_right hU1 (Nat.two_pow_pos r)
 rw[At,ee,←Nat.div_div_eq_div_mul];have e3:(V U n+U n*P n+U (n+1)*P (n+1))/P n=U n+U (n+1)*18446744073709551616:=by
  rw[Bo,show V U n+U n*P n+U (n+1)*(P n*18446744073709551616)=V U n+P n*(U n+U (n+1)*18446744073709551616) by grind,Nat.add_mul_div_left _ _ (CV n),Nat.div_eq_of_lt h0,Nat.zero_add]
 have e4:(U n+U (n+1)*18446744073709551616)/2^(64-r)=U (n+1)*2^r+U n/2^(64-r):=by
  rw[CO r (by omega),show U n+U (n+1)*(2^r*2^(64-r))=U n+2^(64-r)*(U (n+1)*2^r) by grind,Nat.add_mul_div_left _ _ (Nat.two_pow_pos _),Nat.add_comm]
 rw[e3,e4,Nat.mod_eq_of_lt hb];refine⟨rfl,?_⟩;have h3:U n/2^(64-r)<2^r:=by
  rw[Nat.div_lt_iff_lt_mul (Nat.two_pow_pos _),←CO r (by omega)];exact h1
 have h4:(U (n+1)+1)*2^r≤2^(64-r)*2^r:=Nat.mul_le_mul_right _ hU1;rw[Nat.mul_comm (2^(64-r)),←CO r (by omega),Nat.add_mul]at h4;omega
theorem Ob(f h r:Nat)(hh:h<18446744073709551616)(hr:r≤63):
  bits .or .u64 (IntKind.u64.wrap ((f:Int)*2^r)) ((h/2^(64-r):Nat):Int)=((f*2^r%18446744073709551616+h/2^(64-r):Nat):Int):=by
 have hd:h/2^(64-r)<2^r:=by
  rw[Nat.div_lt_iff_lt_mul (Nat.two_pow_pos _),←CO r (by omega)];exact hh
 have e:(f:Int)*2^r=((f*2^r:Nat):Int):=by rw[Int.natCast_mul,Ci]
 have hm:=F8 f r (by omega);have hor:f*2^r%18446744073709551616 ||| h/2^(64-r)=f*2^r%18446744073709551616+h/2^(64-r):=Fu _ _ r (by rw[hm];exact Nat.mul_mod_left _ _) hd;rw[e,Ey,bits_or_u64_nat _ _ (Nat.mod_lt _ (by omega)) (Nat.lt_of_le_of_lt (Nat.div_le_self _ _) hh),hor]
theorem Mc{w1 w2 w3 w4 w5 w6:World}{g lx ly N xa yb c c2 c3:Nat}{H H2 H3:Nat→Nat}(hx:lx<N)(hy:ly<N)(hle:yb≤xa)
  (p1:Er w1 w2 g N 0 (fun _=>0) xa lx c H) (p2:Ea w3 w4 g N 0 (put H lx c) yb ly c2 H2) (p3:Ct w5 w6 g N ly H2 c2 (N-ly) c3 H3):V H3 N=xa-yb:=by
 obtain⟨_,a2,_,a4,_⟩:=p1;obtain⟨_,b2,_,b4,_⟩:=p2;obtain⟨r3,d2,d3,d4,_⟩:=p3;have s1:V (put H lx c) N=xa:=by
  rw[GK (m:=lx+1) (by omega) fun i h1 h2=>by rw[Aq _ _ (by omega)];exact a2 i (by omega),At,AA];have:=A4 (F:=put H lx c) (G:=H) (n:=lx) fun i hi=>Aq _ _ (by omega);rw[this];rw[AB,AB,Dm]at a4;omega
 rw[AB,AB]at b4;have e1:V H2 N=V H2 ly+P ly*V (fro H2 ly) (N-ly):=by
  rw[show V H2 N=V H2 (ly+(N-ly)) by rw[show ly+(N-ly)=N by omega],Ba];rfl
 have e2:V (put H lx c) N=V (put H lx c) ly+P ly*V (fro (put H lx c) ly) (N-ly):=by
  rw[show V (put H lx c) N=V (put H lx c) (ly+(N-ly)) by rw[show ly+(N-ly)=N by omega],Ba];rfl
 have e3:V (fro H2 ly) (N-ly)=V (fro (put H lx c) ly) (N-ly):=A4 fun i hi=>b2 _ (by omega);have e4:V H3 N=V H3 ly+P ly*V (fro H3 ly) (N-ly):=by
  rw[show V H3 N=V H3 (ly+(N-ly)) by rw[show ly+(N-ly)=N by omega],Ba];rfl
 have e5:V H3 ly=V H2 ly:=A4 fun i hi=>d2 _ (by omega);have e6:P N=P ly*P (N-ly):=by rw[←DJ,show ly+(N-ly)=N by omega]
 have hlt:=BU r3.2;have key:V H3 N+yb=xa+c3*P N:=by
  rw[e4,e5,e6];rw[s1]at e2;rw[e2];have q1:=congrArg (P ly* ·) d4;simp only[Nat.mul_add]at q1;rw[e3]at q1;grind
 have hc3:c3=0:=by
  rcases Nat.eq_zero_or_pos c3 with h|h
  ·exact h
  have:1*P N≤c3*P N:=Nat.mul_le_mul_right _ h;omega
 rw[hc3,Nat.zero_mul]at key;omega
theorem Oc{a b c:Nat}(h:(a ||| b)%2^c=0):a%2^c=0∧b%2^c=0:=by
 rw[Nat.or_mod_two_pow]at h;exact Nat.or_eq_zero_iff.1 h
theorem Na{F:Nat→Nat}{n i c:Nat}(hz: ∀j,j<i→Ao F n 0 j=0)(hc:Ao F n 0 i%2^c=0)(hcc:c≤64):2^(64*i+c)∣V F n:=by
 have hz': ∀j,j<i→j<n→F j=0:=fun j h1 h2=>by have:=hz j h1;rw[Bb (by omega),Nat.zero_add]at this;exact this
 rcases Nat.lt_or_ge i n with h|h
 ·rw[Bb (by omega),Nat.zero_add]at hc;obtain⟨k,rfl⟩: ∃k,n=i+(k+1):=⟨n-i-1,by omega⟩;rw[Ba,FU fun j hj=>hz' j hj (by omega),Nat.zero_add,GN,Nat.pow_add,←DK];refine Nat.mul_dvd_mul_left _ (Nat.dvd_add (Nat.dvd_of_mod_eq_zero hc) (Nat.dvd_mul_right_of_dvd ?_ _));exact Nat.pow_dvd_pow 2 hcc
 rw[FU fun j hj=>hz' j (by omega) hj];exact Nat.dvd_zero _
theorem Od{x y t:Nat}(hx:2^t∣x)(hy:2^t∣y):Nat.gcd (x/2^t) (y/2^t)*2^t=Nat.gcd x y:=by
 obtain⟨a,rfl⟩:=hx;obtain⟨b,rfl⟩:=hy;rw[Nat.mul_div_cancel_left _ (Nat.two_pow_pos t),Nat.mul_div_cancel_left _ (Nat.two_pow_pos t),Nat.gcd_mul_left,Nat.mul_comm]
theorem Md(g N n cap xb:Nat)(a:Option Addr)(X:Nat→Nat)(d:Nat)(wr:World)(xv:Value)(hF:Row wr g N (fun _=>0))(hX:Sl wr a n cap X)(hX0:n=0→a=none)(hnN:n<N)(hN:N≤1099511627776)(hd:d<18446744073709551616)(hxb:xb≠g)(hne: ∀b' o',a=some ⟨b',o',none⟩→b'≠g)(hcx:wr.cell? ⟨xb,0,none⟩=some xv):
  Calls Tryz.prog 97 #[.slice (some ⟨g,0,none⟩) N N,.slice a n cap,.int .u64 (d:Int)] wr fun e w2=> ∃c:Nat,e=.returned (.int .u64 (c:Int))∧ ∃H,Hid (Er wr w2 g N 0 (fun _=>0) (V X n*d) n c H)∧w2.cell? ⟨xb,0,none⟩=some xv∧w2.cell? ⟨g,n,none⟩=some (.int .u64 (H n:Nat))∧w2.frozen? ⟨g,n,none⟩=false:=by
 refine(EZ g N 0 N N (fun _=>0) a n cap X d wr hF hX (by omega) (by omega) (by omega) (Nat.le_refl _) hd hne).mono ?_;rintro e w2 ⟨c,rfl,H,hP⟩;exact⟨c,rfl,H,hP,hP.2.2.2.2.cell hcx (by simpa using hxb),hP.1.cell hnN,hP.1.frozen _⟩
theorem C3(v u:Value)(x y a b:Nat)(w:World)(h:Ac w v x)(k:Ac w u y)(hx:Ar x)(hy:Ar y)(ha:a<18446744073709551616)(hb:b<18446744073709551616)(hle:y*b≤x*a):
  Calls Tryz.prog 111 #[v,.int .u64 (a:Int),u,.int .u64 (b:Int)] w (BO w (x*a-y*b)):=by
 obtain⟨ax,n,cap,rfl⟩:=h.isAgg;obtain⟨ay,m,cap',rfl⟩:=k.isAgg;obtain⟨F,hs,h0,h1,hv⟩:=h.fits;obtain⟨G,ks,k0,k1,kv⟩:=k.fits;have hn:n≤4294967296:=AM (hv.symm▸hx) h1;have hm:m≤4294967296:=AM (kv.symm▸hy) k1;have HH:Hid (Sl w ax n cap F∧V F n=x∧(n=0→ax=none)∧Sl w ay m cap' G∧V G m=y∧(m=0→ay=none)∧a<18446744073709551616∧b<18446744073709551616∧y*b≤x*a):=⟨hs,hv,fun e=>(h0 e).1,ks,kv,fun e=>(k0 e).1,ha,hb,hle⟩;clear hs h0 h1 hv ks k0 k1 kv hx hy h k ha hb hle;obtain⟨mx,hmx⟩:=nme (max n m:Nat);have hm1:n≤mx:=by omega
 have hm2:m≤mx:=by omega
 have hm3:mx≤4294967296:=by omega
 have e1:(if n<m then(m:Int) else(n:Int))=(mx:Int):=by split<;>omega
 have mk:=Bl ((mx:Int)+1) ((mx:Int)+1) (mx+1) (mx+1) (by omega) (by omega) (Nat.le_refl _) (by omega);clear hmx;go_enter Tryz.func111,Tryz.ntmps111
 go_wp2_with fail
 obtain⟨g,hg⟩:=nme (w.heap.size+1+1+1);have HB:Hid (Below w.heap.size w ((((w.alloc (.cells #[.slice ax n cap] 27)).alloc (.cells #[.slice ay m cap'] 27)).alloc (.cells #[.slice none 0 0] 27)).alloc (.cells (Bh (mx+1)) 56))):=((Ap _ _ _).alloc (by simp<;>omega) _).alloc (by simp<;>omega) _;have hR0:=AJ (((w.alloc (.cells #[.slice ax n cap] 27)).alloc (.cells #[.slice ay m cap'] 27)).alloc (.cells #[.slice none 0 0] 27)) (mx+1) g (by rw[hg];simp);obtain⟨W0,hW0⟩:=nme (((((w.alloc (.cells #[.slice ax n cap] 27)).alloc (.cells #[.slice ay m cap'] 27)).alloc (.cells #[.slice none 0 0] 27)).alloc (.cells (Bh (mx+1)) 56)));have c1:W0.cell? ⟨w.heap.size,0,none⟩=some (.slice ax n cap):=by rw[hW0];simp[go_sem]
 have c2:W0.cell? ⟨w.heap.size+1,0,none⟩=some (.slice ay m cap'):=by rw[hW0];simp[go_sem]
 have c3:W0.cell? ⟨w.heap.size+1+1,0,none⟩=some (.slice none 0 0):=by rw[hW0];simp[go_sem]
 have f3:W0.frozen? ⟨w.heap.size+1+1,0,none⟩=false:=by rw[hW0];simp[go_sem]
 have hsz:W0.heap.size=w.heap.size+1+1+1+1:=by rw[hW0];simp
 rw[←hW0]at HB hR0⊢;rw[←hg];have R0:Hid (Row W0 g (mx+1) (fun _=>0)):=hR0;have hxne: ∀b' o',ax=some ⟨b',o',none⟩→b'≠g:=by
  intro b' o' e;by_cases e0:n=0
  ·rw[HH.out.2.2.1 e0]at e;cases e
  exact HH.out.1.ne_block (by omega) (g:=g) (by omega) b' o' e
 have hyne: ∀b' o',ay=some ⟨b',o',none⟩→b'≠g:=by
  intro b' o' e;by_cases e0:m=0
  ·rw[HH.out.2.2.2.2.2.1 e0]at e;cases e
  exact HH.out.2.2.2.1.ne_block (by omega) (g:=g) (by omega) b' o' e
 have XN:Hid _:=hxne;have YN:Hid _:=hyne;have hnN:(n:Int)<(mx:Int)+1:=by omega
 have hg1:w.heap.size≠g:=by omega
 have GG:Hid (w.heap.size≠g∧w.heap.size+1≠g∧w.heap.size+1+1≠g∧w.heap.size+1+1<W0.heap.size∧w.heap.size≤g∧w.heap.size+1<W0.heap.size∧w.heap.size≤W0.heap.size):=by
  show _∧_;omega
 clear hR0 hW0 mk e1 hxne hyne hg hsz;go_region_held3 (fun w'=>w'.cell? ⟨w.heap.size,0,none⟩=some (.slice ax n cap)) (simp[go_sem, *])
  (first
   | (go_at_call 97;refine(Md g (mx+1) n cap w.heap.size ax F a W0.drew _ R0.out (HH.out.1.mono (Au HB.out)) HH.out.2.2.1 (Nat.lt_succ_of_le hm1) (by omega) HH.out.2.2.2.2.2.2.1 hg1 XN.out c1).mono ?_;rintro e w2 ⟨c,rfl,H,HP,hc4,hq4,hf4⟩))
 have g2:W0.grownBy w2 (some g):=⟨HP.out.2.2.2.2.os,HP.out.2.2.2.2.tape,HP.out.2.2.2.2.output,HP.out.2.2.2.2.size,HP.out.2.2.2.2.block⟩;have d2:w2.cell? ⟨w.heap.size+1,0,none⟩=some (.slice ay m cap'):=g2.cell c2 (by simpa using GG.out.2.1);have d3:w2.cell? ⟨w.heap.size+1+1,0,none⟩=some (.slice none 0 0):=g2.cell c3 (by simpa using GG.out.2.2.1);have k3:w2.frozen? ⟨w.heap.size+1+1,0,none⟩=false:=(World.frozen?_of_block (g2.block _ GG.out.2.2.2.1 (by simpa using GG.out.2.2.1))).trans f3;have B2:Hid (Below w.heap.size w w2):=HB.out.grown g2 GG.out.2.2.2.2.2.2 (fun k hk=>by cases hk;exact GG.out.2.2.2.2.1);have hs2:g<w2.heap.size:=HP.out.1.1.lt;clear g2 hc4 hq4 hf4 c1 c2 c3 f3;have hW3:w2.grownBy (w2.setCell ⟨g,n,none⟩ (.int .u64 (c:Int))) (some g):=AK w2 (World.grownBy.refl _ _) n _;have R3:Hid (Row (w2.setCell ⟨g,n,none⟩ (.int .u64 (c:Int))) g (mx+1) (put H n c)):=HP.out.1.set n HP.out.2.2.1;have B3:Hid (Below w.heap.size w (w2.setCell ⟨g,n,none⟩ (.int .u64 (c:Int)))):=B2.out.setCell (p:=⟨g,n,none⟩) GG.out.2.2.2.2.1 _;have e2:(w2.setCell ⟨g,n,none⟩ (.int .u64 (c:Int))).cell? ⟨w.heap.size+1,0,none⟩=some (.slice ay m cap'):=hW3.cell d2 (by simpa using GG.out.2.1);have e3:(w2.setCell ⟨g,n,none⟩ (.int .u64 (c:Int))).cell? ⟨w.heap.size+1+1,0,none⟩=some (.slice none 0 0):=hW3.cell d3 (by simpa using GG.out.2.2.1);have l3:(w2.setCell ⟨g,n,none⟩ (.int .u64 (c:Int))).frozen? ⟨w.heap.size+1+1,0,none⟩=false:=(World.frozen?_of_block (hW3.block _ (World.block_lt_of_cell? _ _ d3) (by simpa using GG.out.2.2.1))).trans k3;obtain⟨w3,hw3⟩:=nme (w2.setCell ⟨g,n,none⟩ (.int .u64 (c:Int)));rw[←hw3]at R3 B3 e2 e3 l3⊢;clear hw3 hW3 d2 d3 k3 B2 hs2;go_wp2_with fail
 refine(E0 g (mx+1) 0 (mx+1) (mx+1) (put H n c) ay m cap' G b w3 R3.out (HH.out.2.2.2.1.mono B3.out) (by omega) (by omega) (by omega) (Nat.le_refl _) HH.out.2.2.2.2.2.2.2.1 YN.out).mono ?_;rintro e w4 ⟨cc,rfl,H2,hP2⟩;have P2:Hid _:=hP2;have d2:w4.cell? ⟨w.heap.size+1,0,none⟩=some (.slice ay m cap'):=hP2.2.2.2.2.cell e2 (by simpa using GG.out.2.1);have d3:w4.cell? ⟨w.heap.size+1+1,0,none⟩=some (.slice none 0 0):=hP2.2.2.2.2.cell e3 (by simpa using GG.out.2.2.1);have k3:w4.frozen? ⟨w.heap.size+1+1,0,none⟩=false:=(World.frozen?_of_block (hP2.2.2.2.2.block _ (World.block_lt_of_cell? _ _ e3) (by simpa using GG.out.2.2.1))).trans l3;have B4:Hid (Below w.heap.size w w4):=B3.out.grown hP2.2.2.2.2 B3.out.size (fun k hk=>by cases hk;exact GG.out.2.2.2.2.1);have hg4:g<w4.heap.size:=hP2.1.1.lt;clear hP2 e2 e3 l3;have hmi:(m:Int)≤(mx:Int)+1:=by omega
 have hmn: ¬mx+1=m:=by omega
 have hcc:cc<18446744073709551616:=P2.out.2.2.1;have CC:Hid (cc<18446744073709551616):=hcc;clear hcc;go_wp2_with fail
 refine(Ft g (mx+1) m (mx+1-m) (mx+1-m) H2 (some ⟨w4.heap.size,0,none⟩) 1 1 (fun _=>cc) _ (P2.out.1.below ((Below.refl _ _).alloc (Nat.le_refl _) _)) (KH _ cc _ CC.out rfl _) (by omega) (by omega) (by omega) (fun b' o' e=>by cases e;omega)).mono ?_;rintro e w5 ⟨rfl,c3,H3,hS⟩;have e1c:V (fun _=>cc) 1=cc:=by rw[At,Bd,CP,Nat.zero_add,Nat.mul_one]
 rw[e1c]at hS;have FV:Hid (V H3 (mx+1)=x*a-y*b):=by
  show _=_;have:=Mc (by omega) (by omega) (by rw[HH.out.2.1,HH.out.2.2.2.2.1];exact HH.out.2.2.2.2.2.2.2.2) HP.out P2.out hS;rw[this,HH.out.2.1,HH.out.2.2.2.2.1]
 have bA:Below w4.heap.size w4 (w4.alloc (.cells #[.int .u64 (cc:Int)] 56)):=(Below.refl _ _).alloc (Nat.le_refl _) _;have q3:w5.cell? ⟨w.heap.size+1+1,0,none⟩=some (.slice none 0 0):=hS.2.2.2.2.cell (cell_later bA d3) (by simpa using GG.out.2.2.1);have r3:w5.frozen? ⟨w.heap.size+1+1,0,none⟩=false:=(World.frozen?_of_block (hS.2.2.2.2.block _ (World.block_lt_of_cell? _ _ (cell_later bA d3)) (by simpa using GG.out.2.2.1))).trans ((bA.frozen (World.block_lt_of_cell? _ _ d3)).trans k3);have B5:Hid (Below w.heap.size w w5):=(Ae B4.out bA).grown hS.2.2.2.2 (by have:=B4.out.size;simp;omega) (fun k hk=>by cases hk;exact GG.out.2.2.2.2.1);have R5:Hid (Row w5 g (mx+1) H3):=hS.1;clear hS d2 d3 k3 bA e1c P2 HP CC;go_wp2_with fail
 refine(Bp _ (mx+1) (mx+1) H3 w5 (by have:=R5.out.sl (o:=0) (n:=mx+1) (cap:=mx+1) (by omega) (Nat.le_refl _) (by omega);rw[AB]at this;exact this) (by omega)).mono ?_;rintro e w6 ⟨v6,rfl,hv6,hb6⟩;have s3:w6.cell? ⟨w.heap.size+1+1,0,none⟩=some (.slice none 0 0):=cell_later hb6 q3;have t3:w6.frozen? ⟨w.heap.size+1+1,0,none⟩=false:=(hb6.frozen (World.block_lt_of_cell? _ _ q3)).trans r3;obtain⟨a6,n6,cap6,rfl⟩:=hv6.isAgg;have V6:Hid (Ac w6 (.agg #[.slice a6 n6 cap6]) (V H3 (mx+1))):=hv6;have B6:Hid (Below w.heap.size w w6):=Ae B5.out hb6;clear hv6 hb6 q3 r3;go_wp2_with fail
 refine bodyPost_ret (v:=.agg #[.slice a6 n6 cap6]) (by simp[results,Tryz.results111,go_sem,s3]) rfl ⟨_,rfl,?_,B6.out.setCell (by simp<;>omega) _⟩;rw[←FV.out];exact V6.out.setCell (Af s3) _
theorem La(u0 v0 u1 v1:Nat)(vx vy:Value)(x y:Nat)(w:World)(hx:Ac w vx x)(hy:Ac w vy y)(fx:Ar x)(fy:Ar y)(b0:u0<18446744073709551616)(b1:v0<18446744073709551616)(b2:u1<18446744073709551616)(b3:v1<18446744073709551616)(l1:y*v0≤x*u0)(l2:x*u1≤y*v1):
  Calls Tryz.prog 103 #[.agg #[.int .u64 (u0:Int),.int .u64 (v0:Int),.int .u64 (u1:Int),.int .u64 (v1:Int),.bool true],vx,vy] w (Ej w (x*u0-y*v0) (y*v1-x*u1)):=by
 obtain⟨ax,nx,cx,rfl⟩:=hx.isAgg;obtain⟨ay,ny,cy,rfl⟩:=hy.isAgg;have HB:Hid (Below w.heap.size w (((((w.alloc (.cells #[.int .u64 (u0:Int),.int .u64 (v0:Int),.int .u64 (u1:Int),.int .u64 (v1:Int),.bool true] 135)).alloc (.cells #[.slice ax nx cx] 27)).alloc (.cells #[.slice ay ny cy] 27)).alloc (.cells #[.slice none 0 0] 27)).alloc (.cells #[.slice none 0 0] 27))):=((((((Below.refl _ _).alloc (Nat.le_refl _) _).alloc (by simp<;>omega) _).alloc (by simp<;>omega) _).alloc (by simp<;>omega) _).alloc (by simp<;>omega) _);have HH:Hid (Ac w (.agg #[.slice ax nx cx]) x∧Ac w (.agg #[.slice ay ny cy]) y∧Ar x∧Ar y∧(u0<18446744073709551616∧v0<18446744073709551616∧u1<18446744073709551616∧v1<18446744073709551616)∧y*v0≤x*u0∧x*u1≤y*v1):=⟨hx,hy,fx,fy,⟨b0,b1,b2,b3⟩,l1,l2⟩;clear hx hy fx fy b0 b1 b2 b3 l1 l2;go_enter Tryz.func103,Tryz.ntmps103
 go_wp2_with fail
 obtain⟨W0,hW0⟩:=nme ((((((w.alloc (.cells #[.int .u64 (u0:Int),.int .u64 (v0:Int),.int .u64 (u1:Int),.int .u64 (v1:Int),.bool true] 135)).alloc (.cells #[.slice ax nx cx] 27)).alloc (.cells #[.slice ay ny cy] 27)).alloc (.cells #[.slice none 0 0] 27)).alloc (.cells #[.slice none 0 0] 27)));have c0:W0.cell? ⟨w.heap.size,0,none⟩=some (.int .u64 (u0:Int)):=by rw[hW0];simp[go_sem]
 have c1:W0.cell? ⟨w.heap.size,1,none⟩=some (.int .u64 (v0:Int)):=by rw[hW0];simp[go_sem]
 have c2:W0.cell? ⟨w.heap.size,2,none⟩=some (.int .u64 (u1:Int)):=by rw[hW0];simp[go_sem]
 have c3:W0.cell? ⟨w.heap.size,3,none⟩=some (.int .u64 (v1:Int)):=by rw[hW0];simp[go_sem]
 have c4:W0.cell? ⟨w.heap.size+1,0,none⟩=some (.slice ax nx cx):=by rw[hW0];simp[go_sem]
 have c5:W0.cell? ⟨w.heap.size+1+1,0,none⟩=some (.slice ay ny cy):=by rw[hW0];simp[go_sem]
 have c6:W0.cell? ⟨w.heap.size+1+1+1,0,none⟩=some (.slice none 0 0):=by rw[hW0];simp[go_sem]
 have c7:W0.cell? ⟨w.heap.size+1+1+1+1,0,none⟩=some (.slice none 0 0):=by rw[hW0];simp[go_sem]
 have f6:W0.frozen? ⟨w.heap.size+1+1+1,0,none⟩=false:=by rw[hW0];simp[go_sem]
 have f7:W0.frozen? ⟨w.heap.size+1+1+1+1,0,none⟩=false:=by rw[hW0];simp[go_sem]
 rw[←hW0]at HB⊢;clear hW0;have C6:Hid (W0.cell? ⟨w.heap.size+1+1+1,0,none⟩=some (.slice none 0 0)∧W0.cell? ⟨w.heap.size+1+1+1+1,0,none⟩=some (.slice none 0 0)∧W0.frozen? ⟨w.heap.size+1+1+1,0,none⟩=false∧W0.frozen? ⟨w.heap.size+1+1+1+1,0,none⟩=false):=⟨c6,c7,f6,f7⟩;clear c6 c7 f6 f7;go_region_held3 (fun w'=>w'.cell? ⟨w.heap.size,0,none⟩=some (.int .u64 (u0:Int))∧w'.cell? ⟨w.heap.size,1,none⟩=some (.int .u64 (v0:Int))∧w'.cell? ⟨w.heap.size,2,none⟩=some (.int .u64 (u1:Int))∧w'.cell? ⟨w.heap.size,3,none⟩=some (.int .u64 (v1:Int))∧w'.cell? ⟨w.heap.size+1,0,none⟩=some (.slice ax nx cx)∧w'.cell? ⟨w.heap.size+1+1,0,none⟩=some (.slice ay ny cy)) (simp[go_sem, *])
  (first
   | (go_at_call 111;have zz:=c0;clear zz;refine Calls.mono (C3 (.agg #[.slice ax nx cx]) (.agg #[.slice ay ny cy]) x y u0 v0 _ (HH.out.1.mono (Au HB.out)) (HH.out.2.1.mono (Au HB.out)) HH.out.2.2.1 HH.out.2.2.2.1 HH.out.2.2.2.2.1.1 HH.out.2.2.2.2.1.2.1 HH.out.2.2.2.2.2.1) ?_;rintro e w1 ⟨z1,rfl,hv1,hb1⟩;obtain⟨a3,n3,cap3,rfl⟩:=hv1.isAgg;have B1:Hid (Below W0.heap.size W0 w1):=Bs hb1;have X1:Hid (Ac w1 (.agg #[.slice a3 n3 cap3]) (x*u0-y*v0)):=hv1;have d0:=cell_later B1.out c0;have d1:=cell_later B1.out c1;have d2:=cell_later B1.out c2;have d3:=cell_later B1.out c3;have d4:=cell_later B1.out c4;have d5:=cell_later B1.out c5;clear hv1 hb1 c0 c1 c2 c3 c4 c5)
   | (go_at_call 111;have zz:=d0;clear zz;refine Calls.mono (C3 (.agg #[.slice ay ny cy]) (.agg #[.slice ax nx cx]) y x v1 u1 _ (HH.out.2.1.mono (Ae HB.out B1.out)) (HH.out.1.mono (Ae HB.out B1.out)) HH.out.2.2.2.1 HH.out.2.2.1 HH.out.2.2.2.2.1.2.2.2 HH.out.2.2.2.2.1.2.2.1 HH.out.2.2.2.2.2.2) ?_;rintro e w2 ⟨z2,rfl,hv2,hb2⟩;obtain⟨a4,n4,cap4,rfl⟩:=hv2.isAgg;have B2:Hid (Below w1.heap.size w1 w2):=hb2;have X2:Hid (Ac w2 (.agg #[.slice a4 n4 cap4]) (y*v1-x*u1)):=hv2;have e0:=cell_later B2.out d0;have e1:=cell_later B2.out d1;have e2:=cell_later B2.out d2;have e3:=cell_later B2.out d3;have e4:=cell_later B2.out d4;have e5:=cell_later B2.out d5;have e6:=cell_later B2.out (cell_later B1.out C6.out.1);have e7:=cell_later B2.out (cell_later B1.out C6.out.2.1);have g6:=(B2.out.frozen (World.block_lt_of_cell? _ _ (cell_later B1.out C6.out.1))).trans ((B1.out.frozen (World.block_lt_of_cell? _ _ C6.out.1)).trans C6.out.2.2.1);have g7:=(B2.out.frozen (World.block_lt_of_cell? _ _ (cell_later B1.out C6.out.2.1))).trans ((B1.out.frozen (World.block_lt_of_cell? _ _ C6.out.2.1)).trans C6.out.2.2.2);clear hv2 hb2 d0 d1 d2 d3 d4 d5))
 go_wp2_with fail
 have n1: ∀kk q,(w2.setCell ⟨w.heap.size+1+1+1,0,none⟩ (.slice a3 n3 cap3)).cell? ⟨w.heap.size+1+1+1+1,0,none⟩≠some (.int kk q):=by
  rw[World.cell?_setCell_far _ _ _ _ (by simp)];exact Af e7
 have B9:Hid (Below w.heap.size w w2):=Ae (Ae HB.out B1.out) B2.out;refine bodyPost_ret (v:=.tuple #[.agg #[.slice a3 n3 cap3],.agg #[.slice a4 n4 cap4]]) (by simp[results,Tryz.results103,go_sem,e6,e7]) rfl ⟨_,_,rfl,?_,?_,(B9.out.setCell (by simp<;>omega) _).setCell (by simp<;>omega) _⟩
 ·exact((X1.out.mono B2.out).setCell (Af e6) _).setCell n1 _
 exact(X2.out.setCell (Af e6) _).setCell n1 _
theorem Me(u0 v0 u1 v1:Nat)(vx vy:Value)(x y:Nat)(w:World)(hx:Ac w vx x)(hy:Ac w vy y)(fx:Ar x)(fy:Ar y)(b0:u0<18446744073709551616)(b1:v0<18446744073709551616)(b2:u1<18446744073709551616)(b3:v1<18446744073709551616)(l1:x*u0≤y*v0)(l2:y*v1≤x*u1):
  Calls Tryz.prog 103 #[.agg #[.int .u64 (u0:Int),.int .u64 (v0:Int),.int .u64 (u1:Int),.int .u64 (v1:Int),.bool false],vx,vy] w (Ej w (y*v0-x*u0) (x*u1-y*v1)):=by
 obtain⟨ax,nx,cx,rfl⟩:=hx.isAgg;obtain⟨ay,ny,cy,rfl⟩:=hy.isAgg;have HB:Hid (Below w.heap.size w (((((w.alloc (.cells #[.int .u64 (u0:Int),.int .u64 (v0:Int),.int .u64 (u1:Int),.int .u64 (v1:Int),.bool false] 135)).alloc (.cells #[.slice ax nx cx] 27)).alloc (.cells #[.slice ay ny cy] 27)).alloc (.cells #[.slice none 0 0] 27)).alloc (.cells #[.slice none 0 0] 27))):=((((((Below.refl _ _).alloc (Nat.le_refl _) _).alloc (by simp<;>omega) _).alloc (by simp<;>omega) _).alloc (by simp<;>omega) _).alloc (by simp<;>omega) _);have HH:Hid (Ac w (.agg #[.slice ax nx cx]) x∧Ac w (.agg #[.slice ay ny cy]) y∧Ar x∧Ar y∧(u0<18446744073709551616∧v0<18446744073709551616∧u1<18446744073709551616∧v1<18446744073709551616)∧x*u0≤y*v0∧y*v1≤x*u1):=⟨hx,hy,fx,fy,⟨b0,b1,b2,b3⟩,l1,l2⟩;clear hx hy fx fy b0 b1 b2 b3 l1 l2;go_enter Tryz.func103,Tryz.ntmps103
 go_wp2_with fail
 obtain⟨W0,hW0⟩:=nme ((((((w.alloc (.cells #[.int .u64 (u0:Int),.int .u64 (v0:Int),.int .u64 (u1:Int),.int .u64 (v1:Int),.bool false] 135)).alloc (.cells #[.slice ax nx cx] 27)).alloc (.cells #[.slice ay ny cy] 27)).alloc (.cells #[.slice none 0 0] 27)).alloc (.cells #[.slice none 0 0] 27)));have c0:W0.cell? ⟨w.heap.size,0,none⟩=some (.int .u64 (u0:Int)):=by rw[hW0];simp[go_sem]
 have c1:W0.cell? ⟨w.heap.size,1,none⟩=some (.int .u64 (v0:Int)):=by rw[hW0];simp[go_sem]
 have c2:W0.cell? ⟨w.heap.size,2,none⟩=some (.int .u64 (u1:Int)):=by rw[hW0];simp[go_sem]
 have c3:W0.cell? ⟨w.heap.size,3,none⟩=some (.int .u64 (v1:Int)):=by rw[hW0];simp[go_sem]
 have c4:W0.cell? ⟨w.heap.size+1,0,none⟩=some (.slice ax nx cx):=by rw[hW0];simp[go_sem]
 have c5:W0.cell? ⟨w.heap.size+1+1,0,none⟩=some (.slice ay ny cy):=by rw[hW0];simp[go_sem]
 have c6:W0.cell? ⟨w.heap.size+1+1+1,0,none⟩=some (.slice none 0 0):=by rw[hW0];simp[go_sem]
 have c7:W0.cell? ⟨w.heap.size+1+1+1+1,0,none⟩=some (.slice none 0 0):=by rw[hW0];simp[go_sem]
 have f6:W0.frozen? ⟨w.heap.size+1+1+1,0,none⟩=false:=by rw[hW0];simp[go_sem]
 have f7:W0.frozen? ⟨w.heap.size+1+1+1+1,0,none⟩=false:=by rw[hW0];simp[go_sem]
 rw[←hW0]at HB⊢;clear hW0;have C6:Hid (W0.cell? ⟨w.heap.size+1+1+1,0,none⟩=some (.slice none 0 0)∧W0.cell? ⟨w.heap.size+1+1+1+1,0,none⟩=some (.slice none 0 0)∧W0.frozen? ⟨w.heap.size+1+1+1,0,none⟩=false∧W0.frozen? ⟨w.heap.size+1+1+1+1,0,none⟩=false):=⟨c6,c7,f6,f7⟩;clear c6 c7 f6 f7;go_region_held3 (fun w'=>w'.cell? ⟨w.heap.size,0,none⟩=some (.int .u64 (u0:Int))∧w'.cell? ⟨w.heap.size,1,none⟩=some (.int .u64 (v0:Int))∧w'.cell? ⟨w.heap.size,2,none⟩=some (.int .u64 (u1:Int))∧w'.cell? ⟨w.heap.size,3,none⟩=some (.int .u64 (v1:Int))∧w'.cell? ⟨w.heap.size+1,0,none⟩=some (.slice ax nx cx)∧w'.cell? ⟨w.heap.size+1+1,0,none⟩=some (.slice ay ny cy)) (simp[go_sem, *])
  (first
   | (go_at_call 111;have zz:=c0;clear zz;refine Calls.mono (C3 (.agg #[.slice ay ny cy]) (.agg #[.slice ax nx cx]) y x v0 u0 _ (HH.out.2.1.mono (Au HB.out)) (HH.out.1.mono (Au HB.out)) HH.out.2.2.2.1 HH.out.2.2.1 HH.out.2.2.2.2.1.2.1 HH.out.2.2.2.2.1.1 HH.out.2.2.2.2.2.1) ?_;rintro e w1 ⟨z1,rfl,hv1,hb1⟩;obtain⟨a3,n3,cap3,rfl⟩:=hv1.isAgg;have B1:Hid (Below W0.heap.size W0 w1):=Bs hb1;have X1:Hid (Ac w1 (.agg #[.slice a3 n3 cap3]) (y*v0-x*u0)):=hv1;have d0:=cell_later B1.out c0;have d1:=cell_later B1.out c1;have d2:=cell_later B1.out c2;have d3:=cell_later B1.out c3;have d4:=cell_later B1.out c4;have d5:=cell_later B1.out c5;clear hv1 hb1 c0 c1 c2 c3 c4 c5)
   | (go_at_call 111;have zz:=d0;clear zz;refine Calls.mono (C3 (.agg #[.slice ax nx cx]) (.agg #[.slice ay ny cy]) x y u1 v1 _ (HH.out.1.mono (Ae HB.out B1.out)) (HH.out.2.1.mono (Ae HB.out B1.out)) HH.out.2.2.1 HH.out.2.2.2.1 HH.out.2.2.2.2.1.2.2.1 HH.out.2.2.2.2.1.2.2.2 HH.out.2.2.2.2.2.2) ?_;rintro e w2 ⟨z2,rfl,hv2,hb2⟩;obtain⟨a4,n4,cap4,rfl⟩:=hv2.isAgg;have B2:Hid (Below w1.heap.size w1 w2):=hb2;have X2:Hid (Ac w2 (.agg #[.slice a4 n4 cap4]) (x*u1-y*v1)):=hv2;have e0:=cell_later B2.out d0;have e1:=cell_later B2.out d1;have e2:=cell_later B2.out d2;have e3:=cell_later B2.out d3;have e4:=cell_later B2.out d4;have e5:=cell_later B2.out d5;have e6:=cell_later B2.out (cell_later B1.out C6.out.1);have e7:=cell_later B2.out (cell_later B1.out C6.out.2.1);have g6:=(B2.out.frozen (World.block_lt_of_cell? _ _ (cell_later B1.out C6.out.1))).trans ((B1.out.frozen (World.block_lt_of_cell? _ _ C6.out.1)).trans C6.out.2.2.1);have g7:=(B2.out.frozen (World.block_lt_of_cell? _ _ (cell_later B1.out C6.out.2.1))).trans ((B1.out.frozen (World.block_lt_of_cell? _ _ C6.out.2.1)).trans C6.out.2.2.2);clear hv2 hb2 d0 d1 d2 d3 d4 d5))
 go_wp2_with fail
 have n1: ∀kk q,(w2.setCell ⟨w.heap.size+1+1+1,0,none⟩ (.slice a3 n3 cap3)).cell? ⟨w.heap.size+1+1+1+1,0,none⟩≠some (.int kk q):=by
  rw[World.cell?_setCell_far _ _ _ _ (by simp)];exact Af e7
 have B9:Hid (Below w.heap.size w w2):=Ae (Ae HB.out B1.out) B2.out;refine bodyPost_ret (v:=.tuple #[.agg #[.slice a3 n3 cap3],.agg #[.slice a4 n4 cap4]]) (by simp[results,Tryz.results103,go_sem,e6,e7]) rfl ⟨_,_,rfl,?_,?_,(B9.out.setCell (by simp<;>omega) _).setCell (by simp<;>omega) _⟩
 ·exact((X1.out.mono B2.out).setCell (Af e6) _).setCell n1 _
 exact(X2.out.setCell (Af e6) _).setCell n1 _
def stepCells(u0 v0 u1 v1:Nat)(s:Bool):Nat→Value
 |0=>.int .u64 (u0:Int)
 |1=>.int .u64 (v0:Int)
 |2=>.int .u64 (u1:Int)
 |3=>.int .u64 (v1:Int)
 |_=>.bool s
structure Stp (w wr:World) (g:Nat) (u0 v0 u1 v1:Nat) (s:Bool):Prop where
 row:wr.rowIs g 135 5 (stepCells u0 v0 u1 v1 s)
 res:wr.rowIs w.heap.size 135 5 (stepCells 0 0 0 0 false)
 bel:Below w.heap.size w wr
 eq:g=w.heap.size+1
theorem Stp.step{w wr:World}{g u0 v0 u1 v1:Nat}{s:Bool}(h:Stp w wr g u0 v0 u1 v1 s)(u2 v2:Nat):
  Stp w (((((wr.setCell ⟨g,0,none⟩ (.int .u64 (u1:Int))).setCell ⟨g,2,none⟩ (.int .u64 (u2:Int))).setCell ⟨g,1,none⟩ (.int .u64 (v1:Int))).setCell ⟨g,3,none⟩ (.int .u64 (v2:Int))).setCell ⟨g,4,none⟩ (.bool (!s))) g u1 v1 u2 v2 (!s):=by
 obtain⟨h1,h2,h3,h4⟩:=h;have h1':wr.rowIs g 135 5 (stepCells u0 v0 u1 v1 s):=h1;have h2':wr.rowIs w.heap.size 135 5 (stepCells 0 0 0 0 false):=h2;have ne: ∀i,(⟨g,i,none⟩:Addr).block≠w.heap.size:=fun i=>by show g≠_;omega
 refine⟨(((((h1'.set 0 _).set 2 _).set 1 _).set 3 _).set 4 _).congr (fun i hi=> ?_),?_,?_,h4⟩
 ·rcases i with _|_|_|_|_|i
  ·simp[stepCells]
  ·simp[stepCells]
  ·simp[stepCells]
  ·simp[stepCells]
  ·simp[stepCells]
  omega
 ·have e:w.heap.size≠g:=by omega
  exact((((h2'.setOther (a:=⟨g,0,none⟩) e _).setOther (a:=⟨g,2,none⟩) e _).setOther (a:=⟨g,1,none⟩) e _).setOther (a:=⟨g,3,none⟩) e _).setOther (a:=⟨g,4,none⟩) e _
 have e:w.heap.size≤g:=by omega
 exact(((((h3).setCell (p:=⟨g,0,none⟩) e _).setCell (p:=⟨g,2,none⟩) e _).setCell (p:=⟨g,1,none⟩) e _).setCell (p:=⟨g,3,none⟩) e _).setCell (p:=⟨g,4,none⟩) e _
theorem Stp.drew{w wr:World}{g u0 v0 u1 v1:Nat}{s:Bool}(h:Stp w wr g u0 v0 u1 v1 s):Stp w wr.drew g u0 v0 u1 v1 s:=⟨h.row,h.res,Au h.bel,h.eq⟩
theorem Stp.start(w:World):Stp w ((w.alloc (.cells #[.int .u64 0,.int .u64 0,.int .u64 0,.int .u64 0,.bool false] 135)).alloc (.cells #[.int .u64 0,.int .u64 0,.int .u64 1,.int .u64 0,.bool false] 135)) (w.heap.size+1) 0 0 1 0 false:=by
 have h1:=World.rowIs_alloc (w.alloc (.cells #[.int .u64 0,.int .u64 0,.int .u64 0,.int .u64 0,.bool false] 135)) #[.int .u64 0,.int .u64 0,.int .u64 1,.int .u64 0,.bool false] 135 (stepCells 0 0 1 0 false) (fun i hi=>by
  rcases i with _|_|_|_|_|i<;>simp[stepCells]at hi⊢;omega)
 have h2:=World.rowIs_alloc w #[.int .u64 0,.int .u64 0,.int .u64 0,.int .u64 0,.bool false] 135 (stepCells 0 0 0 0 false) (fun i hi=>by
  rcases i with _|_|_|_|_|i<;>simp[stepCells]at hi⊢;omega)
 exact⟨by simpa using h1,(h2.alloc _),Ap _ _ _,rfl⟩
theorem Cy(z:Int)(n:Nat)(h:z=(n:Int))(hn:n<18446744073709551616):IntKind.u64.wrap z=(n:Int):=by
 subst h;rw[IntKind.wrap_u64];omega
def Mf(w:World)(X Y x0 y0:Nat)(e:Ending)(w':World):Prop:=
 ∃u0 v0 u1 v1 s,e=.returned (.agg #[.int .u64 ((u0:Nat):Int),.int .u64 ((v0:Nat):Int),.int .u64 ((u1:Nat):Int),.int .u64 ((v1:Nat):Int),.bool s])∧(∃p q u2 v2,Fs X Y x0 y0 p q u0 u1 u2 v0 v1 v2 s)∧(u0<18446744073709551616∧v0<18446744073709551616∧u1<18446744073709551616∧v1<18446744073709551616)∧Below w.heap.size w w'
theorem Ji(X Y x0 y0 B X' Y':Nat)(w:World)(hx:x0<18446744073709551616)(hyx:y0≤x0)(hX:X=x0*B+X')(hY:Y=y0*B+Y')(hX':X'<B)(hY':Y'<B):
  Calls Tryz.prog 101 #[.int .u64 (x0:Int),.int .u64 (y0:Int)] w (Mf w X Y x0 y0):=by
 have HH:Hid (x0<18446744073709551616∧y0≤x0∧X=x0*B+X'∧Y=y0*B+Y'∧X'<B∧Y'<B):=⟨hx,hyx,hX,hY,hX',hY'⟩;clear hx hyx hX hY hX' hY';have S0:Hid _:=Stp.start w;go_enter Tryz.func101,Tryz.ntmps101
 go_wp2_with fail
 go_loopw [0,1,6,7] (fun px py nx ny wr=> ∃(p q u0 u1 u2 v0 v1 v2:Nat) (s:Bool),px=.int .u64 (p:Int)∧py=.int .u64 (q:Int)∧nx=.int .u64 (u2:Int)∧ny=.int .u64 (v2:Int)∧Hid (Fs X Y x0 y0 p q u0 u1 u2 v0 v1 v2 s∧Stp w wr (w.heap.size+1) u0 v0 u1 v1 s∧u0<18446744073709551616∧v0<18446744073709551616∧u1<18446744073709551616∧v1<18446744073709551616∧p≤x0)) (fun _ q _ _ _=>(intOf q).toNat)
 case atStart=>exact⟨x0,y0,0,1,0,0,0,1,false,rfl,rfl,rfl,rfl,⟨Fs.start HH.out.2.1,S0.out,by omega,by omega,by omega,by omega,Nat.le_refl _⟩⟩
 case round=>
  clear S0;obtain⟨p,q,u0,u1,u2,v0,v1,v2,s,rfl,rfl,rfl,rfl,hh⟩:=hrel;have st:=hh.out.2.1;have c0:=st.row.cell (i:=0) (by omega);have c1:=st.row.cell (i:=1) (by omega);have c2:=st.row.cell (i:=2) (by omega);have c3:=st.row.cell (i:=3) (by omega);have c4:=st.row.cell (i:=4) (by omega);simp only[stepCells]at c0 c1 c2 c3 c4;have f0:=st.row.frozen 0;have f1:=st.row.frozen 1;have f2:=st.row.frozen 2;have f3:=st.row.frozen 3;have f4:=st.row.frozen 4;have hqp:=hh.out.1.qp;have hp:=hh.out.2.2.2.2.2.2;have hx:=HH.out.1;have hv2:=hh.out.1.pos;clear st;by_cases k1:v2≤q
  ·have t1:decide (v2≤q)=true:=decide_eq_true k1;obtain⟨n1,n2,n3,n4,n5⟩:=hh.out.1.next_le k1;have hyx:=HH.out.2.1;have hpq:IntKind.u64.wrap ((p:Int)- (q:Int))=((p-q:Nat):Int):=Cy _ _ (by omega) (by omega);have hvv:IntKind.u64.wrap ((v1:Int)+(v2:Int))=((v1+v2:Nat):Int):=Cy _ _ (by omega) (by omega);by_cases k2:v1+v2≤p-q
   ·have t2:decide (v1+v2≤p-q)=true:=decide_eq_true k2;have t3:decide ((v1:Int)+(v2:Int)≤((p-q:Nat):Int))=true:=decide_eq_true (by omega);have N:Hid _:=hh.out.1.step HH.out.2.2.1 HH.out.2.2.2.1 HH.out.2.2.2.2.1 HH.out.2.2.2.2.2 k1 k2;have ST:Hid _:=hh.out.2.1.step u2 v2;have hmod:p%q<q:=Nat.mod_lt _ (by omega);have bu2:u2<18446744073709551616:=by have:=hh.out.1.l2;omega
    have bv2:v2<18446744073709551616:=by omega
    have e1:(p:Int)/(q:Int)=((p/q:Nat):Int):=by simp
    have e2:(p:Int)%(q:Int)=((p%q:Nat):Int):=by simp
    obtain⟨t,ht⟩:=nme (p/q);obtain⟨r,hr⟩:=nme (p%q);rw[←ht]at n1 n2 n4 n5 e1 N;rw[←hr]at e2 hmod N;clear ht hr;have m1:IntKind.u64.wrap ((t:Int)*(u2:Int))=((t*u2:Nat):Int):=Cy _ _ (by simp) (by omega);have m2:IntKind.u64.wrap ((t:Int)*(v2:Int))=((t*v2:Nat):Int):=Cy _ _ (by simp) (by omega);have m3:IntKind.u64.wrap ((u1:Int)+((t*u2:Nat):Int))=((u1+t*u2:Nat):Int):=Cy _ _ (by simp) (by omega);have m4:IntKind.u64.wrap ((v1:Int)+((t*v2:Nat):Int))=((v1+t*v2:Nat):Int):=Cy _ _ (by simp) (by omega);have hq0:((q:Int)==0)=false:=by simp;omega
    have wt:IntKind.u64.wrap (t:Int)=(t:Int):=Cy _ _ rfl (by
     have:t*1≤t*v2:=Nat.mul_le_mul_left _ hv2;omega)
    have M3:Hid (IntKind.u64.wrap ((u1:Int)+(t:Int)*(u2:Int))=((u1+t*u2:Nat):Int)):=Cy _ _ (by simp) (by omega);have M4:Hid (IntKind.u64.wrap ((v1:Int)+(t:Int)*(v2:Int))=((v1+t*v2:Nat):Int)):=Cy _ _ (by simp) (by omega);have HB:Hid (u2<18446744073709551616∧v2<18446744073709551616∧q≤x0):=⟨bu2,bv2,by omega⟩;clear n1 n2 n3 n4 n5 k1 k2 hqp hp hx hv2 bu2 bv2 hyx;go_wp2_with fail
    go_region
    go_wp2_with fail
    go_roundw
    case rel=>
     refine⟨q,r,u1,u2,u1+t*u2,v1,v2,v1+t*v2, !s,rfl,?_,?_,?_,⟨N.out,ST.out.drew,hh.out.2.2.2.2.1,hh.out.2.2.2.2.2.1,HB.out.1,HB.out.2.1,HB.out.2.2⟩⟩
     ·rw[e2]
     ·rw[M3.out]
     rw[M4.out]
    case measure=>simp[intOf];omega
   have t2:decide (v1+v2≤p-q)=false:=decide_eq_false k2;have t3:decide ((v1:Int)+(v2:Int)≤((p-q:Nat):Int))=false:=decide_eq_false (by omega);have R0:=hh.out.2.1.res.cell (i:=0) (by omega);have r0:=hh.out.2.1.res.frozen 0;have R1:=hh.out.2.1.res.cell (i:=1) (by omega);have r1:=hh.out.2.1.res.frozen 1;have R2:=hh.out.2.1.res.cell (i:=2) (by omega);have r2:=hh.out.2.1.res.frozen 2;have R3:=hh.out.2.1.res.cell (i:=3) (by omega);have r3:=hh.out.2.1.res.frozen 3;have R4:=hh.out.2.1.res.cell (i:=4) (by omega);have r4:=hh.out.2.1.res.frozen 4;simp only[stepCells]at R0 R1 R2 R3 R4;clear n1 n2 n3 n4 n5 k1 k2 hqp hp hx hv2 hyx;go_wp2_with fail
   refine bodyPost_ret (v:=.agg #[.int .u64 (u0:Int),.int .u64 (v0:Int),.int .u64 (u1:Int),.int .u64 (v1:Int),.bool s]) (by simp[results,Tryz.results101,go_sem,R0,R1,R2,R3,R4]) rfl ⟨u0,v0,u1,v1,s,rfl,⟨p,q,u2,v2,hh.out.1⟩,⟨hh.out.2.2.1,hh.out.2.2.2.1,hh.out.2.2.2.2.1,hh.out.2.2.2.2.2.1⟩,?_⟩;exact((((hh.out.2.1.bel.setCell (p:=⟨w.heap.size,0,none⟩) (Nat.le_refl _) _).setCell (p:=⟨w.heap.size,1,none⟩) (Nat.le_refl _) _).setCell (p:=⟨w.heap.size,2,none⟩) (Nat.le_refl _) _).setCell (p:=⟨w.heap.size,3,none⟩) (Nat.le_refl _) _).setCell (p:=⟨w.heap.size,4,none⟩) (Nat.le_refl _) _
  have t1:decide (v2≤q)=false:=decide_eq_false k1;have R0:=hh.out.2.1.res.cell (i:=0) (by omega);have r0:=hh.out.2.1.res.frozen 0;have R1:=hh.out.2.1.res.cell (i:=1) (by omega);have r1:=hh.out.2.1.res.frozen 1;have R2:=hh.out.2.1.res.cell (i:=2) (by omega);have r2:=hh.out.2.1.res.frozen 2;have R3:=hh.out.2.1.res.cell (i:=3) (by omega);have r3:=hh.out.2.1.res.frozen 3;have R4:=hh.out.2.1.res.cell (i:=4) (by omega);have r4:=hh.out.2.1.res.frozen 4;simp only[stepCells]at R0 R1 R2 R3 R4;clear k1 hqp hp hx hv2;go_wp2_with fail
  refine bodyPost_ret (v:=.agg #[.int .u64 (u0:Int),.int .u64 (v0:Int),.int .u64 (u1:Int),.int .u64 (v1:Int),.bool s]) (by simp[results,Tryz.results101,go_sem,R0,R1,R2,R3,R4]) rfl ⟨u0,v0,u1,v1,s,rfl,⟨p,q,u2,v2,hh.out.1⟩,⟨hh.out.2.2.1,hh.out.2.2.2.1,hh.out.2.2.2.2.1,hh.out.2.2.2.2.2.1⟩,?_⟩;exact((((hh.out.2.1.bel.setCell (p:=⟨w.heap.size,0,none⟩) (Nat.le_refl _) _).setCell (p:=⟨w.heap.size,1,none⟩) (Nat.le_refl _) _).setCell (p:=⟨w.heap.size,2,none⟩) (Nat.le_refl _) _).setCell (p:=⟨w.heap.size,3,none⟩) (Nat.le_refl _) _).setCell (p:=⟨w.heap.size,4,none⟩) (Nat.le_refl _) _
theorem Jj{x:Nat}(h:x≠0):0<bitLen x:=by
 rcases Nat.eq_zero_or_pos (bitLen x)with e|e
 ·have:=Cx x;rw[e]at this;omega
 exact e
theorem GQ(a:Option Addr)(m cap:Nat)(G:Nat→Nat)(n r:Nat)(at':Int)(w:World)(h:Sl w a m cap G)(hat:at'=(n:Int)+1)(hn:n≤4294967296)(hm:m≤4294967296)(hr:r≤63):
  Calls Tryz.prog 110 #[.slice a m cap,.int .i64 at',.int .i64 (r:Int)] w fun e w'=>e=.returned (.int .u64 ((Gx G m n r:Nat):Int))∧ ∃k,w'=w.drewN k:=by
 subst hat
 have hO:Hid (Ok G m):=h.2.2.1;have FIN: ∀f l:Nat,Ao G m 0 (n+1)=f→Ao G m 0 n=l→Hid (bits .or .u64 (IntKind.u64.wrap ((f:Int)*2^r)) ((l/2^(64-r):Nat):Int)=((Gx G m n r:Nat):Int)):=by
  intro f l h1 h2;have hl:l<18446744073709551616:=by rw[←h2];exact FC (n:=n+1) hO.out n (by omega)
  show _=_;rw[Ob f l r hl hr];unfold Gx;rw[h1,h2]
 have hr1:(0:Int)≤r:=by omega
 have hr2:(r:Int)≤63:=by omega
 have hr3:(0:Int)≤64- (r:Int):=by omega
 by_cases h1:n+1<m
 ·obtain⟨b,o,rfl,hw⟩:=h.at n (by omega);have hc1:=hw (n+1) h1;have hc2:=hw n (by omega);have F1:=FIN (G (n+1)) (G n) (by rw[Bb (by omega),Nat.zero_add]) (by rw[Bb (by omega),Nat.zero_add]);clear h hw FIN;go_enter Tryz.func110,Tryz.ntmps110
  go_wp2_with fail
  go_region
  go_wp2_with fail
  go_ret
  exact⟨AN (by rw[Dr];exact F1.out),1,rfl⟩
 by_cases h2:n<m
 ·obtain⟨b,o,rfl,hw⟩:=h.at n (by omega);have hc2:=hw n (by omega);have F1:=FIN 0 (G n) (by rw[A6 (by omega)]) (by rw[Bb (by omega),Nat.zero_add]);have t1:decide ((n:Int)+1<(m:Int))=false:=decide_eq_false (by omega);clear h hw FIN;go_enter Tryz.func110,Tryz.ntmps110
  go_wp2_with fail
  go_region
  go_wp2_with fail
  go_ret
  exact⟨AN (by rw[Dr];have:=F1.out;rw[show IntKind.u64.wrap (((0:Nat):Int)*2^r)=0 by simp[IntKind.wrap_u64]]at this;exact this),1,rfl⟩
 have F1:=FIN 0 0 (by rw[A6 (by omega)]) (by rw[A6 (by omega)]);have t1:decide ((n:Int)+1<(m:Int))=false:=decide_eq_false (by omega);have t2:decide (n<m)=false:=decide_eq_false (by omega);clear h FIN;go_enter Tryz.func110,Tryz.ntmps110
 go_wp2_with fail
 go_region
 go_wp2_with fail
 go_ret
 exact⟨AN (by have:=F1.out;rw[show IntKind.u64.wrap (((0:Nat):Int)*2^r)=0 by simp[IntKind.wrap_u64],Nat.zero_div]at this;exact this),1,rfl⟩
def Nr(w:World)(x y:Nat)(e:Ending)(w':World):Prop:=
 ∃k:Nat,e=.returned (.tuple #[.int .u64 ((x/2^k:Nat):Int),.int .u64 ((y/2^k:Nat):Int)])∧x/2^k<18446744073709551616∧Below w.heap.size w w'
theorem Jk(v u:Value)(x y:Nat)(w:World)(h:Ac w v x)(k:Ac w u y)(hx:Ar x)(hyx:y≤x)(hy:18446744073709551616≤y):
  Calls Tryz.prog 102 #[v,u] w (Nr w x y):=by
 have hfy:Ar y:=⟨Nat.lt_of_le_of_lt hyx hx.lt⟩;obtain⟨ax,n0,cap,rfl⟩:=h.isAgg;obtain⟨ay,m,cap',rfl⟩:=k.isAgg;obtain⟨F,hs,h0,h1,hv⟩:=h.fits;obtain⟨G,ks,k0,k1,kv⟩:=k.fits;have hn:n0≤4294967296:=AM (hv.symm▸hx) h1;have hm:m≤4294967296:=AM (kv.symm▸hfy) k1;have hn2:2≤n0:=by
  rcases Nat.lt_or_ge n0 2 with hh|hh
  ·have h5:=(Gh hs h1).2 (by omega);omega
  exact hh
 obtain⟨n,rfl⟩: ∃n,n0=n+2:=⟨n0-2,by omega⟩;have hmn:m≤n+2:=by
  refine Ch (m:=n+2) (F:=G) ?_ k1;rw[kv];exact Nat.lt_of_le_of_lt hyx (hv▸BU hs.2.2.1)
 obtain⟨b,o,rfl,hw⟩:=hs.at 0 (by omega);have hc:=hw (n+1) (by omega);have hF1:F (n+1)<18446744073709551616:=hs.2.2.1 _ (by omega);have hb0:F (n+1)≠0:=by have:=h1 (by omega);simpa using this
 have hbl:=Fb (F:=F) (n:=n+1) hs.2.2.1 hb0;rw[hv]at hbl;have hbp:=Jj hb0;have hb64:=Ca _ hF1;obtain⟨r,hr⟩: ∃r,r=64-bitLen (F (n+1)):=⟨_,rfl⟩;have hlx:x<2^(64*(n+2)-r):=by
  have:=Cx x;rw[hbl]at this;rw[show 64*(n+2)-r=64*(n+1)+bitLen (F (n+1)) by omega];exact this
 have W1:=JK (G:=F) (m:=n+2) (n:=n) (r:=r) hs.2.2.1 (Nat.le_refl _) (by omega) (by rw[hv];exact hlx);have W2:=JK (G:=G) (m:=m) (n:=n) (r:=r) ks.2.2.1 hmn (by omega) (by rw[kv];exact Nat.lt_of_le_of_lt hyx hlx);rw[hv]at W1;rw[kv]at W2;have HH:Hid (Sl w (some ⟨b,o,none⟩) (n+2) cap F∧Sl w ay m cap' G∧Gx F (n+2) n r=x/2^(64*(n+1)-r)∧Gx G m n r=y/2^(64*(n+1)-r)∧x/2^(64*(n+1)-r)<18446744073709551616∧r≤63∧bitLen (F (n+1))=64-r):=⟨hs,ks,W1.1,W2.1,W1.2,by omega,by omega⟩;have hlt:b<w.heap.size:=World.block_lt_of_cell? _ _ hc;have hrr:64-bitLen (F (n+1))=r:=hr.symm;clear hs h0 h1 hv ks k0 k1 kv hx hfy h k W1 W2 hlx hbl hyx hy hr hbp hb64 hw hb0;go_enter Tryz.func102,Tryz.ntmps102
 go_wp2_with fail
 refine(Ih (F (n+1)) _ hF1).mono ?_;rintro e w1 ⟨rfl,hw1⟩;rw[hw1,hrr];clear hw1 w1 hrr;have HB:Hid (Below w.heap.size w ((w.alloc (.cells #[.slice (some ⟨b,o,none⟩) (n+2) cap] 27)).alloc (.cells #[.slice ay m cap'] 27))):=Ap _ _ _;go_wp2_with fail
 go_quiet ((go_at_call 110;first|exact Calls.quiet_of (GQ _ _ _ F n r _ _ (HH.out.1.mono (AH HB.out _)) (by omega) (by omega) (by omega) HH.out.2.2.2.2.2.1)|exact Calls.quiet_of (GQ _ _ _ G n r _ _ (HH.out.2.1.mono (AH HB.out _)) (by omega) (by omega) (by omega) HH.out.2.2.2.2.2.1)))
 go_wp2_with fail
 rw[HH.out.2.2.1,HH.out.2.2.2.1];go_ret2
 exact⟨64*(n+1)-r,rfl,HH.out.2.2.2.2.1,AH HB.out _⟩
theorem GR(x y:Nat)(w:World)(hx:x<18446744073709551616)(hy:y<18446744073709551616):
  Calls Tryz.prog 104 #[.int .u64 (x:Int),.int .u64 (y:Int)] w fun e w'=>e=.returned (.int .u64 ((Nat.gcd x y:Nat):Int))∧ ∃n,w'=w.drewN n:=by
 go_enter Tryz.func104,Tryz.ntmps104
 go_wp2_with fail
 go_loopw [0,1] (fun p q wr=> ∃(a b nd:Nat),p=.int .u64 (a:Int)∧q=.int .u64 (b:Int)∧Hid (a<18446744073709551616∧b<18446744073709551616∧Nat.gcd a b=Nat.gcd x y)∧wr=w.drewN nd) (fun _ q _=>(intOf q).toNat)
 case atStart=>exact⟨x,y,0,rfl,rfl,⟨hx,hy,rfl⟩,rfl⟩
 case round=>
  obtain⟨a,b,nd,rfl,rfl,hh,rfl⟩:=hrel;by_cases hb:b=0
  ·subst hb;go_wp2_with fail
   go_ret
   refine⟨AN ?_,nd,rfl⟩;rw[←hh.out.2.2,Nat.gcd_zero_right]
  have hb1:((b:Int) != 0)=true:=by simp;omega
  have hb2:((b:Int)==0)=false:=by simp;omega
  have hb0:(0:Int)<b:=by omega
  have hlt:a%b<b:=Nat.mod_lt _ (by omega);have hbb:b<18446744073709551616:=hh.out.2.1;go_wp2_with fail
  go_region
  go_wp2_with fail
  go_roundw
  case rel=>
   refine⟨b,a%b,nd+1,rfl,by simp,⟨hh.out.2.1,by omega,?_⟩,rfl⟩;rw[←hh.out.2.2,Nat.gcd_comm a b,Nat.gcd_rec b a,Nat.gcd_comm]
  case measure=>simp[intOf];omega
structure Tx (x:Nat):Prop where
 lt:x<P 225
theorem Tx.small{x:Nat}(h:Tx x):Small x:=⟨Nat.lt_trans h.lt (CQ (show 225<lim2 by decide))⟩
theorem Tx.fits{x:Nat}(h:Tx x):Ar x:=h.small.fits
def OR(w:World)(e:TypeId)(base:Nat)(v:Value)(n:Nat)(G:Nat→Value):Prop:=
 (v=.slice none 0 0∧n=0)∨ ∃g cap f,v=.slice (some ⟨g,0,none⟩) n cap∧base≤g∧n≤cap∧cap≤maxLen∧w.rowIs g e cap f∧ ∀i,i<n→f i=G i
theorem OR.owns{w:World}{e:TypeId}{base:Nat}{v:Value}{n:Nat}{G:Nat→Value}(h:OR w e base v n G):w.ownsRow base e 1 v n ((List.range n).map G):=by
 refine⟨by simp,?_⟩;rcases h with h| ⟨g,cap,f,rfl,hb,hn,hc,⟨cur,h1,h2,h3⟩,h4⟩
 ·exact .inl h
 refine .inr ⟨g,cap,cur,rfl,hb,h1,hn,hc,by omega,?_⟩;refine List.ext_getElem? fun i=> ?_;rw[Nat.mul_one];rcases Nat.lt_or_ge i n with hi|hi
 ·rw[List.getElem?_take_of_lt hi,List.getElem?_map,List.getElem?_range hi,Array.getElem?_toList,h3 i (by omega),h4 i hi];rfl
 rw[List.getElem?_eq_none (by simp;omega),List.getElem?_eq_none (by simp;omega)]
theorem OR.of_owns{w:World}{e:TypeId}{base:Nat}{v:Value}{n:Nat}{G:Nat→Value}{xs:List Value}(h:w.ownsRow base e 1 v n xs)(hx: ∀i,i<n→xs[i]? =some (G i)):OR w e base v n G:=by
 rcases h.2 with h| ⟨g,cap,cur,rfl,hb,hg,hn,hc,hs,ht⟩
 ·exact .inl h
 refine .inr ⟨g,cap,fun i=>cur.getD i (.int .u64 0),rfl,hb,hn,hc,⟨cur,hg,by omega,fun i hi=> ?_⟩,fun i hi=> ?_⟩
 ·show _=some (cur.getD i (.int .u64 0));rw[Array.getElem?_eq_getElem (by omega),Array.getD_eq_getD_getElem?,Array.getElem?_eq_getElem (by omega)];rfl
 have:=hx i hi;rw[←ht,List.getElem?_take_of_lt (by omega),Array.getElem?_toList]at this;show cur.getD i (.int .u64 0)=_;rw[Array.getD_eq_getD_getElem?,this];rfl
theorem OR.below{w w':World}{e:TypeId}{base:Nat}{v:Value}{n:Nat}{G:Nat→Value}(h:OR w e base v n G)(hb:Below w.heap.size w w'):OR w' e base v n G:=by
 rcases h with h| ⟨g,cap,f,rfl,hb',hn,hc,h1,h4⟩
 ·exact .inl h
 exact .inr ⟨g,cap,f,rfl,hb',hn,hc,h1.of_block (hb.block g h1.lt),h4⟩
theorem OR.nil(w:World)(e:TypeId)(base:Nat)(G:Nat→Value):OR w e base (.slice none 0 0) 0 G:=.inl ⟨rfl,rfl⟩
theorem OR.congr{w:World}{e:TypeId}{base:Nat}{v:Value}{n:Nat}{G G':Nat→Value}(h:OR w e base v n G)(hG: ∀i,i<n→G i=G' i):OR w e base v n G':=by
 rcases h with h| ⟨g,cap,f,rfl,hb',hn,hc,h1,h4⟩
 ·exact .inl h
 exact .inr ⟨g,cap,f,rfl,hb',hn,hc,h1,fun i hi=>(h4 i hi).trans (hG i hi)⟩
theorem BC{w:World}{ops:Array Oper}{rest:List Oper}{o:Oper}{ac:Act}{Q:Exit→Act→World→Prop}(hgd:o.guard=none)(s x:Operand)(t:TypeId)
  (ho:o.op=.call {callee:=.builtin .append,args:= #[s,x],argTypes:= #[t,t]}) (e:TypeId) (z:Value) (bytes:Nat) (ht:Tryz.prog.underlying t=some (.slice e))
  (hi:(Tryz.prog.info? e).map (fun i=>(i.zero,i.size,i.bytes))=some (some z,1,bytes)) (hz:z.cells.size=1) (hby:bytes≤24) (base:Nat) (v:Value) (n:Nat) (G:Nat→Value) (hs:ac.eval s=v) (hown:OR w e base v n G)
  (b:Nat) (c:Nat) (hx:ac.eval x=.slice (some ⟨b,0,none⟩) 1 c) (u:Value) (hc:w.cell? ⟨b,0,none⟩=some u) (h1:u.oneCell'=true) (hn:n+1≤1099511627776) (hbase:base≤w.heap.size)
  (h: ∀g cap w',OR w' e base (.slice (some ⟨g,0,none⟩) (n+1) cap) (n+1) (fun j=>if j=n then u else G j)→w.grownBy w' v.ownBlock→(v.ownBlock=some g∨g=w.heap.size)→g<w'.heap.size→wpList Tryz.prog ops Q rest (ac.put o.dst (.slice (some ⟨g,0,none⟩) (n+1) cap)) w'):wpList Tryz.prog ops Q (o::rest) ac w:=by
 obtain⟨i,hi,hzz,hsz,hb⟩:=info_parts hi;refine wpList_append_lies w hgd s x t ho base e i z 1 bytes ht hi hzz hsz hb hz (by omega) v n _ hs hown.owns ⟨b,0,none⟩ 1 c [u] hx rfl (fun j u' hj=> ?_) (fun u' hu=>by simp at hu;subst hu;exact h1) (by omega) (by simp only[maxLen];omega) ?_ hbase _ rfl (fun g cap w' k1 k2 k3 k4=>h g cap w' (OR.of_owns k1 fun i hi=> ?_) k2 k3 k4)
 ·match j,hj with
  |0,hj=>simp at hj;subst hj;simpa[Addr.add]using hc
 ·have:=Nat.mul_le_mul (show n+1≤1099511627776 from hn) hby;omega
 rcases Nat.lt_or_ge i n with hh|hh
 ·rw[List.getElem?_append_left (by simpa using hh),List.getElem?_map,List.getElem?_range hh,if_neg (by omega)];rfl
 obtain rfl:i=n:=by omega
 rw[List.getElem?_append_right (by simp),if_pos rfl];simp
def wd(F:Nat→Nat):Nat→Value:=fun j=>.int .u64 ((F j:Nat):Int)
theorem Tryz.info22b:(Tryz.prog.info? 56).map (fun i=>(i.zero,i.size,i.bytes))=some (some (.int .u64 0),1,8):=by kernel_rfl
theorem Ac.cellOf{w:World}{u:Value}{x:Nat}(h:Ac w (.agg #[u]) x): ∃a n c,u=.slice a n c:=by
 obtain⟨a,n,c,e1⟩:=h.isAgg;exact⟨a,n,c,by simpa using e1⟩
theorem hold{p:Prop}(h:True→p):p:=h trivial
end Go.Proofs.YtcbjkgphpnihiaaGreatDoor
