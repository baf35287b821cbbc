/- Contracts of the program's functions, part 12: own work, joined in build order. -/
import Derived.Test.YtbikpmmpgbggaaaGreatDoorJ11
import Derived.ArgAppend
import Derived.Laws.AppendOwnNone
import Derived.Handy
namespace Go.Proofs.YtbikpmmpgbggaaaGreatDoor
open Go.RowKit
set_option maxRecDepth 100000
set_option linter.unusedVariables false
set_option maxHeartbeats 16000000
structure SY (w0 w:World) (N M:List (Value×Nat)) (F G:List (Value×Nat×Nat)) (C:List (Nat×Nat×Value)) (Z:List Nat):Prop where
 sx:SX w0 w N M F G C
 fzs: ∀b∈Z,(∀i,w.frozen? ⟨b,i,none⟩=false)∧w0.heap.size≤b∧b<w.heap.size
def IG(R:Nat)(w:World)(v:Value)(w':World):Prop:= ∃u,v=.agg #[u]∧w'=w.setCell ⟨R,0,none⟩ u
section
variable {w0 w:World} {N M:List (Value×Nat)} {F G:List (Value×Nat×Nat)} {C:List (Nat×Nat×Value)} {Z:List Nat}
theorem Bp(w:World):SY w w [] [] [] [] [] []:=⟨GU w,fun _ h=>by cases h⟩
theorem SY.bel(h:SY w0 w N M F G C Z):Below w0.heap.size w0 w:=h.sx.bel
theorem SY.go(h:SY w0 w N M F G C Z){w':World}(hb:Below w.heap.size w w'):SY w0 w' N M F G C Z:=
 ⟨h.sx.go hb,fun b hz=>⟨fun i=>(hb.frozen (p:=⟨b,i,none⟩) (h.fzs b hz).2.2).trans ((h.fzs b hz).1 i),(h.fzs b hz).2.1,Nat.lt_of_lt_of_le (h.fzs b hz).2.2 hb.size⟩⟩
theorem SY.at(h:SY w0 w N M F G C Z)(v:Value)(x:Nat)(hm:(v,x)∈N:=by simp):Ac w v x:=h.sx.nats _ hm
theorem SY.rat(h:SY w0 w N M F G C Z)(v:Value)(x:Nat)(hm:(v,x)∈M:=by simp):Ai w v x:=h.sx.rnats _ hm
theorem SY.fr(h:SY w0 w N M F G C Z)(v:Value)(p q:Nat)(hm:(v,p,q)∈F:=by simp):Rt w v p q:=h.sx.frs _ hm
theorem SY.rfr(h:SY w0 w N M F G C Z)(v:Value)(p q:Nat)(hm:(v,p,q)∈G:=by simp):RRt w v p q:=h.sx.rfrs _ hm
theorem SY.cel(h:SY w0 w N M F G C Z)(b i:Nat)(u:Value)(hm:(b,i,u)∈C:=by simp):w.cell? ⟨b,i,none⟩=some u:=h.sx.cells _ hm
theorem SY.cell(h:SY w0 w N M F G C Z)(b:Nat)(u:Value)(hm:(b,0,u)∈C:=by simp):w.cell? ⟨b,0,none⟩=some u:=h.sx.cells _ hm
theorem SY.fz(h:SY w0 w N M F G C Z)(b i:Nat)(hm:b∈Z:=by simp):w.frozen? ⟨b,i,none⟩=false:=(h.fzs b hm).1 i
theorem SY.lo(h:SY w0 w N M F G C Z)(b:Nat)(hm:b∈Z:=by simp):w0.heap.size≤b:=(h.fzs b hm).2.1
theorem SY.lt(h:SY w0 w N M F G C Z)(b:Nat)(hm:b∈Z:=by simp):b<w.heap.size:=(h.fzs b hm).2.2
theorem SY.addN(h:SY w0 w N M F G C Z){v:Value}{x:Nat}(hv:Ac w v x):SY w0 w ((v,x)::N) M F G C Z:=⟨h.sx.addN hv,h.fzs⟩
theorem SY.addM(h:SY w0 w N M F G C Z){v:Value}{x:Nat}(hv:Ai w v x):SY w0 w N ((v,x)::M) F G C Z:=⟨h.sx.addM hv,h.fzs⟩
theorem SY.addF(h:SY w0 w N M F G C Z){v:Value}{x y:Nat}(hv:Rt w v x y):SY w0 w N M ((v,x,y)::F) G C Z:=⟨h.sx.addF hv,h.fzs⟩
theorem SY.addG(h:SY w0 w N M F G C Z){v:Value}{x y:Nat}(hv:RRt w v x y):SY w0 w N M F ((v,x,y)::G) C Z:=⟨h.sx.addG hv,h.fzs⟩
theorem SY.addC(h:SY w0 w N M F G C Z){b i:Nat}{v:Value}(hv:w.cell? ⟨b,i,none⟩=some v):SY w0 w N M F G ((b,i,v)::C) Z:=⟨h.sx.addC hv,h.fzs⟩
theorem SY.addZ(h:SY w0 w N M F G C Z){b:Nat}(hv: ∀i,w.frozen? ⟨b,i,none⟩=false)(h1:w0.heap.size≤b)(h2:b<w.heap.size):SY w0 w N M F G C (b::Z):=
 ⟨h.sx,fun x hx=>by
  rcases List.mem_cons.1 hx with e|e
  ·subst e;exact⟨hv,h1,h2⟩
  exact h.fzs x e⟩
theorem SY.box1(h:SY w0 w N M F G C Z)(u:Value)(t:TypeId)(g:Nat)(hg:g=w.heap.size):SY w0 (w.alloc (.cells #[u] t)) N M F G ((g,0,u)::C) (g::Z):=by
 subst hg;have k:=h.go (w':=w.alloc (.cells #[u] t)) (Ah (Below.refl _ _));exact SY.addZ ⟨h.sx.box1 u t _ rfl,k.fzs⟩ (fun i=>by simp[go_sem]) h.bel.size (by simp)
theorem SY.box(h:SY w0 w N M F G C Z)(u u':Value)(t:TypeId)(g:Nat)(hg:g=w.heap.size):SY w0 (w.alloc (.cells #[u,u'] t)) N M F G ((g,0,u)::(g,1,u')::C) (g::Z):=by
 subst hg;have k:=h.go (w':=w.alloc (.cells #[u,u'] t)) (Ah (Below.refl _ _));exact SY.addZ ⟨h.sx.box u u' t _ rfl,k.fzs⟩ (fun i=>by simp[go_sem]) h.bel.size (by simp)
theorem SY.set(h:SY w0 w N M F G C Z){b i:Nat}{a:Option Addr}{n c:Nat}(hc:w.cell? ⟨b,i,none⟩=some (.slice a n c))(hlo:w0.heap.size≤b)(C':List (Nat×Nat×Value))(hC: ∀p∈C',p∈C∧p.1≠b)(u:Value):SY w0 (w.setCell ⟨b,i,none⟩ u) N M F G C' Z:=
 ⟨h.sx.set hc hlo C' hC u,fun x hx=>⟨fun j=>by rw[World.frozen?_setCell];exact(h.fzs x hx).1 j,(h.fzs x hx).2.1,by simpa[go_sem]using(h.fzs x hx).2.2⟩⟩
theorem SY.sub(h:SY w0 w N M F G C Z)(N' M':List (Value×Nat))(F' G':List (Value×Nat×Nat))(C':List (Nat×Nat×Value))(Z':List Nat)(h1: ∀p∈N',p∈N)(h2: ∀p∈M',p∈M)(h3: ∀p∈F',p∈F)(h4: ∀p∈G',p∈G)(h5: ∀p∈C',p∈C)(h6: ∀p∈Z',p∈Z):SY w0 w N' M' F' G' C' Z':=
 ⟨⟨fun p hp=>h.sx.nats p (h1 p hp),fun p hp=>h.sx.rnats p (h2 p hp),fun p hp=>h.sx.frs p (h3 p hp),fun p hp=>h.sx.rfrs p (h4 p hp),fun p hp=>h.sx.cells p (h5 p hp),h.sx.bel⟩,fun b hb=>h.fzs b (h6 b hb)⟩
theorem SY.ret1(h:SY w0 w N M F G C Z){r:Nat}{v:Value}{x:Nat}(hc:w.cell? ⟨r,0,none⟩=some (.slice none 0 0))(hz:r∈Z)(hv:Ac w v x)(u:Value):Ac (w.setCell ⟨r,0,none⟩ u) v x∧Below w0.heap.size w0 (w.setCell ⟨r,0,none⟩ u):=
 ⟨hv.setCell (Ad hc) u,h.bel.setCell (p:=⟨r,0,none⟩) (h.lo r hz) u⟩
end
end Go.Proofs.YtbikpmmpgbggaaaGreatDoor
namespace Go.Proofs.YtbikpmmpgbggaaaGreatDoor
open Go.RowKit
set_option linter.unusedVariables false
def Dp(p q:Nat):Nat:=if 2*(p%q)<q then p/q else if 2*(p%q)=q∧p/q%2=0 then p/q else p/q+1
theorem TU{p q c:Nat}(hq:0<q)(h:p<c*q):Dp p q≤c:=by
 have h1:p/q<c:=(Nat.div_lt_iff_lt_mul hq).2 h;unfold Dp;split
 ·omega
 split<;>omega
theorem TV{p q c:Nat}(hq:0<q)(h:c*q≤p):c≤Dp p q:=by
 have h1:c≤p/q:=(Nat.le_div_iff_mul_le hq).2 h;unfold Dp;split
 ·omega
 split<;>omega
def upN(p:Nat)(u:Int):Nat:=p*2^(-u).toNat
def dnN(q:Nat)(u:Int):Nat:=q*2^u.toNat
theorem Ee{q:Nat}(h:0<q)(u:Int):0<dnN q u:=Nat.mul_pos h (Nat.two_pow_pos _)
theorem OP(p q:Nat)(u:Int)(k:Nat):upN p u*dnN q (u+k)=upN p (u+k)*dnN q u*2^k:=by
 unfold upN dnN;have e:2^(-u).toNat*2^(u+k).toNat=2^(-(u+k)).toNat*2^u.toNat*2^k:=by
  rw[←Nat.pow_add,←Nat.pow_add,←Nat.pow_add];congr 1
  omega
 calc p*2^(-u).toNat*(q*2^(u+k).toNat)=p*q*(2^(-u).toNat*2^(u+k).toNat):=by grind
  _=p*q*(2^(-(u+k)).toNat*2^u.toNat*2^k):=by rw[e]
  _=p*2^(-(u+k)).toNat*(q*2^u.toNat)*2^k:=by grind
theorem FJ{p q:Nat}(hq:0<q)(u:Int)(k c:Nat):upN p (u+k)<c*dnN q (u+k)↔upN p u<c*2^k*dnN q u:=by
 have h:=OP p q u k;have h1:=Ee hq u;have h2:=Ee hq (u+k);have h3:0<2^k:=Nat.two_pow_pos k;have h4:0<dnN q u*2^k:=Nat.mul_pos h1 h3;constructor
 ·intro hh;have a:upN p (u+k)*(dnN q u*2^k)<c*dnN q (u+k)*(dnN q u*2^k):=Nat.mul_lt_mul_of_pos_right hh h4;refine Nat.lt_of_mul_lt_mul_right (a:=dnN q (u+k)) ?_;rw[h]
  calc upN p (u+k)*dnN q u*2^k=upN p (u+k)*(dnN q u*2^k):=by grind
   _<c*dnN q (u+k)*(dnN q u*2^k):=a
   _=c*2^k*dnN q u*dnN q (u+k):=by grind
 intro hh;have a:upN p u*dnN q (u+k)<c*2^k*dnN q u*dnN q (u+k):=Nat.mul_lt_mul_of_pos_right hh h2;rw[h]at a;refine Nat.lt_of_mul_lt_mul_right (a:=dnN q u*2^k) ?_
 calc upN p (u+k)*(dnN q u*2^k)=upN p (u+k)*dnN q u*2^k:=by grind
  _<c*2^k*dnN q u*dnN q (u+k):=a
  _=c*dnN q (u+k)*(dnN q u*2^k):=by grind
theorem OQ{p q:Nat}(hq:0<q)(u:Int)(k c:Nat):c*dnN q (u+k)≤upN p (u+k)↔c*2^k*dnN q u≤upN p u:=by
 rw[←Nat.not_lt,←Nat.not_lt,FJ hq u k c]
def At(p q:Nat)(e:Int):Prop:=dnN q e≤upN p e∧upN p e<2*dnN q e
def flI(p q:Nat)(s:Int):Int:=if upN p s<dnN q s then s-1 else s
theorem Wz{p q a b:Nat}(hp:2^a≤p)(hp2:p<2^(a+1))(hq:2^b≤q)(hq2:q<2^(b+1)):At p q (flI p q ((a:Int)-b)):=by
 have q0:0<q:=Nat.lt_of_lt_of_le (Nat.two_pow_pos b) hq;obtain⟨s,hs⟩:=nme ((a:Int)-b:Int);rw[←hs];have hup:upN p s<2*dnN q s:=by
  unfold upN dnN;have e1:p*2^(-s).toNat<2^(a+1)*2^(-s).toNat:=Nat.mul_lt_mul_of_pos_right hp2 (Nat.two_pow_pos _);have e2:2^b*2^s.toNat≤q*2^s.toNat:=Nat.mul_le_mul_right _ hq;have e3:2^(a+1)*2^(-s).toNat=2*(2^b*2^s.toNat):=by
   rw[←Nat.pow_add,←Nat.pow_add,←Nat.pow_succ'];congr 1
   omega
  omega
 have hlo:dnN q s<2*upN p s:=by
  unfold upN dnN;have e1:q*2^s.toNat<2^(b+1)*2^s.toNat:=Nat.mul_lt_mul_of_pos_right hq2 (Nat.two_pow_pos _);have e2:2^a*2^(-s).toNat≤p*2^(-s).toNat:=Nat.mul_le_mul_right _ hp;have e3:2^(b+1)*2^s.toNat=2*(2^a*2^(-s).toNat):=by
   rw[←Nat.pow_add,←Nat.pow_add,←Nat.pow_succ'];congr 1
   omega
  omega
 unfold flI;split
 ·rename_i h;have k1:=FJ (p:=p) q0 (s-1) 1 1;have e:s-1+((1:Nat):Int)=s:=by omega
  rw[e]at k1;have h':upN p s<1*dnN q s:=by omega
  have k2:=k1.1 h';have k3:=OP p q (s-1) 1;rw[e]at k3;refine⟨?_,by simpa using k2⟩;have p1:=Ee q0 (s-1);have p2:=Ee q0 s;refine Nat.le_of_mul_le_mul_right (c:=dnN q s) ?_ p2;rw[k3];have:dnN q s*dnN q (s-1)≤2*upN p s*dnN q (s-1):=Nat.mul_le_mul_right _ (Nat.le_of_lt hlo);grind
 exact⟨by omega,hup⟩
def unI(e:Int):Int:=if e-52< -1074 then -1074 else e-52
def ctN(p q:Nat)(u:Int):Nat:=Dp (upN p u) (dnN q u)
theorem At.lt{p q:Nat}{e:Int}(h:At p q e)(hq:0<q):upN p (unI e)<9007199254740992*dnN q (unI e):=by
 obtain⟨k,hk⟩: ∃k:Nat,unI e=e-52+k:=⟨(unI e- (e-52)).toNat,by unfold unI;split<;>omega⟩;have h1:=(FJ (p:=p) hq (e-52) 52 2);rw[show e-52+((52:Nat):Int)=e by omega]at h1;have h2:=h1.1 h.2;rw[hk,FJ hq];have:1≤2^k:=Nat.one_le_two_pow;have h3:9007199254740992*1*dnN q (e-52)≤9007199254740992*2^k*dnN q (e-52):=Nat.mul_le_mul_right _ (Nat.mul_le_mul_left _ this);omega
theorem At.ct{p q:Nat}{e:Int}(h:At p q e)(hq:0<q):ctN p q (unI e)≤9007199254740992:=TU (Ee hq _) (h.lt hq)
theorem At.ge{p q:Nat}{e:Int}(h:At p q e)(hq:0<q)(hu:unI e=e-52):4503599627370496*dnN q (unI e)≤upN p (unI e):=by
 have h1:=(OQ (p:=p) hq (e-52) 52 1);rw[show e-52+((52:Nat):Int)=e by omega]at h1;have:=h1.1 (by have:=h.1;omega);rw[hu];omega
theorem At.ct_ge{p q:Nat}{e:Int}(h:At p q e)(hq:0<q)(hu:unI e=e-52):4503599627370496≤ctN p q (unI e):=TV (Ee hq _) (h.ge hq hu)
theorem PX{p q:Nat}(h:2*p<q):Dp p q=0:=by
 have h1:p/q=0:=Nat.div_eq_of_lt (by omega);have h2:p%q=p:=Nat.mod_eq_of_lt (by omega);unfold Dp;rw[h1,h2,if_pos h]
theorem At.low{p q:Nat}{e:Int}(h:At p q e)(hq:0<q)(he:e≤ -1076):unI e= -1074∧ctN p q (unI e)=0:=by
 have hu:unI e= -1074:=by unfold unI;split<;>omega
 refine⟨hu,?_⟩;rw[hu];obtain⟨k,hk⟩: ∃k:Nat,(-1075:Int)=e+(k+1:Nat):=⟨(-1076-e).toNat,by omega⟩;have h1:=FJ (p:=p) hq e (k+1) 1;rw[←hk]at h1;have h2:upN p (-1075)<1*dnN q (-1075):=by
  rw[h1];have h3:2^1≤2^(k+1):=Nat.pow_le_pow_right (by omega) (by omega);have h4:1*2*dnN q e≤1*2^(k+1)*dnN q e:=Nat.mul_le_mul_right _ (by omega);have:=h.2;omega
 refine PX ?_;have e1:upN p (-1075)=2*upN p (-1074):=by
  obtain⟨m,hm⟩: ∃m:Nat,m=1074:=⟨_,rfl⟩;unfold upN;rw[show(-(-1075:Int)).toNat=m+1 by omega,show(-(-1074:Int)).toNat=m by omega,Nat.pow_succ];grind
 have e2:dnN q (-1075)=dnN q (-1074):=by
  unfold dnN;rw[show(-1075:Int).toNat=(-1074:Int).toNat by decide]
 omega
def GV(p q:Nat)(e:Int):Nat:=(unI e+1074).toNat*4503599627370496+ctN p q (unI e)
theorem At.high{p q:Nat}{e:Int}(h:At p q e)(hq:0<q)(he:1024≤e):9218868437227405312≤GV p q e:=by
 have hu:unI e=e-52:=by unfold unI;split<;>omega
 have:=h.ct_ge hq hu;unfold GV;have:2046≤(unI e+1074).toNat:=by omega
 have:2046*4503599627370496≤(unI e+1074).toNat*4503599627370496:=Nat.mul_le_mul_right _ this;omega
theorem At.bits_low{p q:Nat}{e:Int}(h:At p q e)(hq:0<q)(he:e≤ -1076):GV p q e=0:=by
 obtain⟨h1,h2⟩:=h.low hq he;unfold GV;rw[h2,h1];rfl
set_option maxRecDepth 100000
theorem RG(x Y:Nat)(hY:0<Y):Nat.gcd (x/Nat.gcd x Y) (Y/Nat.gcd x Y)=1∧x/Nat.gcd x Y*Y=x*(Y/Nat.gcd x Y)∧0<Y/Nat.gcd x Y:=by
 have g0:0<Nat.gcd x Y:=Nat.gcd_pos_of_pos_right _ hY;refine⟨?_,?_,Nat.div_pos (Nat.gcd_le_right _ hY) g0⟩
 ·rw[Nat.gcd_div (Nat.gcd_dvd_left _ _) (Nat.gcd_dvd_right _ _),Nat.div_self g0]
 obtain⟨a,ha⟩:=Nat.gcd_dvd_left x Y;obtain⟨b,hb⟩:=Nat.gcd_dvd_right x Y;generalize Nat.gcd x Y=g at*;subst ha hb;rw[Nat.mul_div_cancel_left _ g0,Nat.mul_div_cancel_left _ g0];grind
def bt(D:Nat→Nat):Nat→Value:=fun j=>.int .u8 ((D j:Nat):Int)
def TW(j:Nat):Nat:=201+j
def ahead(D:Nat→Nat):Nat→Nat:=fun j=>if j<1 then 0 else D (j-1)
structure Fc (p q N D n:Nat):Prop where
 low:Nat.gcd p q=1
 pos:0<q
 dpos:0<D
 val:p*D=N*q
 s1:p<P n
 s2:q<P n
theorem Ju{x y n m:Nat}(h:x<P n)(k:y<P m):x*y<P (n+m):=by
 rw[FU];exact Nat.mul_lt_mul'' h k
theorem Cb{x n m:Nat}(h:x<P n)(hm:n≤m):x<P m:=Nat.lt_of_lt_of_le h (Dt hm)
theorem Je{x y:Nat}(h:x=y):AW x y=0:=by unfold AW;rw[if_neg (by omega),if_pos h]
theorem Fc.one{p q p' q' N D n m:Nat}(h:Fc p q N D n)(k:Fc p' q' N D m):p=p'∧q=q':=by
 have e:p*q'=p'*q:=by
  refine Nat.eq_of_mul_eq_mul_right h.dpos ?_;have h1:=h.val;have h2:=k.val;rw[show p*q'*D=p*D*q' by grind,h1,show p'*q*D=p'*D*q by grind,h2];grind
 have a1:q∣q':=Nat.Coprime.dvd_of_dvd_mul_left (Nat.Coprime.symm h.low) ⟨p',by rw[e,Nat.mul_comm]⟩;have a2:q'∣q:=Nat.Coprime.dvd_of_dvd_mul_left (Nat.Coprime.symm k.low) ⟨p,by rw[←e,Nat.mul_comm]⟩;have e2:q=q':=Nat.dvd_antisymm a1 a2;subst e2;exact⟨Nat.eq_of_mul_eq_mul_right h.pos e,rfl⟩
theorem JL(v u:Value)(p q t:Nat)(s:Int)(w:World)(h:Ac w v p)(k:Ac w u q)(hp:AE p)(hs:s= -(t:Int))(ht0:0<t)(ht:t≤16777216):
  Calls Tryz.prog 90 #[v,u,.int .i64 s] w (Ih w (p*2^t) q):=by
 obtain⟨a,n,c,rfl⟩:=h.isAgg;obtain⟨a',n',c',rfl⟩:=k.isAgg;have S1:Hid _:=(((((((GU w).addN h).addN k).box1 (.slice a n c) 103 _ rfl).box1 (.slice a' n' c') 103 _ rfl).box1 (.slice none 0 0) 103 _ rfl).box1 (.slice none 0 0) 103 _ rfl);simp only[World.size_alloc]at S1;obtain⟨w0,hw0⟩:=nme ((((w.alloc (.cells #[.slice a n c] 103)).alloc (.cells #[.slice a' n' c'] 103)).alloc (.cells #[.slice none 0 0] 103)).alloc (.cells #[.slice none 0 0] 103));have f0:w0.frozen? ⟨w.heap.size,0,none⟩=false:=by rw[hw0];simp[go_sem]
 have f1:w0.frozen? ⟨w.heap.size+1+1,0,none⟩=false:=by rw[hw0];simp[go_sem]
 have f2:w0.frozen? ⟨w.heap.size+1+1+1,0,none⟩=false:=by rw[hw0];simp[go_sem]
 have HH:Hid (AE p∧t≤16777216):=⟨hp,ht⟩;have d1:decide (s<0)=true:=decide_eq_true (by omega);have m1:IntKind.i64.wrap (-s)=(t:Int):=by rw[IntKind.wrap_i64];omega
 clear h k hp hs ht0 ht;go_enter Tryz.func90,Tryz.ntmps90
 go_wp2_with fail
 rw[←hw0]at S1;rw[←hw0];obtain⟨b2,hb2⟩:=nme w.heap.size;have HB:Hid (w.heap.size≤b2):=by show _≤_;omega
 rw[←hb2]at S1 f0 f1 f2;rw[←hb2];clear hw0 hb2;refine(MC _ p t _ (S1.out.at (.agg #[.slice a n c]) p) HH.out.1 HH.out.2).mono ?_;rintro e w1 ⟨v1,rfl,hv1,hb1⟩;obtain⟨a1,n1,k1,rfl⟩:=hv1.isAgg;have z0:=cell_later hb1 (S1.out.cel b2 0 (.slice a n c));have z1:=cell_later hb1 (S1.out.cel (b2+1) 0 (.slice a' n' c'));have z2:=cell_later hb1 (S1.out.cel (b2+1+1) 0 (.slice none 0 0));have z3:=cell_later hb1 (S1.out.cel (b2+1+1+1) 0 (.slice none 0 0));have g0:=(hb1.frozen (World.block_lt_of_cell? _ _ (S1.out.cel b2 0 (.slice a n c)))).trans f0;have g1:=(hb1.frozen (World.block_lt_of_cell? _ _ (S1.out.cel (b2+1+1) 0 (.slice none 0 0)))).trans f1;have g2:=(hb1.frozen (World.block_lt_of_cell? _ _ (S1.out.cel (b2+1+1+1) 0 (.slice none 0 0)))).trans f2;have I1:Hid (Ac w1 (.agg #[.slice a1 n1 k1]) (p*2^t)∧Ac w1 (.agg #[.slice a' n' c']) q∧Below w.heap.size w w1):=⟨hv1,(S1.out.at (.agg #[.slice a' n' c']) q).mono hb1,Aj S1.out.bel hb1⟩;clear hv1 hb1 S1 f0 f1 f2;go_wp2_with fail
 obtain⟨W,hW⟩:=nme (w1.setCell ⟨b2,0,none⟩ (.slice a1 n1 k1));have y0:W.cell? ⟨b2,0,none⟩=some (.slice a1 n1 k1):=by rw[hW];simp[go_sem,z0]
 have y1:W.cell? ⟨b2+1,0,none⟩=some (.slice a' n' c'):=by rw[hW];simp[go_sem,z1]
 have y2:W.cell? ⟨b2+1+1,0,none⟩=some (.slice none 0 0):=by rw[hW];simp[go_sem,z2]
 have y3:W.cell? ⟨b2+1+1+1,0,none⟩=some (.slice none 0 0):=by rw[hW];simp[go_sem,z3]
 have h1:W.frozen? ⟨b2+1+1,0,none⟩=false:=by rw[hW];simp[World.frozen?_setCell,g1]
 have h2:W.frozen? ⟨b2+1+1+1,0,none⟩=false:=by rw[hW];simp[World.frozen?_setCell,g2]
 have I2:Hid (Ac W (.agg #[.slice a1 n1 k1]) (p*2^t)∧Ac W (.agg #[.slice a' n' c']) q∧Below w.heap.size w W):=by
  rw[hW];exact⟨I1.out.1.setCell (Ad z0) _,I1.out.2.1.setCell (Ad z0) _,I1.out.2.2.setCell HB.out _⟩
 rw[←hW];clear hW I1 z0 z1 z2 z3 g0 g1 g2;have Z:Hid _:=J0 (r:=b2+1+1) (x:=.slice a1 n1 k1) (y:=.slice a' n' c') y2 y3 I2.out.1 I2.out.2.1 I2.out.2.2 (by have:=HB.out;omega);go_region
 go_wp2_with fail
 refine bodyPost_ret (v:=.tuple #[.agg #[.slice a1 n1 k1],.agg #[.slice a' n' c']]) (by simp[results,Tryz.results90,go_sem,y2,y3]) rfl ⟨_,_,rfl,Z.out.1.mono (AV (Aa _)),Z.out.2.1.mono (AV (Aa _)),AV Z.out.2.2⟩
theorem JM(v u:Value)(p q t:Nat)(s:Int)(w:World)(h:Ac w v p)(k:Ac w u q)(hp:AE q)(hs:s=(t:Int))(ht:t≤16777216):
  Calls Tryz.prog 90 #[v,u,.int .i64 s] w (Ih w p (q*2^t)):=by
 obtain⟨a,n,c,rfl⟩:=h.isAgg;obtain⟨a',n',c',rfl⟩:=k.isAgg;have S1:Hid _:=(((((((GU w).addN h).addN k).box1 (.slice a n c) 103 _ rfl).box1 (.slice a' n' c') 103 _ rfl).box1 (.slice none 0 0) 103 _ rfl).box1 (.slice none 0 0) 103 _ rfl);simp only[World.size_alloc]at S1;obtain⟨w0,hw0⟩:=nme ((((w.alloc (.cells #[.slice a n c] 103)).alloc (.cells #[.slice a' n' c'] 103)).alloc (.cells #[.slice none 0 0] 103)).alloc (.cells #[.slice none 0 0] 103));have f0:w0.frozen? ⟨w.heap.size+1,0,none⟩=false:=by rw[hw0];simp[go_sem]
 have f1:w0.frozen? ⟨w.heap.size+1+1,0,none⟩=false:=by rw[hw0];simp[go_sem]
 have f2:w0.frozen? ⟨w.heap.size+1+1+1,0,none⟩=false:=by rw[hw0];simp[go_sem]
 have HH:Hid (AE q∧t≤16777216):=⟨hp,ht⟩;have d1:decide ((t:Int)<0)=false:=decide_eq_false (by omega);subst hs;clear h k hp ht;go_enter Tryz.func90,Tryz.ntmps90
 go_wp2_with fail
 rw[←hw0]at S1;rw[←hw0];obtain⟨b2,hb2⟩:=nme w.heap.size;have HB:Hid (w.heap.size≤b2):=by show _≤_;omega
 rw[←hb2]at S1 f0 f1 f2;rw[←hb2];clear hw0 hb2;refine(MC _ q t _ (S1.out.at (.agg #[.slice a' n' c']) q) HH.out.1 HH.out.2).mono ?_;rintro e w1 ⟨v1,rfl,hv1,hb1⟩;obtain⟨a1,n1,k1,rfl⟩:=hv1.isAgg;have z0:=cell_later hb1 (S1.out.cel b2 0 (.slice a n c));have z1:=cell_later hb1 (S1.out.cel (b2+1) 0 (.slice a' n' c'));have z2:=cell_later hb1 (S1.out.cel (b2+1+1) 0 (.slice none 0 0));have z3:=cell_later hb1 (S1.out.cel (b2+1+1+1) 0 (.slice none 0 0));have g0:=(hb1.frozen (World.block_lt_of_cell? _ _ (S1.out.cel (b2+1) 0 (.slice a' n' c')))).trans f0;have g1:=(hb1.frozen (World.block_lt_of_cell? _ _ (S1.out.cel (b2+1+1) 0 (.slice none 0 0)))).trans f1;have g2:=(hb1.frozen (World.block_lt_of_cell? _ _ (S1.out.cel (b2+1+1+1) 0 (.slice none 0 0)))).trans f2;have I1:Hid (Ac w1 (.agg #[.slice a n c]) p∧Ac w1 (.agg #[.slice a1 n1 k1]) (q*2^t)∧Below w.heap.size w w1):=⟨(S1.out.at (.agg #[.slice a n c]) p).mono hb1,hv1,Aj S1.out.bel hb1⟩;clear hv1 hb1 S1 f0 f1 f2;go_wp2_with fail
 obtain⟨W,hW⟩:=nme (w1.setCell ⟨b2+1,0,none⟩ (.slice a1 n1 k1));have y0:W.cell? ⟨b2,0,none⟩=some (.slice a n c):=by rw[hW];simp[go_sem,z0]
 have y1:W.cell? ⟨b2+1,0,none⟩=some (.slice a1 n1 k1):=by rw[hW];simp[go_sem,z1]
 have y2:W.cell? ⟨b2+1+1,0,none⟩=some (.slice none 0 0):=by rw[hW];simp[go_sem,z2]
 have y3:W.cell? ⟨b2+1+1+1,0,none⟩=some (.slice none 0 0):=by rw[hW];simp[go_sem,z3]
 have h1:W.frozen? ⟨b2+1+1,0,none⟩=false:=by rw[hW];simp[World.frozen?_setCell,g1]
 have h2:W.frozen? ⟨b2+1+1+1,0,none⟩=false:=by rw[hW];simp[World.frozen?_setCell,g2]
 have I2:Hid (Ac W (.agg #[.slice a n c]) p∧Ac W (.agg #[.slice a1 n1 k1]) (q*2^t)∧Below w.heap.size w W):=by
  rw[hW];exact⟨I1.out.1.setCell (Ad z1) _,I1.out.2.1.setCell (Ad z1) _,I1.out.2.2.setCell (by have:=HB.out;show _≤b2+1;omega) _⟩
 rw[←hW];clear hW I1 z0 z1 z2 z3 g0 g1 g2;have Z:Hid _:=J0 (r:=b2+1+1) (x:=.slice a n c) (y:=.slice a1 n1 k1) y2 y3 I2.out.1 I2.out.2.1 I2.out.2.2 (by have:=HB.out;omega);go_region
 go_wp2_with fail
 refine bodyPost_ret (v:=.tuple #[.agg #[.slice a n c],.agg #[.slice a1 n1 k1]]) (by simp[results,Tryz.results90,go_sem,y2,y3]) rfl ⟨_,_,rfl,Z.out.1.mono (AV (Aa _)),Z.out.2.1.mono (AV (Aa _)),AV Z.out.2.2⟩
theorem UU(v u:Value)(x y:Nat)(z:Int)(w:World)(h:Ac w v x)(k:Ac w u y)(hx:AE x)(hy:AE y)(hz:AW x y=z):
  Calls Tryz.prog 91 #[v,u] w fun e w'=>e=.returned (.int .i64 z)∧Below w.heap.size w w':=by
 rw[←hz];exact Fw v u x y w h k hx hy
theorem Kz(x:Nat):Ej x 0=decide (x%2=1):=by
 unfold Ej;rw[Nat.pow_zero,Nat.div_one];by_cases h:x%2=1<;>simp[h]
theorem JN(v u:Value)(p q:Nat)(w:World)(h:Ac w v p)(k:Ac w u q)(hp:p<P 198)(hq:q<P 198)(hq0:0<q):
  Calls Tryz.prog 92 #[v,u] w (Dk w (Dp p q)):=by
 obtain⟨a,n,c,rfl⟩:=h.isAgg;obtain⟨a',n',c',rfl⟩:=k.isAgg;have S1:Hid _:=((((((Bp w).addN h).addN k).box1 (.slice a n c) 103 _ rfl).box1 (.slice a' n' c') 103 _ rfl).box1 (.slice none 0 0) 103 _ rfl);simp only[World.size_alloc]at S1;obtain⟨w0,hw0⟩:=nme (((w.alloc (.cells #[.slice a n c] 103)).alloc (.cells #[.slice a' n' c'] 103)).alloc (.cells #[.slice none 0 0] 103));obtain⟨d,hd⟩:=nme (p/q);obtain⟨r,hr⟩:=nme (p%q);have hrq:r<q:=by rw[hr];exact Nat.mod_lt _ hq0
 have hdp:d≤p:=by rw[hd];exact Nat.div_le_self _ _
 have sr:r<P 198:=Nat.lt_trans hrq hq;have sd:d<P 198:=Nat.lt_of_le_of_lt hdp hp;have s2:r+r<P 199:=by
  have h1:P 199=P 198*18446744073709551616:=Cg 198;rw[h1];omega
 have HH:Hid (p<P 198∧q<P 198∧0<q∧AE r∧AE d∧AE (r+r)∧AE q∧d=p/q∧r=p%q):=⟨hp,hq,hq0,BV sr (by omega),BV sd (by omega),BV s2 (by omega),BV hq (by omega),hd,hr⟩;have HN:Hid (Dp p q=if 2*r<q then d else if 2*r=q∧d%2=0 then d else d+1):=by show _=_;unfold Dp;rw[←hd,←hr]
 clear h k hp hq hq0 hd hr hrq hdp sr sd s2;go_enter Tryz.func92,Tryz.ntmps92
 go_wp2_with fail
 rw[←hw0]at S1;rw[←hw0];obtain⟨b,hb⟩:=nme w.heap.size;rw[←hb]at S1;rw[←hb];clear hw0 hb;refine(Iz _ _ p q _ (S1.out.at (.agg #[.slice a n c]) p) (S1.out.at (.agg #[.slice a' n' c']) q) (CP HH.out.2.1) HH.out.2.2.1 HH.out.1 (CP HH.out.1)).mono ?_;rintro e w1 ⟨v1,u1,rfl,hv1,hu1,hb1⟩;rw[←HH.out.2.2.2.2.2.2.2.1]at hv1;rw[←HH.out.2.2.2.2.2.2.2.2]at hu1;obtain⟨a1,n1,c1,rfl⟩:=hv1.isAgg;obtain⟨a2,n2,c2,rfl⟩:=hu1.isAgg;have S2:Hid _:=((((S1.out.go hb1).addN hv1).addN hu1).box1 (.slice a1 n1 c1) 103 _ rfl).box1 (.slice a2 n2 c2) 103 _ rfl;simp only[World.size_alloc]at S2;clear hv1 hu1 hb1 S1;go_wp2_with fail
 obtain⟨w2,hw2⟩:=nme ((w1.alloc (.cells #[.slice a1 n1 c1] 103)).alloc (.cells #[.slice a2 n2 c2] 103));obtain⟨g,hg⟩:=nme w1.heap.size;rw[←hw2,←hg]at S2;rw[←hw2,←hg];clear hw2 hg;obtain⟨z,hz⟩:=nmd (AW (r+r) q);have HZ:Hid (AW (r+r) q=z):=hz;clear hz;refine Bg (JB w2 [DJ (r),DJ (r),DJ (r+r),DJ (q),sEq (.int .i64 z)] []) 32 (by kernel_rfl) rfl (by kernel_rfl) (JB.start _ _ _) (fun HG HN=>⟨?_,?_,?_,?_,?_,trivial⟩) ?_
 ·intro L vs a w' hJ hF hP hL;have q6:(a.tmps[6]?).getD undef=.pointer (some ⟨g+1,0,none⟩):=hF.old 6 rfl;have cb:=cell_later hJ.bel (S2.out.cell (g+1) (.slice a2 n2 c2));exact Av (v:=.agg #[.slice a2 n2 c2]) rfl (by simp[execOp,go_sem,q6,cb]) ⟨_,rfl,hJ.step hL rfl (Below.refl _ _) (by exact((S2.out.at (.agg #[.slice a2 n2 c2]) (r)).mono hJ.bel))⟩
 ·intro L vs a w' hJ hF hP hL;have q6:(a.tmps[6]?).getD undef=.pointer (some ⟨g+1,0,none⟩):=hF.old 6 rfl;have cb:=cell_later hJ.bel (S2.out.cell (g+1) (.slice a2 n2 c2));exact Av (v:=.agg #[.slice a2 n2 c2]) rfl (by simp[execOp,go_sem,q6,cb]) ⟨_,rfl,hJ.step hL rfl (Below.refl _ _) (by exact((S2.out.at (.agg #[.slice a2 n2 c2]) (r)).mono hJ.bel))⟩
 ·intro L vs a w' hJ hF hP hL;have p0:L 0=true:=hP ⟨0,.data⟩ (by simp) rfl;have s0:Ac w' (vs 0) (r):=hJ.sp 0 p0;have q15:=hF.slot 0 15 rfl p0;have p1:L 1=true:=hP ⟨1,.data⟩ (by simp) rfl;have s1:Ac w' (vs 1) (r):=hJ.sp 1 p1;have q16:=hF.slot 1 16 rfl p1;refine AO (f:=120) (args:= #[vs 0,vs 1]) rfl (by simp[go_sem,q15,q16]) (K8 _ _ r r _ s0 s1 HH.out.2.2.2.1 HH.out.2.2.2.1) ?_;rintro e w2 ⟨v,rfl,hv,hb⟩;exact⟨_,rfl,_,rfl,hJ.step hL rfl hb (by exact hv)⟩
 ·intro L vs a w' hJ hF hP hL;have q3:(a.tmps[3]?).getD undef=.pointer (some ⟨b+1,0,none⟩):=hF.old 3 rfl;have cb:=cell_later hJ.bel (S2.out.cell (b+1) (.slice a' n' c'));exact Av (v:=.agg #[.slice a' n' c']) rfl (by simp[execOp,go_sem,q3,cb]) ⟨_,rfl,hJ.step hL rfl (Below.refl _ _) (by exact((S2.out.at (.agg #[.slice a' n' c']) (q)).mono hJ.bel))⟩
 ·intro L vs a w' hJ hF hP hL;have p2:L 2=true:=hP ⟨2,.data⟩ (by simp) rfl;have s2:Ac w' (vs 2) (r+r):=hJ.sp 2 p2;have q17:=hF.slot 2 17 rfl p2;have p3:L 3=true:=hP ⟨3,.data⟩ (by simp) rfl;have s3:Ac w' (vs 3) (q):=hJ.sp 3 p3;have q18:=hF.slot 3 18 rfl p3;refine AO (f:=91) (args:= #[vs 2,vs 3]) rfl (by simp[go_sem,q17,q18]) (UU _ _ (r+r) q z _ s2 s3 HH.out.2.2.2.2.2.1 HH.out.2.2.2.2.2.2.1 HZ.out) ?_;rintro e w2 ⟨rfl,hb⟩;exact⟨_,rfl,_,rfl,hJ.step hL rfl hb (by exact rfl)⟩
 intro L vs w' hA hJ;have s4:vs 4=.int .i64 z:=hJ.sp 4 (hA 4 (by simp));simp only[DU,Act.put,List.setIfInBounds_toArray,List.set_cons_zero,List.set_cons_succ,Nat.reduceAdd];simp only[s4];obtain⟨w3,ew3⟩:=nme w';have S3:Hid _:=S2.out.go (ew3▸hJ.bel:Below w2.heap.size w2 w3);rw[←ew3];clear ew3 hJ hA s4 S2;rcases Nat.lt_trichotomy (r+r) q with h1|h1|h1
 ·obtain rfl:z= -1:=by rw[←HZ.out];exact Ew h1
  have HV:Hid (Dp p q=d):=by show _=_;rw[HN.out,if_pos (by omega)]
  clear h1 HZ HN;have k1:=S3.out.cel (g) 0 (.slice a1 n1 c1);have k2:=S3.out.cel (b+1+1) 0 (.slice none 0 0);have k3:=S3.out.fz (b+1+1) 0;have Z:Hid _:=S3.out.ret1 (r:=b+1+1) k2 (by simp) (S3.out.at (.agg #[.slice a1 n1 c1]) d) (.slice a1 n1 c1);go_wp2_with fail
  exact bodyPost_ret (v:=.agg #[.slice a1 n1 c1]) (by simp[results,Tryz.results92,go_sem,k2]) rfl ⟨_,rfl,by rw[HV.out];exact Z.out.1,Z.out.2⟩
 ·obtain rfl:z=0:=by rw[←HZ.out];exact Je h1
  have k1:=S3.out.cel (g) 0 (.slice a1 n1 c1);go_wp2_with fail
  refine(U9 _ d 0 _ (S3.out.at (.agg #[.slice a1 n1 c1]) d) HH.out.2.2.2.2.1 (by omega) (by omega)).mono ?_;rintro e w4 ⟨rfl,hb4⟩;have S4:Hid _:=S3.out.go hb4;clear hb4 S3 k1;by_cases ho:d%2=0
  ·have t1:(decide ((0:Int)≤0)&&Ej d (0:Int).toNat)=false:=by rw[show(0:Int).toNat=0 from rfl,Kz];simp;omega
   have HV:Hid (Dp p q=d):=by show _=_;rw[HN.out,if_neg (by omega),if_pos ⟨by omega,ho⟩]
   rw[t1];clear h1 HZ HN ho t1;have k1:=S4.out.cel (g) 0 (.slice a1 n1 c1);have k2:=S4.out.cel (b+1+1) 0 (.slice none 0 0);have k3:=S4.out.fz (b+1+1) 0;have Z:Hid _:=S4.out.ret1 (r:=b+1+1) k2 (by simp) (S4.out.at (.agg #[.slice a1 n1 c1]) d) (.slice a1 n1 c1);go_wp2_with fail
   exact bodyPost_ret (v:=.agg #[.slice a1 n1 c1]) (by simp[results,Tryz.results92,go_sem,k2]) rfl ⟨_,rfl,by rw[HV.out];exact Z.out.1,Z.out.2⟩
  have t1:(decide ((0:Int)≤0)&&Ej d (0:Int).toNat)=true:=by rw[show(0:Int).toNat=0 from rfl,Kz];simp;omega
  have HV:Hid (Dp p q=d+1):=by show _=_;rw[HN.out,if_neg (by omega),if_neg (fun hh=>ho hh.2)]
  rw[t1];clear h1 HZ HN ho t1;go_wp2_with fail
  refine Bg (JD w4 [DJ (d),DJ (1),DJ (d+1),sAny] [[],[],[0,1],[2]] 3 2 [0,1,2] (IG (b+1+1))) 32 (by kernel_rfl) rfl (by kernel_rfl) (JD.start _ _ _ _ _ _ _) (fun HG HN=>⟨?_,?_,?_,?_,trivial⟩) ?_
  ·intro L vs a w' hJ hF hP hL;have hK:=hJ;have hJ:=hK.open hL (by decide);have q5:(a.tmps[5]?).getD undef=.pointer (some ⟨g,0,none⟩):=hF.old 5 rfl;have cb:=cell_later hJ.bel (S4.out.cell (g) (.slice a1 n1 c1));exact Av (v:=.agg #[.slice a1 n1 c1]) rfl (by simp[execOp,go_sem,q5,cb]) ⟨_,rfl,hK.step hL (by decide) (by decide) rfl (Ay) <| hJ.step hL rfl (Below.refl _ _) (by exact((S4.out.at (.agg #[.slice a1 n1 c1]) (d)).mono hJ.bel))⟩
  ·intro L vs a w' hJ hF hP hL;have hK:=hJ;have hJ:=hK.open hL (by decide);refine AO (f:=95) (args:= #[.int .u64 1]) rfl (by simp[go_sem]) (Dj 1 _ (by omega)) ?_;rintro e w2 ⟨v,rfl,hv,hb⟩;exact⟨_,rfl,_,rfl,hK.step hL (by decide) (by decide) rfl (Ay) <| hJ.step hL rfl hb (by exact hv)⟩
  ·intro L vs a w' hJ hF hP hL;have hK:=hJ;have hJ:=hK.open hL (by decide);have p0:L 0=true:=hP ⟨0,.data⟩ (by simp) rfl;have s0:Ac w' (vs 0) (d):=hJ.sp 0 p0;have q29:=hF.slot 0 29 rfl p0;have p1:L 1=true:=hP ⟨1,.data⟩ (by simp) rfl;have s1:Ac w' (vs 1) (1):=hJ.sp 1 p1;have q30:=hF.slot 1 30 rfl p1;refine AO (f:=120) (args:= #[vs 0,vs 1]) rfl (by simp[go_sem,q29,q30]) (K8 _ _ d 1 _ s0 s1 HH.out.2.2.2.2.1 (BV (n:=1) (by rw[FT];omega) (by omega))) ?_;rintro e w2 ⟨v,rfl,hv,hb⟩;exact⟨_,rfl,_,rfl,hK.step hL (by decide) (by decide) rfl (Ak p0 (Ak p1 (Ay))) <| hJ.step hL rfl hb (by exact hv)⟩
  ·intro L vs a w' hJ hF hP hL;have hK:=hJ;have hJ:=hK.core hL;have q4:(a.tmps[4]?).getD undef=.pointer (some ⟨b+1+1,0,none⟩):=hF.old 4 rfl;have p2:L 2=true:=hP ⟨2,.data⟩ (by simp) rfl;have s2:Ac w' (vs 2) (d+1):=hJ.sp 2 p2;have q31:=hF.slot 2 31 rfl p2;have p0:L 0=true:=hK.cl 2 p2 0 (by simp);have p1:L 1=true:=hK.cl 2 p2 1 (by simp);have x0:=cell_later hJ.bel (S4.out.cel (b+1+1) 0 (.slice none 0 0));have y0:=(hJ.bel.frozen (World.block_lt_of_cell? _ _ (S4.out.cel (b+1+1) 0 (.slice none 0 0)))).trans (S4.out.fz (b+1+1) 0);obtain⟨aa,nn,cc,e8⟩:=s2.isAgg;exact Dw (w':=(w'.setCell ⟨b+1+1,0,none⟩ (.slice aa nn cc))) rfl (by simp[execOp,go_sem,q4,q31,e8,x0,y0]) ⟨undef,rfl,hK.put hL (by decide) rfl (Ak p2 (Ay)) (Ak p0 (Ak p1 (Ak p2 (Ay)))) p2 ⟨_,e8,rfl⟩⟩
  intro L vs w' hA hK;obtain⟨_,w1,hb1,sv,u1,ev,ew⟩:=hK.fin (hA 3 (by simp));replace sv:Ac w1 (vs 2) (d+1):=sv;simp only[DU,Act.put,List.setIfInBounds_toArray,List.set_cons_zero,List.set_cons_succ,Nat.reduceAdd];obtain⟨aa,nn,cc,e9⟩:=sv.isAgg;have S9:Hid _:=S4.out.go hb1;have k2:=S9.out.cel (b+1+1) 0 (.slice none 0 0);have Z:Hid _:=S9.out.ret1 (r:=b+1+1) k2 (by simp) sv u1;clear S4;rw[ew];rw[ev]at Z sv;go_wp2_with fail
  exact bodyPost_ret (v:=.agg #[u1]) (by simp[results,Tryz.results92,go_sem,k2]) rfl ⟨_,rfl,by rw[HV.out];exact Z.out.1,Z.out.2⟩
 obtain rfl:z=1:=by rw[←HZ.out];exact ER h1
 have HV:Hid (Dp p q=d+1):=by show _=_;rw[HN.out,if_neg (by omega),if_neg (fun hh=>by omega)]
 clear h1 HZ HN;go_wp2_with fail
 refine Bg (JD w3 [DJ (d),DJ (1),DJ (d+1),sAny] [[],[],[0,1],[2]] 3 2 [0,1,2] (IG (b+1+1))) 32 (by kernel_rfl) rfl (by kernel_rfl) (JD.start _ _ _ _ _ _ _) (fun HG HN=>⟨?_,?_,?_,?_,trivial⟩) ?_
 ·intro L vs a w' hJ hF hP hL;have hK:=hJ;have hJ:=hK.open hL (by decide);have q5:(a.tmps[5]?).getD undef=.pointer (some ⟨g,0,none⟩):=hF.old 5 rfl;have cb:=cell_later hJ.bel (S3.out.cell (g) (.slice a1 n1 c1));exact Av (v:=.agg #[.slice a1 n1 c1]) rfl (by simp[execOp,go_sem,q5,cb]) ⟨_,rfl,hK.step hL (by decide) (by decide) rfl (Ay) <| hJ.step hL rfl (Below.refl _ _) (by exact((S3.out.at (.agg #[.slice a1 n1 c1]) (d)).mono hJ.bel))⟩
 ·intro L vs a w' hJ hF hP hL;have hK:=hJ;have hJ:=hK.open hL (by decide);refine AO (f:=95) (args:= #[.int .u64 1]) rfl (by simp[go_sem]) (Dj 1 _ (by omega)) ?_;rintro e w2 ⟨v,rfl,hv,hb⟩;exact⟨_,rfl,_,rfl,hK.step hL (by decide) (by decide) rfl (Ay) <| hJ.step hL rfl hb (by exact hv)⟩
 ·intro L vs a w' hJ hF hP hL;have hK:=hJ;have hJ:=hK.open hL (by decide);have p0:L 0=true:=hP ⟨0,.data⟩ (by simp) rfl;have s0:Ac w' (vs 0) (d):=hJ.sp 0 p0;have q29:=hF.slot 0 29 rfl p0;have p1:L 1=true:=hP ⟨1,.data⟩ (by simp) rfl;have s1:Ac w' (vs 1) (1):=hJ.sp 1 p1;have q30:=hF.slot 1 30 rfl p1;refine AO (f:=120) (args:= #[vs 0,vs 1]) rfl (by simp[go_sem,q29,q30]) (K8 _ _ d 1 _ s0 s1 HH.out.2.2.2.2.1 (BV (n:=1) (by rw[FT];omega) (by omega))) ?_;rintro e w2 ⟨v,rfl,hv,hb⟩;exact⟨_,rfl,_,rfl,hK.step hL (by decide) (by decide) rfl (Ak p0 (Ak p1 (Ay))) <| hJ.step hL rfl hb (by exact hv)⟩
 ·intro L vs a w' hJ hF hP hL;have hK:=hJ;have hJ:=hK.core hL;have q4:(a.tmps[4]?).getD undef=.pointer (some ⟨b+1+1,0,none⟩):=hF.old 4 rfl;have p2:L 2=true:=hP ⟨2,.data⟩ (by simp) rfl;have s2:Ac w' (vs 2) (d+1):=hJ.sp 2 p2;have q31:=hF.slot 2 31 rfl p2;have p0:L 0=true:=hK.cl 2 p2 0 (by simp);have p1:L 1=true:=hK.cl 2 p2 1 (by simp);have x0:=cell_later hJ.bel (S3.out.cel (b+1+1) 0 (.slice none 0 0));have y0:=(hJ.bel.frozen (World.block_lt_of_cell? _ _ (S3.out.cel (b+1+1) 0 (.slice none 0 0)))).trans (S3.out.fz (b+1+1) 0);obtain⟨aa,nn,cc,e8⟩:=s2.isAgg;exact Dw (w':=(w'.setCell ⟨b+1+1,0,none⟩ (.slice aa nn cc))) rfl (by simp[execOp,go_sem,q4,q31,e8,x0,y0]) ⟨undef,rfl,hK.put hL (by decide) rfl (Ak p2 (Ay)) (Ak p0 (Ak p1 (Ak p2 (Ay)))) p2 ⟨_,e8,rfl⟩⟩
 intro L vs w' hA hK;obtain⟨_,w1,hb1,sv,u1,ev,ew⟩:=hK.fin (hA 3 (by simp));replace sv:Ac w1 (vs 2) (d+1):=sv;simp only[DU,Act.put,List.setIfInBounds_toArray,List.set_cons_zero,List.set_cons_succ,Nat.reduceAdd];obtain⟨aa,nn,cc,e9⟩:=sv.isAgg;have S9:Hid _:=S3.out.go hb1;have k2:=S9.out.cel (b+1+1) 0 (.slice none 0 0);have Z:Hid _:=S9.out.ret1 (r:=b+1+1) k2 (by simp) sv u1;clear S3;rw[ew];rw[ev]at Z sv;go_wp2_with fail
 exact bodyPost_ret (v:=.agg #[u1]) (by simp[results,Tryz.results92,go_sem,k2]) rfl ⟨_,rfl,by rw[HV.out];exact Z.out.1,Z.out.2⟩
def fm(u:Nat):Nat:=if u/4503599627370496=0 then u%4503599627370496 else u%4503599627370496+4503599627370496
def fe(u:Nat):Nat:=u/4503599627370496-1
def fN(u:Nat):Nat:=fm u*2^(fe u-1074)
def fD(u:Nat):Nat:=2^(1074-fe u)
def nz(u:Nat):Nat:=if u=9223372036854775808 then 0 else u
theorem UV(u:Nat):fm u<2^53:=by unfold fm;split<;>omega
theorem Xn{u:Nat}(h:u<9218868437227405312):fe u≤2045:=by unfold fe;omega
theorem WA{a b:Nat}(h:a<b):2^a<2^b:=Nat.pow_lt_pow_right (by omega) h
theorem UW{a n:Nat}(h:a<64*n):2^a<P n:=by
 rw[DQ];exact WA h
theorem RH{m e n:Nat}(hm:m<2^53)(he:53+e≤64*n):m*2^e<P n:=by
 rw[DQ];refine Nat.lt_of_lt_of_le (Nat.mul_lt_mul_of_pos_right hm (Nat.two_pow_pos e)) ?_;rw[←Nat.pow_add];exact Nat.pow_le_pow_right (by omega) he
theorem UX{u:Nat}(h:u<9218868437227405312):fN u<P 16:=RH (UV u) (by have:=Xn h;omega)
theorem UY(u:Nat):fD u<P 17:=UW (by omega)
theorem RI(u:Nat):0<fD u:=Nat.two_pow_pos _
theorem Vt(u:Nat)(w:World):(callFunc 74 #[.float .f64 u]).run Tryz.prog w=.ok (.value (.int .u64 (u:Int))) w:=by
 rw[run_callFunc_extern Tryz.func74 (by kernel_rfl) (by kernel_rfl) (by kernel_rfl) (e:=Extern.MathFloatBits.float64bits) (by kernel_rfl)];rfl
theorem N7(u:Nat)(w:World):(callFunc 70 #[.int .u64 (u:Int)]).run Tryz.prog w=.ok (.value (.float .f64 u)) w:=by
 rw[run_callFunc_extern Tryz.func70 (by kernel_rfl) (by kernel_rfl) (by kernel_rfl) (e:=Extern.MathFloatBits.float64frombits) (by kernel_rfl)];rfl
theorem GY(u:Nat)(w:World):Calls Tryz.prog 31 #[.float .f64 u] w fun e w'=>e=.returned (.int .u64 (u:Int))∧w'=w:=by
 have h1:=Vt u;go_enter Tryz.func31,Tryz.ntmps31
 go_wp2_with fail
 go_ret
 exact⟨rfl,rfl⟩
theorem Jf(u:Nat)(w:World):Calls Tryz.prog 29 #[.int .u64 (u:Int)] w fun e w'=>e=.returned (.float .f64 u)∧w'=w:=by
 have h1:=N7 u;go_enter Tryz.func29,Tryz.ntmps29
 go_wp2_with fail
 go_ret
 exact⟨rfl,rfl⟩
def isF(u:Nat):Prop:=u=9223372036854775808∨u<9218868437227405312
theorem RJ{N D n:Nat}(hD:0<D)(h1:N<P n)(h2:D<P n):Fc (N/Nat.gcd N D) (D/Nat.gcd N D) N D n:=by
 have:=RG N D hD;exact⟨this.1,this.2.2,hD,this.2.1,Nat.lt_of_le_of_lt (Nat.div_le_self _ _) h1,Nat.lt_of_le_of_lt (Nat.div_le_self _ _) h2⟩
theorem M7(u:Nat)(w:World)(h: ¬isF u)(hu:u<18446744073709551616):Calls Tryz.prog 51 #[.float .f64 u] w (EY w 0 1 false):=by
 have a1: ¬u=9223372036854775808:=fun e=>h (.inl e);have a2: ¬u<9218868437227405312:=fun e=>h (.inr e);have d1:decide (u=9223372036854775808)=false:=decide_eq_false a1;have d1':((u:Int)==9223372036854775808)=false:=by simp;omega
 have d2:decide (9218868437227405312≤u)=true:=decide_eq_true (by omega);have d2':decide ((9218868437227405312:Int)≤(u:Int))=true:=decide_eq_true (by omega);clear h a1 a2;go_enter Tryz.func51,Tryz.ntmps51
 go_wp2_with fail
 refine(GY u _).mono ?_;rintro e w1 ⟨rfl,rfl⟩;go_wp2_with fail
 exact bodyPost_ret (v:=.tuple #[.agg #[.slice none 0 0,.slice none 0 0],.bool false]) (by simp[results,Tryz.results51,go_sem]) rfl ⟨_,rfl,FH _,Ah (Aa w)⟩
theorem Lh(w:World):Calls Tryz.prog 51 #[.float .f64 9223372036854775808] w (EY w 0 1 true):=by
 go_enter Tryz.func51,Tryz.ntmps51
 go_wp2_with fail
 refine(GY 9223372036854775808 _).mono ?_;rintro e w1 ⟨rfl,rfl⟩;go_wp2_with fail
 exact bodyPost_ret (v:=.tuple #[.agg #[.slice none 0 0,.slice none 0 0],.bool true]) (by simp[results,Tryz.results51,go_sem]) rfl ⟨_,rfl,FH _,Ah (Aa w)⟩
theorem KA(v u:Value)(m f:Nat)(s:Int)(w:World)(h:Ac w v m)(k:Ac w u 1)(hm:AE m)(hf:f≤2045)(hs:s=1074- (f:Int)):
  Calls Tryz.prog 90 #[v,u,.int .i64 s] w (Ih w (m*2^(f-1074)) (2^(1074-f))):=by
 by_cases h1:1074<f
 ·have:=JL v u m 1 (f-1074) s w h k hm (by omega) (by omega) (by omega);rw[show 1074-f=0 by omega];exact this
 have:=JM v u m 1 (1074-f) s w h k (BV (n:=1) (by rw[FT];omega) (by omega)) (by omega) (by omega);rw[show f-1074=0 by omega,Nat.pow_zero,Nat.mul_one];rw[Nat.one_mul]at this;exact this
theorem Mi(u:Nat)(w:World)(h:u<9218868437227405312)(hT:Tab w):Calls Tryz.prog 51 #[.float .f64 u] w (EY w (fN u/Nat.gcd (fN u) (fD u)) (fD u/Nat.gcd (fN u) (fD u)) true):=by
 have d1:decide (u=9223372036854775808)=false:=decide_eq_false (by omega);have d1':((u:Int)==9223372036854775808)=false:=by simp;omega
 have d2:decide (9218868437227405312≤u)=false:=decide_eq_false (by omega);have d2':decide ((9218868437227405312:Int)≤(u:Int))=false:=decide_eq_false (by omega);have HT:Hid (Tab w∧u<9218868437227405312):=⟨hT,h⟩;have S1:Hid _:=(GU w).box (.slice none 0 0) (.slice none 0 0) 105 _ rfl;have f6:(w.alloc (.cells #[.slice none 0 0,.slice none 0 0] 105)).frozen? ⟨w.heap.size,0,none⟩=false:=by simp[go_sem]
 have f7:(w.alloc (.cells #[.slice none 0 0,.slice none 0 0] 105)).frozen? ⟨w.heap.size,1,none⟩=false:=by simp[go_sem]
 have FZ:Hid _:=And.intro f6 f7;obtain⟨m0,e0⟩:=nme (u%4503599627370496:Nat);obtain⟨x0,ex⟩:=nme (u/4503599627370496:Nat);have r1:(u:Int)%4503599627370496=(m0:Int):=by omega
 have r2:(u:Int)/4503599627370496=(x0:Int):=by omega
 have r3:IntKind.i64.wrap (x0:Int)=(x0:Int):=by rw[IntKind.wrap_i64];omega
 have hfm:fm u=if x0=0 then m0 else m0+4503599627370496:=by unfold fm;rw[←e0,←ex]
 have hfe:fe u=x0-1:=by unfold fe;rw[←ex]
 have sN:RS (fN u):=⟨Cb (UX h) (by omega)⟩;have sD:RS (fD u):=⟨Cb (UY u) (by omega)⟩;have hm0:m0<4503599627370496:=by omega
 have hx0:x0≤2046:=by omega
 clear hT f6 f7 e0 ex;go_enter Tryz.func51,Tryz.ntmps51
 go_wp2_with fail
 refine(GY u _).mono ?_;rintro e w1 ⟨rfl,rfl⟩;clear h;by_cases h0:0<x0
 ·obtain⟨m,em⟩: ∃m:Nat,m=m0+4503599627370496:=⟨_,rfl⟩;obtain⟨f,ef⟩:=nme (x0-1:Nat);have r4:(m0:Int)+4503599627370496=(m:Int):=by omega
  have r5:wrap64 ((x0:Int)-1)=(f:Int):=by rw[IntWalk.wrap64_in _ ⟨by omega,by omega⟩];omega
  obtain⟨s,es⟩: ∃s:Int,s= -1074+(f:Int):=⟨_,rfl⟩;have r6:wrap64 (-1074+(f:Int))=s:=by rw[IntWalk.wrap64_in _ ⟨by omega,by omega⟩];omega
  obtain⟨s2,es2⟩: ∃s2:Int,s2= -s:=⟨_,rfl⟩;have r7:wrap64 (-s)=s2:=by rw[IntWalk.wrap64_in _ ⟨by omega,by omega⟩];omega
  have r8:IntKind.i64.wrap (-s)=s2:=by rw[IntKind.wrap_i64];omega
  have eN:m*2^(f-1074)=fN u:=by unfold fN;rw[hfm,hfe,if_neg (by omega),←em,←ef]
  have eD:2^(1074-f)=fD u:=by unfold fD;rw[hfe,←ef]
  have HF:Hid (m<9007199254740992∧f≤2045∧s2=1074- (f:Int)∧(m*2^(f-1074)=fN u∧2^(1074-f)=fD u)∧RS (m*2^(f-1074))∧RS (2^(1074-f))):=⟨by omega,by omega,by omega,⟨eN,eD⟩,by rw[eN];exact sN,by rw[eD];exact sD⟩;clear em ef es es2 eN eD hfm hfe sN sD hm0 hx0;go_wp2_with fail
  refine(Dj m _ (by have:=HF.out;omega)).mono ?_;rintro e w2 ⟨v2,rfl,hv2,hb2⟩;have FZ2:Hid (w2.frozen? ⟨w.heap.size,0,none⟩=false∧w2.frozen? ⟨w.heap.size,1,none⟩=false):=⟨(hb2.frozen (World.block_lt_of_cell? _ _ (S1.out.cel w.heap.size 0 (.slice none 0 0)))).trans FZ.out.1,(hb2.frozen (World.block_lt_of_cell? _ _ (S1.out.cel w.heap.size 1 (.slice none 0 0)))).trans FZ.out.2⟩;have S2:Hid _:=(S1.out.go hb2).addN hv2;clear hv2 hb2 S1;go_wp2_with fail
  refine(Dj 1 _ (by omega)).mono ?_;rintro e w3 ⟨v3,rfl,hv3,hb3⟩;have FZ3:Hid (w3.frozen? ⟨w.heap.size,0,none⟩=false∧w3.frozen? ⟨w.heap.size,1,none⟩=false):=⟨(hb3.frozen (World.block_lt_of_cell? _ _ (S2.out.cel w.heap.size 0 (.slice none 0 0)))).trans FZ2.out.1,(hb3.frozen (World.block_lt_of_cell? _ _ (S2.out.cel w.heap.size 1 (.slice none 0 0)))).trans FZ2.out.2⟩;have S3:Hid _:=(S2.out.go hb3).addN hv3;clear hv3 hb3 S2;go_wp2_with fail
  refine(KA v2 v3 m f _ _ (S3.out.at v2 m) (S3.out.at v3 1) (BV (n:=1) (by rw[FT];have:=HF.out;omega) (by omega)) (by have:=HF.out;omega) HF.out.2.2.1).mono ?_;rintro e w4 ⟨v4,v5,rfl,hv4,hv5,hb4⟩;have FZ4:Hid (w4.frozen? ⟨w.heap.size,0,none⟩=false∧w4.frozen? ⟨w.heap.size,1,none⟩=false):=⟨(hb4.frozen (World.block_lt_of_cell? _ _ (S3.out.cel w.heap.size 0 (.slice none 0 0)))).trans FZ3.out.1,(hb4.frozen (World.block_lt_of_cell? _ _ (S3.out.cel w.heap.size 1 (.slice none 0 0)))).trans FZ3.out.2⟩;have S4:Hid _:=((S3.out.go hb4).addN hv4).addN hv5;clear hv4 hv5 hb4 S3;go_wp2_with fail
  refine(EO v4 v5 _ _ w4 (S4.out.at v4 (m*2^(f-1074))) (S4.out.at v5 (2^(1074-f))) HF.out.2.2.2.2.1 HF.out.2.2.2.2.2 (Nat.two_pow_pos _) (HT.out.1.go S4.out.bel)).mono ?_;rintro e w5 ⟨v6,rfl,hv,hb⟩;obtain⟨a6,n6,k6,a7,n7,k7,ev,_,_⟩:=hv.raw;subst ev;rw[HF.out.2.2.2.1.1,HF.out.2.2.2.1.2]at hv;have z0:=cell_later hb (S4.out.cel w.heap.size 0 (.slice none 0 0));have z1:=cell_later hb (S4.out.cel w.heap.size 1 (.slice none 0 0));have u0:w5.frozen? ⟨w.heap.size,0,none⟩=false:=(hb.frozen (World.block_lt_of_cell? _ _ (S4.out.cel w.heap.size 0 (.slice none 0 0)))).trans FZ4.out.1;have u1:w5.frozen? ⟨w.heap.size,1,none⟩=false:=(hb.frozen (World.block_lt_of_cell? _ _ (S4.out.cel w.heap.size 1 (.slice none 0 0)))).trans FZ4.out.2;have Z:Hid _:=CB (v:=.slice a6 n6 k6) (u:=.slice a7 n7 k7) z0 z1 hv (Aj S4.out.bel hb) (Nat.le_refl _);clear hv hb S4;go_wp2_with fail
  exact bodyPost_ret (v:=.tuple #[.agg #[.slice a6 n6 k6,.slice a7 n7 k7],.bool true]) (by simp[results,Tryz.results51,go_sem,z0,z1]) rfl ⟨_,rfl,Z.out.1,Z.out.2⟩
 have x00:x0=0:=by omega
 obtain⟨f,ef⟩: ∃f:Nat,f=0:=⟨_,rfl⟩;have eN:m0*2^(f-1074)=fN u:=by unfold fN;rw[hfm,hfe,if_pos x00,x00,ef]
 have eD:2^(1074-f)=fD u:=by unfold fD;rw[hfe,show x0-1=f by omega]
 have HF:Hid (m0<9007199254740992∧f≤2045∧(1074:Int)=1074- (f:Int)∧(m0*2^(f-1074)=fN u∧2^(1074-f)=fD u)∧RS (m0*2^(f-1074))∧RS (2^(1074-f))):=⟨by omega,by omega,by omega,⟨eN,eD⟩,by rw[eN];exact sN,by rw[eD];exact sD⟩;clear ef x00 eN eD hfm hfe sN sD hm0 hx0;go_wp2_with fail
 refine(Dj m0 _ (by have:=HF.out;omega)).mono ?_;rintro e w2 ⟨v2,rfl,hv2,hb2⟩;have FZ2:Hid (w2.frozen? ⟨w.heap.size,0,none⟩=false∧w2.frozen? ⟨w.heap.size,1,none⟩=false):=⟨(hb2.frozen (World.block_lt_of_cell? _ _ (S1.out.cel w.heap.size 0 (.slice none 0 0)))).trans FZ.out.1,(hb2.frozen (World.block_lt_of_cell? _ _ (S1.out.cel w.heap.size 1 (.slice none 0 0)))).trans FZ.out.2⟩;have S2:Hid _:=(S1.out.go hb2).addN hv2;clear hv2 hb2 S1;go_wp2_with fail
 refine(Dj 1 _ (by omega)).mono ?_;rintro e w3 ⟨v3,rfl,hv3,hb3⟩;have FZ3:Hid (w3.frozen? ⟨w.heap.size,0,none⟩=false∧w3.frozen? ⟨w.heap.size,1,none⟩=false):=⟨(hb3.frozen (World.block_lt_of_cell? _ _ (S2.out.cel w.heap.size 0 (.slice none 0 0)))).trans FZ2.out.1,(hb3.frozen (World.block_lt_of_cell? _ _ (S2.out.cel w.heap.size 1 (.slice none 0 0)))).trans FZ2.out.2⟩;have S3:Hid _:=(S2.out.go hb3).addN hv3;clear hv3 hb3 S2;go_wp2_with fail
 refine(KA v2 v3 m0 f _ _ (S3.out.at v2 m0) (S3.out.at v3 1) (BV (n:=1) (by rw[FT];have:=HF.out;omega) (by omega)) (by have:=HF.out;omega) HF.out.2.2.1).mono ?_;rintro e w4 ⟨v4,v5,rfl,hv4,hv5,hb4⟩;have FZ4:Hid (w4.frozen? ⟨w.heap.size,0,none⟩=false∧w4.frozen? ⟨w.heap.size,1,none⟩=false):=⟨(hb4.frozen (World.block_lt_of_cell? _ _ (S3.out.cel w.heap.size 0 (.slice none 0 0)))).trans FZ3.out.1,(hb4.frozen (World.block_lt_of_cell? _ _ (S3.out.cel w.heap.size 1 (.slice none 0 0)))).trans FZ3.out.2⟩;have S4:Hid _:=((S3.out.go hb4).addN hv4).addN hv5;clear hv4 hv5 hb4 S3;go_wp2_with fail
 refine(EO v4 v5 _ _ w4 (S4.out.at v4 (m0*2^(f-1074))) (S4.out.at v5 (2^(1074-f))) HF.out.2.2.2.2.1 HF.out.2.2.2.2.2 (Nat.two_pow_pos _) (HT.out.1.go S4.out.bel)).mono ?_;rintro e w5 ⟨v6,rfl,hv,hb⟩;obtain⟨a6,n6,k6,a7,n7,k7,ev,_,_⟩:=hv.raw;subst ev;rw[HF.out.2.2.2.1.1,HF.out.2.2.2.1.2]at hv;have z0:=cell_later hb (S4.out.cel w.heap.size 0 (.slice none 0 0));have z1:=cell_later hb (S4.out.cel w.heap.size 1 (.slice none 0 0));have u0:w5.frozen? ⟨w.heap.size,0,none⟩=false:=(hb.frozen (World.block_lt_of_cell? _ _ (S4.out.cel w.heap.size 0 (.slice none 0 0)))).trans FZ4.out.1;have u1:w5.frozen? ⟨w.heap.size,1,none⟩=false:=(hb.frozen (World.block_lt_of_cell? _ _ (S4.out.cel w.heap.size 1 (.slice none 0 0)))).trans FZ4.out.2;have Z:Hid _:=CB (v:=.slice a6 n6 k6) (u:=.slice a7 n7 k7) z0 z1 hv (Aj S4.out.bel hb) (Nat.le_refl _);clear hv hb S4;go_wp2_with fail
 exact bodyPost_ret (v:=.tuple #[.agg #[.slice a6 n6 k6,.slice a7 n7 k7],.bool true]) (by simp[results,Tryz.results51,go_sem,z0,z1]) rfl ⟨_,rfl,Z.out.1,Z.out.2⟩
end Go.Proofs.YtbikpmmpgbggaaaGreatDoor
