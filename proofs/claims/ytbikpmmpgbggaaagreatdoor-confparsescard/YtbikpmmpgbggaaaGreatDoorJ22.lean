/- Contracts of the program's functions, part 22: own work, joined in build order. -/
import Derived.Test.YtbikpmmpgbggaaaGreatDoorJ21
namespace Go.Proofs.YtbikpmmpgbggaaaGreatDoor
open Go.RowKit
set_option maxRecDepth 100000
set_option linter.unusedVariables false
set_option maxHeartbeats 16000000
theorem Pm(s:ByteArray):RS (npP s)∧RS (npQ s):=by
 cases h:CV s with
 |false=>
  rw[(Ek h).1,(Ek h).2.1];exact⟨CR (by omega),CR (by omega)⟩
 |true=>
  unfold CV at h;rw[Bool.and_eq_true]at h;have h1:s.size≤400:=of_decide_eq_true h.1;cases hc:Ap s with
  |none=>
   rw[hc]at h;exact absurd h.2 (by simp)
  |some p=>
   rw[hc]at h;have h3: ¬vD p=0:=by have:=h.2;simpa using this
   obtain⟨e1,e2,_⟩:=KK h1 hc h3;have g:=Jh h1 hc;have a:=g.a;have pw:=g.pw;rw[e1,e2];refine⟨⟨Nat.lt_of_le_of_lt (Nat.div_le_self _ _) ?_⟩,⟨Nat.lt_of_le_of_lt (Nat.div_le_self _ _) ?_⟩⟩
   ·unfold vN;split
    ·exact Cb (Ju a (Nat.lt_of_le_of_lt (Nat.pow_le_pow_right (by omega) (show(pwI p).toNat≤999 by omega)) KI)) (by omega)
    exact Cb a (by omega)
   unfold vD;split
   ·exact Bx (by omega)
   exact Cb g.b (by omega)
theorem Lw(u:Nat)(hu:u<18446744073709551616):RS (ffP u)∧RS (ffQ u):=by
 cases h:Cm u with
 |false=>
  rw[(Hn h).1,(Hn h).2];exact⟨CR (by omega),CR (by omega)⟩
 |true=>
  by_cases h1:u=9223372036854775808
  ·rw[h1,EZ.1,EZ.2];exact⟨CR (by omega),CR (by omega)⟩
  have h2:u<9218868437227405312:=by unfold Cm at h;simp at h;omega
  rw[(EH h2).1,(EH h2).2];exact⟨⟨Cb (Nat.lt_of_le_of_lt (Nat.div_le_self _ _) (UX h2)) (by omega)⟩,⟨Cb (Nat.lt_of_le_of_lt (Nat.div_le_self _ _) (UY u)) (by omega)⟩⟩
def exE(s:ByteArray):Int:=if npE s≠0 then 201 else if BO (npP s) (npQ s)=false then 98 else if AW (ffP (tfV (npP s) (npQ s))*npQ s) (npP s*ffQ (tfV (npP s) (npQ s)))≠0 then 98 else 0
def exU(s:ByteArray):Nat:=if exE s=0 then tfV (npP s) (npQ s) else 0
theorem Sp(p q:Nat):tfV p q<18446744073709551616:=by
 unfold tfV;split
 ·omega
 split<;>omega
theorem Ol(s:ByteArray)(w:World)(hs:s.size≤9223372036854775807)(hT:Tab w):
  Calls Tryz.prog 22 #[.string s] w fun e w'=>e=.returned (.tuple #[.float .f64 (exU s),.int .i64 (exE s)])∧Below w.heap.size w w':=by
 have HT:Hid (Tab w):=hT;obtain⟨p,hp⟩:=nmd (npP s);obtain⟨q,hq⟩:=nmd (npQ s);have H2:Hid (RS p∧RS q):=by have:=Pm s;rw[hp,hq]at this;exact this
 have HX1:Hid (exE s=if npE s≠0 then 201 else if BO p q=false then 98 else if AW (ffP (tfV p q)*q) (p*ffQ (tfV p q))≠0 then 98 else 0):=by show _=_;unfold exE;rw[hp,hq]
 have HX2:Hid (exU s=if exE s=0 then tfV p q else 0):=by show _=_;unfold exU;rw[hp,hq]
 clear hT;go_enter Tryz.func22,Tryz.ntmps22
 go_wp2_with fail
 refine(Qc s w hs HT.out).mono ?_;rintro e w1 ⟨v1,rfl,hr1,hb1⟩;rw[hp,hq]at hr1;obtain⟨ne,hne⟩:=nmd (npE s);rw[hne];rw[hne]at HX1;obtain⟨a,n,c,a',n',c',e0,_,_⟩:=hr1.raw;subst e0;have S1:Hid _:=((Bp w1).addF hr1).box (.slice a n c) (.slice a' n' c') 105 _ rfl;have B1:Hid _:=hb1;have hq0:=hr1.pos;clear hr1 hb1 hp hq hne;by_cases c0:ne=0
 ·subst c0;go_wp2_with fail
  refine(N8 (.agg #[.slice a n c,.slice a' n' c']) p q _ (S1.out.fr _ p q) H2.out.1 H2.out.2 hq0).mono ?_;rintro e w2 ⟨rfl,hb2⟩;have S2:Hid _:=S1.out.go hb2;clear hb2 S1;obtain⟨g1,eg1⟩:=nme w1.heap.size;rw[←eg1]at S2;rw[←eg1];clear eg1;have B2:Hid (Below w.heap.size w w2):=AU B1.out S2.out.bel;obtain⟨u,hu⟩:=nmd (tfV p q);have hul:u<18446744073709551616:=by rw[←hu];exact Sp _ _
  rw[hu];rw[hu]at HX1 HX2;cases ho:BO p q with
  |false=>
   have HEX:Hid (exU s=0∧exE s=98):=by
    have e2:exE s=98:=by rw[HX1.out,if_neg (by decide),if_pos ho]
    exact⟨by rw[HX2.out,if_neg (by rw[e2];decide)],e2⟩
   clear ho hu;go_wp2_with fail
   exact bodyPost_ret (v:=.tuple #[.float .f64 0,.int .i64 98]) (by simp[results,Tryz.results22,go_sem]) rfl ⟨by rw[HEX.out.1,HEX.out.2],B2.out⟩
  |true=>
   rw[ho]at HX1;have HUL:Hid _:=hul;clear ho hu hul;go_wp2_with fail
   refine(IV u _ HUL.out (Tab.go HT.out B2.out)).mono ?_;rintro e w3 ⟨v3,rfl,hr3,hb3⟩;obtain⟨p',hp'⟩: ∃p',ffP u=p':=⟨_,rfl⟩;obtain⟨q',hq'⟩: ∃q',ffQ u=q':=⟨_,rfl⟩;have H3:Hid (RS p'∧RS q'):=by have:=Lw u HUL.out;rw[hp',hq']at this;exact this
   rw[hp',hq']at hr3;rw[hp',hq']at HX1;obtain⟨b,m,d,b',m',d',e0,_,_⟩:=hr3.raw;subst e0;have S3:Hid _:=((S2.out.go hb3).addF hr3).box (.slice b m d) (.slice b' m' d') 105 _ rfl;clear hr3 hb3 S2 hp' hq';have x0:=S3.out.cel g1 0 (.slice a n c);have x1:=S3.out.cel g1 1 (.slice a' n' c');go_wp2_with fail
   refine(PW (.agg #[.slice b m d,.slice b' m' d']) (.agg #[.slice a n c,.slice a' n' c']) p' q' p q _ (S3.out.fr _ p' q') (S3.out.fr _ p q) H3.out.1 H3.out.2 H2.out.1 H2.out.2).mono ?_;rintro e w4 ⟨rfl,hb4⟩;have W4:Hid (Below w.heap.size w w4):=AU B1.out (AU S3.out.bel hb4);obtain⟨z,hz⟩:=nmd (AW (p'*q) (p*q'));rw[hz];rw[hz]at HX1;clear hb4 x0 x1 S3 hz;by_cases c1:z=0
   ·subst c1;have HEX:Hid (exU s=u∧exE s=0):=by
     have e2:exE s=0:=by rw[HX1.out,if_neg (by decide),if_neg (by decide),if_neg (by decide)]
     exact⟨by rw[HX2.out,if_pos e2],e2⟩
    go_wp2_with fail
    exact bodyPost_ret (v:=.tuple #[.float .f64 u,.int .i64 0]) (by simp[results,Tryz.results22,go_sem]) rfl ⟨by rw[HEX.out.1,HEX.out.2],W4.out⟩
   have d1:(z != 0)=true:=by simpa using c1
   have HEX:Hid (exU s=0∧exE s=98):=by
    have e2:exE s=98:=by rw[HX1.out,if_neg (by decide),if_neg (by decide),if_pos c1]
    exact⟨by rw[HX2.out,if_neg (by rw[e2];decide)],e2⟩
   clear c1;go_wp2_with fail
   exact bodyPost_ret (v:=.tuple #[.float .f64 0,.int .i64 98]) (by simp[results,Tryz.results22,go_sem]) rfl ⟨by rw[HEX.out.1,HEX.out.2],W4.out⟩
 have d0:(ne != 0)=true:=by simpa using c0
 have HEX:Hid (exU s=0∧exE s=201):=by
  have e2:exE s=201:=by rw[HX1.out,if_pos c0]
  exact⟨by rw[HX2.out,if_neg (by rw[e2];decide)],e2⟩
 have B2:Hid (Below w.heap.size w (w1.alloc (.cells #[.slice a n c,.slice a' n' c'] 105))):=AU B1.out (Af (Aa w1));clear c0;go_wp2_with fail
 exact bodyPost_ret (v:=.tuple #[.float .f64 0,.int .i64 201]) (by simp[results,Tryz.results22,go_sem]) rfl ⟨by rw[HEX.out.1,HEX.out.2],B2.out⟩
def pfE(ce:Int)(FE:Int→Int→Int→Int→Int→Nat→Int→Int→Int)(s:ByteArray):Int:=
 if ce≠0 then ce else if 4096<s.size then 2 else if(!(flS (Ab s,false)).2&&(flS (Ab s,false)).1.isEmpty)=false then 201 else if exE (flR (Ab s,false))≠0 then exE (flR (Ab s,false)) else FE (flV (Ab s,false) 0) (flV (Ab s,false) 1) (flV (Ab s,false) 2) (flV (Ab s,false) 3) (flV (Ab s,false) 4) (exU (flR (Ab s,false))) (flV (Ab s,false) 5) (flV (Ab s,false) 6)
def pfV(e:Int)(s:ByteArray)(i:Nat):Int:=if e=0 then flV (Ab s,false) i else 0
def pfU(e:Int)(s:ByteArray):Nat:=if e=0 then exU (flR (Ab s,false)) else 0
theorem WN(s:ByteArray)(hs:s.size≤4096):(flR (Ab s,false)).size≤4096:=by
 have h0:Sh4 (Ab s,false).1:=fun x hx=>Nat.le_trans (Eu s x hx) hs;have h1:Sh4 (arS ⟨#[119,101,105,103,104,116,32,113,117,97,110,116,117,109,32,99,108,97,115,115,32,115,112,97,110,32,98,117,114,115,116,32,114,97,116,101,32,112,101,114,32,110,111,100,101]⟩ (Ab s,false)).1:=Lq _ _ _ _ (RW _) h0;exact h1.tail.tail.tail.tail.tail.hd
theorem IW(K R M C Fl A:Int)(a:Option Addr)(n cap:Nat)(G:Nat→Nat→Int)(s:ByteArray)(E:Int)(w:World)(h:NSl w a n cap G)(hs:s.size≤9223372036854775807)(he:EV w)(hk:KN w)(hT:Tab w)
  (hE:pfE (A4 K R M C Fl A G n) (fun b0 b1 b2 b3 b4 bu b5 b6=>CO K R M C Fl A G n b0 b1 b2 b3 b4 bu b5 b6) s=E):
  Calls Tryz.prog 6 #[.agg #[.int .i64 K,.int .i64 R,.int .i64 M,.int .i64 C,.int .i64 Fl,.int .i64 A,.slice a n cap],.string s] w fun e w'=>e=.returned (.tuple #[.agg #[.int .i64 (pfV E s 0),.int .i64 (pfV E s 1),.int .i64 (pfV E s 2),.int .i64 (pfV E s 3),.int .i64 (pfV E s 4),.float .f64 (pfU E s),.int .i64 (pfV E s 5),.int .i64 (pfV E s 6)],.int .i64 E])∧Below w.heap.size w w':=by
 have HN:Hid _:=h;have HE:Hid _:=he;have HK:Hid (KN w):=hk;have HT:Hid (Tab w):=hT;have HEE:Hid _:=hE;have HBD:Hid (E≠0→(∀k,pfV E s k=0)∧pfU E s=0):=fun h=>⟨fun k=>by unfold pfV;rw[if_neg h],by unfold pfU;rw[if_neg h]⟩;have HGD:Hid (E=0→(∀k,pfV E s k=flV (Ab s,false) k)∧pfU E s=exU (flR (Ab s,false))):=fun h=>⟨fun k=>by unfold pfV;rw[if_pos h],by unfold pfU;rw[if_pos h]⟩;have hl0:n≤9223372036854775807:=Nat.le_trans h.le h.lim;obtain⟨ce,hce⟩:=nmd (A4 K R M C Fl A G n);have HCE:Hid _:=hce;clear h he hk hT hE;go_enter Tryz.func6,Tryz.ntmps6
 go_wp2_with fail
 have S0:Hid _:=((CG w).box7 (.int .i64 K) (.int .i64 R) (.int .i64 M) (.int .i64 C) (.int .i64 Fl) (.int .i64 A) (.slice a n cap) 24 _ rfl).box8 (.int .i64 0) (.int .i64 0) (.int .i64 0) (.int .i64 0) (.int .i64 0) (.float .f64 0) (.int .i64 0) (.int .i64 0) 32 (w.heap.size+1) (by rw[World.size_alloc]);have Z0:Hid (((w.alloc (.cells #[.int .i64 K,.int .i64 R,.int .i64 M,.int .i64 C,.int .i64 Fl,.int .i64 A,.slice a n cap] 24)).alloc (.cells #[.int .i64 0,.int .i64 0,.int .i64 0,.int .i64 0,.int .i64 0,.float .f64 0,.int .i64 0,.int .i64 0] 32)).heap[w.heap.size+1]? =some (.cells #[.int .i64 0,.int .i64 0,.int .i64 0,.int .i64 0,.int .i64 0,.float .f64 0,.int .i64 0,.int .i64 0] 32)):=by
  have q:=CZ (w.alloc (.cells #[.int .i64 K,.int .i64 R,.int .i64 M,.int .i64 C,.int .i64 Fl,.int .i64 A,.slice a n cap] 24)) (.cells #[.int .i64 0,.int .i64 0,.int .i64 0,.int .i64 0,.int .i64 0,.float .f64 0,.int .i64 0,.int .i64 0] 32);rw[World.size_alloc]at q;exact q
 refine(Et K R M C Fl A a n cap G _ (HN.out.go S0.out.bel)).mono ?_;rintro e w1 ⟨rfl,hb⟩;rw[hce];rw[hce]at HEE;clear hce;obtain⟨gA,egA⟩:=nme w.heap.size;obtain⟨gR,egR⟩:=nme (w.heap.size+1);have S1:Hid _:=S0.out.go hb;have Z1:Hid (w1.heap[gR]? =some (.cells #[.int .i64 0,.int .i64 0,.int .i64 0,.int .i64 0,.int .i64 0,.float .f64 0,.int .i64 0,.int .i64 0] 32)):=by
  show _=_;rw[egR];exact(hb.block _ (by rw[World.size_alloc,World.size_alloc];omega)).trans Z0.out
 rw[←egR,←egA]at S1;rw[←egR,←egA];have HA:Hid (w.heap.size≤gA∧w.heap.size≤gR∧gA≠gR):=⟨by omega,by omega,by omega⟩;have W1:Hid (Below w.heap.size w w1):=S1.out.bel;clear egA egR hb S0 Z0;by_cases c0:ce=0
 ·subst c0;by_cases c1:4096<s.size
  ·have d1:(4096:Int)<(s.size:Int):=by omega
   have HPE:Hid (E=2):=by show _=_;rw[←HEE.out];unfold pfE;rw[if_neg (by decide),if_pos c1]
   clear c1;go_wp2_with (refine(id ?_:wpList Tryz.prog _ _ (⟨none,.store 32 (.tmp 4) (.tmp 21),_,_,_,_⟩::_) _ _);refine wpList_store_row rfl 32 (.tmp 4) (.tmp 21) rfl gR #[.int .i64 0,.int .i64 0,.int .i64 0,.int .i64 0,.int .i64 0,.float .f64 0,.int .i64 0,.int .i64 0] rfl rfl 32 #[.int .i64 0,.int .i64 0,.int .i64 0,.int .i64 0,.int .i64 0,.float .f64 0,.int .i64 0,.int .i64 0] Z1.out (by kernel_rfl) (by kernel_rfl) (by kernel_rfl) ?_;refine Az (fun W=>W.heap[gR]? =some (.cells #[.int .i64 0,.int .i64 0,.int .i64 0,.int .i64 0,.int .i64 0,.float .f64 0,.int .i64 0,.int .i64 0] 32)∧Below w.heap.size w W) ⟨setRow_heap _ _ _ _ _ _ Z1.out,?_⟩ ?_)
   ·exact⟨W1.out.os,W1.out.tape,W1.out.output,by rw[size_setRow];exact W1.out.size,fun k hk=>(setRow_other _ _ _ _ (by have:=HA.out.2.1;omega)).trans (W1.out.block k hk)⟩
   intro wz hR hB;have WZ:Hid _:=hB;obtain⟨u0,u1,u2,u3,u4,u5,u6,u7⟩:=cl8 hR;clear hB hR;go_wp2_with fail
   refine bodyPost_ret (v:=.tuple #[.agg #[.int .i64 0,.int .i64 0,.int .i64 0,.int .i64 0,.int .i64 0,.float .f64 0,.int .i64 0,.int .i64 0],.int .i64 2]) (by simp[results,Tryz.results6,go_sem,u0,u1,u2,u3,u4,u5,u6,u7]) rfl ?_;have q:=HBD.out (by rw[HPE.out];decide);exact⟨by rw[q.1 0,q.1 1,q.1 2,q.1 3,q.1 4,q.1 5,q.1 6,q.2,HPE.out],WZ.out⟩
  have hs2:s.size≤4096:=by omega
  have d0: ¬(4096:Int)<(s.size:Int):=by omega
  have HE1:Hid (E=if(!(flS (Ab s,false)).2&&(flS (Ab s,false)).1.isEmpty)=false then 201 else if exE (flR (Ab s,false))≠0 then exE (flR (Ab s,false)) else CO K R M C Fl A G n (flV (Ab s,false) 0) (flV (Ab s,false) 1) (flV (Ab s,false) 2) (flV (Ab s,false) 3) (flV (Ab s,false) 4) (exU (flR (Ab s,false))) (flV (Ab s,false) 5) (flV (Ab s,false) 6)):=by show _=_;rw[←HEE.out];unfold pfE;rw[if_neg (by decide),if_neg c1]
  have HRS:Hid _:=WN s hs2;clear c1;obtain⟨rt,hrt⟩:=nmd (flR (Ab s,false));obtain⟨n0,hv0⟩:=nmd (flV (Ab s,false) 0);obtain⟨n1,hv1⟩:=nmd (flV (Ab s,false) 1);obtain⟨n2,hv2⟩:=nmd (flV (Ab s,false) 2);obtain⟨n3,hv3⟩:=nmd (flV (Ab s,false) 3);obtain⟨n4,hv4⟩:=nmd (flV (Ab s,false) 4);obtain⟨n5,hv5⟩:=nmd (flV (Ab s,false) 5);obtain⟨n6,hv6⟩:=nmd (flV (Ab s,false) 6);obtain⟨D,hD⟩:=nmd ((!(flS (Ab s,false)).2&&(flS (Ab s,false)).1.isEmpty));have HV:Hid (∀e:Ending,e=.returned (.tuple #[.agg #[.int .i64 (flV (Ab s,false) 0),.int .i64 (flV (Ab s,false) 1),.int .i64 (flV (Ab s,false) 2),.int .i64 (flV (Ab s,false) 3),.int .i64 (flV (Ab s,false) 4),.float .f64 0,.int .i64 (flV (Ab s,false) 5),.int .i64 (flV (Ab s,false) 6)],.string (flR (Ab s,false))])→e=.returned (.tuple #[.agg #[.int .i64 n0,.int .i64 n1,.int .i64 n2,.int .i64 n3,.int .i64 n4,.float .f64 0,.int .i64 n5,.int .i64 n6],.string rt])):=by
   intro e q;rw[q,hv0,hv1,hv2,hv3,hv4,hv5,hv6,hrt]
  have HVV:Hid (flV (Ab s,false) 0=n0∧flV (Ab s,false) 1=n1∧flV (Ab s,false) 2=n2∧flV (Ab s,false) 3=n3∧flV (Ab s,false) 4=n4∧flV (Ab s,false) 5=n5∧flV (Ab s,false) 6=n6∧flR (Ab s,false)=rt):=⟨hv0,hv1,hv2,hv3,hv4,hv5,hv6,hrt⟩;rw[hv0,hv1,hv2,hv3,hv4,hv5,hv6,hrt,hD]at HE1;rw[hrt]at HRS;have HDD:Hid _:=hD;clear hv0 hv1 hv2 hv3 hv4 hv5 hv6 hrt hD;go_wp2_with fail
  refine(Gi s _ (by omega)).mono ?_;rintro e w2 ⟨v2,rfl,hO,hb2⟩;have S2:Hid _:=S1.out.go hb2;have Z2:Hid (w2.heap[gR]? =some (.cells #[.int .i64 0,.int .i64 0,.int .i64 0,.int .i64 0,.int .i64 0,.float .f64 0,.int .i64 0,.int .i64 0] 32)):=(hb2.block _ (Array.getElem?_eq_some_iff.1 Z1.out).1).trans Z1.out;have R2:Hid _:=Ka (W0:=w) hs2 hO (HE.out.go S2.out.bel) (HK.out.go S2.out.bel);have e1: ∃a n c,v2=.slice a n c:=by
   rcases hO with⟨q,_⟩| ⟨g,cap,f,q,_⟩
   ·exact⟨_,_,_,q⟩
   exact⟨_,_,_,q⟩
  obtain⟨a2,m2,c2,rfl⟩:=e1;have hlw:(Ab s).length≤50000:=by have:=Ds s;omega
  have LW:Hid _:=hlw;obtain⟨rb,erb⟩:=nme w2.heap.size;have S2b:Hid _:=S2.out.go (Af (o:=.cells #[.slice a2 m2 c2,.bool false] 45) (Aa w2));have Z2b:Hid ((w2.alloc (.cells #[.slice a2 m2 c2,.bool false] 45)).heap[gR]? =some (.cells #[.int .i64 0,.int .i64 0,.int .i64 0,.int .i64 0,.int .i64 0,.float .f64 0,.int .i64 0,.int .i64 0] 32)):=((Af (Aa w2)).block _ (Array.getElem?_eq_some_iff.1 Z2.out).1).trans Z2.out;have lA:=S2.out.lt gA 0 (.int .i64 K);have lR:gR<w2.heap.size:=(Array.getElem?_eq_some_iff.1 Z2.out).1;have HNE:Hid (gA≠rb∧gR≠rb∧w.heap.size≤rb):=⟨by omega,by omega,by rw[erb];exact S2.out.bel.size⟩;clear hO hb2 hlw lA lR;go_wp2_with fail
  rw[←erb];rw[←erb]at R2;refine(Uk rb (Ab s,false) _ R2.out LW.out).mono ?_;rintro e w3 ⟨he3,⟨lm3,hr3⟩,ho3⟩;have he4:=HV.out e he3;subst he4;have R3:Hid _:=hr3;have S3:Hid (Ce w w3 [(gA,0,.int .i64 K),(gA,1,.int .i64 R),(gA,2,.int .i64 M),(gA,3,.int .i64 C),(gA,4,.int .i64 Fl),(gA,5,.int .i64 A),(gA,6,.slice a n cap)]):=by
   refine⟨fun x hx=> ?_,?_⟩
   ·have hb:x.1=gA:=by
     simp only[List.mem_cons,List.not_mem_nil,or_false]at hx;rcases hx with rfl|rfl|rfl|rfl|rfl|rfl|rfl<;>rfl
    refine ho3.cell (S2b.out.cells x ?_) (by show x.1≠rb;rw[hb];exact HNE.out.1);exact List.mem_append_right [(gR,0,.int .i64 0),(gR,1,.int .i64 0),(gR,2,.int .i64 0),(gR,3,.int .i64 0),(gR,4,.int .i64 0),(gR,5,.float .f64 0),(gR,6,.int .i64 0),(gR,7,.int .i64 0)] hx
   exact S2b.out.bel.trans (ho3.below S2b.out.bel.size HNE.out.2.2)
  have Z3:Hid (w3.heap[gR]? =some (.cells #[.int .i64 0,.int .i64 0,.int .i64 0,.int .i64 0,.int .i64 0,.float .f64 0,.int .i64 0,.int .i64 0] 32)):=(ho3.block gR (Array.getElem?_eq_some_iff.1 Z2b.out).1 HNE.out.2.1).trans Z2b.out;clear he3 hr3 ho3 R2 S2 S2b Z2 Z2b erb;have hAL:=CZ w3 (.cells #[.int .i64 0,.int .i64 0,.int .i64 0,.int .i64 0,.int .i64 0,.float .f64 0,.int .i64 0,.int .i64 0] 32);have HAL:Hid _:=hAL;clear hAL;go_wp2_with (refine(id ?_:wpList Tryz.prog _ _ (⟨none,.store 32 (.tmp 8) (.tmp 27),_,_,_,_⟩::_) _ _);refine wpList_store_row rfl 32 (.tmp 8) (.tmp 27) rfl w3.heap.size #[.int .i64 n0,.int .i64 n1,.int .i64 n2,.int .i64 n3,.int .i64 n4,.float .f64 0,.int .i64 n5,.int .i64 n6] rfl rfl 32 #[.int .i64 0,.int .i64 0,.int .i64 0,.int .i64 0,.int .i64 0,.float .f64 0,.int .i64 0,.int .i64 0] HAL.out (by kernel_rfl) (by kernel_rfl) (by kernel_rfl) ?_;rw[World.setRow_alloc_new])
  refine(J9 rb (flS (Ab s,false)).1 (flS (Ab s,false)).2 _ (R3.out.rd.go (Af (Aa w3)))).mono ?_;rintro e w4 ⟨rfl,rfl⟩;rw[HDD.out];have W3:Hid (Below w.heap.size w (w3.alloc (.cells #[.int .i64 n0,.int .i64 n1,.int .i64 n2,.int .i64 n3,.int .i64 n4,.float .f64 0,.int .i64 n5,.int .i64 n6] 32))):=Af S3.out.bel;have Z3b:Hid ((w3.alloc (.cells #[.int .i64 n0,.int .i64 n1,.int .i64 n2,.int .i64 n3,.int .i64 n4,.float .f64 0,.int .i64 n5,.int .i64 n6] 32)).heap[gR]? =some (.cells #[.int .i64 0,.int .i64 0,.int .i64 0,.int .i64 0,.int .i64 0,.float .f64 0,.int .i64 0,.int .i64 0] 32)):=((Af (Aa w3)).block gR (Array.getElem?_eq_some_iff.1 Z3.out).1).trans Z3.out;cases D
  ·have HPE:Hid (E=201):=by show _=_;rw[HE1.out,if_pos rfl]
   go_wp2_with (refine(id ?_:wpList Tryz.prog _ _ (⟨none,.store 32 (.tmp 4) (.tmp 31),_,_,_,_⟩::_) _ _);refine wpList_store_row rfl 32 (.tmp 4) (.tmp 31) rfl gR #[.int .i64 0,.int .i64 0,.int .i64 0,.int .i64 0,.int .i64 0,.float .f64 0,.int .i64 0,.int .i64 0] rfl rfl 32 #[.int .i64 0,.int .i64 0,.int .i64 0,.int .i64 0,.int .i64 0,.float .f64 0,.int .i64 0,.int .i64 0] Z3b.out (by kernel_rfl) (by kernel_rfl) (by kernel_rfl) ?_;refine Az (fun W=>W.heap[gR]? =some (.cells #[.int .i64 0,.int .i64 0,.int .i64 0,.int .i64 0,.int .i64 0,.float .f64 0,.int .i64 0,.int .i64 0] 32)∧Below w.heap.size w W) ⟨setRow_heap _ _ _ _ _ _ Z3b.out,?_⟩ ?_)
   ·exact⟨W3.out.os,W3.out.tape,W3.out.output,by rw[size_setRow];exact W3.out.size,fun k hk=>(setRow_other _ _ _ _ (by have:=HA.out.2.1;omega)).trans (W3.out.block k hk)⟩
   intro wz hR hB;have WZ:Hid _:=hB;obtain⟨u0,u1,u2,u3,u4,u5,u6,u7⟩:=cl8 hR;clear hB hR;go_wp2_with fail
   refine bodyPost_ret (v:=.tuple #[.agg #[.int .i64 0,.int .i64 0,.int .i64 0,.int .i64 0,.int .i64 0,.float .f64 0,.int .i64 0,.int .i64 0],.int .i64 201]) (by simp[results,Tryz.results6,go_sem,u0,u1,u2,u3,u4,u5,u6,u7]) rfl ?_;have q:=HBD.out (by rw[HPE.out];decide);exact⟨by rw[q.1 0,q.1 1,q.1 2,q.1 3,q.1 4,q.1 5,q.1 6,q.2,HPE.out],WZ.out⟩
  obtain⟨xe,hxe⟩:=nmd (exE rt);obtain⟨u,hu⟩:=nmd (exU rt);have HE2:Hid (E=if xe≠0 then xe else CO K R M C Fl A G n n0 n1 n2 n3 n4 u n5 n6):=by show _=_;rw[HE1.out,if_neg (by decide),hxe,hu]
  have HXU:Hid (exE rt=xe∧exU rt=u):=⟨hxe,hu⟩;clear hxe hu;go_wp2_with fail
  refine(Ol rt _ (by have:=HRS.out;omega) (Tab.go HT.out W3.out)).mono ?_;rintro e w5 ⟨rfl,hb5⟩;rw[HXU.out.1,HXU.out.2];obtain⟨gP,egP⟩:=nme w3.heap.size;have B3:=Af (o:=.cells #[.int .i64 n0,.int .i64 n1,.int .i64 n2,.int .i64 n3,.int .i64 n4,.float .f64 0,.int .i64 n5,.int .i64 n6] 32) (Aa w3);have S5:Hid _:=(S3.out.go B3).go hb5;have Z5:Hid (w5.heap[gR]? =some (.cells #[.int .i64 0,.int .i64 0,.int .i64 0,.int .i64 0,.int .i64 0,.float .f64 0,.int .i64 0,.int .i64 0] 32)):=((AU B3 hb5).block gR (Array.getElem?_eq_some_iff.1 Z3.out).1).trans Z3.out;have P5:Hid (w5.heap[gP]? =some (.cells #[.int .i64 n0,.int .i64 n1,.int .i64 n2,.int .i64 n3,.int .i64 n4,.float .f64 0,.int .i64 n5,.int .i64 n6] 32)):=by
   show _=_;rw[egP];exact(hb5.block _ (by rw[World.size_alloc];omega)).trans (CZ _ _)
  rw[←egP];have lR:gR<w3.heap.size:=(Array.getElem?_eq_some_iff.1 Z3.out).1;have lA:=S3.out.lt gA 0 (.int .i64 K);have HP:Hid (gA≠gP∧gR≠gP∧w.heap.size≤gP):=⟨by omega,by omega,by rw[egP];exact S3.out.bel.size⟩;have hP:=P5.out;obtain⟨y0,y1,y2,y3,y4,y5,y6,y7⟩:=cl8 hP;have fy:=fzAt hP 5;have B5:Hid (Bx1 w5 w5 gP 32 #[.int .i64 n0,.int .i64 n1,.int .i64 n2,.int .i64 n3,.int .i64 n4,.float .f64 0,.int .i64 n5,.int .i64 n6]):=⟨hP,fun _ _=>rfl,rfl,rfl,rfl,rfl⟩;clear hP lR lA egP hb5 B3;have sf:=fun(w:World) (a:Addr) (x:Nat)=>run_store Tryz.prog w a (.float .f64 x) .plain rfl;go_wp2_with (refine(id ?_:wpList Tryz.prog _ _ (⟨some 39,_,_,_,_,_⟩::_) _ _);refine Az (fun W=>Bx1 w5 W gP 32 #[.int .i64 n0,.int .i64 n1,.int .i64 n2,.int .i64 n3,.int .i64 n4,.float .f64 u,.int .i64 n5,.int .i64 n6]) (B5.out.set 5 (.float .f64 u)) ?_)
  intro w6 B6;clear y0 y1 y2 y3 y4 y5 y6 y7 fy sf;have hP:=B6.hc;obtain⟨y0,y1,y2,y3,y4,y5,y6,y7⟩:=cl8 hP;have S6:Hid (Ce w w6 [(gA,0,.int .i64 K),(gA,1,.int .i64 R),(gA,2,.int .i64 M),(gA,3,.int .i64 C),(gA,4,.int .i64 Fl),(gA,5,.int .i64 A),(gA,6,.slice a n cap)]):=by
   refine⟨fun x hx=> ?_,?_⟩
   ·have hb:x.1=gA:=by
     simp only[List.mem_cons,List.not_mem_nil,or_false]at hx;rcases hx with rfl|rfl|rfl|rfl|rfl|rfl|rfl<;>rfl
    exact(World.cell?_of_block (w:=w5) (B6.ot _ (by show x.1≠gP;rw[hb];exact HP.out.1))).trans (S5.out.cells x hx)
   have q:=S5.out.bel;exact⟨B6.os.trans q.os,B6.tape.trans q.tape,B6.output.trans q.output,by rw[B6.size];exact q.size,fun k hk=>(B6.ot k (by have:=HP.out.2.2;omega)).trans (q.block k hk)⟩
  have Z6:Hid (w6.heap[gR]? =some (.cells #[.int .i64 0,.int .i64 0,.int .i64 0,.int .i64 0,.int .i64 0,.float .f64 0,.int .i64 0,.int .i64 0] 32)):=(B6.ot gR HP.out.2.1).trans Z5.out;have W6:Hid (Below w.heap.size w w6):=S6.out.bel;have x0:=S6.out.cel gA 0 (.int .i64 K);have x1:=S6.out.cel gA 1 (.int .i64 R);have x2:=S6.out.cel gA 2 (.int .i64 M);have x3:=S6.out.cel gA 3 (.int .i64 C);have x4:=S6.out.cel gA 4 (.int .i64 Fl);have x5:=S6.out.cel gA 5 (.int .i64 A);have x6:=S6.out.cel gA 6 (.slice a n cap);clear hP B6;by_cases c2:xe=0
  ·subst c2;obtain⟨fe,hfe⟩:=nmd (CO K R M C Fl A G n n0 n1 n2 n3 n4 u n5 n6);have HE3:Hid (E=fe):=by show _=_;rw[HE2.out,if_neg (by decide),hfe]
   go_wp2_with fail
   refine(Gp K R M C Fl A a n cap G n0 n1 n2 n3 n4 u n5 n6 _ (HN.out.go S6.out.bel)).mono ?_;rintro e w7 ⟨rfl,hb7⟩;rw[hfe];replace y0:=Ae hb7 y0;replace y1:=Ae hb7 y1;replace y2:=Ae hb7 y2;replace y3:=Ae hb7 y3;replace y4:=Ae hb7 y4;replace y5:=Ae hb7 y5;replace y6:=Ae hb7 y6;replace y7:=Ae hb7 y7;have Z7:Hid (w7.heap[gR]? =some (.cells #[.int .i64 0,.int .i64 0,.int .i64 0,.int .i64 0,.int .i64 0,.float .f64 0,.int .i64 0,.int .i64 0] 32)):=(hb7.block gR (Array.getElem?_eq_some_iff.1 Z6.out).1).trans Z6.out;have W7:Hid _:=AU S6.out.bel hb7;clear x0 x1 x2 x3 x4 x5 x6 hb7 hfe;by_cases c3:fe=0
   ·subst c3;go_wp2_with (refine(id ?_:wpList Tryz.prog _ _ (⟨none,.store 32 (.tmp 4) (.tmp 49),_,_,_,_⟩::_) _ _);refine wpList_store_row rfl 32 (.tmp 4) (.tmp 49) rfl gR #[.int .i64 n0,.int .i64 n1,.int .i64 n2,.int .i64 n3,.int .i64 n4,.float .f64 u,.int .i64 n5,.int .i64 n6] rfl rfl 32 #[.int .i64 0,.int .i64 0,.int .i64 0,.int .i64 0,.int .i64 0,.float .f64 0,.int .i64 0,.int .i64 0] Z7.out (by kernel_rfl) (by kernel_rfl) (by kernel_rfl) ?_;refine Az (fun W=>W.heap[gR]? =some (.cells #[.int .i64 n0,.int .i64 n1,.int .i64 n2,.int .i64 n3,.int .i64 n4,.float .f64 u,.int .i64 n5,.int .i64 n6] 32)∧Below w.heap.size w W) ⟨setRow_heap _ _ _ _ _ _ Z7.out,?_⟩ ?_)
    ·exact⟨W7.out.os,W7.out.tape,W7.out.output,by rw[size_setRow];exact W7.out.size,fun k hk=>(setRow_other _ _ _ _ (by have:=HA.out.2.1;omega)).trans (W7.out.block k hk)⟩
    intro wz hR hB;have WZ:Hid _:=hB;obtain⟨u0,u1,u2,u3,u4,u5,u6,u7⟩:=cl8 hR;clear hB hR;go_wp2_with fail
    refine bodyPost_ret (v:=.tuple #[.agg #[.int .i64 n0,.int .i64 n1,.int .i64 n2,.int .i64 n3,.int .i64 n4,.float .f64 u,.int .i64 n5,.int .i64 n6],.int .i64 0]) (by simp[results,Tryz.results6,go_sem,u0,u1,u2,u3,u4,u5,u6,u7]) rfl ?_;have q:=HGD.out HE3.out;obtain⟨j0,j1,j2,j3,j4,j5,j6,jr⟩:=HVV.out;exact⟨by rw[q.1 0,q.1 1,q.1 2,q.1 3,q.1 4,q.1 5,q.1 6,q.2,HE3.out,j0,j1,j2,j3,j4,j5,j6,jr,HXU.out.2],WZ.out⟩
   have d3:(fe != 0)=true:=by simpa using c3
   have HPE:Hid _:=HE3.out;have HC3:Hid _:=c3;clear c3;go_wp2_with (refine(id ?_:wpList Tryz.prog _ _ (⟨none,.store 32 (.tmp 4) (.tmp 47),_,_,_,_⟩::_) _ _);refine wpList_store_row rfl 32 (.tmp 4) (.tmp 47) rfl gR #[.int .i64 0,.int .i64 0,.int .i64 0,.int .i64 0,.int .i64 0,.float .f64 0,.int .i64 0,.int .i64 0] rfl rfl 32 #[.int .i64 0,.int .i64 0,.int .i64 0,.int .i64 0,.int .i64 0,.float .f64 0,.int .i64 0,.int .i64 0] Z7.out (by kernel_rfl) (by kernel_rfl) (by kernel_rfl) ?_;refine Az (fun W=>W.heap[gR]? =some (.cells #[.int .i64 0,.int .i64 0,.int .i64 0,.int .i64 0,.int .i64 0,.float .f64 0,.int .i64 0,.int .i64 0] 32)∧Below w.heap.size w W) ⟨setRow_heap _ _ _ _ _ _ Z7.out,?_⟩ ?_)
   ·exact⟨W7.out.os,W7.out.tape,W7.out.output,by rw[size_setRow];exact W7.out.size,fun k hk=>(setRow_other _ _ _ _ (by have:=HA.out.2.1;omega)).trans (W7.out.block k hk)⟩
   intro wz hR hB;have WZ:Hid _:=hB;obtain⟨u0,u1,u2,u3,u4,u5,u6,u7⟩:=cl8 hR;clear hB hR;go_wp2_with fail
   refine bodyPost_ret (v:=.tuple #[.agg #[.int .i64 0,.int .i64 0,.int .i64 0,.int .i64 0,.int .i64 0,.float .f64 0,.int .i64 0,.int .i64 0],.int .i64 fe]) (by simp[results,Tryz.results6,go_sem,u0,u1,u2,u3,u4,u5,u6,u7]) rfl ?_;have q:=HBD.out (by rw[HPE.out];exact HC3.out);exact⟨by rw[q.1 0,q.1 1,q.1 2,q.1 3,q.1 4,q.1 5,q.1 6,q.2,HPE.out],WZ.out⟩
  have d2:(xe != 0)=true:=by simpa using c2
  have HPE:Hid (E=xe):=by show _=_;rw[HE2.out,if_pos c2]
  have HC2:Hid _:=c2;clear c2;go_wp2_with (refine(id ?_:wpList Tryz.prog _ _ (⟨none,.store 32 (.tmp 4) (.tmp 40),_,_,_,_⟩::_) _ _);refine wpList_store_row rfl 32 (.tmp 4) (.tmp 40) rfl gR #[.int .i64 0,.int .i64 0,.int .i64 0,.int .i64 0,.int .i64 0,.float .f64 0,.int .i64 0,.int .i64 0] rfl rfl 32 #[.int .i64 0,.int .i64 0,.int .i64 0,.int .i64 0,.int .i64 0,.float .f64 0,.int .i64 0,.int .i64 0] Z6.out (by kernel_rfl) (by kernel_rfl) (by kernel_rfl) ?_;refine Az (fun W=>W.heap[gR]? =some (.cells #[.int .i64 0,.int .i64 0,.int .i64 0,.int .i64 0,.int .i64 0,.float .f64 0,.int .i64 0,.int .i64 0] 32)∧Below w.heap.size w W) ⟨setRow_heap _ _ _ _ _ _ Z6.out,?_⟩ ?_)
  ·exact⟨W6.out.os,W6.out.tape,W6.out.output,by rw[size_setRow];exact W6.out.size,fun k hk=>(setRow_other _ _ _ _ (by have:=HA.out.2.1;omega)).trans (W6.out.block k hk)⟩
  intro wz hR hB;have WZ:Hid _:=hB;obtain⟨u0,u1,u2,u3,u4,u5,u6,u7⟩:=cl8 hR;clear hB hR;go_wp2_with fail
  refine bodyPost_ret (v:=.tuple #[.agg #[.int .i64 0,.int .i64 0,.int .i64 0,.int .i64 0,.int .i64 0,.float .f64 0,.int .i64 0,.int .i64 0],.int .i64 xe]) (by simp[results,Tryz.results6,go_sem,u0,u1,u2,u3,u4,u5,u6,u7]) rfl ?_;have q:=HBD.out (by rw[HPE.out];exact HC2.out);exact⟨by rw[q.1 0,q.1 1,q.1 2,q.1 3,q.1 4,q.1 5,q.1 6,q.2,HPE.out],WZ.out⟩
 have d0:(ce != 0)=true:=by simpa using c0
 have HPE:Hid (E=ce):=by show _=_;rw[←HEE.out];unfold pfE;rw[if_pos c0]
 have HC0:Hid _:=c0;clear c0;go_wp2_with (refine(id ?_:wpList Tryz.prog _ _ (⟨none,.store 32 (.tmp 4) (.tmp 16),_,_,_,_⟩::_) _ _);refine wpList_store_row rfl 32 (.tmp 4) (.tmp 16) rfl gR #[.int .i64 0,.int .i64 0,.int .i64 0,.int .i64 0,.int .i64 0,.float .f64 0,.int .i64 0,.int .i64 0] rfl rfl 32 #[.int .i64 0,.int .i64 0,.int .i64 0,.int .i64 0,.int .i64 0,.float .f64 0,.int .i64 0,.int .i64 0] Z1.out (by kernel_rfl) (by kernel_rfl) (by kernel_rfl) ?_;refine Az (fun W=>W.heap[gR]? =some (.cells #[.int .i64 0,.int .i64 0,.int .i64 0,.int .i64 0,.int .i64 0,.float .f64 0,.int .i64 0,.int .i64 0] 32)∧Below w.heap.size w W) ⟨setRow_heap _ _ _ _ _ _ Z1.out,?_⟩ ?_)
 ·exact⟨W1.out.os,W1.out.tape,W1.out.output,by rw[size_setRow];exact W1.out.size,fun k hk=>(setRow_other _ _ _ _ (by have:=HA.out.2.1;omega)).trans (W1.out.block k hk)⟩
 intro wz hR hB;have WZ:Hid _:=hB;obtain⟨u0,u1,u2,u3,u4,u5,u6,u7⟩:=cl8 hR;clear hB hR;go_wp2_with fail
 refine bodyPost_ret (v:=.tuple #[.agg #[.int .i64 0,.int .i64 0,.int .i64 0,.int .i64 0,.int .i64 0,.float .f64 0,.int .i64 0,.int .i64 0],.int .i64 ce]) (by simp[results,Tryz.results6,go_sem,u0,u1,u2,u3,u4,u5,u6,u7]) rfl ?_;have q:=HBD.out (by rw[HPE.out];exact HC0.out);exact⟨by rw[q.1 0,q.1 1,q.1 2,q.1 3,q.1 4,q.1 5,q.1 6,q.2,HPE.out],WZ.out⟩
theorem U2{x:ByteArray}(h:0<x.size):x≠⟨#[]⟩:=fun e=>by rw[e]at h;exact absurd h (by decide)
theorem U3(s:ByteArray)(i:Nat)(hi:i≤s.size): ∀x∈(ws s i).2,x≠⟨#[]⟩:=by
 induction i with
 |zero=>intro x hx;simp[ws]at hx
 |succ i ih=>
  intro x hx;rw[ws]at hx;split at hx
  ·split at hx
   ·rcases List.mem_append.1 hx with q|q
    ·exact ih (by omega) x q
    simp only[List.mem_singleton]at q;refine U2 ?_;rw[q,ByteArray.size_extract];omega
   exact ih (by omega) x hx
  exact ih (by omega) x hx
theorem FP(s:ByteArray)(x:ByteArray)(hx:x∈Ab s):x≠⟨#[]⟩:=by
 unfold Ab at hx;split at hx
 ·rcases List.mem_append.1 hx with q|q
  ·exact U3 s _ (Nat.le_refl _) x q
  simp only[List.mem_singleton]at q;refine U2 ?_;rw[q,ByteArray.size_extract];omega
 exact U3 s _ (Nat.le_refl _) x hx
theorem IP(x:ByteArray)(r:List ByteArray)(b:Bool):nmS (x::r,b)=(r,b||(nvV x).isNone):=by simp[nmS,hdT]
theorem Ns(x:ByteArray)(r:List ByteArray)(b:Bool):nmI (x::r,b)=(nvV x).getD 0:=by simp[nmI,hdT]
theorem Nt(x:ByteArray)(r:List ByteArray)(b:Bool):woS (x::r,b)=(r,b):=by simp[woS]
theorem Aw{p:List ByteArray×Bool}(h:p.2=true):(nmS p).2=true:=by simp[nmS,h]
theorem Lx{p:List ByteArray×Bool}(h:p.2=true):(woS p).2=true:=by simp[woS,h]
theorem Iq(f1 f2 f3 f4 f5:ByteArray)(r:List ByteArray)(b:Bool):nmS (nmS (nmS (nmS (nmS (f1::f2::f3::f4::f5::r,b)))))=(r,b||(nvV f1).isNone||(nvV f2).isNone||(nvV f3).isNone||(nvV f4).isNone||(nvV f5).isNone):=by
 simp only[IP]
theorem Ft(f1 f2 f3 f4 f5 f6 f7 f8:ByteArray)(r:List ByteArray)(b:Bool):nmS (nmS (woS (nmS (nmS (nmS (nmS (nmS (f1::f2::f3::f4::f5::f6::f7::f8::r,b))))))))=(r,b||(nvV f1).isNone||(nvV f2).isNone||(nvV f3).isNone||(nvV f4).isNone||(nvV f5).isNone||(nvV f7).isNone||(nvV f8).isNone):=by
 simp only[IP,Nt]
theorem Bu{T:List ByteArray}{o:ByteArray}(h:(AA o T ⟨#[]⟩ 0).2=1):ig9 T o=nvV (AA o T ⟨#[]⟩ 0).1:=by
 unfold ig9;rw[if_pos h,KT]
theorem BJ(T:List ByteArray)(o:ByteArray): ∀(O:List ByteArray) (acc:List Int),o∈O→ig9 T o=none→Cq T O acc=none
 |x::r,acc,hm,h=>by
  rw[Cq];rcases List.mem_cons.1 hm with e|e
  ·rw[←e,h]
  split
  ·rfl
  exact BJ T o r _ e h
def nO5:List ByteArray:=[⟨#[114,111,111,109]⟩,⟨#[109,111,115,116]⟩,⟨#[99,97,112]⟩,⟨#[102,108,111,119,115]⟩,⟨#[97,103,101]⟩]
def nO8:List ByteArray:=[⟨#[119,101,105,103,104,116]⟩,⟨#[113,117,97,110,116,117,109]⟩,⟨#[99,108,97,115,115]⟩,⟨#[115,112,97,110]⟩,⟨#[98,117,114,115,116]⟩,⟨#[114,97,116,101]⟩,⟨#[112,101,114]⟩,⟨#[110,111,100,101]⟩]
def nO7:List ByteArray:=[⟨#[119,101,105,103,104,116]⟩,⟨#[113,117,97,110,116,117,109]⟩,⟨#[99,108,97,115,115]⟩,⟨#[115,112,97,110]⟩,⟨#[98,117,114,115,116]⟩,⟨#[112,101,114]⟩,⟨#[110,111,100,101]⟩]
theorem It(L:List ByteArray)(hne: ∀x∈L,x≠⟨#[]⟩):
  ((De (L,false)).2=true∧(L.length<12∨L.getD 0 ⟨#[]⟩≠⟨#[107,105,110,100]⟩∨kdV (L.getD 1 ⟨#[]⟩)=0∨Cq ((L.take 12).drop 2) nO5 []=none))∨
  ∃z1 z2 z3 z4 z5,12≤L.length∧L.getD 0 ⟨#[]⟩=⟨#[107,105,110,100]⟩∧kdV (L.getD 1 ⟨#[]⟩)≠0∧Cq ((L.take 12).drop 2) nO5 []=some [z1,z2,z3,z4,z5]∧De (L,false)=(L.drop 12,false)∧Aq (L,false) 0=kdV (L.getD 1 ⟨#[]⟩)∧Aq (L,false) 1=z1∧Aq (L,false) 2=z2∧Aq (L,false) 3=z3∧Aq (L,false) 4=z4∧Aq (L,false) 5=z5:=by
 match L,hne with
 | [],_=>exact .inl ⟨Aw (Aw (Aw (Aw (Aw (FO _ _ _ _))))),.inl (by simp)⟩
 | [a],_=>
  refine .inl ⟨?_,.inl (by simp)⟩;have e:kdS (naS ⟨#[107,105,110,100]⟩ ([a],false))=([],true):=by simp[kdS,naS]
  unfold De;rw[e];exact Aw (Aw (Aw (Aw (Aw (FO _ _ _ _)))))
 |a::k::T,hne=>
  have e:kdS (naS ⟨#[107,105,110,100]⟩ (a::k::T,false))=(T,decide (a≠⟨#[107,105,110,100]⟩)||decide (kdV k=0)):=by simp[kdS,naS,hdT]
  have EA:arS ⟨#[114,111,111,109,32,109,111,115,116,32,99,97,112,32,102,108,111,119,115,32,97,103,101]⟩ (kdS (naS ⟨#[107,105,110,100]⟩ (a::k::T,false)))=arr nO5 5 (List.replicate 5 ⟨#[]⟩) T (decide (a≠⟨#[107,105,110,100]⟩)||decide (kdV k=0)):=by
   rw[e];unfold arS;have e0:Ab ⟨#[114,111,111,109,32,109,111,115,116,32,99,97,112,32,102,108,111,119,115,32,97,103,101]⟩=nO5:=Cp;rw[e0];rfl
  have E:De (a::k::T,false)=nmS (nmS (nmS (nmS (nmS (arr nO5 5 (List.replicate 5 ⟨#[]⟩) T (decide (a≠⟨#[107,105,110,100]⟩)||decide (kdV k=0))))))):=by
   rw[←EA];rfl
  clear e;by_cases ha:a=⟨#[107,105,110,100]⟩
  ·subst ha;by_cases hk:kdV k=0
   ·refine .inl ⟨?_,.inr (.inr (.inl hk))⟩;rw[E,decide_eq_true hk,Bool.or_true];exact Aw (Aw (Aw (Aw (Aw (FO _ _ _ _)))))
   have eb:(decide ((⟨#[107,105,110,100]⟩:ByteArray)≠⟨#[107,105,110,100]⟩)||decide (kdV k=0))=false:=by rw[decide_eq_false hk];simp
   rw[eb]at E EA;clear eb;by_cases hl:T.length<10
   ·refine .inl ⟨?_,.inl (by simp only[List.length_cons];omega)⟩;rw[E];exact Aw (Aw (Aw (Aw (Aw (Jm (by simp[nO5]) 5 _ _ _ (by omega))))))
   obtain⟨q1,q2⟩:=Pk (O:=nO5) (by decide) T (by show 2*5≤_;omega) (fun x hx=>hne x (List.mem_cons_of_mem _ (List.mem_cons_of_mem _ hx))) false;have et:((⟨#[107,105,110,100]⟩::k::T).take 12).drop 2=T.take 10:=rfl;rw[et];by_cases all: ∀o∈nO5,(AA o (T.take 10) ⟨#[]⟩ 0).2=1
   ·have e1:arr nO5 5 (List.replicate 5 ⟨#[]⟩) T false=([(AA ⟨#[114,111,111,109]⟩ (T.take 10) ⟨#[]⟩ 0).1,(AA ⟨#[109,111,115,116]⟩ (T.take 10) ⟨#[]⟩ 0).1,(AA ⟨#[99,97,112]⟩ (T.take 10) ⟨#[]⟩ 0).1,(AA ⟨#[102,108,111,119,115]⟩ (T.take 10) ⟨#[]⟩ 0).1,(AA ⟨#[97,103,101]⟩ (T.take 10) ⟨#[]⟩ 0).1]++T.drop 10,false):=q1 all;have c1:=all ⟨#[114,111,111,109]⟩ (by simp[nO5]);have c2:=all ⟨#[109,111,115,116]⟩ (by simp[nO5]);have c3:=all ⟨#[99,97,112]⟩ (by simp[nO5]);have c4:=all ⟨#[102,108,111,119,115]⟩ (by simp[nO5]);have c5:=all ⟨#[97,103,101]⟩ (by simp[nO5]);clear q1 q2 all;cases y1:nvV (AA ⟨#[114,111,111,109]⟩ (T.take 10) ⟨#[]⟩ 0).1 with
    |none=>
     refine .inl ⟨?_,.inr (.inr (.inr ?_))⟩
     ·rw[E,e1,List.cons_append,List.cons_append,List.cons_append,List.cons_append,List.cons_append,Iq,y1];simp
     exact BJ (T.take 10) ⟨#[114,111,111,109]⟩ _ _ (by simp[nO5]) (by rw[Bu c1,y1])
    |some z1=>
     cases y2:nvV (AA ⟨#[109,111,115,116]⟩ (T.take 10) ⟨#[]⟩ 0).1 with
     |none=>
      refine .inl ⟨?_,.inr (.inr (.inr ?_))⟩
      ·rw[E,e1,List.cons_append,List.cons_append,List.cons_append,List.cons_append,List.cons_append,Iq,y2];simp
      exact BJ (T.take 10) ⟨#[109,111,115,116]⟩ _ _ (by simp[nO5]) (by rw[Bu c2,y2])
     |some z2=>
      cases y3:nvV (AA ⟨#[99,97,112]⟩ (T.take 10) ⟨#[]⟩ 0).1 with
      |none=>
       refine .inl ⟨?_,.inr (.inr (.inr ?_))⟩
       ·rw[E,e1,List.cons_append,List.cons_append,List.cons_append,List.cons_append,List.cons_append,Iq,y3];simp
       exact BJ (T.take 10) ⟨#[99,97,112]⟩ _ _ (by simp[nO5]) (by rw[Bu c3,y3])
      |some z3=>
       cases y4:nvV (AA ⟨#[102,108,111,119,115]⟩ (T.take 10) ⟨#[]⟩ 0).1 with
       |none=>
        refine .inl ⟨?_,.inr (.inr (.inr ?_))⟩
        ·rw[E,e1,List.cons_append,List.cons_append,List.cons_append,List.cons_append,List.cons_append,Iq,y4];simp
        exact BJ (T.take 10) ⟨#[102,108,111,119,115]⟩ _ _ (by simp[nO5]) (by rw[Bu c4,y4])
       |some z4=>
        cases y5:nvV (AA ⟨#[97,103,101]⟩ (T.take 10) ⟨#[]⟩ 0).1 with
        |none=>
         refine .inl ⟨?_,.inr (.inr (.inr ?_))⟩
         ·rw[E,e1,List.cons_append,List.cons_append,List.cons_append,List.cons_append,List.cons_append,Iq,y5];simp
         exact BJ (T.take 10) ⟨#[97,103,101]⟩ _ _ (by simp[nO5]) (by rw[Bu c5,y5])
        |some z5=>
         refine .inr ⟨z1,z2,z3,z4,z5,by simp only[List.length_cons];omega,rfl,hk,?_,?_,rfl,?_⟩
         ·simp only[nO5,Cq,Bu c1,Bu c2,Bu c3,Bu c4,Bu c5,y1,y2,y3,y4,y5];rfl
         ·rw[E,e1,List.cons_append,List.cons_append,List.cons_append,List.cons_append,List.cons_append,Iq,y1,y2,y3,y4,y5];rfl
         have V: ∀q,arS ⟨#[114,111,111,109,32,109,111,115,116,32,99,97,112,32,102,108,111,119,115,32,97,103,101]⟩ (kdS (naS ⟨#[107,105,110,100]⟩ (⟨#[107,105,110,100]⟩::k::T,false)))=q→(Aq (⟨#[107,105,110,100]⟩::k::T,false) 1=nmI q∧Aq (⟨#[107,105,110,100]⟩::k::T,false) 2=nmI (nmS q)∧Aq (⟨#[107,105,110,100]⟩::k::T,false) 3=nmI (nmS (nmS q))∧Aq (⟨#[107,105,110,100]⟩::k::T,false) 4=nmI (nmS (nmS (nmS q)))∧Aq (⟨#[107,105,110,100]⟩::k::T,false) 5=nmI (nmS (nmS (nmS (nmS q))))):=fun q hq=>by subst hq;exact⟨rfl,rfl,rfl,rfl,rfl⟩
         obtain⟨v1,v2,v3,v4,v5⟩:=V _ (EA.trans e1);rw[v1,v2,v3,v4,v5];simp only[List.cons_append,IP,Ns,y1,y2,y3,y4,y5];exact⟨rfl,rfl,rfl,rfl,rfl⟩
   refine .inl ⟨?_,.inr (.inr (.inr ?_))⟩
   ·rw[E];exact Aw (Aw (Aw (Aw (Aw (q2 all)))))
   rw[Classical.not_forall]at all;obtain⟨o,ho⟩:=all;rw[Classical.not_imp]at ho;exact BJ _ o _ _ ho.1 (by unfold ig9;rw[if_neg ho.2])
  refine .inl ⟨?_,.inr (.inl ha)⟩;rw[E,decide_eq_true ha,Bool.true_or];exact Aw (Aw (Aw (Aw (Aw (FO _ _ _ _)))))
theorem Ul(L:List ByteArray)(hne: ∀x∈L,x≠⟨#[]⟩):
  (((flS (L,false)).2=true∨(flS (L,false)).1≠[])∧(L.length≠16∨Cq L nO7 []=none∨(AA ⟨#[114,97,116,101]⟩ L ⟨#[]⟩ 0).2≠1))∨
  ∃z1 z2 z3 z4 z5 z6 z7,L.length=16∧Cq L nO7 []=some [z1,z2,z3,z4,z5,z6,z7]∧(AA ⟨#[114,97,116,101]⟩ L ⟨#[]⟩ 0).2=1∧flS (L,false)=([],false)∧flV (L,false) 0=z1∧flV (L,false) 1=z2∧flV (L,false) 2=z3∧flV (L,false) 3=z4∧flV (L,false) 4=z5∧flV (L,false) 5=z6∧flV (L,false) 6=z7∧flR (L,false)=(AA ⟨#[114,97,116,101]⟩ L ⟨#[]⟩ 0).1:=by
 have EA:arS ⟨#[119,101,105,103,104,116,32,113,117,97,110,116,117,109,32,99,108,97,115,115,32,115,112,97,110,32,98,117,114,115,116,32,114,97,116,101,32,112,101,114,32,110,111,100,101]⟩ (L,false)=arr nO8 8 (List.replicate 8 ⟨#[]⟩) L false:=by
  unfold arS;have e0:Ab ⟨#[119,101,105,103,104,116,32,113,117,97,110,116,117,109,32,99,108,97,115,115,32,115,112,97,110,32,98,117,114,115,116,32,114,97,116,101,32,112,101,114,32,110,111,100,101]⟩=nO8:=Eg;rw[e0];rfl
 have E:flS (L,false)=nmS (nmS (woS (nmS (nmS (nmS (nmS (nmS (arr nO8 8 (List.replicate 8 ⟨#[]⟩) L false)))))))):=by
  rw[←EA];rfl
 by_cases hl:L.length<16
 ·refine .inl ⟨.inl ?_,.inl (by omega)⟩;rw[E];exact Aw (Aw (Lx (Aw (Aw (Aw (Aw (Aw (Jm (by simp[nO8]) 8 _ _ _ (by omega)))))))))
 obtain⟨q1,q2⟩:=Pk (O:=nO8) (by decide) L (by show 2*8≤_;omega) hne false;by_cases h16:L.length=16
 ·have et:L.take (2*nO8.length)=L:=List.take_of_length_le (by show _≤2*8;omega);have ed:L.drop (2*nO8.length)=[]:=List.drop_eq_nil_of_le (by show _≤2*8;omega);rw[et,ed]at q1;rw[et]at q2;by_cases all: ∀o∈nO8,(AA o L ⟨#[]⟩ 0).2=1
  ·have e1:arr nO8 8 (List.replicate 8 ⟨#[]⟩) L false=([(AA ⟨#[119,101,105,103,104,116]⟩ L ⟨#[]⟩ 0).1,(AA ⟨#[113,117,97,110,116,117,109]⟩ L ⟨#[]⟩ 0).1,(AA ⟨#[99,108,97,115,115]⟩ L ⟨#[]⟩ 0).1,(AA ⟨#[115,112,97,110]⟩ L ⟨#[]⟩ 0).1,(AA ⟨#[98,117,114,115,116]⟩ L ⟨#[]⟩ 0).1,(AA ⟨#[114,97,116,101]⟩ L ⟨#[]⟩ 0).1,(AA ⟨#[112,101,114]⟩ L ⟨#[]⟩ 0).1,(AA ⟨#[110,111,100,101]⟩ L ⟨#[]⟩ 0).1]++[],false):=q1 all;have c1:=all ⟨#[119,101,105,103,104,116]⟩ (by simp[nO8]);have c2:=all ⟨#[113,117,97,110,116,117,109]⟩ (by simp[nO8]);have c3:=all ⟨#[99,108,97,115,115]⟩ (by simp[nO8]);have c4:=all ⟨#[115,112,97,110]⟩ (by simp[nO8]);have c5:=all ⟨#[98,117,114,115,116]⟩ (by simp[nO8]);have c6:=all ⟨#[114,97,116,101]⟩ (by simp[nO8]);have c7:=all ⟨#[112,101,114]⟩ (by simp[nO8]);have c8:=all ⟨#[110,111,100,101]⟩ (by simp[nO8]);clear q1 q2 all;cases y1:nvV (AA ⟨#[119,101,105,103,104,116]⟩ L ⟨#[]⟩ 0).1 with
   |none=>
    refine .inl ⟨.inl ?_,.inr (.inl ?_)⟩
    ·rw[E,e1,List.cons_append,List.cons_append,List.cons_append,List.cons_append,List.cons_append,List.cons_append,List.cons_append,List.cons_append,Ft,y1];simp
    exact BJ L ⟨#[119,101,105,103,104,116]⟩ _ _ (by simp[nO7]) (by rw[Bu c1,y1])
   |some z1=>
    cases y2:nvV (AA ⟨#[113,117,97,110,116,117,109]⟩ L ⟨#[]⟩ 0).1 with
    |none=>
     refine .inl ⟨.inl ?_,.inr (.inl ?_)⟩
     ·rw[E,e1,List.cons_append,List.cons_append,List.cons_append,List.cons_append,List.cons_append,List.cons_append,List.cons_append,List.cons_append,Ft,y2];simp
     exact BJ L ⟨#[113,117,97,110,116,117,109]⟩ _ _ (by simp[nO7]) (by rw[Bu c2,y2])
    |some z2=>
     cases y3:nvV (AA ⟨#[99,108,97,115,115]⟩ L ⟨#[]⟩ 0).1 with
     |none=>
      refine .inl ⟨.inl ?_,.inr (.inl ?_)⟩
      ·rw[E,e1,List.cons_append,List.cons_append,List.cons_append,List.cons_append,List.cons_append,List.cons_append,List.cons_append,List.cons_append,Ft,y3];simp
      exact BJ L ⟨#[99,108,97,115,115]⟩ _ _ (by simp[nO7]) (by rw[Bu c3,y3])
     |some z3=>
      cases y4:nvV (AA ⟨#[115,112,97,110]⟩ L ⟨#[]⟩ 0).1 with
      |none=>
       refine .inl ⟨.inl ?_,.inr (.inl ?_)⟩
       ·rw[E,e1,List.cons_append,List.cons_append,List.cons_append,List.cons_append,List.cons_append,List.cons_append,List.cons_append,List.cons_append,Ft,y4];simp
       exact BJ L ⟨#[115,112,97,110]⟩ _ _ (by simp[nO7]) (by rw[Bu c4,y4])
      |some z4=>
       cases y5:nvV (AA ⟨#[98,117,114,115,116]⟩ L ⟨#[]⟩ 0).1 with
       |none=>
        refine .inl ⟨.inl ?_,.inr (.inl ?_)⟩
        ·rw[E,e1,List.cons_append,List.cons_append,List.cons_append,List.cons_append,List.cons_append,List.cons_append,List.cons_append,List.cons_append,Ft,y5];simp
        exact BJ L ⟨#[98,117,114,115,116]⟩ _ _ (by simp[nO7]) (by rw[Bu c5,y5])
       |some z5=>
        cases y6:nvV (AA ⟨#[112,101,114]⟩ L ⟨#[]⟩ 0).1 with
        |none=>
         refine .inl ⟨.inl ?_,.inr (.inl ?_)⟩
         ·rw[E,e1,List.cons_append,List.cons_append,List.cons_append,List.cons_append,List.cons_append,List.cons_append,List.cons_append,List.cons_append,Ft,y6];simp
         exact BJ L ⟨#[112,101,114]⟩ _ _ (by simp[nO7]) (by rw[Bu c7,y6])
        |some z6=>
         cases y7:nvV (AA ⟨#[110,111,100,101]⟩ L ⟨#[]⟩ 0).1 with
         |none=>
          refine .inl ⟨.inl ?_,.inr (.inl ?_)⟩
          ·rw[E,e1,List.cons_append,List.cons_append,List.cons_append,List.cons_append,List.cons_append,List.cons_append,List.cons_append,List.cons_append,Ft,y7];simp
          exact BJ L ⟨#[110,111,100,101]⟩ _ _ (by simp[nO7]) (by rw[Bu c8,y7])
         |some z7=>
          refine .inr ⟨z1,z2,z3,z4,z5,z6,z7,h16,?_,c6,?_,?_⟩
          ·simp only[nO7,Cq,Bu c1,Bu c2,Bu c3,Bu c4,Bu c5,Bu c7,Bu c8,y1,y2,y3,y4,y5,y6,y7];rfl
          ·rw[E,e1,List.cons_append,List.cons_append,List.cons_append,List.cons_append,List.cons_append,List.cons_append,List.cons_append,List.cons_append,Ft,y1,y2,y3,y4,y5,y6,y7];rfl
          have V: ∀q,arS ⟨#[119,101,105,103,104,116,32,113,117,97,110,116,117,109,32,99,108,97,115,115,32,115,112,97,110,32,98,117,114,115,116,32,114,97,116,101,32,112,101,114,32,110,111,100,101]⟩ (L,false)=q→(flV (L,false) 0=nmI q∧flV (L,false) 1=nmI (nmS q)∧flV (L,false) 2=nmI (nmS (nmS q))∧flV (L,false) 3=nmI (nmS (nmS (nmS q)))∧flV (L,false) 4=nmI (nmS (nmS (nmS (nmS q))))∧flV (L,false) 5=nmI (woS (nmS (nmS (nmS (nmS (nmS q))))))∧flV (L,false) 6=nmI (nmS (woS (nmS (nmS (nmS (nmS (nmS q)))))))∧flR (L,false)=hdT (nmS (nmS (nmS (nmS (nmS q))))).1):=fun q hq=>by subst hq;exact⟨rfl,rfl,rfl,rfl,rfl,rfl,rfl,rfl⟩
          obtain⟨v1,v2,v3,v4,v5,v6,v7,v8⟩:=V _ (EA.trans e1);rw[v1,v2,v3,v4,v5,v6,v7,v8];simp only[List.cons_append,IP,Ns,Nt,y1,y2,y3,y4,y5,y6,y7];exact⟨rfl,rfl,rfl,rfl,rfl,rfl,rfl,rfl⟩
  refine .inl ⟨.inl ?_,.inr ?_⟩
  ·rw[E];exact Aw (Aw (Lx (Aw (Aw (Aw (Aw (Aw (q2 all))))))))
  rw[Classical.not_forall]at all;obtain⟨o,ho⟩:=all;rw[Classical.not_imp]at ho;by_cases hr:o=⟨#[114,97,116,101]⟩
  ·subst hr;exact .inr ho.2
  refine .inl (BJ _ o _ _ ?_ (by unfold ig9;rw[if_neg ho.2]));have:=ho.1;simp only[nO8,List.mem_cons,List.not_mem_nil,or_false]at this;simp only[nO7,List.mem_cons,List.not_mem_nil,or_false];rcases this with h|h|h|h|h|h|h|h
  ·exact .inl h
  ·exact .inr (.inl h)
  ·exact .inr (.inr (.inl h))
  ·exact .inr (.inr (.inr (.inl h)))
  ·exact .inr (.inr (.inr (.inr (.inl h))))
  ·exact absurd h hr
  ·exact .inr (.inr (.inr (.inr (.inr (.inl h)))))
  exact .inr (.inr (.inr (.inr (.inr (.inr h)))))
 refine .inl ⟨?_,.inl h16⟩;by_cases all: ∀o∈nO8,(AA o (L.take (2*nO8.length)) ⟨#[]⟩ 0).2=1
 ·have e1:arr nO8 8 (List.replicate 8 ⟨#[]⟩) L false=([(AA ⟨#[119,101,105,103,104,116]⟩ (L.take (2*nO8.length)) ⟨#[]⟩ 0).1,(AA ⟨#[113,117,97,110,116,117,109]⟩ (L.take (2*nO8.length)) ⟨#[]⟩ 0).1,(AA ⟨#[99,108,97,115,115]⟩ (L.take (2*nO8.length)) ⟨#[]⟩ 0).1,(AA ⟨#[115,112,97,110]⟩ (L.take (2*nO8.length)) ⟨#[]⟩ 0).1,(AA ⟨#[98,117,114,115,116]⟩ (L.take (2*nO8.length)) ⟨#[]⟩ 0).1,(AA ⟨#[114,97,116,101]⟩ (L.take (2*nO8.length)) ⟨#[]⟩ 0).1,(AA ⟨#[112,101,114]⟩ (L.take (2*nO8.length)) ⟨#[]⟩ 0).1,(AA ⟨#[110,111,100,101]⟩ (L.take (2*nO8.length)) ⟨#[]⟩ 0).1]++L.drop (2*nO8.length),false):=q1 all;refine .inr fun h0=> ?_;rw[E,e1,List.cons_append,List.cons_append,List.cons_append,List.cons_append,List.cons_append,List.cons_append,List.cons_append,List.cons_append,Ft]at h0;have:=congrArg List.length (show L.drop (2*nO8.length)=[] from h0);rw[List.length_drop]at this;have h8:2*nO8.length=16:=rfl;rw[h8]at this;simp only[List.length_nil]at this;omega
 refine .inl ?_;rw[E];exact Aw (Aw (Lx (Aw (Aw (Aw (Aw (Aw (q2 all))))))))
end Go.Proofs.YtbikpmmpgbggaaaGreatDoor
