/- Contracts of the program's functions, part 10: own work, joined in build order. -/
import Derived.Test.YtcbjkgphpnihiaaGreatDoorJ9
import Derived.Deep.LoopGhost
namespace Go.Proofs.YtcbjkgphpnihiaaGreatDoor
open Go.RowKit
set_option maxRecDepth 100000
set_option linter.unusedVariables false
set_option maxHeartbeats 16000000
theorem JW{F G:Nat→Nat}{mx i:Nat}(hi:i<mx)(hF:Dg F mx)(he: ∀j,i+1≤j→F j=G j)(h:F i<G i):U F mx<U G mx:=by
 obtain⟨t,rfl⟩: ∃t,mx=i+1+t:=⟨mx- (i+1),by omega⟩;rw[BF,BF G,Bm (F:=fun j=>F (i+1+j)) (G:=fun j=>G (i+1+j)) fun j hj=>he _ (by omega),Ay,Ay];have h1:=Cc (hF.mono (show i≤i+1+t by omega));have h2:(F i+1)*B i≤G i*B i:=Nat.mul_le_mul_right _ h;rw[Nat.add_mul]at h2;omega
theorem Fm(v u:Value)(x y:Nat)(w:World)(h:Ak w v x)(k:Ak w u y)(hx:AE x)(hy:AE y):
  Calls Tryz.prog 68 #[v,u] w fun e w'=>e=.returned (.int .i64 (Az x y))∧Below w.heap.size w w':=by
 obtain⟨ax,n,cap,rfl⟩:=h.isAgg;obtain⟨ay,m,cap',rfl⟩:=k.isAgg;obtain⟨F,hs,hd,h1,hv⟩:=h.open;obtain⟨G,ks,kd,k1,kv⟩:=k.open;have hn:n≤4294967296:=Bu (hv.symm▸hx) h1;have hm:m≤4294967296:=Bu (kv.symm▸hy) k1;obtain⟨mx,hmx⟩:=nme (max n m:Nat);have hm1:n≤mx:=by omega
 have hm2:m≤mx:=by omega
 have hm3:mx≤4294967296:=by omega
 have e1:(if n<m then(m:Int) else(n:Int))=(mx:Int):=by split<;>omega
 clear hmx;have HH:Hid (Sl w ax n cap F∧Dg F n∧U (Ao F n 0) mx=x∧Sl w ay m cap' G∧Dg G m∧U (Ao G m 0) mx=y):=⟨hs,hd,(Eb hm1).trans hv,ks,kd,(Eb hm2).trans kv⟩;clear hs hd h1 hv ks kd k1 kv h k hx hy;go_enter Tryz.func68,Tryz.ntmps68
 go_wp2_with fail
 obtain⟨w0,hw0⟩:=nme ((w.alloc (.cells #[.slice ax n cap] 32)).alloc (.cells #[.slice ay m cap'] 32));have c1:w0.cell? ⟨w.heap.size,0,none⟩=some (.slice ax n cap):=by rw[hw0];simp[go_sem]
 have c2:w0.cell? ⟨w.heap.size+1,0,none⟩=some (.slice ay m cap'):=by rw[hw0];simp[go_sem]
 have HB:Hid (Below w.heap.size w w0):=by rw[hw0];exact Ap _ _ _
 rw[←hw0];clear hw0;go_loop [5] (fun t=> ∃i:Nat,i≤mx∧t=.int .i64 ((i:Int)-1)∧Hid (∀j,i≤j→Ao F n 0 j=Ao G m 0 j)) (fun t=>(intOf t+1).toNat)
 case atStart=>exact⟨mx,Nat.le_refl _,rfl,fun j hj=>by rw[A6 (by omega),A6 (by omega)]⟩
 case round=>
  obtain⟨i,hi,rfl,hE⟩:=hrel;by_cases h0:0<i
  ·obtain⟨k,rfl⟩: ∃k,i=k+1:=⟨i-1,by omega⟩;have hidx:((k+1:Nat):Int)-1=(k:Int):=by omega
   have dF:Hid (Dg (Ao F n 0) mx):=fun j _=>CH HH.out.2.1 j;have dG:Hid (Dg (Ao G m 0) mx):=fun j _=>CH HH.out.2.2.2.2.1 j;obtain⟨f,ef⟩:=nme (Ao F n 0 k);obtain⟨g,eg⟩:=nme (Ao G m 0 k);have EF:Hid (f=Ao F n 0 k∧g=Ao G m 0 k):=⟨ef,eg⟩;have DF:=Cl _ _ _ F k _ (HH.out.1.mono HB.out) (by omega);have DG:=Cl _ _ _ G k _ (HH.out.2.2.2.1.mono HB.out) (by omega);rw[←ef]at DF;rw[←eg]at DG;have D2:Hid _:=And.intro DF DG;clear ef eg DF DG;rw[hidx];go_wp2_with fail
   refine D2.out.1.mono ?_;rintro e w2 ⟨rfl,rfl⟩;go_wp2_with fail
   refine D2.out.2.mono ?_;rintro e w2 ⟨rfl,rfl⟩;rcases Nat.lt_trichotomy f g with hh|hh|hh
   ·have t1:decide (f<g)=true:=decide_eq_true hh;have EX:Hid (x<y):=by
     show x<y;rw[←HH.out.2.2.1,←HH.out.2.2.2.2.2];exact JW (by omega) dF.out hE.out (EF.out.1▸EF.out.2▸hh)
    go_wp2_with fail
    go_ret
    exact⟨by rw[Eh EX.out];rfl,HB.out⟩
   ·have t1:decide (f<g)=false:=decide_eq_false (by omega);have t2:decide (g<f)=false:=decide_eq_false (by omega);have EQ:Hid (f=g):=hh;clear hh;go_wp2_with fail
    go_round
    case rel=>
     refine⟨k,by omega,by go_num,fun j hj=> ?_⟩;by_cases e:j=k
     ·subst e;rw[←EF.out.1,←EF.out.2,EQ.out]
     exact hE.out j (by omega)
    case measure=>simp[intOf]
   have t1:decide (f<g)=false:=decide_eq_false (by omega);have t2:decide (g<f)=true:=decide_eq_true hh;have EX:Hid (y<x):=by
    show y<x;rw[←HH.out.2.2.1,←HH.out.2.2.2.2.2];exact JW (by omega) dG.out (fun j hj=>(hE.out j hj).symm) (EF.out.1▸EF.out.2▸hh)
   go_wp2_with fail
   go_ret
   exact⟨by rw[ER EX.out];rfl,HB.out⟩
  obtain rfl:i=0:=by omega
  have EX:Hid (x=y):=by
   show x=y;rw[←HH.out.2.2.1,←HH.out.2.2.2.2.2];exact Bm fun j _=>hE.out j (Nat.zero_le _)
  go_wp2_with fail
  go_ret
  exact⟨by rw[EX.out,F3];rfl,HB.out⟩
def bd(D:Nat→Nat):Nat→Value:=fun j=>.int .u8 ((D j:Nat):Int)
def OM(v:Value):Nat:=match v with
 | .slice _ k _=>k
 |_=>0
theorem OY{w:World}{base n:Nat}{v:Value}{D:Nat→Nat}(h:OR w 5 base v n (bd D))(hn:n≠0): ∃g c,v=.slice (some ⟨g,0,none⟩) n c∧(convert 39 9 (.slice (some ⟨g,0,none⟩) n c)).run Tryz.prog w=.ok (.string (Nb D n)) w:=by
 rcases h with⟨_,e⟩| ⟨g,cap,f,rfl,_,hc,_,hr,hf⟩
 ·exact absurd e hn
 refine⟨g,cap,rfl,?_⟩;refine run_convert_bytes_arg (P:=Tryz.prog) w 39 5 (by kernel_rfl) (by kernel_rfl) g 0 n cap _ (by simp) (fun i hi=> ?_) 9 (by kernel_rfl);rw[Nat.zero_add,hr.cell (show i<cap by omega),hf i hi];simp[List.getD,hi,bd]
theorem OR.at{w:World}{e:TypeId}{base n:Nat}{v:Value}{G:Nat→Value}(h:OR w e base v n G)(hn:n≠0): ∃g c,v=.slice (some ⟨g,0,none⟩) n c∧ ∀i,i<n→w.cell? ⟨g,i,none⟩=some (G i):=by
 rcases h with⟨_,e⟩| ⟨g,cap,f,rfl,_,hc,_,hr,hf⟩
 ·exact absurd e hn
 exact⟨g,cap,rfl,fun i hi=>by rw[hr.cell (show i<cap by omega),hf i hi]⟩
structure Aw (x:Nat):Prop where
 lt:x<B 1000000
theorem Aw.fits{x:Nat}(h:Aw x):AE x:=Fj h.lt (by omega)
theorem Aw.len{F:Nat→Nat}{n:Nat}(h:Aw (U F n))(h1:0<n→F (n-1)≠0):n≤1000000:=Eu h.lt h1
theorem ON{y k s nv:Nat}{Y F:Nat→Nat}(dF:Dg F (k+1))(hF0:F k≠0)(hy:U F (k+1)=y)(hs:s=32*(k+1)-bitLen y)(dY:Dg Y nv)(h1:0<nv→Y (nv-1)≠0)(hv:U Y nv=y*2^s):
  s<32∧nv=k+1∧2147483648≤Y k∧bitLen y≤32*(k+1):=by
 have hb:=Gy dF hF0;rw[hy]at hb;have hy0:y≠0:=fun e=>by
  have h3:=Ml F (k+1) (by omega);rw[hy,e,Nat.add_sub_cancel]at h3;have h4:1*1≤F k*B k:=Nat.mul_le_mul (by omega) (Fi k);omega
 obtain⟨p1,p2⟩:=bitLen_spec y;have p3:=p2 hy0;have hbk:0<bitLen (F k):=by
  rcases Nat.eq_zero_or_pos (bitLen (F k))with e|e
  ·have:=(bitLen_spec (F k)).1;rw[e,Nat.pow_zero]at this;omega
  exact e
 have hbl:bitLen (F k)≤32:=by
  rcases Nat.lt_or_ge 32 (bitLen (F k))with e|e
  ·have h5:=(bitLen_spec (F k)).2 hF0;have h6:2^32≤2^(bitLen (F k)-1):=Nat.pow_le_pow_right (by decide) (by omega);have h7:=dF k (by omega);omega
  exact e
 have q1:y*2^s<B (k+1):=by
  rw[Ez];have:=Nat.mul_lt_mul_of_pos_right p1 (Nat.two_pow_pos s);rw[←Nat.pow_add,show bitLen y+s=32*(k+1) by omega]at this;exact this
 have q2:2147483648*B k≤y*2^s:=by
  have:=Nat.mul_le_mul_right (2^s) p3;rw[←Nat.pow_add,show bitLen y-1+s=32*k+31 by omega,Nat.pow_add,←Ez,Nat.mul_comm]at this;exact this
 have n1:nv≤k+1:=Eu (by rw[hv];exact q1) h1;have n2:k<nv:=by
  rcases Nat.lt_or_ge k nv with e|e
  ·exact e
  have h5:=Cc dY;have h6:=Cz e;have h7:1*B k≤2147483648*B k:=Nat.mul_le_mul_right _ (by omega);omega
 obtain rfl:nv=k+1:=by omega
 refine⟨by omega,rfl,?_,by omega⟩;rcases Nat.lt_or_ge (Y k) 2147483648 with e|e
 ·exfalso;rw[Ay]at hv;have h5:=Cc (dY.mono (Nat.le_succ k));have h6:(Y k+1)*B k≤2147483648*B k:=Nat.mul_le_mul_right _ e;rw[Nat.add_mul]at h6;omega
 exact e
def RQR(w:World)(q r:Nat)(e:Ending)(w':World):Prop:= ∃v u,e=.returned (.tuple #[v,u])∧Ak w' v q∧Ak w' u r∧Below w.heap.size w w'
theorem Lt(a:Option Addr)(n c:Nat)(w:World):(Instr.field 32 (.agg #[.slice a n c]) 0).run Tryz.prog w=.ok (.slice a n c) w:=by kernel_rfl
structure DS (w wr:World) (ax:Option Addr) (lx cap:Nat) (ay:Option Addr) (n cap':Nat):Prop where
 cx:wr.cell? ⟨w.heap.size,0,none⟩=some (.slice ax lx cap)
 cy:wr.cell? ⟨w.heap.size+1,0,none⟩=some (.slice ay n cap')
 c3:wr.cell? ⟨w.heap.size+1+1,0,none⟩=some (.slice none 0 0)
 c4:wr.cell? ⟨w.heap.size+1+1+1,0,none⟩=some (.slice none 0 0)
 f3:wr.frozen? ⟨w.heap.size+1+1,0,none⟩=false
 f4:wr.frozen? ⟨w.heap.size+1+1+1,0,none⟩=false
 bel:Below w.heap.size w wr
theorem DS.go{w wr w':World}{ax:Option Addr}{lx cap:Nat}{ay:Option Addr}{n cap':Nat}(h:DS w wr ax lx cap ay n cap')(hb:Below wr.heap.size wr w'):DS w w' ax lx cap ay n cap':=
 ⟨cell_later hb h.cx,cell_later hb h.cy,cell_later hb h.c3,cell_later hb h.c4,(hb.frozen (World.block_lt_of_cell? _ _ h.c3)).trans h.f3,(hb.frozen (World.block_lt_of_cell? _ _ h.c4)).trans h.f4,Ae h.bel hb⟩
theorem DS.lt{w wr:World}{ax:Option Addr}{lx cap:Nat}{ay:Option Addr}{n cap':Nat}(h:DS w wr ax lx cap ay n cap'):w.heap.size+4≤wr.heap.size:=by
 have:w.heap.size+1+1+1<wr.heap.size:=World.block_lt_of_cell? _ _ h.c4;omega
theorem DS.grown{w wr w':World}{ax:Option Addr}{lx cap:Nat}{ay:Option Addr}{n cap':Nat}{row:Option Nat}(h:DS w wr ax lx cap ay n cap')(hg:wr.grownBy w' row)(hr: ∀g,row=some g→w.heap.size+4≤g):DS w w' ax lx cap ay n cap':=by
 have ne: ∀i,i<w.heap.size+4→some i≠row:=fun i hi e=>by
  have:=hr i e.symm;omega
 exact⟨hg.cell h.cx (ne _ (by show w.heap.size<_;omega)),hg.cell h.cy (ne _ (by show w.heap.size+1<_;omega)),hg.cell h.c3 (ne _ (by show w.heap.size+1+1<_;omega)),hg.cell h.c4 (ne _ (by show w.heap.size+1+1+1<_;omega)),(World.frozen?_of_block (hg.block _ (World.block_lt_of_cell? _ _ h.c3) (ne _ (by show w.heap.size+1+1<_;omega)))).trans h.f3,(World.frozen?_of_block (hg.block _ (World.block_lt_of_cell? _ _ h.c4) (ne _ (by show w.heap.size+1+1+1<_;omega)))).trans h.f4,h.bel.grown hg h.bel.size (fun g e=>by have:=hr g e;omega)⟩
theorem DS.put2{w w3:World}{ax:Option Addr}{lx cap:Nat}{ay:Option Addr}{n cap':Nat}(h:DS w w3 ax lx cap ay n cap'){a1 a2:Option Addr}{n1 c1 n2 c2 q r:Nat}(h1:Ak w3 (.agg #[.slice a1 n1 c1]) q)(h2:Ak w3 (.agg #[.slice a2 n2 c2]) r):
  Ak ((w3.setCell ⟨w.heap.size+1+1,0,none⟩ (.slice a1 n1 c1)).setCell ⟨w.heap.size+1+1+1,0,none⟩ (.slice a2 n2 c2)) (.agg #[.slice a1 n1 c1]) q∧Ak ((w3.setCell ⟨w.heap.size+1+1,0,none⟩ (.slice a1 n1 c1)).setCell ⟨w.heap.size+1+1+1,0,none⟩ (.slice a2 n2 c2)) (.agg #[.slice a2 n2 c2]) r∧Below w.heap.size w ((w3.setCell ⟨w.heap.size+1+1,0,none⟩ (.slice a1 n1 c1)).setCell ⟨w.heap.size+1+1+1,0,none⟩ (.slice a2 n2 c2)):=by
 have n3:=Af h.c3;have k4:(w3.setCell ⟨w.heap.size+1+1,0,none⟩ (.slice a1 n1 c1)).cell? ⟨w.heap.size+1+1+1,0,none⟩=some (.slice none 0 0):=(World.cell?_setCell_far _ _ _ _ (by show w.heap.size+1+1≠w.heap.size+1+1+1;omega)).trans h.c4;have n4:=Af k4;exact⟨(h1.setCell n3 _).setCell n4 _,(h2.setCell n3 _).setCell n4 _,(h.bel.setCell (by show _≤_+1+1;omega) _).setCell (by show _≤_+1+1+1;omega) _⟩
theorem GE(w:World)(ax:Option Addr)(lx cap:Nat)(ay:Option Addr)(n cap':Nat)(t:TypeId):DS w ((((w.alloc (.cells #[.slice ax lx cap] t)).alloc (.cells #[.slice ay n cap'] t)).alloc (.cells #[.slice none 0 0] t)).alloc (.cells #[.slice none 0 0] t)) ax lx cap ay n cap':=
 ⟨by simp[go_sem],by simp[go_sem],by simp[go_sem],by simp[go_sem],by simp[go_sem],by simp[go_sem],Ad (Ad (Ad (Ad (Ag w))))⟩
structure DI (w wr:World) (C:Option Addr×Nat×Nat×Option Addr×Nat) (k g c t gq M b3 o3 cap3:Nat) (Y:Nat→Nat) (X jj:Nat) (F Q:Nat→Nat):Prop where
 u:AX wr g c t F
 q:AX wr gq M M Q
 dv:RvD X (U Y (k+2)) t (k+2) jj F Q
 v:Sl wr (some ⟨b3,o3,none⟩) (k+2) cap3 Y
 ds:DS w wr C.1 C.2.1 C.2.2.1 C.2.2.2.1 (k+2) C.2.2.2.2
 dY:Dg Y (k+2)
 top:2147483648≤Y (k+1)
 ht:t=M+(k+2)
 n1:g≠gq
 n2:b3≠g
 n3:b3≠gq
 n4:w.heap.size+4≤g
 n5:w.heap.size+4≤gq
theorem DI.sep{w wr:World}{C:Option Addr×Nat×Nat×Option Addr×Nat}{k g c t gq M b3 o3 cap3:Nat}{Y:Nat→Nat}{X jj:Nat}{F Q:Nat→Nat}(h:DI w wr C k g c t gq M b3 o3 cap3 Y X jj F Q): ∀b' o',some (⟨b3,o3,none⟩:Addr)=some ⟨b',o',none⟩→b'≠g:=fun b' o' e=>by cases e;exact h.n2
structure DL (w w8:World) (C:Option Addr×Nat×Nat×Option Addr×Nat) (k g c t gq M b3 o3 cap3:Nat) (Y:Nat→Nat) (X j:Nat) (F Q:Nat→Nat) (G bo:Nat) (H:Nat→Nat):Prop where
 di: ∃wr,DI w wr C k g c t gq M b3 o3 cap3 Y X (j+1) F Q
 u:AX w8 g c t H
 q:AX w8 gq M M Q
 v:Sl w8 (some ⟨b3,o3,none⟩) (k+2) cap3 Y
 ds:DS w w8 C.1 C.2.1 C.2.2.1 C.2.2.2.1 (k+2) C.2.2.2.2
 near:My (U (fro F j) (k+3)/U Y (k+2)) G
 ls: ∃cc,Ls F Y t (k+2) j G (k+3) cc bo H
 hj:j+k+2<t
theorem DI.less{w wr w8:World}{C:Option Addr×Nat×Nat×Option Addr×Nat}{k g c t gq M b3 o3 cap3:Nat}{Y:Nat→Nat}{X j:Nat}{F Q H:Nat→Nat}{G bo cc nd:Nat}(h:DI w wr C k g c t gq M b3 o3 cap3 Y X (j+1) F Q)(hj:j+k+2<t)(hG:My (U (fro F j) (k+3)/U Y (k+2)) G)(hH:AX w8 g c t H)(hL:Ls F Y t (k+2) j G (k+2+1) cc bo H)(hg:(wr.drewN nd).grownBy w8 (some g)):
  DL w w8 C k g c t gq M b3 o3 cap3 Y X j F Q G bo H:=
 ⟨⟨wr,h⟩,hH,(h.q.drewN nd).apart hg (Ne.symm h.n1),(h.v.mono (AH (Ag wr) nd)).apart hg h.sep,(h.ds.go (AH (Ag wr) nd)).grown hg (fun g' e=>by cases e;exact h.n4),hG,⟨cc,hL⟩,hj⟩
theorem DL.nums{w w8:World}{C:Option Addr×Nat×Nat×Option Addr×Nat}{k g c t gq M b3 o3 cap3:Nat}{Y:Nat→Nat}{X j:Nat}{F Q H:Nat→Nat}{G bo:Nat}(h:DL w w8 C k g c t gq M b3 o3 cap3 Y X j F Q G bo H):
  U (fro H j) (k+3)+U Y (k+2)*G=U (fro F j) (k+3)+bo*B (k+3)∧U (fro H j) (k+3)<B (k+3)∧U (fro F j) (k+3)<U Y (k+2)*B (k+3)∧U Y (k+2)<B (k+2)∧U Y (k+2)≤B (k+3)∧0<U Y (k+2)∧bo≤1:=by
 obtain⟨wr,hI⟩:=h.di;obtain⟨cc,hL⟩:=h.ls;have hj:=h.hj;have h1:=hI.dv.small (show j<t by omega);have h2:U Y (k+2)<B (k+2):=Cc hI.dY;refine⟨hL.done,Cc fun i hi=>hL.dg _ (by omega),Nat.lt_of_lt_of_le h1 (Nat.mul_le_mul_left _ (by rw[←Fh];exact Cz (by omega))),h2,Nat.le_trans (Nat.le_of_lt h2) (Cz (by omega)),Nat.lt_of_le_of_lt (Nat.zero_le _) hI.dv.lt,hL.lb⟩
theorem DI.put{w w9 wr:World}{C:Option Addr×Nat×Nat×Option Addr×Nat}{k g c t gq M b3 o3 cap3:Nat}{Y:Nat→Nat}{X jj j d:Nat}{Q F0 Q0 H:Nat→Nat}(h:DI w wr C k g c t gq M b3 o3 cap3 Y X jj F0 Q0)(h1:AX w9 g c t H)(h2:AX w9 gq M M Q)(h3:Sl w9 (some ⟨b3,o3,none⟩) (k+2) cap3 Y)(h4:DS w w9 C.1 C.2.1 C.2.2.1 C.2.2.2.1 (k+2) C.2.2.2.2)(hd:d<18446744073709551616)(hdv:RvD X (U Y (k+2)) t (k+2) j H (put Q j d)):
  DI w (w9.setCell ⟨gq,j,none⟩ (.int .u64 (d:Int))) C k g c t gq M b3 o3 cap3 Y X j H (put Q j d):=by
 have hg:w9.grownBy (w9.setCell ⟨gq,j,none⟩ (.int .u64 (d:Int))) (some gq):=AK w9 (World.grownBy.refl w9 _) j _;exact⟨h1.apart hg h.n1,h2.set j hd,hdv,h3.apart hg (fun b' o' e=>by cases e;exact h.n3),h4.grown hg (fun g' e=>by cases e;exact h.n5),h.dY,h.top,h.ht,h.n1,h.n2,h.n3,h.n4,h.n5⟩
theorem DL.keep{w w8:World}{C:Option Addr×Nat×Nat×Option Addr×Nat}{k g c t gq M b3 o3 cap3:Nat}{Y:Nat→Nat}{X j:Nat}{F Q H:Nat→Nat}{G bo:Nat}(h:DL w w8 C k g c t gq M b3 o3 cap3 Y X j F Q G bo H)(hb:bo=0):
  DI w (w8.setCell ⟨gq,j,none⟩ (.int .u64 (G:Int))) C k g c t gq M b3 o3 cap3 Y X j H (put Q j G):=by
 obtain⟨n1,n2,n3,n4,n5,n6,n7⟩:=h.nums;obtain⟨wr,hI⟩:=h.di;obtain⟨cc,hL⟩:=h.ls;have hj:=h.hj;have n0:U (fro H j) (k+3)+U Y (k+2)*G=U (fro F j) (k+3):=by
  rw[hb]at n1;omega
 obtain⟨q1,q2⟩:=Mw n0 n2 n5 n6 h.near.ge;have hl:=h.near.lt;clear n1;exact hI.put h.u h.q h.v h.ds (Nat.lt_trans hl (by decide)) (hI.dv.step (show j+(k+2)<t by omega) q1 q2 n4 (fun t' ht'=>hL.out t' ht') hL.dg h.near.lt)
theorem DL.pos{w w8:World}{C:Option Addr×Nat×Nat×Option Addr×Nat}{k g c t gq M b3 o3 cap3:Nat}{Y:Nat→Nat}{X j:Nat}{F Q H:Nat→Nat}{G:Nat}(h:DL w w8 C k g c t gq M b3 o3 cap3 Y X j F Q G 1 H):0<G:=by
 obtain⟨n1,n2,n3,n4,n5,n6,n7⟩:=h.nums;rcases Nat.eq_zero_or_pos G with e|e
 ·exfalso;rw[e,Nat.mul_zero]at n1;omega
 exact e
theorem DL.back{w w8 w9:World}{C:Option Addr×Nat×Nat×Option Addr×Nat}{k g c t gq M b3 o3 cap3:Nat}{Y:Nat→Nat}{X j:Nat}{F Q H H2:Nat→Nat}{G d c2:Nat}(h:DL w w8 C k g c t gq M b3 o3 cap3 Y X j F Q G 1 H)(hd:G=d+1)(hH2:AX w9 g c t H2)(hB:Bk H Y t (k+2) j (k+2+1) c2 H2)(hg:w8.grownBy w9 (some g)):
  DI w (w9.setCell ⟨gq,j,none⟩ (.int .u64 (d:Int))) C k g c t gq M b3 o3 cap3 Y X j H2 (put Q j d)∧AX w9 gq M M Q:=by
 obtain⟨n1,n2,n3,n4,n5,n6,n7⟩:=h.nums;obtain⟨wr,hI⟩:=h.di;obtain⟨cc,hL⟩:=h.ls;have hj:=h.hj;have hl:=h.near.lt;have hH2l:U (fro H2 j) (k+3)<B (k+3):=Cc fun i hi=>hB.dg _ (by omega);obtain⟨q1,q2,q3⟩:=Nv (p:=B (k+3)) (by rw[Nat.one_mul]at n1;exact n1) n2 hH2l n5 n6 h.near.le hB.done hB.lc n3;have hq9:=h.q.apart hg (Ne.symm hI.n1);refine⟨hI.put hH2 hq9 (h.v.apart hg hI.sep) (h.ds.grown hg (fun g' e=>by cases e;exact hI.n4)) (by omega) (hI.dv.step (show j+(k+2)<t by omega) (by rw[←q2,hd];rfl) q3 n4 (fun t' ht'=>by rw[hB.out t' ht',hL.out t' ht']) hB.dg (by omega)),hq9⟩
theorem DI.fin{w wr:World}{C:Option Addr×Nat×Nat×Option Addr×Nat}{k g c t gq M b3 o3 cap3:Nat}{Y:Nat→Nat}{x y s:Nat}{F Q:Nat→Nat}(h:DI w wr C k g c t gq M b3 o3 cap3 Y (x*2^s) 0 F Q)(hY:U Y (k+2)=y*2^s)(hk:k≤1000000):U Q M=x/y∧U F t/2^s=x%y∧AE (U F t)∧Dg Q M∧Dg F t:=by
 have ht:=h.ht;have hM:t- (k+2)=M:=by omega
 obtain⟨z1,z2⟩:=h.dv.done (by omega);have dQ:=h.dv.dQ;have hl:=h.dv.lt;rw[hM]at z1 dQ;have hb:U Y (k+2)<B (k+2):=Cc h.dY;obtain⟨y1,y2⟩:=Mx x y s;refine⟨by rw[z1,hY,y1],by rw[z2,hY,y2],Fj (n:=k+2) (by rw[z2];exact Nat.lt_trans (Nat.mod_lt _ (by omega)) hb) (by omega),dQ,h.dv.dF⟩
theorem Lu(v u:Value)(x y:Nat)(w:World)(h:Ak w v x)(k:Ak w u y)(hx:AE x)(hy:AE y)(hlt:x<y):
  Calls Tryz.prog 72 #[v,u] w (RQR w 0 x):=by
 obtain⟨ax,n,cap,rfl⟩:=h.isAgg;obtain⟨ay,m,cap',rfl⟩:=k.isAgg;have HH:Hid (Ak w (.agg #[.slice ax n cap]) x∧Ak w (.agg #[.slice ay m cap']) y∧AE x∧AE y):=⟨h,k,hx,hy⟩;have D0:Hid _:=GE w ax n cap ay m cap' 32;clear h k hx hy;go_enter Tryz.func72,Tryz.ntmps72
 go_wp2_with fail
 refine(Fm _ _ x y _ (HH.out.1.mono D0.out.bel) (HH.out.2.1.mono D0.out.bel) HH.out.2.2.1 HH.out.2.2.2).mono ?_;rintro e w1 ⟨rfl,hb1⟩;rw[Eh hlt];have D1:Hid (DS w w1 ax n cap ay m cap'):=D0.out.go hb1;have d1:=D1.out.cx;have d3:=D1.out.c3;have d4:=D1.out.c4;have e3:=D1.out.f3;have e4:=D1.out.f4;clear hb1 D0;go_wp2_with fail
 go_region
 go_wp2_with fail
 have n3:=Af d3;have n4: ∀k q,(w1.setCell ⟨w.heap.size+1+1,0,none⟩ (.slice none 0 0)).cell? ⟨w.heap.size+1+1+1,0,none⟩≠some (.int k q):=by
  rw[World.cell?_setCell_far _ _ _ _ (by show w.heap.size+1+1≠w.heap.size+1+1+1;omega),d4];intro k q e;cases e
 refine bodyPost_ret (v:=.tuple #[.agg #[.slice none 0 0],.agg #[.slice ax n cap]]) (by simp[results,Tryz.results72,go_sem,d3,d4]) rfl ⟨_,_,rfl,Hr _,?_,?_⟩
 ·exact(((HH.out.1.mono D1.out.bel).setCell n3 _).setCell n4 _).mono (Au (Ag _))
 exact Au ((D1.out.bel.setCell (by show _≤_+1+1;omega) _).setCell (by show _≤_+1+1+1;omega) _)
theorem Lv(ax:Option Addr)(lx cap:Nat)(ay:Option Addr)(k cap':Nat)(x y:Nat)(w:World)(h:Ak w (.agg #[.slice ax lx cap]) x)(kk:Ak w (.agg #[.slice ay (k+2) cap']) y)(hx:Aw x)(hy:Aw y)(hle:y≤x):
  Calls Tryz.prog 72 #[.agg #[.slice ax lx cap],.agg #[.slice ay (k+2) cap']] w (RQR w (x/y) (x%y)):=by
 obtain⟨Fy,hys,dy,hy1,hyv⟩:=kk.open;obtain⟨Fx,hxs,dx,hx1,hxv⟩:=h.open;have hlx:lx≤1000000:=Aw.len (hxv.symm▸hx) hx1;have hyB:B (k+1)≤y:=by rw[←hyv];exact Lg (by omega) (hy1 (by omega))
 have hkl:k+2≤lx:=by
  rcases Nat.lt_or_ge (k+1) lx with e|e
  ·exact e
  have h1:=Cc dx;have h2:=Cz e;omega
 have hx0:x≠0:=by have:=Fi (k+1);omega
 have hxB:x<B lx:=by rw[←hxv];exact Cc dx
 obtain⟨s,hs⟩: ∃s,s=32*(k+2)-bitLen y:=⟨_,rfl⟩;have HH:Hid (Ak w (.agg #[.slice ax lx cap]) x∧Ak w (.agg #[.slice ay (k+2) cap']) y∧Aw x∧Aw y∧B (k+1)≤y∧x<B lx∧s=32*(k+2)-bitLen y∧y≤x∧x≠0):=⟨h,kk,hx,hy,hyB,hxB,hs,hle,hx0⟩;have HF:Hid (Dg Fy (k+2)∧Fy (k+1)≠0∧U Fy (k+2)=y):=⟨dy,hy1 (by omega),hyv⟩;have D0:Hid _:=GE w ax lx cap ay (k+2) cap' 32;have hL:bitLen y≤32*(k+2):=by
  refine FG ?_;rw[←Ez,←hyv];exact Cc dy
 obtain⟨L,eL⟩:=nme (bitLen y);have EL:Hid (L=bitLen y):=eL;rw[←eL]at hs hL;clear eL h kk hx hy hys dy hy1 hyv hxs dx hx1 hxv hyB hle hx0 hxB;go_enter Tryz.func72,Tryz.ntmps72
 go_wp2_with fail
 refine(Fm _ _ x y _ (HH.out.1.mono D0.out.bel) (HH.out.2.1.mono D0.out.bel) HH.out.2.2.1.fits HH.out.2.2.2.1.fits).mono ?_;rintro e w1 ⟨rfl,hb1⟩;obtain⟨z,ez⟩:=nme (Az x y);have hz:decide (z<0)=false:=by
  refine decide_eq_false ?_;rw[ez];rcases Nat.lt_or_ge y x with e|e
  ·rw[ER e];omega
  rw[Nat.le_antisymm e HH.out.2.2.2.2.2.2.2.1,F3];omega
 rw[←ez];have D1:Hid (DS w w1 ax lx cap ay (k+2) cap'):=D0.out.go hb1;have d1:=D1.out.cx;have d2:=D1.out.cy;clear hb1 D0 ez;have hk1:(((k:Int)+2)==1)=false:=by simp;omega
 go_wp2_with fail
 refine(Fk _ y _ (HH.out.2.1.mono D1.out.bel) HH.out.2.2.2.1.fits).mono ?_;rintro e w2 ⟨rfl,hb2⟩;rw[←EL.out];have D2:Hid (DS w w2 ax lx cap ay (k+2) cap'):=D1.out.go hb2;have d1:=D2.out.cx;have d2:=D2.out.cy;clear hb2 D1;have m1:IntKind.i64.wrap (32*((k:Int)+2))=32*((k:Int)+2):=by rw[IntKind.wrap_i64];omega
 have m2:IntKind.i64.wrap (32*((k:Int)+2)- (L:Int))=(s:Int):=by rw[IntKind.wrap_i64];omega
 have m3:32*((k:Int)+2)- (L:Int)=(s:Int):=by omega
 have HSL:Hid (s=32*(k+2)-L∧L≤32*(k+2)):=⟨hs,hL⟩;clear hs hL;have hsB:s<1099511627776:=by have:=HSL.out.1;omega
 go_wp2_with fail
 refine(Hs _ y s _ (HH.out.2.1.mono D2.out.bel) HH.out.2.2.2.1.fits hsB).mono ?_;rintro e w3 ⟨v3,rfl,hv3,hb3⟩;obtain⟨a3,n3,cap3,rfl⟩:=hv3.isAgg;have D3:Hid (DS w w3 ax lx cap ay (k+2) cap'):=D2.out.go hb3;obtain⟨Y,sY,dY,tY,vY⟩:=hv3.open;obtain⟨hs32,hn3,hYtop,_⟩:=ON HF.out.1 HF.out.2.1 HF.out.2.2 HH.out.2.2.2.2.2.2.1 dY tY vY;have hn3':n3=k+2:=hn3;subst hn3';obtain⟨b3,o3,rfl,hw3⟩:=sY.at 0 (by omega);have lb3:b3<w3.heap.size:=World.block_lt_of_cell? _ _ (hw3 0 (by omega));have HY:Hid (Sl w3 (some ⟨b3,o3,none⟩) (k+2) cap3 Y∧Dg Y (k+2)∧2147483648≤Y (k+1)∧U Y (k+2)=y*2^s):=⟨sY,dY,hYtop,vY⟩;clear hv3 hb3 D2 sY dY tY vY hYtop hn3 hw3 d1 d2 m1 m2 m3;have d1:=D3.out.cx;have fd:=Lt (some ⟨b3,o3,none⟩) (k+2) cap3;go_wp2_with fail
 refine(Hs _ x s _ (HH.out.1.mono D3.out.bel) HH.out.2.2.1.fits hsB).mono ?_;rintro e w4 ⟨v4,rfl,hv4,hb4⟩;obtain⟨a4,m,cap4,rfl⟩:=hv4.isAgg;have D4:Hid (DS w w4 ax lx cap ay (k+2) cap'):=D3.out.go hb4;obtain⟨X,sX,dX,tX,vX⟩:=hv4.open;have hm0:m≠0:=fun e=>by
  have:=(Dc hv4).1 e;have h2:=Nat.two_pow_pos s;rcases Nat.mul_eq_zero.1 this with h3|h3
  ·exact HH.out.2.2.2.2.2.2.2.2 h3
  omega
 have hmx:m≤lx+1:=by
  refine Eu (m:=lx+1) ?_ tX;rw[vX,Cj];have h2:2^s≤2^32:=Nat.pow_le_pow_right (by decide) (by omega);exact Nat.lt_of_lt_of_le (Nat.mul_lt_mul_of_pos_right HH.out.2.2.2.2.2.1 (Nat.two_pow_pos s)) (Nat.mul_le_mul_left _ h2)
 obtain⟨b4,o4,rfl,hw4⟩:=sX.at 0 (by omega);have HX:Hid ((∀j,j<m→w4.cell? ((⟨b4,o4,none⟩:Addr).add j)=some (wd X j))∧Dg X m∧U X m=x*2^s):=⟨fun j hj=>by
  have h3:(⟨b4,o4,none⟩:Addr).add j=⟨b4,o4+j,none⟩:=by unfold Addr.add;split<;>simp_all
  rw[h3];exact hw4 j hj,dX,vX⟩
 have HY4:Hid (Sl w4 (some ⟨b3,o3,none⟩) (k+2) cap3 Y):=HY.out.1.mono hb4;have lb4:b3<w4.heap.size:=Nat.lt_of_lt_of_le lb3 hb4.size;clear hv4 hb4 D3 sX dX tX vX hw4 d1 lb3 fd;have fd:=Lt (some ⟨b4,o4,none⟩) m cap4;go_wp2_with (refine(id ?_:wpList Tryz.prog _ _ (⟨some 52,_,_,_,_,_⟩::_) _ _);refine hold ?_)
 intro _;refine GD rfl (.tmp 47) (.tmp 51) rfl w4.heap.size _ rfl rfl ⟨b4,o4,none⟩ m cap4 X rfl HX.out.1 (by omega) (Nat.le_refl _) ?_;intro v5 w5 ho5 hg5;have L0:Hid (OR w5 56 w4.heap.size v5 m (wd (Ao X m 0))∧DS w w5 ax lx cap ay (k+2) cap'∧Below w4.heap.size w4 w5):=⟨ho5.congr fun j hj=>by show Value.int .u64 _=Value.int .u64 _;rw[Bb (by omega),Nat.zero_add],D4.out.grown hg5 (fun g e=>by cases e),(Below.refl _ _).grown hg5 (Nat.le_refl _) (fun g e=>by cases e)⟩;have hsz4:w.heap.size+4≤w4.heap.size:=D4.out.lt;clear ho5 hg5 D4;go_wp2_with fail
 go_loopw [11] (fun l wr=> ∃(t:Nat),m≤t∧t≤lx+2∧Hid (OR wr 56 w4.heap.size l t (wd (Ao X m 0))∧DS w wr ax lx cap ay (k+2) cap'∧Below w4.heap.size w4 wr)) (fun l _=>lx+2-OM l)
 case atStart=>exact⟨m,Nat.le_refl _,by omega,L0⟩
 case round=>
  clear L0;obtain⟨t,ht1,ht2,hL⟩:=hrel;obtain⟨g,c,rfl,hcg⟩:=hL.out.1.at (by omega);clear hcg;have d1:=hL.out.2.1.cx;by_cases htl:t≤lx+1
  ·have hle:(t:Int)≤(lx:Int)+1:=by omega
   have d3:decide ((t:Int)≤(lx:Int)+1)=true:=decide_eq_true hle;go_wp2_with (refine(id ?_:wpList Tryz.prog _ _ (⟨some 62,_,_,_,_,_⟩::_) _ _);refine hold ?_)
   intro _;refine BC rfl (.tmp 60) (.tmp 61) 25 rfl 56 (.int .u64 0) 8 Tryz.underlying25 Tryz.info22b rfl (by omega) w4.heap.size _ t (wd (Ao X m 0)) rfl (hL.out.1.below (Ad (Ag wr))) _ _ rfl _ (Dw wr (.int .u64 0) 56) rfl (by omega) (Nat.le_trans hL.out.2.2.size (Ad (Ag wr) (o:=.cells #[.int .u64 0] 56)).size) ?_;intro g2 cap2 w9 ho hg2 _ _;have S:Hid (OR w9 56 w4.heap.size (.slice (some ⟨g2,0,none⟩) (t+1) cap2) (t+1) (wd (Ao X m 0))∧DS w w9 ax lx cap ay (k+2) cap'∧Below w4.heap.size w4 w9):=by
    refine⟨OR.congr ho fun j hj=> ?_,(hL.out.2.1.go (Ad (Ag wr))).grown hg2 (fun g e=>by have:=hL.out.1.blk g e;omega),(hL.out.2.2.alloc hL.out.2.2.size _).grown hg2 (Nat.le_trans hL.out.2.2.size (Ad (Ag wr)).size) hL.out.1.blk⟩;split
    ·rename_i e;rw[e];show Value.int .u64 0=Value.int .u64 ((Ao X m 0 t:Nat):Int);rw[A6 (by omega)];rfl
    rfl
   clear ho hg2;go_wp2_with fail
   go_roundw
   case rel=>exact⟨t+1,by omega,by omega,S⟩
   case measure=>show lx+2- (t+1)<lx+2-t;omega
  have d3:decide ((t:Int)≤(lx:Int)+1)=false:=decide_eq_false (by omega);obtain⟨M,hM⟩: ∃M,t=M+(k+2):=⟨t- (k+2),by omega⟩;have HMT:Hid (t=M+(k+2)):=hM;have m4:(t:Int)- ((k:Int)+2)=(M:Int):=by omega
  have m5:IntKind.i64.wrap ((M:Int)-1)=(M:Int)-1:=by rw[IntKind.wrap_i64];omega
  have mk:=Bl (M:Int) (M:Int) M M rfl rfl (Nat.le_refl _) (by omega);have hMb:M≤1000000:=by omega
  have hM0:M≠0:=by omega
  have htB:t≤1000002:=by omega
  have hgl:g<wr.heap.size:=by
   obtain⟨g',c',e1,e2⟩:=hL.out.1.at (by omega);cases e1;exact World.block_lt_of_cell? _ _ (e2 0 (by omega))
  have R0:AX wr g c t (Ao X m 0):=by
   rcases hL.out.1 with⟨e,_⟩| ⟨g',c',f,e1,_,h2,h3,h4,h5⟩
   ·cases e
   cases e1;refine⟨⟨f,h4,h5⟩,h2,by simp only[maxLen]at h3;omega,fun j hj=> ?_⟩;have:=CH HX.out.2.1 j;omega
  have hgw:w4.heap.size≤g:=hL.out.1.blk g rfl;have HR:Hid (AX wr g c t (Ao X m 0)∧DS w wr ax lx cap ay (k+2) cap'∧Below w4.heap.size w4 wr∧w4.heap.size≤g∧m≤t∧ ¬t≤lx+1):=⟨R0,hL.out.2.1,hL.out.2.2,hgw,ht1,htl⟩;clear R0 hM hL ht1 ht2 htl hgw fd;go_wp2_with fail
  clear mk m4;obtain⟨w6,hw6⟩:=nme (wr.alloc (.cells (Bh M) 56));obtain⟨gq,hgq⟩:=nme wr.heap.size;have ba:Below wr.heap.size wr w6:=by rw[hw6];exact Ad (Ag wr)
  have Q0:AX w6 gq M M (fun _=>0):=by rw[hw6,hgq];exact Row.drow (AJ _ _ _ rfl) (by omega)
  have M0:Hid (DI w w6 (ax,lx,cap,ay,cap') k g c t gq M b3 o3 cap3 Y (x*2^s) M (Ao X m 0) (fun _=>0)):=by
   have h1:=HR.out.2.2.2.1;have h2:=HR.out.2.2.1.size;refine⟨HR.out.1.below ba,Q0,?_,HY4.out.mono (Ae HR.out.2.2.1 ba),HR.out.2.1.go ba,HY.out.2.1,HY.out.2.2.1,HMT.out,by omega,by omega,by omega,by omega,by omega⟩;have hst:=Mu (X:=x*2^s) (Yv:=U Y (k+2)) (N:=t) (n:=k+2) (F:=Ao X m 0) (by rw[Eb HR.out.2.2.2.2.1,HX.out.2.2]) (fun j _=>CH HX.out.2.1 j) (by omega) (by have:=HMT.out;omega) (by
    show B (k+1)≤_;rw[HY.out.2.2.2];have h1:=HH.out.2.2.2.2.1;have h2:=Nat.mul_le_mul h1 (Nat.two_pow_pos s);rw[Nat.mul_one]at h2;exact h2) (A6 (by have:=HR.out.2.2.2.2.2;omega))
   rw[show t- (k+2)=M by have:=HMT.out;omega]at hst;exact hst
  have HYV:Hid (U Y (k+2)=y*2^s):=HY.out.2.2.2;have hkB:k≤1000000:=by omega
  have hMt:M+k+2≤t:=by have:=HMT.out;omega
  rw[←hw6];simp only[←hgq];clear hw6 hgq ba Q0 HR hgl d1 d3 d2 HH HF HX HY HY4 HMT HSL EL hsz4 hm0 hmx hkl hlx hsB lb4 hz hk1;go_loopw [13] (fun tt wr=> ∃(jj:Nat) (F Q:Nat→Nat),jj≤M∧tt=.int .i64 ((jj:Int)-1)∧Hid (DI w wr (ax,lx,cap,ay,cap') k g c t gq M b3 o3 cap3 Y (x*2^s) jj F Q)) (fun tt _=>(intOf tt+1).toNat)
  case atStart=>exact⟨M,Ao X m 0,fun _=>0,Nat.le_refl _,rfl,M0⟩
  case round=>
   clear M0 m5;obtain⟨jj,F,Q,hjj,rfl,hI⟩:=hrel;by_cases hj0:0<jj
   ·obtain⟨j,rfl⟩: ∃j,jj=j+1:=⟨jj-1,by omega⟩;have hidx:((j+1:Nat):Int)-1=(j:Int):=by omega
    rw[hidx];have hjt:j+k+2<t:=by omega
    have m6:IntKind.i64.wrap ((j:Int)-1)=(j:Int)-1:=by rw[IntKind.wrap_i64];omega
    clear hidx hj0;go_wp2_with fail
    refine(Kp g t c b3 o3 cap3 j k F Y wr hI.out.u hI.out.dv.dF hI.out.v hI.out.dY hjt (by omega) hI.out.top (hI.out.dv.small (show j<t by omega))).mono ?_;rintro e w7 ⟨G,rfl,hG,nd,hw7⟩;rw[hw7];clear hw7 w7;have HG:Hid _:=hG;have hGl:=hG.lt;clear hG;go_wp2_with fail
    refine(Ln g t c j (k+2) G cap3 (some ⟨b3,o3,none⟩) F Y (wr.drewN nd) (hI.out.u.drewN nd) hI.out.dv.dF (hI.out.v.mono (AH (Ag wr) nd)) hI.out.dY (by omega) (by omega) hGl hI.out.sep).mono ?_;rintro e w8 ⟨bo,cc,H,rfl,hH,hLs,hg8⟩;have hbl:=hLs.lb;have I8:Hid (DL w w8 (ax,lx,cap,ay,cap') k g c t gq M b3 o3 cap3 Y (x*2^s) j F Q G bo H):=hI.out.less hjt HG.out hH hLs hg8;have DH:Hid (Dg H t):=hLs.dg;have SP:Hid _:=hI.out.sep;have DYY:Hid _:=hI.out.dY;have hcq:w8.cell? ⟨gq,j,none⟩=some (.int .u64 (Q j:Nat)):=I8.out.q.cell (by omega);have hfq:w8.frozen? ⟨gq,j,none⟩=false:=I8.out.q.frozen _;clear hH hLs hg8 hI HG;by_cases hbo:bo=1
    ·subst hbo;obtain⟨d,hd⟩: ∃d,G=d+1:=⟨G-1,by have:=I8.out.pos;omega⟩;have hdw:(G:Int)-1=(d:Int):=by omega
     have hdl:d<18446744073709551616:=by omega
     have HD:Hid (G=d+1):=hd;clear hd hcq hfq hbl;go_wp2_with fail
     refine(Lp g t c j (k+2) cap3 (some ⟨b3,o3,none⟩) H Y w8 I8.out.u DH.out I8.out.v DYY.out (by omega) (by omega) SP.out).mono ?_;rintro e w9 ⟨uu,c2,H2,rfl,hH2,hBk,hg9⟩;have S9:Hid _:=I8.out.back HD.out hH2 hBk hg9;have hcq:w9.cell? ⟨gq,j,none⟩=some (.int .u64 (Q j:Nat)):=S9.out.2.cell (by omega);have hfq:w9.frozen? ⟨gq,j,none⟩=false:=S9.out.2.frozen _;clear hH2 hBk hg9;go_wp2_with fail
     go_roundw
     case rel=>exact⟨j,H2,put Q j d,by omega,rfl,S9.out.1⟩
     case measure=>simp[intOf]
    have hb0:((bo:Int)==1)=false:=by simp;omega
    have S9:Hid _:=I8.out.keep (by omega);clear hbo hbl;go_wp2_with fail
    go_roundw
    case rel=>exact⟨j,H,put Q j G,by omega,rfl,S9⟩
    case measure=>simp[intOf]
   obtain rfl:jj=0:=by omega
   have hneg:((0:Nat):Int)-1= -1:=by omega
   rw[hneg];have HE:Hid _:=hI.out.fin HYV.out hkB;clear hneg hj0;go_wp2_with fail
   refine(EJ (some ⟨gq,0,none⟩) M M Q wr hI.out.q.sl HE.out.2.2.2.1 (by omega) hM0).mono ?_;rintro e w7 ⟨k7,rfl,hv7,hb7⟩;rw[HE.out.1]at hv7;have I7:Hid (Ak w7 (.agg #[.slice (some ⟨gq,0,none⟩) k7 M]) (x/y)∧AX w7 g c t F∧DS w w7 ax lx cap ay (k+2) cap'):=⟨hv7,hI.out.u.below hb7,hI.out.ds.go hb7⟩;clear hv7 hb7 hI;go_wp2_with fail
   refine(EJ (some ⟨g,0,none⟩) t c F w7 I7.out.2.1.sl HE.out.2.2.2.2 (by omega) (by omega)).mono ?_;rintro e w8 ⟨k8,rfl,hv8,hb8⟩;have I8:Hid (Ak w8 (.agg #[.slice (some ⟨gq,0,none⟩) k7 M]) (x/y)∧Ak w8 (.agg #[.slice (some ⟨g,0,none⟩) k8 c]) (U F t)∧DS w w8 ax lx cap ay (k+2) cap'):=⟨I7.out.1.mono hb8,hv8,I7.out.2.2.go hb8⟩;clear hv8 hb8 I7;go_wp2_with fail
   refine(Kq _ (U F t) s _ I8.out.2.1 HE.out.2.2.1 (by omega)).mono ?_;rintro e w9 ⟨v9,rfl,hv9,hb9⟩;obtain⟨a9,n9,c9,rfl⟩:=hv9.isAgg;rw[HE.out.2.1]at hv9;have D9:Hid (DS w w9 ax lx cap ay (k+2) cap'):=I8.out.2.2.go hb9;have I9:Hid (Ak w9 (.agg #[.slice (some ⟨gq,0,none⟩) k7 M]) (x/y)∧Ak w9 (.agg #[.slice a9 n9 c9]) (x%y)):=⟨I8.out.1.mono hb9,hv9⟩;have d3:=D9.out.c3;have d4:=D9.out.c4;have e3:=D9.out.f3;have e4:=D9.out.f4;clear hv9 hb9 I8;go_wp2_with fail
   have n3:=Af d3;have n4: ∀k q,(w9.setCell ⟨w.heap.size+1+1,0,none⟩ (.slice (some ⟨gq,0,none⟩) k7 M)).cell? ⟨w.heap.size+1+1+1,0,none⟩≠some (.int k q):=by
    rw[World.cell?_setCell_far _ _ _ _ (by show w.heap.size+1+1≠w.heap.size+1+1+1;omega),d4];intro k q e;cases e
   refine bodyPost_ret (v:=.tuple #[.agg #[.slice (some ⟨gq,0,none⟩) k7 M],.agg #[.slice a9 n9 c9]]) (by simp[results,Tryz.results72,go_sem,d3,d4]) rfl ⟨_,_,rfl,(I9.out.1.setCell n3 _).setCell n4 _,(I9.out.2.setCell n3 _).setCell n4 _,?_⟩;exact(D9.out.bel.setCell (by show _≤_+1+1;omega) _).setCell (by show _≤_+1+1+1;omega) _
theorem Mz(ax:Option Addr)(lx cap:Nat)(ay:Option Addr)(cap':Nat)(x y:Nat)(w:World)(h:Ak w (.agg #[.slice ax lx cap]) x)(kk:Ak w (.agg #[.slice ay 1 cap']) y)(hx:AE x)(hy:AE y)(hle:y≤x):
  Calls Tryz.prog 72 #[.agg #[.slice ax lx cap],.agg #[.slice ay 1 cap']] w (RQR w (x/y) (x%y)):=by
 obtain⟨Fy,hys,dy,hy1,hyv⟩:=kk.open;have e0:Fy 0=y:=by rw[←hyv,Ay,Be,Dk];omega
 have hy0:y≠0:=by rw[←e0];exact hy1 (by omega)
 have hyl:y<4294967296:=by rw[←e0];exact dy 0 (by omega)
 obtain⟨b,o,rfl,hw⟩:=hys.at 0 (by omega);have HH:Hid (Ak w (.agg #[.slice ax lx cap]) x∧Ak w (.agg #[.slice (some ⟨b,o,none⟩) 1 cap']) y∧AE x∧AE y∧y≤x∧w.cell? ⟨b,o+0,none⟩=some (.int .u64 (y:Nat))):=⟨h,kk,hx,hy,hle,by rw[←e0];exact hw 0 (by omega)⟩;have D0:Hid _:=GE w ax lx cap (some ⟨b,o,none⟩) 1 cap' 32;clear h kk hx hy hys dy hy1 hyv e0 hle hw;go_enter Tryz.func72,Tryz.ntmps72
 go_wp2_with fail
 refine(Fm _ _ x y _ (HH.out.1.mono D0.out.bel) (HH.out.2.1.mono D0.out.bel) HH.out.2.2.1 HH.out.2.2.2.1).mono ?_;rintro e w1 ⟨rfl,hb1⟩;obtain⟨z,ez⟩:=nme (Az x y);have hz:decide (z<0)=false:=by
  refine decide_eq_false ?_;rw[ez];rcases Nat.lt_or_ge y x with e|e
  ·rw[ER e];omega
  rw[Nat.le_antisymm e HH.out.2.2.2.2.1,F3];omega
 rw[←ez];have D1:Hid (DS w w1 ax lx cap (some ⟨b,o,none⟩) 1 cap'):=D0.out.go hb1;have d1:=D1.out.cx;have d2:=D1.out.cy;have d5:w1.cell? ⟨b,o,none⟩=some (.int .u64 (y:Nat)):=by
  have:=cell_later D1.out.bel HH.out.2.2.2.2.2;rw[Nat.add_zero]at this;exact this
 have S1:Hid (SR w w1 [] [(.agg #[.slice ax lx cap],x)] [(w.heap.size,.slice ax lx cap),(w.heap.size+1,.slice (some ⟨b,o,none⟩) 1 cap')]):=⟨by simp,by simp;exact HH.out.1.mono D1.out.bel,by simp;exact⟨d1,d2⟩,D1.out.bel⟩;have hx0:x≠0:=by have:=HH.out.2.2.2.2.1;omega
 have HQ:Hid (AE x∧0<y∧y<4294967296∧x≠0∧x%y<18446744073709551616):=⟨HH.out.2.2.1,by omega,hyl,hx0,by have:=Nat.mod_lt x (show 0<y by omega);omega⟩;clear hb1 D0 ez hx0 hyl hy0;go_wp2_with fail
 refine Aj (JB w1 [sR (x),sEq (.pointer (some ⟨w.heap.size+1,0,none⟩)),sEq (.slice (some ⟨b,o,none⟩) 1 cap'),sEq (.pointer (some ⟨b,o,none⟩)),sEq (.int .u64 (y:Int)),sRI (x/y) (x%y),sRI (x/y) (x%y),sR (x/y),sEq (.int .u64 ((x%y:Nat):Int)),sAny,sAny,sEq (.int .u64 ((x%y:Nat):Int))] [(9,10,7)]) 103 (by kernel_rfl) rfl (by kernel_rfl) (JB.start _ _ _) (fun HG HN=>⟨?_,?_,?_,?_,?_,?_,?_,?_,?_,?_,?_,?_,trivial⟩) ?_
 ·intro L vs a w' hJ hF hP hL;have q2:(a.tmps[2]?).getD undef=.pointer (some ⟨w.heap.size,0,none⟩):=hF.old 2 rfl;have cb:=cell_later hJ.bel (S1.out.cell (w.heap.size) (.slice ax lx cap));exact Aa (v:=.agg #[.slice ax lx cap]) rfl (by simp[execOp,go_sem,q2,cb]) ⟨_,rfl,hJ.step hL rfl (Below.refl _ _) (by exact((S1.out.rat (.agg #[.slice ax lx cap]) (x)).mono hJ.bel))⟩
 ·intro L vs a w' hJ hF hP hL;have q3:(a.tmps[3]?).getD undef=.pointer (some ⟨w.heap.size+1,0,none⟩):=hF.old 3 rfl;exact Aa (v:=.pointer (some ⟨w.heap.size+1,0,none⟩)) rfl (by simp[execOp,go_sem,q3]) ⟨_,rfl,hJ.step hL rfl (Below.refl _ _) (by exact rfl)⟩
 ·intro L vs a w' hJ hF hP hL;have p1:L 1=true:=hP ⟨1,.data⟩ (by simp) rfl;have s1:vs 1=.pointer (some ⟨w.heap.size+1,0,none⟩):=hJ.sp 1 p1;have q28:=hF.slot 1 28 rfl p1;have c2:=cell_later hJ.bel (S1.out.cell (w.heap.size+1) (.slice (some ⟨b,o,none⟩) 1 cap'));exact Aa (v:=.slice (some ⟨b,o,none⟩) 1 cap') rfl (by simp[execOp,go_sem,q28,s1,c2]) ⟨_,rfl,hJ.step hL rfl (Below.refl _ _) (by exact rfl)⟩
 ·intro L vs a w' hJ hF hP hL;have p2:L 2=true:=hP ⟨2,.data⟩ (by simp) rfl;have s2:vs 2=.slice (some ⟨b,o,none⟩) 1 cap':=hJ.sp 2 p2;have q29:=hF.slot 2 29 rfl p2;exact Aa (v:=.pointer (some ⟨b,o,none⟩)) rfl (by simp[execOp,go_sem,q29,s2]) ⟨_,rfl,hJ.step hL rfl (Below.refl _ _) (by exact rfl)⟩
 ·intro L vs a w' hJ hF hP hL;have p3:L 3=true:=hP ⟨3,.data⟩ (by simp) rfl;have s3:vs 3=.pointer (some ⟨b,o,none⟩):=hJ.sp 3 p3;have q30:=hF.slot 3 30 rfl p3;have c5:=cell_later hJ.bel d5;exact Aa (v:=.int .u64 (y:Int)) rfl (by simp[execOp,go_sem,q30,s3,c5]) ⟨_,rfl,hJ.step hL rfl (Below.refl _ _) (by exact rfl)⟩
 ·intro L vs a w' hJ hF hP hL;have p0:L 0=true:=hP ⟨0,.data⟩ (by simp) rfl;have s0:Ak w' (vs 0) (x):=hJ.sp 0 p0;have q27:=hF.slot 0 27 rfl p0;have p4:L 4=true:=hP ⟨4,.data⟩ (by simp) rfl;have s4:vs 4=.int .u64 (y:Int):=hJ.sp 4 p4;have q31:=hF.slot 4 31 rfl p4;refine Ai (f:=90) (args:= #[vs 0,.int .u64 (y:Int)]) rfl (by simp[go_sem,q27,q31,s4]) (Kn _ x y _ s0 HQ.out.1 HQ.out.2.1 HQ.out.2.2.1 HQ.out.2.2.2.1) ?_;rintro e w2 ⟨v1,rfl,h1,hb⟩;exact⟨_,rfl,_,rfl,hJ.step hL rfl hb (by exact⟨v1,rfl,h1⟩)⟩
 ·intro L vs a w' hJ hF hP hL;have p5:L 5=true:=hP ⟨5,.data⟩ (by simp) rfl;have s5: ∃p,vs 5=.tuple #[p,.int .u64 ((x%y:Nat):Int)]∧Ak w' p (x/y):=hJ.sp 5 p5;have q32:=hF.slot 5 32 rfl p5;exact Aa (v:=vs 5) rfl (by simp[execOp,go_sem,q32]) ⟨_,rfl,hJ.step hL rfl (Below.refl _ _) (by exact s5)⟩
 ·intro L vs a w' hJ hF hP hL;have p6:L 6=true:=hP ⟨6,.data⟩ (by simp) rfl;have s6: ∃p,vs 6=.tuple #[p,.int .u64 ((x%y:Nat):Int)]∧Ak w' p (x/y):=hJ.sp 6 p6;have q26:=hF.slot 6 26 rfl p6;obtain⟨vp,e1,e2⟩:=s6;exact Aa (v:=vp) rfl (by simp[execOp,go_sem,q26,e1]) ⟨_,rfl,hJ.step hL rfl (Below.refl _ _) (by exact e2)⟩
 ·intro L vs a w' hJ hF hP hL;have p6:L 6=true:=hP ⟨6,.data⟩ (by simp) rfl;have s6: ∃p,vs 6=.tuple #[p,.int .u64 ((x%y:Nat):Int)]∧Ak w' p (x/y):=hJ.sp 6 p6;have q26:=hF.slot 6 26 rfl p6;obtain⟨vp,e1,e2⟩:=s6;exact Aa (v:=.int .u64 ((x%y:Nat):Int)) rfl (by simp[execOp,go_sem,q26,e1]) ⟨_,rfl,hJ.step hL rfl (Below.refl _ _) (by exact rfl)⟩
 ·intro L vs a w' hJ hF hP hL;exact Aa (v:=.pointer (some ⟨w'.heap.size,0,none⟩)) (w':=w'.alloc (.cells #[.slice none 0 0] 32)) rfl (by simp[execOp,go_sem]) ⟨_,rfl,hJ.alloc hL rfl rfl _⟩
 ·intro L vs a w' hJ hF hP hL;have p9:L 9=true:=hP ⟨9,.data⟩ (by simp) rfl;have q7:=hF.slot 9 7 rfl p9;have p7:L 7=true:=hP ⟨7,.data⟩ (by simp) rfl;have s7:Ak w' (vs 7) (x/y):=hJ.sp 7 p7;have q33:=hF.slot 7 33 rfl p7;obtain⟨bk,e1,e2,e3,e4,e5,e6⟩:=hJ.bx (9,10,7) (by simp) p9;have e7:=e5 hL;obtain⟨aa,nn,cc,e8⟩:=s7.isAgg;exact Al (w':=w'.setCell ⟨bk,0,none⟩ (.slice aa nn cc)) rfl (by simp[execOp,go_sem,q7,q33,e1,e8,e7,e4]) ⟨undef,rfl,hJ.store (b:=(9,10,7)) (by simp) hL p9 p7 (by decide) rfl e1 e8⟩
 ·intro L vs a w' hJ hF hP hL;have p8:L 8=true:=hP ⟨8,.data⟩ (by simp) rfl;have s8:vs 8=.int .u64 ((x%y:Nat):Int):=hJ.sp 8 p8;have q34:=hF.slot 8 34 rfl p8;exact Aa (v:=.int .u64 ((x%y:Nat):Int)) rfl (by simp[execOp,go_sem,q34,s8]) ⟨_,rfl,hJ.step hL rfl (Below.refl _ _) (by exact rfl)⟩
 intro L vs w' hA hJ;have s7:Ak w' (vs 7) (x/y):=hJ.sp 7 (hA 7 (by simp));have s11:vs 11=.int .u64 ((x%y:Nat):Int):=hJ.sp 11 (hA 11 (by simp));obtain⟨bk9,eb9,ge9,lt9,fz9,_,e6⟩:=hJ.bx (9,10,7) (by simp) (hA 9 (by simp));obtain⟨_,u9,eu9,ce9⟩:=e6 (hA 10 (by simp));clear e6;have D2:Hid (DS w w' ax lx cap (some ⟨b,o,none⟩) 1 cap'):=D1.out.go hJ.bel;obtain⟨a9,n9,c9,e9⟩:=s7.isAgg;have eu:u9=.slice a9 n9 c9:=by
  have:=eu9.symm.trans e9;injection this with h1
  simpa using h1
 rw[eu]at ce9;rw[e9]at s7;simp only[AC,Act.put,List.setIfInBounds_toArray,List.set_cons_zero,List.set_cons_succ,Nat.reduceAdd];simp only[eb9,s11];have I2:Hid (Ak w' (.agg #[.slice a9 n9 c9]) (x/y)∧w'.cell? ⟨bk9,0,none⟩=some (.slice a9 n9 c9)∧w.heap.size+4≤bk9):=⟨s7,ce9,Nat.le_trans D1.out.lt ge9⟩;have d3:=D2.out.c3;have d4:=D2.out.c4;have e3:=D2.out.f3;have e4:=D2.out.f4;have d7:=I2.out.2.1;obtain⟨rr,err⟩:=nme (x%y);have ERR:Hid (rr=x%y):=err;simp only[←err];generalize vs=vs1;clear hJ hA s7 s11 eb9 ge9 lt9 fz9 eu9 e9 eu D1 S1 d1 d2 d5 err ce9;go_wp2_with fail
 go_region_with ((go_at_call 14;refine Calls.mono (Cu rr _ (by rw[ERR.out];exact HQ.out.2.2.2.2)) ?_;rintro e w3 ⟨v3,rfl,hv3,hb3⟩;obtain⟨a3,n3,c3,rfl⟩:=hv3.isAgg;have hb3:Below w'.heap.size w' w3:=(by first|exact hb3|exact Bs hb3);have D3:Hid (DS w w3 ax lx cap (some ⟨b,o,none⟩) 1 cap'):=D2.out.go hb3;have I3:Hid (Ak w3 (.agg #[.slice a9 n9 c9]) (x/y)∧Ak w3 (.agg #[.slice a3 n3 c3]) rr):=⟨I2.out.1.mono hb3,hv3⟩;have d8:=cell_later hb3 d7;have d13:=D3.out.c3;have d14:=D3.out.c4;have e13:=D3.out.f3;have e14:=D3.out.f4;clear hb3 hv3))
 all_goals have Z:Hid _:=D3.out.put2 I3.out.1 I3.out.2
 all_goals rw[ERR.out]at Z
 all_goals go_wp2_with fail
 all_goals exact bodyPost_ret (v:=.tuple #[.agg #[.slice a9 n9 c9],.agg #[.slice a3 n3 c3]]) (by simp[results,Tryz.results72,go_sem,d13,d14]) rfl ⟨_,_,rfl,Z.out.1,Z.out.2.1,Z.out.2.2⟩
theorem C4(v u:Value)(x y:Nat)(w:World)(h:Ak w v x)(k:Ak w u y)(hx:Aw x)(hy:Aw y)(hy0:y≠0):
  Calls Tryz.prog 72 #[v,u] w (RQR w (x/y) (x%y)):=by
 rcases Nat.lt_or_ge x y with hlt|hge
 ·rw[Nat.div_eq_of_lt hlt,Nat.mod_eq_of_lt hlt];exact Lu v u x y w h k hx.fits hy.fits hlt
 obtain⟨ax,lx,cap,rfl⟩:=h.isAgg;obtain⟨ay,ly,cap',rfl⟩:=k.isAgg;rcases ly with _|_|ly
 ·exact absurd ((Dc k).1 rfl) hy0
 ·exact Mz ax lx cap ay cap' x y w h k hx.fits hy.fits hge
 exact Lv ax lx cap ay ly cap' x y w h k hx hy hge
structure GC (w wr:World) (d:Nat) (ax:Option Addr) (lx cx:Nat) (ay:Option Addr) (ly cy:Nat) (x y:Nat):Prop where
 c0:wr.cell? ⟨w.heap.size,0,none⟩=some (.slice ax lx cx)
 c1:wr.cell? ⟨w.heap.size+1,0,none⟩=some (.slice ay ly cy)
 c2:wr.cell? ⟨w.heap.size+1+1,0,none⟩=some (.slice none 0 0)
 f0:wr.frozen? ⟨w.heap.size,0,none⟩=false
 f1:wr.frozen? ⟨w.heap.size+1,0,none⟩=false
 f2:wr.frozen? ⟨w.heap.size+1+1,0,none⟩=false
 nx:Ak wr (.agg #[.slice ax lx cx]) x
 ny:Ak wr (.agg #[.slice ay ly cy]) y
 sx:Aw x
 sy:Aw y
 gcd:Nat.gcd x y=d
 bel:Below w.heap.size w wr
theorem GC.go{w wr w':World}{d:Nat}{ax:Option Addr}{lx cx:Nat}{ay:Option Addr}{ly cy x y:Nat}(h:GC w wr d ax lx cx ay ly cy x y)(hb:Below wr.heap.size wr w'):GC w w' d ax lx cx ay ly cy x y:=
 ⟨cell_later hb h.c0,cell_later hb h.c1,cell_later hb h.c2,(hb.frozen (World.block_lt_of_cell? _ _ h.c0)).trans h.f0,(hb.frozen (World.block_lt_of_cell? _ _ h.c1)).trans h.f1,(hb.frozen (World.block_lt_of_cell? _ _ h.c2)).trans h.f2,h.nx.mono hb,h.ny.mono hb,h.sx,h.sy,h.gcd,Ae h.bel hb⟩
theorem GC.step{w wr:World}{d:Nat}{ax:Option Addr}{lx cx:Nat}{ay:Option Addr}{ly cy x y:Nat}(h:GC w wr d ax lx cx ay ly cy x y){ar:Option Addr}{lr cr:Nat}(hr:Ak wr (.agg #[.slice ar lr cr]) (x%y))(hy:y≠0):
  GC w ((wr.setCell ⟨w.heap.size,0,none⟩ (.slice ay ly cy)).setCell ⟨w.heap.size+1,0,none⟩ (.slice ar lr cr)) d ay ly cy ar lr cr y (x%y):=by
 have n0:=Af h.c0;have k1:(wr.setCell ⟨w.heap.size,0,none⟩ (.slice ay ly cy)).cell? ⟨w.heap.size+1,0,none⟩=some (.slice ay ly cy):=(World.cell?_setCell_far _ _ _ _ (by show w.heap.size≠w.heap.size+1;omega)).trans h.c1;have n1:=Af k1;have k0:(wr.setCell ⟨w.heap.size,0,none⟩ (.slice ay ly cy)).cell? ⟨w.heap.size,0,none⟩=some (.slice ay ly cy):=by simp[go_sem,h.c0]
 refine⟨?_,by simp[go_sem,k1],?_,by simp[World.frozen?_setCell,h.f0],by simp[World.frozen?_setCell,h.f1],by simp[World.frozen?_setCell,h.f2],(h.ny.setCell n0 _).setCell n1 _,(hr.setCell n0 _).setCell n1 _,h.sy,⟨Nat.lt_of_lt_of_le (Nat.mod_lt _ (by omega)) (Nat.le_of_lt h.sy.lt)⟩,?_,(h.bel.setCell (Nat.le_refl _) _).setCell (by show _≤_+1;omega) _⟩
 ·rw[World.cell?_setCell_far _ _ _ _ (by show w.heap.size+1≠w.heap.size;omega)];exact k0
 ·rw[World.cell?_setCell_far _ _ _ _ (by show w.heap.size+1≠w.heap.size+1+1;omega),World.cell?_setCell_far _ _ _ _ (by show w.heap.size≠w.heap.size+1+1;omega)];exact h.c2
 rw[←h.gcd,Nat.gcd_comm x y,Nat.gcd_rec y x,Nat.gcd_comm]
theorem MA(v u:Value)(x y:Nat)(w:World)(h:Ak w v x)(k:Ak w u y)(hx:Aw x)(hy:Aw y):
  Calls Tryz.prog 71 #[v,u] w (Ck w (Nat.gcd x y)):=by
 obtain⟨ax,lx,cx,rfl⟩:=h.isAgg;obtain⟨ay,ly,cy,rfl⟩:=k.isAgg;have ba:Below w.heap.size w (((w.alloc (.cells #[.slice ax lx cx] 32)).alloc (.cells #[.slice ay ly cy] 32)).alloc (.cells #[.slice none 0 0] 32)):=Ad (Ad (Ad (Ag w)));have G0:Hid (GC w (((w.alloc (.cells #[.slice ax lx cx] 32)).alloc (.cells #[.slice ay ly cy] 32)).alloc (.cells #[.slice none 0 0] 32)) (Nat.gcd x y) ax lx cx ay ly cy x y):=⟨by simp[go_sem],by simp[go_sem],by simp[go_sem],by simp[go_sem],by simp[go_sem],by simp[go_sem],h.mono ba,k.mono ba,hx,hy,rfl,ba⟩;obtain⟨d,hd⟩:=nme (Nat.gcd x y);rw[←hd]at G0⊢;clear h k hx hy ba hd;go_enter Tryz.func71,Tryz.ntmps71
 go_wp2_with fail
 go_loopg [6] y (fun gk t wr=> ∃(ax:Option Addr) (lx cx:Nat) (ay:Option Addr) (ly cy x:Nat),Hid (GC w wr d ax lx cx ay ly cy x gk))
 case atStart=>exact⟨ax,lx,cx,ay,ly,cy,x,G0⟩
 case round=>
  clear G0;obtain⟨ax,lx,cx,ay,ly,cy,x,hG⟩:=hrel;have c1:=hG.out.c1;go_wp2_with fail
  refine(DT _ gk _ hG.out.ny hG.out.sy.fits).mono ?_;rintro e w2 ⟨rfl,hb2⟩;have G2:Hid (GC w w2 d ax lx cx ay ly cy x gk):=hG.out.go hb2;clear hb2 hG c1;by_cases hy0:gk=0
  ·have hz:decide (gk=0)=true:=decide_eq_true hy0;have HD:Hid (Ak w2 (.agg #[.slice ax lx cx]) d):=by
    have h1:=G2.out.gcd;rw[hy0,Nat.gcd_zero_right]at h1;have h2:=G2.out.nx;rw[h1]at h2;exact h2
   have d0:=G2.out.c0;have d2:=G2.out.c2;have e2:=G2.out.f2;have BB:Hid (Below w.heap.size w w2):=G2.out.bel;clear hy0 G2;go_wp2_with fail
   refine bodyPost_ret (v:=.agg #[.slice ax lx cx]) (by simp[results,Tryz.results71,go_sem,d2]) rfl ⟨_,rfl,HD.out.setCell (Af d2) _,BB.out.setCell (by show _≤_+1+1;omega) _⟩
  have hz:decide (gk=0)=false:=decide_eq_false hy0;have d0:=G2.out.c0;have d1:=G2.out.c1;go_wp2_with fail
  refine(C4 _ _ x gk _ G2.out.nx G2.out.ny G2.out.sx G2.out.sy hy0).mono ?_;rintro e w3 ⟨v3,u3,rfl,hv3,hu3,hb3⟩;obtain⟨a3,n3,c3,rfl⟩:=hv3.isAgg;obtain⟨a4,n4,c4,rfl⟩:=hu3.isAgg;have b5:Below w3.heap.size w3 ((w3.alloc (.cells #[.slice a3 n3 c3] 32)).alloc (.cells #[.slice a4 n4 c4] 32)):=Ad (Ad (Ag w3));have G5:Hid _:=(G2.out.go (Ae hb3 b5)).step (hu3.mono b5) hy0;have GG:Hid (GC w ((w3.alloc (.cells #[.slice a3 n3 c3] 32)).alloc (.cells #[.slice a4 n4 c4] 32)) d ax lx cx ay ly cy x gk):=G2.out.go (Ae hb3 b5);have d0:=GG.out.c0;have d1:=GG.out.c1;have e0:=GG.out.f0;have e1:=GG.out.f1;have d5:((w3.alloc (.cells #[.slice a3 n3 c3] 32)).alloc (.cells #[.slice a4 n4 c4] 32)).cell? ⟨w3.heap.size+1,0,none⟩=some (.slice a4 n4 c4):=by simp[go_sem]
  have hsz:w.heap.size+2<w3.heap.size:=by
   have:=World.block_lt_of_cell? _ _ (G2.out.go hb3).c2;exact this
  have HLT:Hid (x%gk<gk):=Nat.mod_lt _ (by omega);clear hv3 hu3 hb3 b5 G2 GG hy0;go_wp2_with fail
  go_roundg (x%gk)
  case measure=>exact HLT.out
  case rel=>exact⟨ay,ly,cy,a4,n4,c4,gk,G5⟩
end Go.Proofs.YtcbjkgphpnihiaaGreatDoor
