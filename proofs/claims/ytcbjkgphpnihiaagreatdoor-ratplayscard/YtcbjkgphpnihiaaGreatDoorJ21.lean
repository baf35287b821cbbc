/- Contracts of the program's functions, part 21: own work, joined in build order. -/
import Derived.Test.YtcbjkgphpnihiaaGreatDoorJ20
namespace Go.Proofs.YtcbjkgphpnihiaaGreatDoor
open Go.RowKit
set_option maxRecDepth 100000
set_option linter.unusedVariables false
set_option maxHeartbeats 16000000
structure Lo (p q:Nat):Prop where
 g:Nat.gcd p q=1
 pos:0<q
 a:p<P 47
 b:q<P 47
structure Res (A B:Nat):Prop where
 g:Nat.gcd A B=1
 pos:0<B
 a:RG A
 b:RG B
theorem Lo.rs1{p q:Nat}(h:Lo p q):RS p:=DE h.a
theorem Lo.rs2{p q:Nat}(h:Lo p q):RS q:=DE h.b
theorem Lo.fc{p q:Nat}(h:Lo p q):Fc p q p q 47:=Fc.own h.g h.pos h.a h.b
theorem Lo.res{p q:Nat}(h:Lo p q):Res p q:=⟨h.g,h.pos,h.rs1.g,h.rs2.g⟩
theorem Res.zero:Res 0 1:=⟨by simp,by omega,⟨CV _⟩,⟨by rw[show(900:Nat)=899+1 from rfl,Bo];have:=CV 899;omega⟩⟩
theorem Fc.res{p q N D n:Nat}(h:Fc p q N D n)(hn:n≤900):Res p q:=⟨h.low,h.pos,⟨Co h.s1 hn⟩,⟨Co h.s2 hn⟩⟩
theorem Fa{A B N D:Nat}(h1:Nat.gcd A B=1)(h2:0<B)(hD:0<D)(hv:A*D=N*B):N/Nat.gcd N D=A∧D/Nat.gcd N D=B:=by
 obtain⟨l1,l2,l3⟩:=EC N D hD;generalize N/Nat.gcd N D=a at*;generalize D/Nat.gcd N D=b at*;have e:A*b=a*B:=by
  refine Nat.eq_of_mul_eq_mul_right hD ?_;have e1:A*b*D=A*D*b:=by grind
  have e2:a*B*D=a*D*B:=by grind
  rw[e1,e2,hv,l2];grind
 have c1:Nat.Coprime A B:=h1;have c2:Nat.Coprime a b:=l1;constructor
 ·exact Nat.dvd_antisymm (c2.dvd_of_dvd_mul_right ⟨B,e⟩) (c1.dvd_of_dvd_mul_right ⟨b,e.symm⟩)
 exact Nat.dvd_antisymm (c2.symm.dvd_of_dvd_mul_left ⟨A,by rw[←e,Nat.mul_comm]⟩ |> fun h=>by
  exact h) (c1.symm.dvd_of_dvd_mul_left ⟨a,by rw[e,Nat.mul_comm]⟩)
theorem MI{p q x y:Nat}(h:Lo p q)(k:Lo x y): ∃A B,Res A B∧(∀v u w,Rt w v p q→Rt w u x y→Tab w→Calls Tryz.prog 12 #[v,u] w (Bg w A B))∧(∀v u w,RRt w v p q→RRt w u x y→Calls Tryz.prog 22 #[v,u] w (Bc w A B)):=by
 obtain⟨A,B,f,_,c⟩:=h.fc.add k.fc (by omega) (by omega);obtain⟨e1,e2⟩:=Fa f.low f.pos f.dpos f.val;refine⟨A,B,f.res (by omega),c,fun v u w i j=> ?_⟩;have:=Ht v u p q x y w i j h.rs1 h.rs2 k.rs1 k.rs2 h.pos k.pos;rw[e1,e2]at this;exact this
theorem MJ{p q x y:Nat}(h:Lo p q)(k:Lo x y): ∃A B,Res A B∧(∀v u w,Rt w v p q→Rt w u x y→Tab w→Calls Tryz.prog 25 #[v,u] w (Bg w A B))∧(∀v u w,RRt w v p q→RRt w u x y→Calls Tryz.prog 26 #[v,u] w (Bc w A B)):=by
 obtain⟨A,B,f,c⟩:=h.fc.mul k.fc (by omega) (by omega);obtain⟨e1,e2⟩:=Fa f.low f.pos f.dpos f.val;refine⟨A,B,f.res (by omega),c,fun v u w i j=> ?_⟩;have:=Hu v u p q x y w i j h.rs1 h.rs2 k.rs1 k.rs2 h.pos k.pos;rw[e1,e2]at this;exact this
theorem MK{p q x y:Nat}(h:Lo p q)(k:Lo x y): ∃A B ok,Res A B∧(∀v u w,Rt w v p q→Rt w u x y→Tab w→Calls Tryz.prog 23 #[v,u] w (AQ w A B ok))∧(∀v u w,RRt w v p q→RRt w u x y→Calls Tryz.prog 24 #[v,u] w (A5 w A B ok)):=by
 by_cases hle:x*q≤p*y
 ·obtain⟨A,B,f,c⟩:=h.fc.sub k.fc (by omega) (by omega) hle;obtain⟨e1,e2⟩:=Fa f.low f.pos f.dpos f.val;refine⟨A,B,true,f.res (by omega),c,fun v u w i j=> ?_⟩;have:=Hv v u p q x y w i j h.rs1 h.rs2 k.rs1 k.rs2 h.pos k.pos hle;rw[e1,e2]at this;exact this
 exact⟨0,1,false,Res.zero,h.fc.sub_no k.fc (by omega) (by omega) (by omega),fun v u w i j=>MD v u p q x y w i j h.rs1 h.rs2 k.rs1 k.rs2 (by omega)⟩
theorem ML{p q x y:Nat}(h:Lo p q)(k:Lo x y): ∃A B ok,Res A B∧(∀v u w,Rt w v p q→Rt w u x y→Tab w→Calls Tryz.prog 27 #[v,u] w (AQ w A B ok))∧(∀v u w,RRt w v p q→RRt w u x y→Calls Tryz.prog 28 #[v,u] w (A5 w A B ok)):=by
 rcases Nat.eq_zero_or_pos x with hx|hx
 ·exact⟨0,1,false,Res.zero,fun v u w i j t=>LB v u p q x y w i j h.rs1 h.rs2 k.rs1 k.rs2 hx t,fun v u w i j=>ME v u p q x y w i j hx⟩
 obtain⟨A,B,f,c⟩:=h.fc.div k.fc (by omega) (by omega) hx;obtain⟨e1,e2⟩:=Fa f.low f.pos f.dpos f.val;refine⟨A,B,true,f.res (by omega),c,fun v u w i j=> ?_⟩;have:=FK v u p q x y w i j h.rs1 h.rs2 k.rs1 k.rs2 h.pos hx;rw[e1,e2]at this;exact this
theorem Jw{p q:Nat}(h:Lo p q)(n:Int)(hn:n≤9223372036854775807): ∃A B ok,Res A B∧(∀v w,Rt w v p q→Tab w→Calls Tryz.prog 29 #[v,.int .i64 n] w (AQ w A B ok))∧(∀v w,RRt w v p q→Calls Tryz.prog 30 #[v,.int .i64 n] w (A5 w A B ok)):=by
 by_cases h0:n<0
 ·exact⟨0,1,false,Res.zero,fun v w i t=>IY v p q n w i h0,fun v w i=>Jt v p q n w i h0⟩
 obtain⟨m,rfl⟩: ∃m:Nat,n=(m:Int):=⟨n.toNat,by omega⟩;obtain⟨A,B,f,c⟩:=h.fc.mulInt (k:=m) (by omega) (by omega);obtain⟨e1,e2⟩:=Fa (N:=p*m) (D:=q*1) f.low f.pos (by rw[Nat.mul_one];exact f.dpos) (by rw[Nat.mul_one];exact f.val);refine⟨A,B,true,f.res (by omega),c,fun v w i=> ?_⟩;have:=Ja v p q m w i h.rs1 h.rs2 h.pos (by omega);rw[e1,e2]at this;exact this
theorem Jx{p q:Nat}(h:Lo p q)(n:Int)(hn:n≤9223372036854775807): ∃A B ok,Res A B∧(∀v w,Rt w v p q→Tab w→Calls Tryz.prog 31 #[v,.int .i64 n] w (AQ w A B ok))∧(∀v w,RRt w v p q→Calls Tryz.prog 32 #[v,.int .i64 n] w (A5 w A B ok)):=by
 by_cases h0:n<1
 ·exact⟨0,1,false,Res.zero,fun v w i t=>I0 v p q n w i h0,fun v w i=>Ju v p q n w i h0⟩
 obtain⟨m,rfl⟩: ∃m:Nat,n=(m:Int):=⟨n.toNat,by omega⟩;obtain⟨A,B,f,c⟩:=h.fc.divInt (k:=m) (by omega) (by omega) (by omega);obtain⟨e1,e2⟩:=Fa (N:=p*1) (D:=q*m) f.low f.pos f.dpos (by rw[Nat.mul_one];exact f.val);refine⟨A,B,true,f.res (by omega),c,fun v w i=> ?_⟩;have:=Jb v p q m w i h.rs1 h.rs2 h.pos (by omega) (by omega);rw[e1,e2]at this;exact this
theorem MM{p q x y:Nat}(h:Lo p q)(k:Lo x y): ∃A B,Res A B∧(∀v u w,Rt w v p q→Rt w u x y→Calls Tryz.prog 35 #[v,u] w (Bg w A B))∧(∀v u w,RRt w v p q→RRt w u x y→Calls Tryz.prog 36 #[v,u] w (Bc w A B)):=by
 obtain⟨A,B,hB,hg,hb⟩:=Ge q p q x y (Nat.le_refl _) h.pos k.pos h.g k.g;have bs:=Hj hb h.pos (Nat.le_total _ _);exact⟨A,B,⟨hg,hB,(h.rs1.le bs.1).g,(h.rs2.le bs.2).g⟩,fun v u w i j=>Jv q v u p q x y A B w (Nat.le_refl _) i j ⟨h.a,h.b,k.a,k.b⟩ hb hB,fun v u w i j=>MH v u p q x y A B w i j ⟨h.rs1,h.rs2,k.rs1,k.rs2⟩ ⟨h.pos,k.pos⟩ ⟨h.g,k.g⟩ hb hB⟩
theorem MN{p q x y:Nat}(h:Lo p q)(k:Lo x y): ∃z:Int,(∀v u w,Rt w v p q→Rt w u x y→Calls Tryz.prog 13 #[v,u] w fun e w'=>e=.returned (.int .i64 z)∧Below w.heap.size w w')∧(∀v u w,RRt w v p q→RRt w u x y→Calls Tryz.prog 37 #[v,u] w fun e w'=>e=.returned (.int .i64 z)∧Below w.heap.size w w'):=
 ⟨Az (p*y) (x*q),fun v u w i j=>Ec v u p q x y w i j h.rs1 h.rs2 k.rs1 k.rs2,fun v u w i j=>Dd v u p q x y w i j h.rs1 h.rs2 k.rs1 k.rs2⟩
theorem Fc.addF{p q N1 D1 n x y N2 D2 m:Nat}(h:Fc p q N1 D1 n)(k:Fc x y N2 D2 m):Fc (BN p q x y) (Br p q x y) (N1*D2+N2*D1) (D1*D2) (n+m+1):=by
 have low:=Ga h.pos k.pos h.low k.low (A:=Dx p q x y) rfl rfl;have d1:y/Nat.gcd q y<P m:=Nat.lt_of_le_of_lt (Nat.div_le_self _ _) k.s2;have d2:q/Nat.gcd q y<P n:=Nat.lt_of_le_of_lt (Nat.div_le_self _ _) h.s2;have h1:Dx p q x y<P (n+m+1):=Ek (BH h.s1 d1) (by rw[Nat.add_comm n m];exact BH k.s1 d2);have h2:Br p q x y<P (n+m):=BH d2 (Nat.lt_of_le_of_lt (Nat.div_le_self _ _) k.s2);exact⟨low.2.1,low.2.2,Nat.mul_pos h.dpos k.dpos,JY h.pos k.pos h.val k.val (Hw h.pos k.pos h.low k.low),Nat.lt_of_le_of_lt (Nat.div_le_self _ _) h1,Co h2 (by omega)⟩
def G9(w:World)(v:Value)(T:Nat→Nat×Nat):Prop:= ∃g,v=.slice (some ⟨g,0,none⟩) 3 3∧RFr w g 0 3 T
def EN(p q x y s t:Nat):Nat→Nat×Nat:=fun i=>if i=0 then(p,q) else if i=1 then(x,y) else(s,t)
theorem MO{p q x y s t:Nat}(h:Lo p q)(k:Lo x y)(l:Lo s t): ∃A B,Res A B∧(∀v w,DO w v (tri p x s) (tri q y t)→Tab w→Calls Tryz.prog 33 #[v] w (Bg w A B))∧(∀v w,G9 w v (EN p q x y s t)→Calls Tryz.prog 34 #[v] w (Bc w A B)):=by
 have z:Fc 0 1 0 1 1:=⟨by simp,by omega,by omega,rfl,by rw[CK];omega,by rw[CK];omega⟩;have f1:=z.addF h.fc;have e1:BN 0 1 p q=p∧Br 0 1 p q=q:=by
  have k1:Fc p q (0*q+p*1) (1*q) 47:=by
   rw[Nat.zero_mul,Nat.zero_add,Nat.mul_one,Nat.one_mul];exact h.fc
  exact f1.one k1
 have f2:=h.fc.addF k.fc;have f3:=f2.addF l.fc;have g1:AZ (tri p x s) (tri q y t) 1=(p,q):=by
  show(BN 0 1 p q,Br 0 1 p q)=(p,q);rw[e1.1,e1.2]
 have g2:AZ (tri p x s) (tri q y t) 2=(BN p q x y,Br p q x y):=by
  rw[AZ,g1];rfl
 have g3:AZ (tri p x s) (tri q y t) 3=(BN (BN p q x y) (Br p q x y) s t,Br (BN p q x y) (Br p q x y) s t):=by
  rw[AZ,g2];rfl
 have step: ∀{P1 Q1 X Y:Nat},Nat.gcd P1 Q1=1→0<Q1→Nat.gcd X Y=1→0<Y→(P1*Y+X*Q1)/Nat.gcd (P1*Y+X*Q1) (Q1*Y)=BN P1 Q1 X Y∧(Q1*Y)/Nat.gcd (P1*Y+X*Q1) (Q1*Y)=Br P1 Q1 X Y:=fun a b c d=>IV b d a c;have r1:Bx (EN p q x y s t) 1=(p,q):=by
  show((0*q+p*1)/Nat.gcd (0*q+p*1) (1*q),(1*q)/Nat.gcd (0*q+p*1) (1*q))=(p,q);rw[(step (by simp) (by omega) h.g h.pos).1,(step (by simp) (by omega) h.g h.pos).2,e1.1,e1.2]
 have r2:Bx (EN p q x y s t) 2=(BN p q x y,Br p q x y):=by
  have:Bx (EN p q x y s t) 2=((p*y+x*q)/Nat.gcd (p*y+x*q) (q*y),(q*y)/Nat.gcd (p*y+x*q) (q*y)):=by
   rw[Bx,r1];rfl
  rw[this,(step h.g h.pos k.g k.pos).1,(step h.g h.pos k.g k.pos).2]
 have r3:Bx (EN p q x y s t) 3=(BN (BN p q x y) (Br p q x y) s t,Br (BN p q x y) (Br p q x y) s t):=by
  have:Bx (EN p q x y s t) 3=((BN p q x y*t+s*Br p q x y)/Nat.gcd (BN p q x y*t+s*Br p q x y) (Br p q x y*t),(Br p q x y*t)/Nat.gcd (BN p q x y*t+s*Br p q x y) (Br p q x y*t)):=by
   rw[Bx,r2];rfl
  rw[this,(step f2.low f2.pos l.g l.pos).1,(step f2.low f2.pos l.g l.pos).2]
 refine⟨_,_,f3.res (by omega),fun v w hv hT=> ?_,fun v w hv=> ?_⟩
 ·obtain⟨g,E,E',rfl,hg,he⟩:=hv;have L1:RL p∧RL q:=⟨h.rs1.l,h.rs2.l⟩;have L2:RL x∧RL y:=⟨k.rs1.l,k.rs2.l⟩;have L3:RL s∧RL t:=⟨l.rs1.l,l.rs2.l⟩;have hs: ∀i,i<3→RL (tri p x s i)∧RL (tri q y t i)∧RL (AZ (tri p x s) (tri q y t) i).1∧RL (AZ (tri p x s) (tri q y t) i).2:=fun i hi=>by
   match i,hi with
   |0,_=>exact⟨L1.1,L1.2,(Bn (x:=0) (by omega)).l,(Bn (x:=1) (by omega)).l⟩
   |1,_=>rw[g1];exact⟨L2.1,L2.2,L1.1,L1.2⟩
   |2,_=>rw[g2];exact⟨L3.1,L3.2,⟨Co f2.s1 (by omega)⟩,⟨Co f2.s2 (by omega)⟩⟩
  have:=Gr g 3 3 E E' (tri p x s) (tri q y t) w (by omega) (by omega) (by omega) he hs hg hT;rw[g3]at this;exact this
 obtain⟨g,rfl,hr⟩:=hv;have q1:p<P 400∧q<P 400∧0<q:=⟨Co h.a (by omega),Co h.b (by omega),h.pos⟩;have q2:x<P 400∧y<P 400∧0<y:=⟨Co k.a (by omega),Co k.b (by omega),k.pos⟩;have q3:s<P 400∧t<P 400∧0<t:=⟨Co l.a (by omega),Co l.b (by omega),l.pos⟩;have z0:(0:Nat)<P 400∧1<P 400∧0<1:=⟨CV _,Co z.s2 (by omega),by omega⟩;have:=LM g 0 3 3 (EN p q x y s t) w hr (by omega) (by omega) (by omega) (fun i hi=>by
  match i,hi with
  |0,_=>exact q1
  |1,_=>exact q2
  |2,_=>exact q3) (fun i hi=>by
  match i,hi with
  |0,_=>exact z0
  |1,_=>rw[r1];exact q1
  |2,_=>rw[r2];exact⟨Co f2.s1 (by omega),Co f2.s2 (by omega),f2.pos⟩
  |3,_=>rw[r3];exact⟨Co f3.s1 (by omega),Co f3.s2 (by omega),f3.pos⟩)
 rw[r3]at this;exact this
structure BelX (S:Nat→Prop) (a w:World):Prop where
 os:w.os=a.os
 tape:w.tape=a.tape
 output:w.output=a.output
 size:a.heap.size≤w.heap.size
 block: ∀k,k<a.heap.size→ ¬S k→w.heap[k]? =a.heap[k]?
theorem BelX.refl(S:Nat→Prop)(a:World):BelX S a a:=⟨rfl,rfl,rfl,Nat.le_refl _,fun _ _ _=>rfl⟩
theorem BelX.go{S:Nat→Prop}{a w w':World}(h:BelX S a w)(k:Below w.heap.size w w'):BelX S a w':=
 ⟨k.os.trans h.os,k.tape.trans h.tape,k.output.trans h.output,Nat.le_trans h.size k.size,fun i hi hs=>(k.block i (Nat.lt_of_lt_of_le hi h.size)).trans (h.block i hi hs)⟩
theorem BelX.set{S:Nat→Prop}{a w:World}(h:BelX S a w){p:Addr}(hp:S p.block∨a.heap.size≤p.block)(u:Value):BelX S a (w.setCell p u):=
 ⟨h.os,h.tape,h.output,by simpa[World.setCell]using h.size,fun k hk hs=>by
  rw[Below.heap_setCell _ _ _ _ (fun e=>by subst e;rcases hp with e|e;exact hs e;omega)];exact h.block k hk hs⟩
theorem BelX.cell{S:Nat→Prop}{a w:World}(h:BelX S a w){p:Addr}{v:Value}(hc:a.cell? p=some v)(hs: ¬S p.block):w.cell? p=some v:=by
 rw[World.cell?_of_block (h.block _ (World.block_lt_of_cell? _ _ hc) hs)];exact hc
theorem BelX.frozen{S:Nat→Prop}{a w:World}(h:BelX S a w){p:Addr}(hp:p.block<a.heap.size)(hs: ¬S p.block):w.frozen? p=a.frozen? p:=by
 simp only[World.frozen?,h.block _ hp hs]
theorem BelX.below{S:Nat→Prop}{w0 a w:World}(h:BelX S a w)(hb:Below w0.heap.size w0 a)(hs: ∀k,S k→w0.heap.size≤k):Below w0.heap.size w0 w:=
 ⟨h.os.trans hb.os,h.tape.trans hb.tape,h.output.trans hb.output,Nat.le_trans hb.size h.size,fun k hk=>(h.block k (Nat.lt_of_lt_of_le hk hb.size) (fun e=>by have:=hs k e;omega)).trans (hb.block k hk)⟩
def Ob2(L:Nat→Bool)(vs:Nat→Value)(w:World)(bk s v:Nat):Prop:=
 w.frozen? ⟨bk,0,none⟩=false∧w.frozen? ⟨bk,1,none⟩=false∧(L s=false→(∃a n c,w.cell? ⟨bk,0,none⟩=some (.slice a n c))∧ ∃a n c,w.cell? ⟨bk,1,none⟩=some (.slice a n c))∧(L s=true→L v=true∧ ∃u u',vs v=.agg #[u,u']∧w.cell? ⟨bk,0,none⟩=some u∧w.cell? ⟨bk,1,none⟩=some u')
def Ha(olds:List (Nat×Nat))(news:List (Nat×Nat×Nat))(i:Nat):Bool:=olds.all (fun s=>s.1 != i)&&news.all (fun b=>b.1 != i&&b.2.1 != i)
structure JG (w0:World) (K:World→Prop) (olds:List (Nat×Nat)) (blk:Nat→Nat) (news:List (Nat×Nat×Nat)) (specs:List Spec) (L:Nat→Bool) (vs:Nat→Value) (w:World):Prop where
 stab:Stab (fun w (_:Value)=>K w)
 bel:BelX (fun b=> ∃s∈olds,blk s.1=b) w0 w
 keep:K w
 sp: ∀i,L i=true→(specs.getD i sAny).1 w (vs i)
 old: ∀s∈olds,blk s.1<w0.heap.size∧Ob2 L vs w (blk s.1) s.1 s.2
 dis: ∀s∈olds,∀s'∈olds,s=s'∨(blk s.1≠blk s'.1∧s.1≠s'.1)
 bx: ∀b∈news,L b.1=true→ ∃bk,vs b.1=.pointer (some ⟨bk,0,none⟩)∧w0.heap.size≤bk∧bk<w.heap.size∧Ob2 L vs w bk b.2.1 b.2.2
 dj: ∀b∈news,∀b'∈news,L b.1=true→L b'.1=true→b≠b'→vs b.1≠vs b'.1
 cl: ∀b∈news,L b.2.1=true→L b.1=true
theorem Ob2.go{L:Nat→Bool}{vs:Nat→Value}{w w':World}{bk s v:Nat}(h:Ob2 L vs w bk s v)(hb:Below w.heap.size w w')(hlt:bk<w.heap.size){i:Nat}(hL:L i=false)(hi:s≠i){x:Value}:Ob2 (Am L i) (As vs i x) w' bk s v:=by
 obtain⟨f0,f1,h1,h2⟩:=h;have c0:w'.cell? ⟨bk,0,none⟩=w.cell? ⟨bk,0,none⟩:=hb.cell (p:=⟨bk,0,none⟩) hlt;have c1:w'.cell? ⟨bk,1,none⟩=w.cell? ⟨bk,1,none⟩:=hb.cell (p:=⟨bk,1,none⟩) hlt;refine⟨(hb.frozen (p:=⟨bk,0,none⟩) hlt).trans f0,(hb.frozen (p:=⟨bk,1,none⟩) hlt).trans f1,fun e=> ?_,fun e=> ?_⟩
 ·rw[c0,c1];exact h1 (by simpa[Am,hi]using e)
 obtain⟨q1,u,u',q2,q3,q4⟩:=h2 (by simpa[Am,hi]using e);have hv:v≠i:=fun e=>by rw[e,hL]at q1;cases q1
 exact⟨by simp[Am,q1],u,u',by simpa[As,hv]using q2,by rw[c0];exact q3,by rw[c1];exact q4⟩
theorem Ob2.far{L:Nat→Bool}{vs:Nat→Value}{w:World}{bk s v:Nat}(h:Ob2 L vs w bk s v){g:Nat}(hg:bk≠g){i:Nat}(hL:L i=false)(hi:s≠i){x u0 u1:Value}:Ob2 (Am L i) (As vs i x) ((w.setCell ⟨g,0,none⟩ u0).setCell ⟨g,1,none⟩ u1) bk s v:=by
 obtain⟨f0,f1,h1,h2⟩:=h;have c: ∀j,((w.setCell ⟨g,0,none⟩ u0).setCell ⟨g,1,none⟩ u1).cell? ⟨bk,j,none⟩=w.cell? ⟨bk,j,none⟩:=fun j=>by
  rw[World.cell?_setCell_far _ _ _ _ (by simpa using Ne.symm hg),World.cell?_setCell_far _ _ _ _ (by simpa using Ne.symm hg)]
 refine⟨by simp[World.frozen?_setCell,f0],by simp[World.frozen?_setCell,f1],fun e=> ?_,fun e=> ?_⟩
 ·rw[c,c];exact h1 (by simpa[Am,hi]using e)
 obtain⟨q1,u,u',q2,q3,q4⟩:=h2 (by simpa[Am,hi]using e);have hv:v≠i:=fun e=>by rw[e,hL]at q1;cases q1
 exact⟨by simp[Am,q1],u,u',by simpa[As,hv]using q2,by rw[c];exact q3,by rw[c];exact q4⟩
theorem Ob2.put{L:Nat→Bool}{vs:Nat→Value}{w:World}{bk s v:Nat}(h:Ob2 L vs w bk s v)(hL:L s=false)(hV:L v=true){u u':Value}(hu:vs v=.agg #[u,u']):Ob2 (Am L s) (As vs s undef) ((w.setCell ⟨bk,0,none⟩ u).setCell ⟨bk,1,none⟩ u') bk s v:=by
 obtain⟨f0,f1,h1,_⟩:=h;obtain⟨⟨a,n,c,hc0⟩,a',n',c',hc1⟩:=h1 hL;have hd:(w.setCell ⟨bk,0,none⟩ u).cell? ⟨bk,1,none⟩=some (.slice a' n' c'):=by rw[World.cell?_setCell_other (h:=by simp),hc1]
 have hv:v≠s:=fun e=>by rw[e,hL]at hV;cases hV
 refine⟨by simp[World.frozen?_setCell,f0],by simp[World.frozen?_setCell,f1],fun e=>by simp[Am]at e,fun _=>⟨by simp[Am,hV],u,u',by simpa[As,hv]using hu,?_,?_⟩⟩
 ·rw[World.cell?_setCell_other (h:=by simp)];simp[go_sem,hc0]
 simp[go_sem,hd]
theorem JG.start{w:World}{K:World→Prop}(hK:Stab (fun w (_:Value)=>K w))(k:K w)(olds:List (Nat×Nat))(blk:Nat→Nat)(news:List (Nat×Nat×Nat))(specs:List Spec)(ho: ∀s∈olds,(∃a n c,w.cell? ⟨blk s.1,0,none⟩=some (.slice a n c))∧(∃a n c,w.cell? ⟨blk s.1,1,none⟩=some (.slice a n c))∧w.frozen? ⟨blk s.1,0,none⟩=false∧w.frozen? ⟨blk s.1,1,none⟩=false)(hd: ∀s∈olds,∀s'∈olds,s=s'∨(blk s.1≠blk s'.1∧s.1≠s'.1)):JG w K olds blk news specs (fun _=>false) (fun _=>undef) w.drew:=by
 have hb:Below w.heap.size w w.drew:=Au (Below.refl _ _);refine⟨hK,(BelX.refl _ _).go hb,hK.mono (v:=undef) k hb,(fun _ h=>by cases h),fun s hs=> ?_,hd,(fun _ _ h=>by cases h),(fun _ _ _ _ h=>by cases h),(fun _ _ h=>by cases h)⟩;obtain⟨⟨a,n,c,c0⟩,⟨a',n',c',c1⟩,f0,f1⟩:=ho s hs;have lt:blk s.1<w.heap.size:=World.block_lt_of_cell? _ _ c0;exact⟨lt,(hb.frozen (p:=⟨blk s.1,0,none⟩) lt).trans f0,(hb.frozen (p:=⟨blk s.1,1,none⟩) lt).trans f1,fun _=>⟨⟨a,n,c,cell_later hb c0⟩,a',n',c',cell_later hb c1⟩,(fun h=>by cases h)⟩
theorem MP{olds:List (Nat×Nat)}{news:List (Nat×Nat×Nat)}{i:Nat}(h:Ha olds news i=true){s:Nat×Nat}(hs:s∈olds):s.1≠i:=by
 simp only[Ha,Bool.and_eq_true,List.all_eq_true]at h;simpa using h.1 s hs
theorem Ev{olds:List (Nat×Nat)}{news:List (Nat×Nat×Nat)}{i:Nat}(h:Ha olds news i=true){b:Nat×Nat×Nat}(hs:b∈news):b.1≠i∧b.2.1≠i:=by
 simp only[Ha,Bool.and_eq_true,List.all_eq_true]at h;simpa using h.2 b hs
theorem JG.step{w0:World}{K:World→Prop}{olds:List (Nat×Nat)}{blk:Nat→Nat}{news:List (Nat×Nat×Nat)}{specs:List Spec}{L:Nat→Bool}{vs:Nat→Value}{w w':World}(h:JG w0 K olds blk news specs L vs w){i:Nat}(hL:L i=false)(hf:Ha olds news i=true)(hb:Below w.heap.size w w'){v:Value}(hs:(specs.getD i sAny).1 w' v):JG w0 K olds blk news specs (Am L i) (As vs i v) w':=by
 have oldV: ∀j,L j=true→As vs i v j=vs j:=fun j hj=>by
  have:j≠i:=fun e=>by rw[e,hL]at hj;cases hj
  simp[As,this]
 refine⟨h.stab,h.bel.go hb,h.stab.mono (v:=undef) h.keep hb,fun j hj=> ?_,fun s hs=> ?_,h.dis,fun b hm hl=> ?_,fun b hm b' hm' hl hl' hne=> ?_,fun b hm hl=> ?_⟩
 ·by_cases e:j=i
  ·subst e;simpa[As]using hs
  have hj':L j=true:=by simpa[Am,e]using hj
  rw[oldV j hj'];exact(specs.getD j sAny).2.mono (h.sp j hj') hb
 ·obtain⟨q1,q2⟩:=h.old s hs;exact⟨q1,q2.go hb (Nat.lt_of_lt_of_le q1 h.bel.size) hL (MP hf hs)⟩
 ·have hl':L b.1=true:=by simpa[Am,(Ev hf hm).1]using hl
  obtain⟨bk,e1,e2,e3,e4⟩:=h.bx b hm hl';exact⟨bk,by rw[oldV _ hl'];exact e1,e2,Nat.lt_of_lt_of_le e3 hb.size,e4.go hb e3 hL (Ev hf hm).2⟩
 ·have m1:L b.1=true:=by simpa[Am,(Ev hf hm).1]using hl
  have m2:L b'.1=true:=by simpa[Am,(Ev hf hm').1]using hl'
  rw[oldV _ m1,oldV _ m2];exact h.dj b hm b' hm' m1 m2 hne
 have:=h.cl b hm (by simpa[Am,(Ev hf hm).2]using hl);simp[Am,this]
theorem JG.cel{w0:World}{K:World→Prop}{olds:List (Nat×Nat)}{blk:Nat→Nat}{news:List (Nat×Nat×Nat)}{specs:List Spec}{L:Nat→Bool}{vs:Nat→Value}{w:World}(h:JG w0 K olds blk news specs L vs w){p:Addr}{v:Value}(hc:w0.cell? p=some v)(hn: ∀s∈olds,blk s.1≠p.block):w.cell? p=some v:=
 h.bel.cell hc (fun⟨s,hs,e⟩=>hn s hs e)
theorem JG.set{w0:World}{K:World→Prop}{olds:List (Nat×Nat)}{blk:Nat→Nat}{news:List (Nat×Nat×Nat)}{specs:List Spec}{L:Nat→Bool}{vs:Nat→Value}{w:World}(h:JG w0 K olds blk news specs L vs w){s:Nat×Nat}(hs:s∈olds)(hL:L s.1=false)(hV:L s.2=true)(hnn: ∀b∈news,b.1≠s.1∧b.2.1≠s.1)(hsp:specs.getD s.1 sAny=sAny){u u':Value}(hu:vs s.2=.agg #[u,u']):
  JG w0 K olds blk news specs (Am L s.1) (As vs s.1 undef) ((w.setCell ⟨blk s.1,0,none⟩ u).setCell ⟨blk s.1,1,none⟩ u'):=by
 have oldV: ∀j,L j=true→As vs s.1 undef j=vs j:=fun j hj=>by
  have:j≠s.1:=fun e=>by rw[e,hL]at hj;cases hj
  simp[As,this]
 obtain⟨lt,ob⟩:=h.old s hs;obtain⟨⟨a,n,c,hc0⟩,a',n',c',hc1⟩:=ob.2.2.1 hL;obtain⟨n1,n2⟩:=Cv hc0 hc1 u;refine⟨h.stab,(h.bel.set (p:=⟨blk s.1,0,none⟩) (.inl ⟨s,hs,rfl⟩) u).set (p:=⟨blk s.1,1,none⟩) (.inl ⟨s,hs,rfl⟩) u',h.stab.set (v:=undef) (h.stab.set (v:=undef) h.keep n1 u) n2 u',fun j hj=> ?_,fun s' hs'=> ?_,h.dis,fun b hm hl=> ?_,fun b hm b' hm' hl hl' hne=> ?_,fun b hm hl=> ?_⟩
 ·by_cases e:j=s.1
  ·subst e;rw[hsp];trivial
  have hj':L j=true:=by simpa[Am,e]using hj
  rw[oldV j hj'];exact(specs.getD j sAny).2.set ((specs.getD j sAny).2.set (h.sp j hj') n1 u) n2 u'
 ·obtain⟨q1,q2⟩:=h.old s' hs';refine⟨q1,?_⟩;rcases h.dis s' hs' s hs with e| ⟨e,e'⟩
  ·subst e;exact q2.put hL hV hu
  exact q2.far e hL e'
 ·have hl':L b.1=true:=by simpa[Am,(hnn b hm).1]using hl
  obtain⟨bk,e1,e2,e3,e4⟩:=h.bx b hm hl';exact⟨bk,by rw[oldV _ hl'];exact e1,e2,by simpa[World.setCell]using e3,e4.far (by omega) hL (hnn b hm).2⟩
 ·have m1:L b.1=true:=by simpa[Am,(hnn b hm).1]using hl
  have m2:L b'.1=true:=by simpa[Am,(hnn b' hm').1]using hl'
  rw[oldV _ m1,oldV _ m2];exact h.dj b hm b' hm' m1 m2 hne
 have:=h.cl b hm (by simpa[Am,(hnn b hm).2]using hl);simp[Am,this]
theorem JG.alloc{w0:World}{K:World→Prop}{olds:List (Nat×Nat)}{blk:Nat→Nat}{news:List (Nat×Nat×Nat)}{specs:List Spec}{L:Nat→Bool}{vs:Nat→Value}{w:World}(h:JG w0 K olds blk news specs L vs w){b:Nat×Nat×Nat}(hbm:b∈news)(hL:L b.1=false)(hone: ∀b'∈news,b'.2.1≠b.1∧(b'.1=b.1→b'=b))(hno: ∀s∈olds,s.1≠b.1)(hsp:specs.getD b.1 sAny=sAny)(t:TypeId):
  JG w0 K olds blk news specs (Am L b.1) (As vs b.1 (.pointer (some ⟨w.heap.size,0,none⟩))) (w.alloc (.cells #[.slice none 0 0,.slice none 0 0] t)):=by
 have hb:Below w.heap.size w (w.alloc (.cells #[.slice none 0 0,.slice none 0 0] t)):=(Below.refl _ _).alloc (Nat.le_refl _) _;have oldV: ∀j,L j=true→As vs b.1 (.pointer (some ⟨w.heap.size,0,none⟩)) j=vs j:=fun j hj=>by
  have:j≠b.1:=fun e=>by rw[e,hL]at hj;cases hj
  simp[As,this]
 have hst:L b.2.1=false:=by
  cases hs':L b.2.1
  ·rfl
  have:=h.cl b hbm hs';rw[hL]at this;cases this
 refine⟨h.stab,h.bel.go hb,h.stab.mono (v:=undef) h.keep hb,fun j hj=> ?_,fun s hs=> ?_,h.dis,fun b' hm hl=> ?_,fun b1 hm1 b2 hm2 hl1 hl2 hne=> ?_,fun b' hm hl=> ?_⟩
 ·by_cases e:j=b.1
  ·subst e;rw[hsp];trivial
  have hj':L j=true:=by simpa[Am,e]using hj
  rw[oldV j hj'];exact(specs.getD j sAny).2.mono (h.sp j hj') hb
 ·obtain⟨q1,q2⟩:=h.old s hs;exact⟨q1,q2.go hb (Nat.lt_of_lt_of_le q1 h.bel.size) hL (hno s hs)⟩
 ·by_cases e:b'.1=b.1
  ·obtain rfl:=(hone b' hm).2 e;refine⟨w.heap.size,by simp[As],h.bel.size,by simp,by simp[go_sem],by simp[go_sem],fun _=>⟨⟨none,0,0,by simp[go_sem]⟩,none,0,0,by simp[go_sem]⟩,fun hs'=> ?_⟩;have hn:=(hone b' hm).1;simp[Am,hn,hst]at hs'
  have hl':L b'.1=true:=by simpa[Am,e]using hl
  obtain⟨bk,e1,e2,e3,e4⟩:=h.bx b' hm hl';exact⟨bk,by rw[oldV _ hl'];exact e1,e2,Nat.lt_of_lt_of_le e3 hb.size,e4.go hb e3 hL (hone b' hm).1⟩
 ·have hnew: ∀b'∈news,L b'.1=true→vs b'.1≠ .pointer (some ⟨w.heap.size,0,none⟩):=fun b' hm hl e=>by
   obtain⟨bk,e1,_,e3,_⟩:=h.bx b' hm hl;rw[e1]at e;simp at e
  by_cases e1:b1.1=b.1
  ·by_cases e2:b2.1=b.1
   ·exact absurd (((hone b1 hm1).2 e1).trans ((hone b2 hm2).2 e2).symm) hne
   have m2:L b2.1=true:=by simpa[Am,e2]using hl2
   rw[oldV _ m2,e1];simp only[As,if_true];exact fun e=>hnew b2 hm2 m2 e.symm
  have m1:L b1.1=true:=by simpa[Am,e1]using hl1
  by_cases e2:b2.1=b.1
  ·rw[oldV _ m1,e2];simp only[As,if_true];exact hnew b1 hm1 m1
  have m2:L b2.1=true:=by simpa[Am,e2]using hl2
  rw[oldV _ m1,oldV _ m2];exact h.dj b1 hm1 b2 hm2 m1 m2 hne
 have:=h.cl b' hm (by simpa[Am,(hone b' hm).1]using hl);simp[Am,this]
theorem JG.store{w0:World}{K:World→Prop}{olds:List (Nat×Nat)}{blk:Nat→Nat}{news:List (Nat×Nat×Nat)}{specs:List Spec}{L:Nat→Bool}{vs:Nat→Value}{w:World}(h:JG w0 K olds blk news specs L vs w){b:Nat×Nat×Nat}(hbm:b∈news)(hL:L b.2.1=false)(hA:L b.1=true)(hV:L b.2.2=true)(hone: ∀b'∈news,b'.1≠b.2.1∧(b'.2.1=b.2.1→b'=b)∧(b'.1=b.1→b'=b))(hno: ∀s∈olds,s.1≠b.2.1)(hsp:specs.getD b.2.1 sAny=sAny){bk:Nat}(hp:vs b.1=.pointer (some ⟨bk,0,none⟩)){u u':Value}(hu:vs b.2.2=.agg #[u,u']):
  JG w0 K olds blk news specs (Am L b.2.1) (As vs b.2.1 undef) ((w.setCell ⟨bk,0,none⟩ u).setCell ⟨bk,1,none⟩ u'):=by
 have oldV: ∀j,L j=true→As vs b.2.1 undef j=vs j:=fun j hj=>by
  have:j≠b.2.1:=fun e=>by rw[e,hL]at hj;cases hj
  simp[As,this]
 obtain⟨bk',e1,e2,e3,ob⟩:=h.bx b hbm hA;obtain rfl:bk'=bk:=by rw[e1]at hp;cases hp;rfl
 obtain⟨⟨a,n,c,hc0⟩,a',n',c',hc1⟩:=ob.2.2.1 hL;obtain⟨n1,n2⟩:=Cv hc0 hc1 u;refine⟨h.stab,(h.bel.set (p:=⟨bk',0,none⟩) (.inr e2) u).set (p:=⟨bk',1,none⟩) (.inr e2) u',h.stab.set (v:=undef) (h.stab.set (v:=undef) h.keep n1 u) n2 u',fun j hj=> ?_,fun s' hs'=> ?_,h.dis,fun b' hm hl=> ?_,fun b1 hm b2 hm' hl hl' hne=> ?_,fun b' hm hl=> ?_⟩
 ·by_cases e:j=b.2.1
  ·subst e;rw[hsp];trivial
  have hj':L j=true:=by simpa[Am,e]using hj
  rw[oldV j hj'];exact(specs.getD j sAny).2.set ((specs.getD j sAny).2.set (h.sp j hj') n1 u) n2 u'
 ·obtain⟨q1,q2⟩:=h.old s' hs';exact⟨q1,q2.far (by omega) hL (hno s' hs')⟩
 ·obtain⟨m1,m2,m3⟩:=hone b' hm;have hl':L b'.1=true:=by simpa[Am,m1]using hl
  by_cases e:b'=b
  ·subst e;exact⟨bk',by rw[oldV _ hA];exact e1,e2,by simpa[World.setCell]using e3,ob.put hL hV hu⟩
  obtain⟨bk2,q1,q2,q3,q4⟩:=h.bx b' hm hl';have hne:bk2≠bk':=fun e7=>h.dj b' hm b hbm hl' hA e (by rw[q1,e1,e7]);exact⟨bk2,by rw[oldV _ hl'];exact q1,q2,by simpa[World.setCell]using q3,q4.far hne hL (fun e9=>e (m2 e9))⟩
 ·have m1:L b1.1=true:=by simpa[Am,(hone b1 hm).1]using hl
  have m2:L b2.1=true:=by simpa[Am,(hone b2 hm').1]using hl'
  rw[oldV _ m1,oldV _ m2];exact h.dj b1 hm b2 hm' m1 m2 hne
 have m1:L b'.1=true:=by
  by_cases e:b'.2.1=b.2.1
  ·rw[(hone b' hm).2.1 e];exact hA
  exact h.cl b' hm (by simpa[Am,e]using hl)
 simp[Am,(hone b' hm).1,m1]
theorem Jd(n:Int):bits .and .i64 n 3=n%4:=by
 have h127:(BitVec.ofInt 64 3).toNat=2^2-1:=by decide
 have key:(BitVec.ofInt 64 n &&& BitVec.ofInt 64 3).toNat=(n%((2^64:Nat):Int)).toNat%2^2:=by
  rw[BitVec.toNat_and,BitVec.toNat_ofInt,h127,Nat.and_two_pow_sub_one_eq_mod]
 show IntKind.i64.wrap ((BitVec.ofInt 64 n &&& BitVec.ofInt 64 3).toNat:Nat)=n%4;rw[key,IntKind.wrap_i64];omega
theorem Ni(t b k:Nat)(hk:k<4)(w:World)(h0:Tryz.prog.underlying t=some (.array (Tryz.prog.arrayLen t) (Tryz.prog.elem t)))(e:Tryz.prog.arrayLen t=4)(s:(sizeOf (Tryz.prog.elem t)).run Tryz.prog w=.ok 2 w):(Instr.indexAt t (.pointer (some ⟨b,0,none⟩)) (.int .i64 (k:Int))).run Tryz.prog w=.ok (.pointer (some ⟨b,k*2,none⟩)) w:=by
 rw[run_indexAt_array (h:=h0),e,if_pos (by omega),s];simp[Addr.add];exact fun h=>h.symm
theorem AV(b k:Nat)(hk:k<4)(w:World):(Instr.indexAt 30 (.pointer (some ⟨b,0,none⟩)) (.int .i64 (k:Int))).run Tryz.prog w=.ok (.pointer (some ⟨b,k*2,none⟩)) w:=
 Ni _ b k hk w (by kernel_rfl) (by kernel_rfl) (by kernel_rfl)
theorem AW(b k:Nat)(hk:k<4)(w:World):(Instr.indexAt 35 (.pointer (some ⟨b,0,none⟩)) (.int .i64 (k:Int))).run Tryz.prog w=.ok (.pointer (some ⟨b,k*2,none⟩)) w:=
 Ni _ b k hk w (by kernel_rfl) (by kernel_rfl) (by kernel_rfl)
theorem Tab.setCell{w:World}(h:Tab w){p:Addr}(hp: ∀k q,w.cell? p≠some (.int k q))(u:Value):Tab (w.setCell p u):=fun j hj=>by
 have hc:=h j hj;rw[World.cell?_setCell_other (h:=fun e=>hp .u8 _ (by rw[e];exact hc))];exact hc
structure KP (E G:Nat→Value) (T:Nat→Nat×Nat) (w:World):Prop where
 r: ∀i,i<4→Rt w (.agg #[E (i*2),E (i*2+1)]) (T i).1 (T i).2
 d: ∀i,i<4→RRt w (.agg #[G (i*2),G (i*2+1)]) (T i).1 (T i).2
 t:Tab w
theorem KP.stab(E G:Nat→Value)(T:Nat→Nat×Nat):Stab (fun w (_:Value)=>KP E G T w):=
 ⟨fun h hb=>⟨fun i hi=>(h.r i hi).mono hb,fun i hi=>(h.d i hi).mono hb,h.t.go hb⟩,fun h hp u=>⟨fun i hi=>(h.r i hi).setCell hp u,fun i hi=>(h.d i hi).setCell hp u,h.t.setCell hp u⟩⟩
theorem KP.go{E G:Nat→Value}{T:Nat→Nat×Nat}{w w':World}(h:KP E G T w)(hb:Below w.heap.size w w'):KP E G T w':=(KP.stab E G T).mono (v:=undef) h hb
def Bj(w:World)(b:Nat):Prop:=(∃a n c,w.cell? ⟨b,0,none⟩=some (.slice a n c))∧(∃a n c,w.cell? ⟨b,1,none⟩=some (.slice a n c))∧w.frozen? ⟨b,0,none⟩=false∧w.frozen? ⟨b,1,none⟩=false
def EO(w:World)(r:Nat)(V:Value):Prop:= ∃a n c a' n' c',V=.agg #[.slice a n c,.slice a' n' c']∧w.cell? ⟨r,0,none⟩=some (.slice a n c)∧w.cell? ⟨r,1,none⟩=some (.slice a' n' c')∧w.frozen? ⟨r,0,none⟩=false∧w.frozen? ⟨r,1,none⟩=false
theorem EO.two{w:World}{r:Nat}{V:Value}(h:EO w r V):Bj w r:=by
 obtain⟨a,n,c,a',n',c',_,c0,c1,f0,f1⟩:=h;exact⟨⟨_,_,_,c0⟩,⟨_,_,_,c1⟩,f0,f1⟩
theorem EO.far{w w':World}{r:Nat}{V:Value}(h:EO w r V){S:Nat→Prop}(j:BelX S w w')(hs: ¬S r):EO w' r V:=by
 obtain⟨a,n,c,a',n',c',e,c0,c1,f0,f1⟩:=h;exact⟨a,n,c,a',n',c',e,j.cell c0 hs,j.cell c1 hs,(j.frozen (World.block_lt_of_cell? _ _ c0) hs).trans f0,(j.frozen (World.block_lt_of_cell? _ _ c1) hs).trans f1⟩
theorem Bj.far{w w':World}{r:Nat}(h:Bj w r){S:Nat→Prop}(j:BelX S w w')(hs: ¬S r):Bj w' r:=by
 obtain⟨⟨a,n,c,c0⟩,⟨a',n',c',c1⟩,f0,f1⟩:=h;exact⟨⟨a,n,c,j.cell c0 hs⟩,⟨a',n',c',j.cell c1 hs⟩,(j.frozen (World.block_lt_of_cell? _ _ c0) hs).trans f0,(j.frozen (World.block_lt_of_cell? _ _ c1) hs).trans f1⟩
structure KQ (E G:Nat→Value) (T:Nat→Nat×Nat) (V15 V16:Value) (X15 X16:Nat×Nat) (w:World):Prop where
 k:KP E G T w
 x:Rt w V15 X15.1 X15.2
 y:RRt w V16 X16.1 X16.2
theorem KQ.stab(E G:Nat→Value)(T:Nat→Nat×Nat)(V15 V16:Value)(X15 X16:Nat×Nat):Stab (fun w (_:Value)=>KQ E G T V15 V16 X15 X16 w):=
 ⟨fun h hb=>⟨h.k.go hb,h.x.mono hb,h.y.mono hb⟩,fun h hp u=>⟨(KP.stab E G T).set (v:=undef) h.k hp u,h.x.setCell hp u,h.y.setCell hp u⟩⟩
structure PS (w0 w:World) (b b15 b16:Nat) (E G:Nat→Value) (T:Nat→Nat×Nat) (V15 V16:Value) (X15 X16:Nat×Nat):Prop where
 keep:KQ E G T V15 V16 X15 X16 w
 c6: ∀i,i<8→w.cell? ⟨b,i,none⟩=some (E i)
 c7: ∀i,i<8→w.cell? ⟨b+1,i,none⟩=some (G i)
 s12:Bj w (b+1+1)
 s13:Bj w (b+1+1+1)
 s15:EO w b15 V15
 s16:EO w b16 V16
 bel:Below w0.heap.size w0 w
 ne:w0.heap.size≤b∧b+1+1+1<b15∧b+1+1+1<b16∧b15≠b16
theorem PS.after{w0 w w':World}{b b15 b16:Nat}{E G:Nat→Value}{T:Nat→Nat×Nat}{V15 V16:Value}{X15 X16:Nat×Nat}(h:PS w0 w b b15 b16 E G T V15 V16 X15 X16){S:Nat→Prop}(j:BelX S w w')(hS: ∀x,S x→x=b15∨x=b16){U15 U16:Value}{Y15 Y16:Nat×Nat}(k:KQ E G T U15 U16 Y15 Y16 w')(r15:EO w' b15 U15)(r16:EO w' b16 U16):PS w0 w' b b15 b16 E G T U15 U16 Y15 Y16:=by
 have hn:=h.ne;have far: ∀g,g≤b+1+1+1→ ¬S g:=fun g hg hs=>by
  have:=hS g hs;omega
 exact⟨k,fun i hi=>j.cell (h.c6 i hi) (far _ (by show b≤_;omega)),fun i hi=>j.cell (h.c7 i hi) (far _ (by show b+1≤_;omega)),h.s12.far j (far _ (by omega)),h.s13.far j (far _ (by omega)),r15,r16,j.below h.bel (fun x hx=>by have:=hS x hx;omega),hn⟩
theorem PS.go{w0 w w':World}{b b15 b16:Nat}{E G:Nat→Value}{T:Nat→Nat×Nat}{V15 V16:Value}{X15 X16:Nat×Nat}(h:PS w0 w b b15 b16 E G T V15 V16 X15 X16)(hb:Below w.heap.size w w'):PS w0 w' b b15 b16 E G T V15 V16 X15 X16:=
 h.after (S:=fun _=>False) ((BelX.refl _ _).go hb) (fun _ e=>e.elim) ((KQ.stab E G T V15 V16 X15 X16).mono (v:=undef) h.keep hb) (h.s15.far ((BelX.refl (fun _=>False) _).go hb) id) (h.s16.far ((BelX.refl (fun _=>False) _).go hb) id)
theorem PS.put15{w0 w w':World}{b b15 b16:Nat}{E G:Nat→Value}{T:Nat→Nat×Nat}{V15 V16:Value}{X15 X16:Nat×Nat}(h:PS w0 w b b15 b16 E G T V15 V16 X15 X16){olds:List (Nat×Nat)}{specs:List Spec}{L:Nat→Bool}{vs:Nat→Value}(j:JG w (KQ E G T V15 V16 X15 X16) olds (fun _=>b15) [] specs L vs w'){A B:Nat}{V:Value}(hV:Rt w' V A B){u u':Value}(e:V=.agg #[u,u'])(c0:w'.cell? ⟨b15,0,none⟩=some u)(c1:w'.cell? ⟨b15,1,none⟩=some u')(f0:w'.frozen? ⟨b15,0,none⟩=false)(f1:w'.frozen? ⟨b15,1,none⟩=false):PS w0 w' b b15 b16 E G T V V16 (A,B) X16:=by
 have hn:=h.ne;have hS: ∀x,(∃s∈olds,(fun _:Nat=>b15) s.1=x)→x=b15:=fun x ⟨_,_,e⟩=>e.symm;obtain⟨a,n,c,a',n',c',ev,_,_⟩:=hV.raw;refine h.after j.bel (fun x hx=>.inl (hS x hx)) ⟨j.keep.k,hV,j.keep.y⟩ ⟨a,n,c,a',n',c',ev,?_,?_,f0,f1⟩ (h.s16.far j.bel (fun hs=>by have:=hS _ hs;omega))
 ·rw[c0];rw[ev]at e;simp at e;rw[e.1]
 rw[c1];rw[ev]at e;simp at e;rw[e.2]
theorem PS.put16{w0 w w':World}{b b15 b16:Nat}{E G:Nat→Value}{T:Nat→Nat×Nat}{V15 V16:Value}{X15 X16:Nat×Nat}(h:PS w0 w b b15 b16 E G T V15 V16 X15 X16){olds:List (Nat×Nat)}{specs:List Spec}{L:Nat→Bool}{vs:Nat→Value}(j:JG w (KQ E G T V15 V16 X15 X16) olds (fun _=>b16) [] specs L vs w'){A B:Nat}{V:Value}(hV:RRt w' V A B){u u':Value}(e:V=.agg #[u,u'])(c0:w'.cell? ⟨b16,0,none⟩=some u)(c1:w'.cell? ⟨b16,1,none⟩=some u')(f0:w'.frozen? ⟨b16,0,none⟩=false)(f1:w'.frozen? ⟨b16,1,none⟩=false):PS w0 w' b b15 b16 E G T V15 V X15 (A,B):=by
 have hn:=h.ne;have hS: ∀x,(∃s∈olds,(fun _:Nat=>b16) s.1=x)→x=b16:=fun x ⟨_,_,e⟩=>e.symm;have hV':=hV;obtain⟨a,n,c,a',n',c',ev,_,_⟩:=hV';refine h.after j.bel (fun x hx=>.inr (hS x hx)) ⟨j.keep.k,j.keep.x,hV⟩ (h.s15.far j.bel (fun hs=>by have:=hS _ hs;omega)) ⟨a,n,c,a',n',c',ev,?_,?_,f0,f1⟩
 ·rw[c0];rw[ev]at e;simp at e;rw[e.1]
 rw[c1];rw[ev]at e;simp at e;rw[e.2]
theorem PS.ho15{w0 w:World}{b b15 b16:Nat}{E G:Nat→Value}{T:Nat→Nat×Nat}{V15 V16:Value}{X15 X16:Nat×Nat}(h:PS w0 w b b15 b16 E G T V15 V16 X15 X16){olds:List (Nat×Nat)}: ∀s∈olds,Bj w ((fun _:Nat=>b15) s.1):=fun _ _=>h.s15.two
theorem PS.ho16{w0 w:World}{b b15 b16:Nat}{E G:Nat→Value}{T:Nat→Nat×Nat}{V15 V16:Value}{X15 X16:Nat×Nat}(h:PS w0 w b b15 b16 E G T V15 V16 X15 X16){olds:List (Nat×Nat)}: ∀s∈olds,Bj w ((fun _:Nat=>b16) s.1):=fun _ _=>h.s16.two
theorem CJ{a b:Nat}{blk:Nat→Nat}: ∀s∈[(a,b)],∀s'∈[(a,b)],s=s'∨(blk s.1≠blk s'.1∧s.1≠s'.1):=fun s h s' h'=>by
 simp only[List.mem_singleton]at h h';exact .inl (h.trans h'.symm)
theorem PS.walk15{w0 w w':World}{b b15 b16:Nat}{E G:Nat→Value}{T:Nat→Nat×Nat}{V15 V16:Value}{X15 X16:Nat×Nat}(h:PS w0 w b b15 b16 E G T V15 V16 X15 X16)(hb:Below w.heap.size w w'){A B:Nat}{a1 a2:Option Addr}{n1 c1 n2 c2:Nat}(hV:Rt w' (.agg #[.slice a1 n1 c1,.slice a2 n2 c2]) A B):PS w0 ((w'.setCell ⟨b15,0,none⟩ (.slice a1 n1 c1)).setCell ⟨b15,1,none⟩ (.slice a2 n2 c2)) b b15 b16 E G T (.agg #[.slice a1 n1 c1,.slice a2 n2 c2]) V16 (A,B) X16:=by
 have h':=h.go hb;have hn:=h.ne;obtain⟨a,n,c,a',n',c',_,c0,c1',f0,f1⟩:=h'.s15;obtain⟨m1,m2⟩:=Cv c0 c1' (.slice a1 n1 c1);have hd:(w'.setCell ⟨b15,0,none⟩ (.slice a1 n1 c1)).cell? ⟨b15,1,none⟩=some (.slice a' n' c'):=by rw[World.cell?_setCell_other (h:=by simp),c1']
 have j:BelX (fun x=>x=b15) w' ((w'.setCell ⟨b15,0,none⟩ (.slice a1 n1 c1)).setCell ⟨b15,1,none⟩ (.slice a2 n2 c2)):=((BelX.refl (fun x=>x=b15) _).set (p:=⟨b15,0,none⟩) (.inl rfl) _).set (p:=⟨b15,1,none⟩) (.inl rfl) _;have k:=(KQ.stab E G T V15 V16 X15 X16).set (v:=undef) ((KQ.stab E G T V15 V16 X15 X16).set (v:=undef) h'.keep m1 (.slice a1 n1 c1)) m2 (.slice a2 n2 c2);refine h'.after j (fun x hx=>.inl hx) ⟨k.k,(hV.setCell m1 _).setCell m2 _,k.y⟩ ⟨a1,n1,c1,a2,n2,c2,rfl,?_,?_,by simp[World.frozen?_setCell,f0],by simp[World.frozen?_setCell,f1]⟩ (h'.s16.far j (fun hs=>by omega))
 ·rw[World.cell?_setCell_other (h:=by simp)];simp[go_sem,c0]
 simp[go_sem,hd]
theorem PS.walk16{w0 w w':World}{b b15 b16:Nat}{E G:Nat→Value}{T:Nat→Nat×Nat}{V15 V16:Value}{X15 X16:Nat×Nat}(h:PS w0 w b b15 b16 E G T V15 V16 X15 X16)(hb:Below w.heap.size w w'){A B:Nat}{a1 a2:Option Addr}{n1 c1 n2 c2:Nat}(hV:RRt w' (.agg #[.slice a1 n1 c1,.slice a2 n2 c2]) A B):PS w0 ((w'.setCell ⟨b16,0,none⟩ (.slice a1 n1 c1)).setCell ⟨b16,1,none⟩ (.slice a2 n2 c2)) b b15 b16 E G T V15 (.agg #[.slice a1 n1 c1,.slice a2 n2 c2]) X15 (A,B):=by
 have h':=h.go hb;have hn:=h.ne;obtain⟨a,n,c,a',n',c',_,c0,c1',f0,f1⟩:=h'.s16;obtain⟨m1,m2⟩:=Cv c0 c1' (.slice a1 n1 c1);have hd:(w'.setCell ⟨b16,0,none⟩ (.slice a1 n1 c1)).cell? ⟨b16,1,none⟩=some (.slice a' n' c'):=by rw[World.cell?_setCell_other (h:=by simp),c1']
 have j:BelX (fun x=>x=b16) w' ((w'.setCell ⟨b16,0,none⟩ (.slice a1 n1 c1)).setCell ⟨b16,1,none⟩ (.slice a2 n2 c2)):=((BelX.refl (fun x=>x=b16) _).set (p:=⟨b16,0,none⟩) (.inl rfl) _).set (p:=⟨b16,1,none⟩) (.inl rfl) _;have k:=(KQ.stab E G T V15 V16 X15 X16).set (v:=undef) ((KQ.stab E G T V15 V16 X15 X16).set (v:=undef) h'.keep m1 (.slice a1 n1 c1)) m2 (.slice a2 n2 c2);refine h'.after j (fun x hx=>.inr hx) ⟨k.k,k.x,(hV.setCell m1 _).setCell m2 _⟩ (h'.s15.far j (fun hs=>by omega)) ⟨a1,n1,c1,a2,n2,c2,rfl,?_,?_,by simp[World.frozen?_setCell,f0],by simp[World.frozen?_setCell,f1]⟩
 ·rw[World.cell?_setCell_other (h:=by simp)];simp[go_sem,c0]
 simp[go_sem,hd]
theorem Cf{w:World}{r:Nat}{V u u':Value}(hs: ∃a n c a' n' c',V=.agg #[.slice a n c,.slice a' n' c'])(e:V=.agg #[u,u'])(c0:w.cell? ⟨r,0,none⟩=some u)(c1:w.cell? ⟨r,1,none⟩=some u')(f0:w.frozen? ⟨r,0,none⟩=false)(f1:w.frozen? ⟨r,1,none⟩=false):EO w r V:=by
 obtain⟨a,n,c,a',n',c',ev⟩:=hs;refine⟨a,n,c,a',n',c',ev,?_,?_,f0,f1⟩
 ·rw[c0];rw[ev]at e;simp at e;rw[e.1]
 rw[c1];rw[ev]at e;simp at e;rw[e.2]
theorem Rt.sls{w:World}{V:Value}{p q:Nat}(h:Rt w V p q): ∃a n c a' n' c',V=.agg #[.slice a n c,.slice a' n' c']:=by
 obtain⟨a,n,c,a',n',c',ev,_,_⟩:=h.raw;exact⟨a,n,c,a',n',c',ev⟩
theorem RRt.sls{w:World}{V:Value}{p q:Nat}(h:RRt w V p q): ∃a n c a' n' c',V=.agg #[.slice a n c,.slice a' n' c']:=by
 obtain⟨a,n,c,a',n',c',ev,_,_⟩:=h;exact⟨a,n,c,a',n',c',ev⟩
def Cp(w:World)(e:Ending)(w':World):Prop:= ∃v u A B,e=.returned (.tuple #[v,u,.bool true])∧Rt w' v A B∧RRt w' u A B∧Res A B∧Below w.heap.size w w'
end Go.Proofs.YtcbjkgphpnihiaaGreatDoor
