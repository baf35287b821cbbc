/- Contracts of the program's functions, part 12: own work, joined in build order. -/
import Derived.Test.YtcbjkgphpnihiaaGreatDoorJ11
namespace Go.Proofs.YtcbjkgphpnihiaaGreatDoor
open Go.RowKit
set_option maxRecDepth 100000
set_option linter.unusedVariables false
set_option maxHeartbeats 16000000
def sRt(p q:Nat):Spec:=⟨fun w v=>Rt w v p q,⟨fun h hb=>h.mono hb,fun h hp u=>h.setCell hp u⟩⟩
def Ax(p q:Nat):Spec:=⟨fun w v=>RRt w v p q,⟨fun h hb=>h.mono hb,fun h hp u=>h.setCell hp u⟩⟩
def Ks(p q:Nat)(ok:Bool):Spec:=⟨fun w v=> ∃u,v=.tuple #[u,.bool ok]∧Rt w u p q,⟨fun⟨u,e,h⟩ hb=>⟨u,e,h.mono hb⟩,fun⟨u,e,h⟩ hp x=>⟨u,e,h.setCell hp x⟩⟩⟩
def DN(p q:Nat)(ok:Bool):Spec:=⟨fun w v=> ∃u,v=.tuple #[u,.bool ok]∧RRt w u p q,⟨fun⟨u,e,h⟩ hb=>⟨u,e,h.mono hb⟩,fun⟨u,e,h⟩ hp x=>⟨u,e,h.setCell hp x⟩⟩⟩
structure SQ (w0 w:World) (F G:List (Value×Nat×Nat)) (C:List (Nat×Nat×Value)):Prop where
 frs: ∀p∈F,Rt w p.1 p.2.1 p.2.2
 rfrs: ∀p∈G,RRt w p.1 p.2.1 p.2.2
 cells: ∀p∈C,w.cell? ⟨p.1,p.2.1,none⟩=some p.2.2
 bel:Below w0.heap.size w0 w
theorem SQ.go{w0 w w':World}{F G:List (Value×Nat×Nat)}{C:List (Nat×Nat×Value)}(h:SQ w0 w F G C)(hb:Below w.heap.size w w'):SQ w0 w' F G C:=
 ⟨fun p hp=>(h.frs p hp).mono hb,fun p hp=>(h.rfrs p hp).mono hb,fun p hp=>cell_later hb (h.cells p hp),Ae h.bel hb⟩
theorem SQ.fr{w0 w:World}{F G:List (Value×Nat×Nat)}{C:List (Nat×Nat×Value)}(h:SQ w0 w F G C)(v:Value)(p q:Nat)(hm:(v,p,q)∈F:=by simp):Rt w v p q:=h.frs _ hm
theorem SQ.rfr{w0 w:World}{F G:List (Value×Nat×Nat)}{C:List (Nat×Nat×Value)}(h:SQ w0 w F G C)(v:Value)(p q:Nat)(hm:(v,p,q)∈G:=by simp):RRt w v p q:=h.rfrs _ hm
theorem SQ.cel{w0 w:World}{F G:List (Value×Nat×Nat)}{C:List (Nat×Nat×Value)}(h:SQ w0 w F G C)(b i:Nat)(u:Value)(hm:(b,i,u)∈C:=by simp):w.cell? ⟨b,i,none⟩=some u:=h.cells _ hm
theorem SQ.addF{w0 w:World}{F G:List (Value×Nat×Nat)}{C:List (Nat×Nat×Value)}(h:SQ w0 w F G C){v:Value}{p q:Nat}(hv:Rt w v p q):SQ w0 w ((v,p,q)::F) G C:=
 ⟨fun x hx=>by
  rcases List.mem_cons.1 hx with e|e
  ·subst e;exact hv
  exact h.frs x e,h.rfrs,h.cells,h.bel⟩
theorem SQ.addG{w0 w:World}{F G:List (Value×Nat×Nat)}{C:List (Nat×Nat×Value)}(h:SQ w0 w F G C){v:Value}{p q:Nat}(hv:RRt w v p q):SQ w0 w F ((v,p,q)::G) C:=
 ⟨h.frs,fun x hx=>by
  rcases List.mem_cons.1 hx with e|e
  ·subst e;exact hv
  exact h.rfrs x e,h.cells,h.bel⟩
theorem SQ.addC{w0 w:World}{F G:List (Value×Nat×Nat)}{C:List (Nat×Nat×Value)}(h:SQ w0 w F G C){b i:Nat}{v:Value}(hv:w.cell? ⟨b,i,none⟩=some v):SQ w0 w F G ((b,i,v)::C):=
 ⟨h.frs,h.rfrs,fun x hx=>by
  rcases List.mem_cons.1 hx with e|e
  ·subst e;exact hv
  exact h.cells x e,h.bel⟩
theorem SQ.box{w0 w:World}{F G:List (Value×Nat×Nat)}{C:List (Nat×Nat×Value)}(h:SQ w0 w F G C)(u u':Value)(t:TypeId)(g:Nat)(hg:g=w.heap.size):SQ w0 (w.alloc (.cells #[u,u'] t)) F G ((g,0,u)::(g,1,u')::C):=by
 subst hg;have h':=h.go (w':=w.alloc (.cells #[u,u'] t)) (Ad (Below.refl _ _));exact(h'.addC (b:=w.heap.size) (i:=1) (v:=u') (by simp)).addC (by simp)
theorem IM(w:World):SQ w w [] [] []:=⟨(fun _ h=>by cases h),(fun _ h=>by cases h),(fun _ h=>by cases h),Below.refl _ _⟩
def Box2(w0:World)(L:Nat→Bool)(vs:Nat→Value)(w:World)(b:Nat×Nat×Nat):Prop:=
 ∃bk,vs b.1=.pointer (some ⟨bk,0,none⟩)∧w0.heap.size≤bk∧bk<w.heap.size∧w.frozen? ⟨bk,0,none⟩=false∧w.frozen? ⟨bk,1,none⟩=false∧(L b.2.1=false→w.cell? ⟨bk,0,none⟩=some (.slice none 0 0)∧w.cell? ⟨bk,1,none⟩=some (.slice none 0 0))∧(L b.2.1=true→L b.2.2=true∧ ∃u u',vs b.2.2=.agg #[u,u']∧w.cell? ⟨bk,0,none⟩=some u∧w.cell? ⟨bk,1,none⟩=some u')
structure JC (w0:World) (specs:List Spec) (b:Nat×Nat×Nat) (L:Nat→Bool) (vs:Nat→Value) (w:World):Prop where
 bel:Below w0.heap.size w0 w
 sp: ∀i,L i=true→(specs.getD i sAny).1 w (vs i)
 bx:L b.1=true→Box2 w0 L vs w b
 cl:L b.2.1=true→L b.1=true
theorem JC.start(w:World)(specs:List Spec)(b:Nat×Nat×Nat):JC w specs b (fun _=>false) (fun _=>undef) w.drew:=
 ⟨Au (Below.refl _ _),(fun _ h=>by cases h),(fun h=>by cases h),(fun h=>by cases h)⟩
theorem JC.step{w0:World}{specs:List Spec}{b:Nat×Nat×Nat}{L:Nat→Bool}{vs:Nat→Value}{w w':World}(h:JC w0 specs b L vs w){i:Nat}(hL:L i=false)(hf:Kj [b] i=true)(hb:Below w.heap.size w w'){v:Value}(hs:(specs.getD i sAny).1 w' v):JC w0 specs b (Am L i) (As vs i v) w':=by
 have hne:b.1≠i∧b.2.1≠i:=by simpa[Kj]using hf
 have oldV: ∀j,L j=true→As vs i v j=vs j:=fun j hj=>by
  have:j≠i:=fun e=>by rw[e,hL]at hj;cases hj
  simp[As,this]
 refine⟨Ae h.bel hb,fun j hj=> ?_,fun hLb=> ?_,fun hs'=> ?_⟩
 ·by_cases e:j=i
  ·subst e;simpa[As]using hs
  have hj':L j=true:=by simpa[Am,e]using hj
  rw[oldV j hj'];exact(specs.getD j sAny).2.mono (h.sp j hj') hb
 ·have hLb':L b.1=true:=by simpa[Am,hne.1]using hLb
  obtain⟨bk,e1,e2,e3,e4,e4',e5,e6⟩:=h.bx hLb';have hc0:w'.cell? ⟨bk,0,none⟩=w.cell? ⟨bk,0,none⟩:=hb.cell (p:=⟨bk,0,none⟩) e3;have hc1:w'.cell? ⟨bk,1,none⟩=w.cell? ⟨bk,1,none⟩:=hb.cell (p:=⟨bk,1,none⟩) e3;refine⟨bk,by rw[oldV _ hLb'];exact e1,e2,Nat.lt_of_lt_of_le e3 hb.size,(hb.frozen (p:=⟨bk,0,none⟩) e3).trans e4,(hb.frozen (p:=⟨bk,1,none⟩) e3).trans e4',fun hs'=> ?_,fun hs'=> ?_⟩
  ·rw[hc0,hc1];exact e5 (by simpa[Am,hne.2]using hs')
  obtain⟨q1,u,u',q2,q3,q4⟩:=e6 (by simpa[Am,hne.2]using hs');refine⟨by unfold Am;split<;>simp_all,u,u',?_,by rw[hc0];exact q3,by rw[hc1];exact q4⟩;rw[oldV _ q1];exact q2
 have:=h.cl (by simpa[Am,hne.2]using hs');unfold Am;split<;>simp_all
theorem JC.alloc{w0:World}{specs:List Spec}{b:Nat×Nat×Nat}{L:Nat→Bool}{vs:Nat→Value}{w:World}(h:JC w0 specs b L vs w){i:Nat}(hL:L i=false)(hi:b.1=i)(hns:b.2.1≠i)(hsp:specs.getD i sAny=sAny)(t:TypeId):
  JC w0 specs b (Am L i) (As vs i (.pointer (some ⟨w.heap.size,0,none⟩))) (w.alloc (.cells #[.slice none 0 0,.slice none 0 0] t)):=by
 have hb:Below w.heap.size w (w.alloc (.cells #[.slice none 0 0,.slice none 0 0] t)):=(Below.refl _ _).alloc (Nat.le_refl _) _;have oldV: ∀j,L j=true→As vs i (.pointer (some ⟨w.heap.size,0,none⟩)) j=vs j:=fun j hj=>by
  have:j≠i:=fun e=>by rw[e,hL]at hj;cases hj
  simp[As,this]
 have hst:L b.2.1=false:=by
  cases hs':L b.2.1
  ·rfl
  have:=h.cl hs';rw[hi,hL]at this;cases this
 refine⟨Ae h.bel hb,fun j hj=> ?_,fun _=> ?_,fun hs'=> ?_⟩
 ·by_cases e:j=i
  ·subst e;rw[hsp];trivial
  have hj':L j=true:=by simpa[Am,e]using hj
  rw[oldV j hj'];exact(specs.getD j sAny).2.mono (h.sp j hj') hb
 ·refine⟨w.heap.size,by rw[hi];simp[As],h.bel.size,by simp,by simp[go_sem],by simp[go_sem],fun _=>by simp[go_sem],fun hs'=> ?_⟩;simp[Am,hns,hst]at hs'
 simp[Am,hns,hst]at hs'
theorem JC.store{w0:World}{specs:List Spec}{b:Nat×Nat×Nat}{L:Nat→Bool}{vs:Nat→Value}{w:World}(h:JC w0 specs b L vs w)(hL:L b.2.1=false)(hA:L b.1=true)(hV:L b.2.2=true)(hone:b.1≠b.2.1)(hsp:specs.getD b.2.1 sAny=sAny){bk:Nat}{u u':Value}(hp:vs b.1=.pointer (some ⟨bk,0,none⟩))(hu:vs b.2.2=.agg #[u,u']):
  JC w0 specs b (Am L b.2.1) (As vs b.2.1 undef) ((w.setCell ⟨bk,0,none⟩ u).setCell ⟨bk,1,none⟩ u'):=by
 have oldV: ∀j,L j=true→As vs b.2.1 undef j=vs j:=fun j hj=>by
  have:j≠b.2.1:=fun e=>by rw[e,hL]at hj;cases hj
  simp[As,this]
 obtain⟨bk',e1,e2,e3,e4,e4',e5,e6⟩:=h.bx hA;obtain rfl:bk'=bk:=by rw[e1]at hp;cases hp;rfl
 obtain⟨hc0,hc1⟩:=e5 hL;obtain⟨n1,n2⟩:=Cv hc0 hc1 u;have hd:(w.setCell ⟨bk',0,none⟩ u).cell? ⟨bk',1,none⟩=some (.slice none 0 0):=by rw[World.cell?_setCell_other (h:=by simp),hc1]
 refine⟨(h.bel.setCell (p:=⟨bk',0,none⟩) e2 u).setCell (p:=⟨bk',1,none⟩) e2 u',fun j hj=> ?_,fun _=> ?_,fun _=> ?_⟩
 ·by_cases e:j=b.2.1
  ·subst e;rw[hsp];trivial
  have hj':L j=true:=by simpa[Am,e]using hj
  rw[oldV j hj'];exact(specs.getD j sAny).2.set ((specs.getD j sAny).2.set (h.sp j hj') n1 u) n2 u'
 ·refine⟨bk',by rw[oldV _ hA];exact e1,e2,by simpa[World.setCell]using e3,by simp[World.frozen?_setCell,e4],by simp[World.frozen?_setCell,e4'],fun hs'=> ?_,fun _=>⟨?_,u,u',?_,?_,?_⟩⟩
  ·simp[Am]at hs'
  ·unfold Am;split<;>simp_all
  ·rw[oldV _ hV];exact hu
  ·rw[World.cell?_setCell_other (h:=by simp)];simp[go_sem,hc0]
  simp[go_sem,hd]
 simp[Am,hone,hA]
theorem FJ(v u:Value)(x:Nat)(w:World)(h:Ac w v x)(k:Ak w u x)(hx:Ar x)(hr:AE x):
  Calls Tryz.prog 39 #[v,u] w fun e w'=>e=.returned (.bool true)∧Below w.heap.size w w':=by
 obtain⟨ap,mp,cp,rfl⟩:=h.isAgg;obtain⟨aq,mq,cq,rfl⟩:=k.isAgg;have HX:Hid (Ar x∧AE x):=⟨hx,hr⟩;have S0:Hid _:=((((Du w).nat h).rnat k).box (.slice ap mp cp) 27 _ rfl).box (.slice aq mq cq) 32 _ rfl;clear h k hx hr;go_enter Tryz.func39,Tryz.ntmps39
 go_wp2_with fail
 have hsz:(w.alloc (Obj.cells #[Value.slice ap mp cp] 27)).heap.size=w.heap.size+1:=by simp
 rw[hsz]at S0;clear hsz;obtain⟨w2,hw2⟩:=nme ((w.alloc (Obj.cells #[Value.slice ap mp cp] 27)).alloc (Obj.cells #[Value.slice aq mq cq] 32));obtain⟨b,hb⟩:=nme w.heap.size;rw[←hw2,←hb]at S0;rw[←hw2,←hb];clear hw2 hb;refine Aj (JB w2 [AF (x),sBy (x),sEq (.string (C7 (x))),sR (x),sBy (x),sEq (.string (C7 (x))),sEq (.bool true),sEq (.bool true)] []) 12 (by kernel_rfl) rfl (by kernel_rfl) (JB.start _ _ _) (fun HG HN=>⟨?_,?_,?_,?_,?_,?_,?_,?_,trivial⟩) ?_
 ·intro L vs a w' hJ hF hP hL;have q2:(a.tmps[2]?).getD undef=.pointer (some ⟨b,0,none⟩):=hF.old 2 rfl;have cb:=cell_later hJ.bel (S0.out.cell (b) (.slice ap mp cp));exact Aa (v:=.agg #[.slice ap mp cp]) rfl (by simp[execOp,go_sem,q2,cb]) ⟨_,rfl,hJ.step hL rfl (Below.refl _ _) (by exact((S0.out.at (.agg #[.slice ap mp cp]) (x)).mono hJ.bel))⟩
 ·intro L vs a w' hJ hF hP hL;have p0:L 0=true:=hP ⟨0,.data⟩ (by simp) rfl;have s0:Ac w' (vs 0) (x):=hJ.sp 0 p0;have q5:=hF.slot 0 5 rfl p0;refine Ai (f:=69) (args:= #[vs 0]) rfl (by simp[go_sem,q5]) (KW _ x _ s0 HX.out.1) ?_;rintro e w2 ⟨gb,rfl,hg,hR,hb⟩;exact⟨_,rfl,_,rfl,hJ.step hL rfl hb (by exact⟨gb,rfl,fun i hi=>hR.cell hi⟩)⟩
 ·intro L vs a w' hJ hF hP hL;have p1:L 1=true:=hP ⟨1,.data⟩ (by simp) rfl;have s1:Hf w' (vs 1) (x):=hJ.sp 1 p1;have q6:=hF.slot 1 6 rfl p1;obtain⟨gb,e1,e2⟩:=s1;have cv:=JR e2;exact Aa (v:=.string (C7 (x))) rfl (by simp[execOp,go_sem,q6,e1,cv]) ⟨_,rfl,hJ.step hL rfl (Below.refl _ _) (by exact rfl)⟩
 ·intro L vs a w' hJ hF hP hL;have q3:(a.tmps[3]?).getD undef=.pointer (some ⟨b+1,0,none⟩):=hF.old 3 rfl;have cb:=cell_later hJ.bel (S0.out.cell (b+1) (.slice aq mq cq));exact Aa (v:=.agg #[.slice aq mq cq]) rfl (by simp[execOp,go_sem,q3,cb]) ⟨_,rfl,hJ.step hL rfl (Below.refl _ _) (by exact((S0.out.rat (.agg #[.slice aq mq cq]) (x)).mono hJ.bel))⟩
 ·intro L vs a w' hJ hF hP hL;have p3:L 3=true:=hP ⟨3,.data⟩ (by simp) rfl;have s3:Ak w' (vs 3) (x):=hJ.sp 3 p3;have q8:=hF.slot 3 8 rfl p3;refine Ai (f:=70) (args:= #[vs 3]) rfl (by simp[go_sem,q8]) (Kl _ x _ s3 HX.out.2) ?_;rintro e w2 ⟨gb,rfl,hg,hR,hb⟩;exact⟨_,rfl,_,rfl,hJ.step hL rfl hb (by exact⟨gb,rfl,fun i hi=>hR.cell hi⟩)⟩
 ·intro L vs a w' hJ hF hP hL;have p4:L 4=true:=hP ⟨4,.data⟩ (by simp) rfl;have s4:Hf w' (vs 4) (x):=hJ.sp 4 p4;have q9:=hF.slot 4 9 rfl p4;obtain⟨gb,e1,e2⟩:=s4;have cv:=JR e2;exact Aa (v:=.string (C7 (x))) rfl (by simp[execOp,go_sem,q9,e1,cv]) ⟨_,rfl,hJ.step hL rfl (Below.refl _ _) (by exact rfl)⟩
 ·intro L vs a w' hJ hF hP hL;have p2:L 2=true:=hP ⟨2,.data⟩ (by simp) rfl;have s2:vs 2=.string (C7 (x)):=hJ.sp 2 p2;have q7:=hF.slot 2 7 rfl p2;have p5:L 5=true:=hP ⟨5,.data⟩ (by simp) rfl;have s5:vs 5=.string (C7 (x)):=hJ.sp 5 p5;have q10:=hF.slot 5 10 rfl p5;exact Aa (v:=.bool true) rfl (by simp[execOp,go_sem,q7,s2,q10,s5]) ⟨_,rfl,hJ.step hL rfl (Below.refl _ _) (by exact rfl)⟩
 ·intro L vs a w' hJ hF hP hL;have p6:L 6=true:=hP ⟨6,.data⟩ (by simp) rfl;have s6:vs 6=.bool true:=hJ.sp 6 p6;have q11:=hF.slot 6 11 rfl p6;exact Aa (v:=.bool true) rfl (by simp[execOp,go_sem,q11,s6]) ⟨_,rfl,hJ.step hL rfl (Below.refl _ _) (by exact rfl)⟩
 intro L vs w' hA hJ;have s7:vs 7=.bool true:=hJ.sp 7 (hA 7 (by simp));simp only[AC,Act.put,List.setIfInBounds_toArray,List.set_cons_zero,List.set_cons_succ,Nat.reduceAdd];simp only[s7];go_wp2_with fail
 go_ret
 exact⟨rfl,(S0.out.go hJ.bel).bel⟩
structure RG (x:Nat):Prop where
 lt:x<P 900
theorem RG.fits{x:Nat}(h:RG x):Ar x:=Bf h.lt (by omega)
theorem RG.rfits{x:Nat}(h:RG x):AE x:=BT h.lt (by omega)
theorem RS.g{x:Nat}(h:RS x):RG x:=⟨Nat.lt_trans h.lt (CQ (by omega))⟩
theorem BR(v u:Value)(p q:Nat)(w:World)(h:Rt w v p q)(k:RRt w u p q)(hp:RG p)(hq:RG q):
  Calls Tryz.prog 8 #[v,u] w fun e w'=>e=.returned (.bool true)∧Below w.heap.size w w':=by
 obtain⟨a,n,c,a',n',c',e0,_,_⟩:=h.raw;subst e0;obtain⟨d,m,g,d',m',g',e1,k1,k2⟩:=k;subst e1;obtain⟨w0,hw0⟩:=nme ((w.alloc (.cells #[.slice a n c,.slice a' n' c'] 29)).alloc (.cells #[.slice d m g,.slice d' m' g'] 34));have ba:Below w.heap.size w w0:=by rw[hw0];exact Ad (Ad (Ag w))
 have e0:w0.cell? ⟨w.heap.size+1,0,none⟩=some (.slice d m g):=by rw[hw0];simp[go_sem]
 have e1:w0.cell? ⟨w.heap.size+1,1,none⟩=some (.slice d' m' g'):=by rw[hw0];simp[go_sem]
 have HH:Hid (Rt w0 (.agg #[.slice a n c,.slice a' n' c']) p q∧Ak w0 (.agg #[.slice d m g]) p∧Ak w0 (.agg #[.slice d' m' g']) q∧RG p∧RG q∧Below w.heap.size w w0):=⟨h.mono ba,k1.mono ba,k2.mono ba,hp,hq,ba⟩;clear h k1 k2 hp hq ba;go_enter Tryz.func8,Tryz.ntmps8
 go_wp2_with fail
 rw[←hw0];clear hw0;refine(Bv _ p q _ HH.out.1 HH.out.2.2.2.2.1.fits).mono ?_;rintro e w1 ⟨v1,u1,rfl,hv1,hu1,hb1⟩;obtain⟨a1,n1,c1,rfl⟩:=hv1.isAgg;obtain⟨a2,n2,c2,rfl⟩:=hu1.isAgg;obtain⟨w2,hw2⟩:=nme ((w1.alloc (.cells #[.slice a1 n1 c1] 27)).alloc (.cells #[.slice a2 n2 c2] 27));have b12:Below w1.heap.size w1 w2:=by rw[hw2];exact Ad (Ad (Ag w1))
 have b2:Below w0.heap.size w0 w2:=Ae hb1 b12;have d0:=cell_later b2 e0;have d1:=cell_later b2 e1;have x0:w2.cell? ⟨w1.heap.size,0,none⟩=some (.slice a1 n1 c1):=by rw[hw2];simp[go_sem]
 have x1:w2.cell? ⟨w1.heap.size+1,0,none⟩=some (.slice a2 n2 c2):=by rw[hw2];simp[go_sem]
 have I2:Hid (Ac w2 (.agg #[.slice a1 n1 c1]) p∧Ac w2 (.agg #[.slice a2 n2 c2]) q∧Ak w2 (.agg #[.slice d m g]) p∧Ak w2 (.agg #[.slice d' m' g']) q∧Below w.heap.size w w2):=⟨hv1.mono b12,hu1.mono b12,HH.out.2.1.mono b2,HH.out.2.2.1.mono b2,Ae HH.out.2.2.2.2.2 b2⟩;clear hv1 hu1 hb1 b12 b2 e0 e1;rw[hw2]at d0 d1 x0 x1;go_wp2_with fail
 rw[←hw2]at d0 d1 x0 x1;rw[←hw2];clear hw2;refine(FJ _ _ p _ I2.out.1 I2.out.2.2.1 HH.out.2.2.2.1.fits HH.out.2.2.2.1.rfits).mono ?_;rintro e w3 ⟨rfl,hb3⟩;have y1:=cell_later hb3 x1;have f1:=cell_later hb3 d1;have I3:Hid (Ac w3 (.agg #[.slice a2 n2 c2]) q∧Ak w3 (.agg #[.slice d' m' g']) q∧Below w.heap.size w w3):=⟨I2.out.2.1.mono hb3,I2.out.2.2.2.1.mono hb3,Ae I2.out.2.2.2.2 hb3⟩;clear hb3 I2 x0 x1 d0 d1;go_wp2_with fail
 refine(FJ _ _ q _ I3.out.1 I3.out.2.1 HH.out.2.2.2.2.1.fits HH.out.2.2.2.2.1.rfits).mono ?_;rintro e w4 ⟨rfl,hb4⟩;have B4:Hid (Below w.heap.size w w4):=Ae I3.out.2.2 hb4;clear hb4;go_wp2_with fail
 go_ret
 exact⟨rfl,B4.out⟩
theorem Ed(v u:Value)(p q:Nat)(w:World)(h:Rt w v p q)(k:RRt w u p q)(hp:RS p)(hq:RS q):
  Calls Tryz.prog 8 #[v,u] w fun e w'=>e=.returned (.bool true)∧Below w.heap.size w w':=BR v u p q w h k hp.g hq.g
theorem MB(a:Option Addr)(len cap:Nat)(D:Nat→Nat)(w:World)(h:BSl w a len cap D):
  Calls Tryz.prog 16 #[.slice a len cap] w fun e w'=>e=.returned (.slice a (min len 120) cap)∧w'=w:=by
 have hl2:(len:Int)≤9223372036854775807:=by have:=h.1;have:=h.2.1;omega
 by_cases hl:120<len
 ·obtain⟨b,o,rfl,hw⟩: ∃b o,a=some ⟨b,o,none⟩∧ ∀i,i<len→w.cell? ⟨b,o+i,none⟩=some (.int .u8 (D i:Nat)):=h.2.2.2.resolve_left (by omega);have sl: ∀w,(Instr.slice 39 (.slice (some ⟨b,o,none⟩) len cap) none (some (.int .i64 120)) none).run Tryz.prog w=.ok (.slice (some ⟨b,o,none⟩) 120 cap) w:=Mh b o len cap 120 (by have:=h.1;omega);have hcz: ¬cap=0:=by have:=h.1;omega
  have hcz2:(120:Int)≤cap:=by have:=h.1;omega
  have haz:(⟨b,o,none⟩:Addr).add 0=⟨b,o,none⟩:=by simp[Addr.add]
  have hd:decide (120<(len:Int))=true:=decide_eq_true (by omega);have HH:Hid (min len 120=120):=by show _=_;omega
  clear h hw;go_enter Tryz.func16,Tryz.ntmps16
  go_wp2_with fail
  go_ret
  rw[HH.out];exact⟨rfl,rfl⟩
 have hd:decide (120<(len:Int))=false:=decide_eq_false (by omega);have HH:Hid (min len 120=len):=by show _=_;omega
 clear h;go_enter Tryz.func16,Tryz.ntmps16
 go_wp2_with fail
 go_ret
 rw[HH.out];exact⟨rfl,rfl⟩
theorem BSl.min{w:World}{a:Option Addr}{n cap:Nat}{D:Nat→Nat}(h:BSl w a n cap D)(m:Nat):BSl w a (Min.min n m) cap D:=by
 obtain⟨h1,h2,h3,h4⟩:=h;refine⟨by omega,h2,fun i hi=>h3 i (by omega),?_⟩;rcases h4 with h4| ⟨b,o,e,h4⟩
 ·exact .inl (by omega)
 exact .inr ⟨b,o,e,fun i hi=>h4 i (by omega)⟩
structure Fed (w:World) (a:Option Addr) (len cap m x:Nat):Prop where
 cut: ∀w',Below w.heap.size w w'→Calls Tryz.prog 16 #[.slice a len cap] w' fun e w2=>e=.returned (.slice a m cap)∧Below w'.heap.size w' w2
 nat: ∀w',Below w.heap.size w w'→Calls Tryz.prog 15 #[.slice a m cap] w' (BO w' x)
 ref: ∀w',Below w.heap.size w w'→Calls Tryz.prog 17 #[.slice a m cap] w' (Ck w' x)
 rs:x<P 15
theorem Lx{w:World}{a:Option Addr}{len cap:Nat}{D:Nat→Nat}(h:BSl w a len cap D): ∃m x,Fed w a len cap m x:=by
 refine⟨Min.min len 120,BV D (Min.min len 120),fun w' hb=> ?_,fun w' hb=> ?_,fun w' hb=> ?_,?_⟩
 ·refine(MB a len cap D w' (h.mono hb)).mono ?_;rintro e w2 ⟨rfl,rfl⟩;exact⟨rfl,Ag _⟩
 ·exact H6 _ _ _ _ _ ((h.min 120).mono hb) (by omega)
 ·exact He _ _ _ _ _ ((h.min 120).mono hb) (by omega)
 exact OE (h.min 120).2.2.1 (by omega)
theorem Fed.go{w w':World}{a:Option Addr}{len cap m x:Nat}(h:Fed w a len cap m x)(hb:Below w.heap.size w w'):Fed w' a len cap m x:=
 ⟨fun w2 h2=>h.cut w2 (Ae hb h2),fun w2 h2=>h.nat w2 (Ae hb h2),fun w2 h2=>h.ref w2 (Ae hb h2),h.rs⟩
def Zer(w:World)(r:Nat):Prop:= ∀i,i<2→w.cell? ⟨r,i,none⟩=some (.slice none 0 0)∧w.frozen? ⟨r,i,none⟩=false
theorem Zer.go{w w':World}{r:Nat}(h:Zer w r)(hb:Below w.heap.size w w'):Zer w' r:=fun i hi=>
 ⟨cell_later hb (h i hi).1,(hb.frozen (World.block_lt_of_cell? _ _ (h i hi).1)).trans (h i hi).2⟩
theorem Zer.set{w:World}{r g:Nat}(h:Zer w r)(hg:r≠g)(u:Value):Zer (w.setCell ⟨g,0,none⟩ u) r:=fun i hi=>
 ⟨by rw[World.cell?_setCell_far _ _ _ _ (by simpa using Ne.symm hg)];exact(h i hi).1,by simp[World.frozen?_setCell,(h i hi).2]⟩
structure MT (w0 w:World) (b g1 g2 h1 h2:Nat) (a1:Option Addr) (n1 c1:Nat) (a2:Option Addr) (n2 c2:Nat) (a3:Option Addr) (n3 c3:Nat) (a4:Option Addr) (n4 c4:Nat) (x y y':Nat):Prop where
 nx:Ac w (.agg #[.slice a1 n1 c1]) x
 ny:Ac w (.agg #[.slice a2 n2 c2]) y
 rx:Ak w (.agg #[.slice a3 n3 c3]) x
 ry:Ak w (.agg #[.slice a4 n4 c4]) y'
 c1:w.cell? ⟨g1,0,none⟩=some (.slice a1 n1 c1)
 c2:w.cell? ⟨g2,0,none⟩=some (.slice a2 n2 c2)
 c3:w.cell? ⟨h1,0,none⟩=some (.slice a3 n3 c3)
 c4:w.cell? ⟨h2,0,none⟩=some (.slice a4 n4 c4)
 f2:w.frozen? ⟨g2,0,none⟩=false
 f4:w.frozen? ⟨h2,0,none⟩=false
 z1:Zer w (b+1)
 z2:Zer w (b+1+1)
 bel:Below w0.heap.size w0 w
 ne:g1≠g2∧g1≠h2∧h1≠g2∧h1≠h2∧g2≠h2∧b+1≠g2∧b+1≠h2∧b+1+1≠g2∧b+1+1≠h2
 lo:w0.heap.size≤g2∧w0.heap.size≤h2∧w0.heap.size≤b
theorem MT.go{w0 w w':World}{b g1 g2 h1 h2:Nat}{a1:Option Addr}{n1 c1:Nat}{a2:Option Addr}{n2 c2:Nat}{a3:Option Addr}{n3 c3:Nat}{a4:Option Addr}{n4 c4:Nat}{x y y':Nat}(h:MT w0 w b g1 g2 h1 h2 a1 n1 c1 a2 n2 c2 a3 n3 c3 a4 n4 c4 x y y')(hb:Below w.heap.size w w'):MT w0 w' b g1 g2 h1 h2 a1 n1 c1 a2 n2 c2 a3 n3 c3 a4 n4 c4 x y y':=
 ⟨h.nx.mono hb,h.ny.mono hb,h.rx.mono hb,h.ry.mono hb,cell_later hb h.c1,cell_later hb h.c2,cell_later hb h.c3,cell_later hb h.c4,(hb.frozen (World.block_lt_of_cell? _ _ h.c2)).trans h.f2,(hb.frozen (World.block_lt_of_cell? _ _ h.c4)).trans h.f4,h.z1.go hb,h.z2.go hb,Ae h.bel hb,h.ne,h.lo⟩
theorem Dy{w:World}{g r:Nat}{u v:Value}(h:w.cell? ⟨r,0,none⟩=some v)(hg:r≠g):(w.setCell ⟨g,0,none⟩ u).cell? ⟨r,0,none⟩=some v:=by
 rw[World.cell?_setCell_far _ _ _ _ (by simpa using Ne.symm hg)];exact h
theorem MT.setN{w0 w:World}{b g1 g2 h1 h2:Nat}{a1:Option Addr}{n1 c1:Nat}{a2:Option Addr}{n2 c2:Nat}{a3:Option Addr}{n3 c3:Nat}{a4:Option Addr}{n4 c4:Nat}{x y y':Nat}(h:MT w0 w b g1 g2 h1 h2 a1 n1 c1 a2 n2 c2 a3 n3 c3 a4 n4 c4 x y y'){a:Option Addr}{n c z:Nat}(hv:Ac w (.agg #[.slice a n c]) z):MT w0 (w.setCell ⟨g2,0,none⟩ (.slice a n c)) b g1 g2 h1 h2 a1 n1 c1 a n c a3 n3 c3 a4 n4 c4 x z y':=by
 have hp:=Af h.c2;obtain⟨e1,e2,e3,e4,e5,e6,e7,e8,e9⟩:=h.ne;exact⟨h.nx.setCell hp _,hv.setCell hp _,h.rx.setCell hp _,h.ry.setCell hp _,Dy h.c1 e1,by simp[go_sem,h.c2],Dy h.c3 e3,Dy h.c4 (Ne.symm e5),by simp[World.frozen?_setCell,h.f2],by simp[World.frozen?_setCell,h.f4],h.z1.set e6 _,h.z2.set e8 _,h.bel.setCell (p:=⟨g2,0,none⟩) h.lo.1 _,h.ne,h.lo⟩
theorem MT.setR{w0 w:World}{b g1 g2 h1 h2:Nat}{a1:Option Addr}{n1 c1:Nat}{a2:Option Addr}{n2 c2:Nat}{a3:Option Addr}{n3 c3:Nat}{a4:Option Addr}{n4 c4:Nat}{x y y':Nat}(h:MT w0 w b g1 g2 h1 h2 a1 n1 c1 a2 n2 c2 a3 n3 c3 a4 n4 c4 x y y'){a:Option Addr}{n c z:Nat}(hv:Ak w (.agg #[.slice a n c]) z):MT w0 (w.setCell ⟨h2,0,none⟩ (.slice a n c)) b g1 g2 h1 h2 a1 n1 c1 a2 n2 c2 a3 n3 c3 a n c x y z:=by
 have hp:=Af h.c4;obtain⟨e1,e2,e3,e4,e5,e6,e7,e8,e9⟩:=h.ne;exact⟨h.nx.setCell hp _,h.ny.setCell hp _,h.rx.setCell hp _,hv.setCell hp _,Dy h.c1 e2,Dy h.c2 e5,Dy h.c3 e4,by simp[go_sem,h.c4],by simp[World.frozen?_setCell,h.f2],by simp[World.frozen?_setCell,h.f4],h.z1.set e7 _,h.z2.set e9 _,h.bel.setCell (p:=⟨h2,0,none⟩) h.lo.2.1 _,h.ne,h.lo⟩
def IP(w:World)(p q:Nat)(e:Ending)(w':World):Prop:= ∃v u,e=.returned (.tuple #[v,u])∧Rt w' v p q∧RRt w' u p q∧Below w.heap.size w w'
def Cm(y:Nat):Nat:=if y=0 then 1 else y
theorem Ly(y:Nat):0<Cm y:=by unfold Cm;split<;>omega
theorem Hg{x:Nat}(h:x<P 15):RS x:=⟨Nat.lt_trans h (CQ (by omega))⟩
theorem MC{y:Nat}(h:y<P 15):Cm y<P 15:=by
 unfold Cm;split
 ·exact Nat.lt_of_lt_of_le (by rw[CK];omega) (Cs (show 1≤15 by omega))
 exact h
theorem IQ{w0 w:World}{r:Nat}{p q:Nat}{s1 s2 t1 t2 V U:Value}(z1:Zer w r)(z2:Zer w (r+1))(h:Rt w V p q)(k:RRt w U p q)(hb:Below w0.heap.size w0 w)(hr:w0.heap.size≤r):
  Rt ((((w.setCell ⟨r,0,none⟩ s1).setCell ⟨r,1,none⟩ s2).setCell ⟨r+1,0,none⟩ t1).setCell ⟨r+1,1,none⟩ t2) V p q∧RRt ((((w.setCell ⟨r,0,none⟩ s1).setCell ⟨r,1,none⟩ s2).setCell ⟨r+1,0,none⟩ t1).setCell ⟨r+1,1,none⟩ t2) U p q∧Below w0.heap.size w0 ((((w.setCell ⟨r,0,none⟩ s1).setCell ⟨r,1,none⟩ s2).setCell ⟨r+1,0,none⟩ t1).setCell ⟨r+1,1,none⟩ t2):=by
 obtain⟨n1,n2⟩:=Cv (z1 0 (by omega)).1 (z1 1 (by omega)).1 s1;have far: ∀i,i<2→((w.setCell ⟨r,0,none⟩ s1).setCell ⟨r,1,none⟩ s2).cell? ⟨r+1,i,none⟩=some (.slice none 0 0):=fun i hi=>by
  rw[World.cell?_setCell_far _ _ _ _ (by simp),World.cell?_setCell_far _ _ _ _ (by simp)];exact(z2 i hi).1
 obtain⟨m1,m2⟩:=Cv (far 0 (by omega)) (far 1 (by omega)) t1;exact⟨(((h.setCell n1 _).setCell n2 _).setCell m1 _).setCell m2 _,(((k.setCell n1 _).setCell n2 _).setCell m1 _).setCell m2 _,(((hb.setCell hr _).setCell hr _).setCell (by show _≤r+1;omega) _).setCell (by show _≤r+1;omega) _⟩
theorem Lz(a0:Option Addr)(l0 k0:Nat)(a5:Option Addr)(l5 k5:Nat)(m0 m5 x y:Nat)(w:World)(h0:Fed w a0 l0 k0 m0 x)(h5:Fed w a5 l5 k5 m5 y)(hT:Tab w):
  Calls Tryz.prog 6 #[.agg #[.slice a0 l0 k0,.slice a5 l5 k5]] w (IP w (x/Nat.gcd x (Cm y)) (Cm y/Nat.gcd x (Cm y))):=by
 obtain⟨w1,hw1⟩:=nme (((w.alloc (.cells #[.slice a0 l0 k0,.slice a5 l5 k5] 41)).alloc (.cells #[.slice none 0 0,.slice none 0 0] 29)).alloc (.cells #[.slice none 0 0,.slice none 0 0] 34));have ba:Below w.heap.size w w1:=by rw[hw1];exact Ad (Ad (Ad (Ag w)))
 have e0:w1.cell? ⟨w.heap.size,0,none⟩=some (.slice a0 l0 k0):=by rw[hw1];simp[go_sem]
 have e1:w1.cell? ⟨w.heap.size,1,none⟩=some (.slice a5 l5 k5):=by rw[hw1];simp[go_sem]
 have ZZ:Hid (Zer w1 (w.heap.size+1)∧Zer w1 (w.heap.size+1+1)):=by
  rw[hw1];exact⟨(fun i hi=>by rcases (show i=0∨i=1 by omega) with rfl|rfl<;>simp[go_sem]),(fun i hi=>by rcases (show i=0∨i=1 by omega) with rfl|rfl<;>simp[go_sem])⟩
 have S1:Hid _:=((IM w1).addC e0).addC e1;have FF:Hid (Fed w1 a0 l0 k0 m0 x∧Fed w1 a5 l5 k5 m5 y∧Tab w∧Below w.heap.size w w1):=⟨h0.go ba,h5.go ba,hT,ba⟩;obtain⟨b,hb⟩:=nme w.heap.size;have HB:Hid (w.heap.size≤b∧b+1+1<w1.heap.size):=⟨by omega,by rw[hb,hw1];simp⟩;clear h0 h5 hT ba e0 e1;go_enter Tryz.func6,Tryz.ntmps6
 go_wp2_with fail
 rw[←hw1,←hb];rw[←hb]at S1 ZZ;clear hw1 hb;refine Aj (JB w1 [sEq (.pointer (some ⟨b,0,none⟩)),sEq (.slice a0 l0 k0),sEq (.slice a0 m0 k0),AF (x),sEq (.pointer (some ⟨b,1,none⟩)),sEq (.slice a5 l5 k5),sEq (.slice a5 m5 k5),AF (y),sAny,sAny,sAny,sAny] [(8,10,3),(9,11,7)]) 46 (by kernel_rfl) rfl (by kernel_rfl) (JB.start _ _ _) (fun HG HN=>⟨?_,?_,?_,?_,?_,?_,?_,?_,?_,?_,?_,?_,trivial⟩) ?_
 ·intro L vs a w' hJ hF hP hL;have q1:(a.tmps[1]?).getD undef=.pointer (some ⟨b,0,none⟩):=hF.old 1 rfl;exact Aa (v:=.pointer (some ⟨b,0,none⟩)) rfl (by simp[execOp,go_sem,q1]) ⟨_,rfl,hJ.step hL rfl (Below.refl _ _) (by exact rfl)⟩
 ·intro L vs a w' hJ hF hP hL;have p0:L 0=true:=hP ⟨0,.data⟩ (by simp) rfl;have s0:vs 0=.pointer (some ⟨b,0,none⟩):=hJ.sp 0 p0;have q12:=hF.slot 0 12 rfl p0;have cb:=cell_later hJ.bel (S1.out.cel (b) 0 (.slice a0 l0 k0));exact Aa (v:=.slice a0 l0 k0) rfl (by simp[execOp,go_sem,q12,s0,cb]) ⟨_,rfl,hJ.step hL rfl (Below.refl _ _) (by exact rfl)⟩
 ·intro L vs a w' hJ hF hP hL;have p1:L 1=true:=hP ⟨1,.data⟩ (by simp) rfl;have s1:vs 1=.slice a0 l0 k0:=hJ.sp 1 p1;have q13:=hF.slot 1 13 rfl p1;refine Ai (f:=16) (args:= #[.slice a0 l0 k0]) rfl (by simp[go_sem,q13,s1]) (FF.out.1.cut _ hJ.bel) ?_;rintro e w2 ⟨rfl,hb⟩;exact⟨_,rfl,_,rfl,hJ.step hL rfl hb (by exact rfl)⟩
 ·intro L vs a w' hJ hF hP hL;have p2:L 2=true:=hP ⟨2,.data⟩ (by simp) rfl;have s2:vs 2=.slice a0 m0 k0:=hJ.sp 2 p2;have q14:=hF.slot 2 14 rfl p2;refine Ai (f:=15) (args:= #[.slice a0 m0 k0]) rfl (by simp[go_sem,q14,s2]) (FF.out.1.nat _ hJ.bel) ?_;rintro e w2 ⟨v,rfl,hv,hb⟩;exact⟨_,rfl,_,rfl,hJ.step hL rfl hb (by exact hv)⟩
 ·intro L vs a w' hJ hF hP hL;have q1:(a.tmps[1]?).getD undef=.pointer (some ⟨b,0,none⟩):=hF.old 1 rfl;exact Aa (v:=.pointer (some ⟨b,1,none⟩)) rfl (by simp[execOp,go_sem,q1]) ⟨_,rfl,hJ.step hL rfl (Below.refl _ _) (by exact rfl)⟩
 ·intro L vs a w' hJ hF hP hL;have p4:L 4=true:=hP ⟨4,.data⟩ (by simp) rfl;have s4:vs 4=.pointer (some ⟨b,1,none⟩):=hJ.sp 4 p4;have q16:=hF.slot 4 16 rfl p4;have cb:=cell_later hJ.bel (S1.out.cel (b) 1 (.slice a5 l5 k5));exact Aa (v:=.slice a5 l5 k5) rfl (by simp[execOp,go_sem,q16,s4,cb]) ⟨_,rfl,hJ.step hL rfl (Below.refl _ _) (by exact rfl)⟩
 ·intro L vs a w' hJ hF hP hL;have p5:L 5=true:=hP ⟨5,.data⟩ (by simp) rfl;have s5:vs 5=.slice a5 l5 k5:=hJ.sp 5 p5;have q17:=hF.slot 5 17 rfl p5;refine Ai (f:=16) (args:= #[.slice a5 l5 k5]) rfl (by simp[go_sem,q17,s5]) (FF.out.2.1.cut _ hJ.bel) ?_;rintro e w2 ⟨rfl,hb⟩;exact⟨_,rfl,_,rfl,hJ.step hL rfl hb (by exact rfl)⟩
 ·intro L vs a w' hJ hF hP hL;have p6:L 6=true:=hP ⟨6,.data⟩ (by simp) rfl;have s6:vs 6=.slice a5 m5 k5:=hJ.sp 6 p6;have q18:=hF.slot 6 18 rfl p6;refine Ai (f:=15) (args:= #[.slice a5 m5 k5]) rfl (by simp[go_sem,q18,s6]) (FF.out.2.1.nat _ hJ.bel) ?_;rintro e w2 ⟨v,rfl,hv,hb⟩;exact⟨_,rfl,_,rfl,hJ.step hL rfl hb (by exact hv)⟩
 ·intro L vs a w' hJ hF hP hL;exact Aa (v:=.pointer (some ⟨w'.heap.size,0,none⟩)) (w':=w'.alloc (.cells #[.slice none 0 0] 27)) rfl (by simp[execOp,go_sem]) ⟨_,rfl,hJ.alloc hL rfl rfl _⟩
 ·intro L vs a w' hJ hF hP hL;exact Aa (v:=.pointer (some ⟨w'.heap.size,0,none⟩)) (w':=w'.alloc (.cells #[.slice none 0 0] 27)) rfl (by simp[execOp,go_sem]) ⟨_,rfl,hJ.alloc hL rfl rfl _⟩
 ·intro L vs a w' hJ hF hP hL;have p8:L 8=true:=hP ⟨8,.data⟩ (by simp) rfl;have q4:=hF.slot 8 4 rfl p8;have p3:L 3=true:=hP ⟨3,.data⟩ (by simp) rfl;have s3:Ac w' (vs 3) (x):=hJ.sp 3 p3;have q15:=hF.slot 3 15 rfl p3;obtain⟨bk,e1,e2,e3,e4,e5,e6⟩:=hJ.bx (8,10,3) (by simp) p8;have e7:=e5 hL;obtain⟨aa,nn,cc,e8⟩:=s3.isAgg;exact Al (w':=w'.setCell ⟨bk,0,none⟩ (.slice aa nn cc)) rfl (by simp[execOp,go_sem,q4,q15,e1,e8,e7,e4]) ⟨undef,rfl,hJ.store (b:=(8,10,3)) (by simp) hL p8 p3 (by decide) rfl e1 e8⟩
 ·intro L vs a w' hJ hF hP hL;have p9:L 9=true:=hP ⟨9,.data⟩ (by simp) rfl;have q5:=hF.slot 9 5 rfl p9;have p7:L 7=true:=hP ⟨7,.data⟩ (by simp) rfl;have s7:Ac w' (vs 7) (y):=hJ.sp 7 p7;have q19:=hF.slot 7 19 rfl p7;obtain⟨bk,e1,e2,e3,e4,e5,e6⟩:=hJ.bx (9,11,7) (by simp) p9;have e7:=e5 hL;obtain⟨aa,nn,cc,e8⟩:=s7.isAgg;exact Al (w':=w'.setCell ⟨bk,0,none⟩ (.slice aa nn cc)) rfl (by simp[execOp,go_sem,q5,q19,e1,e8,e7,e4]) ⟨undef,rfl,hJ.store (b:=(9,11,7)) (by simp) hL p9 p7 (by decide) rfl e1 e8⟩
 intro L vs w' hA hJ;have s3:Ac w' (vs 3) (x):=hJ.sp 3 (hA 3 (by simp));have s7:Ac w' (vs 7) (y):=hJ.sp 7 (hA 7 (by simp));obtain⟨bk8,eb8,ge8,lt8,fz8,_,e6⟩:=hJ.bx (8,10,3) (by simp) (hA 8 (by simp));obtain⟨_,u8,eu8,ce8⟩:=e6 (hA 10 (by simp));clear e6;obtain⟨bk9,eb9,ge9,lt9,fz9,_,e6⟩:=hJ.bx (9,11,7) (by simp) (hA 9 (by simp));obtain⟨_,u9,eu9,ce9⟩:=e6 (hA 11 (by simp));clear e6;simp only[AC,Act.put,List.setIfInBounds_toArray,List.set_cons_zero,List.set_cons_succ,Nat.reduceAdd];obtain⟨a1,n1,c1,q1⟩:=s3.isAgg;obtain⟨a2,n2,c2,q2⟩:=s7.isAgg;rw[q1]at s3 eu8;rw[q2]at s7 eu9;obtain rfl:u8=.slice a1 n1 c1:=by simpa using eu8.symm
 obtain rfl:u9=.slice a2 n2 c2:=by simpa using eu9.symm
 have nd:bk8≠bk9:=fun e=>hJ.dj (8,10,3) (by simp) (9,11,7) (by simp) (hA 8 (by simp)) (hA 9 (by simp)) (by decide) (by rw[eb8,eb9,e]);simp only[eb8,eb9];obtain⟨w2,ew2⟩:=nme w';rw[←ew2]at s3 s7 ce8 ce9 fz8 fz9 lt8 lt9;rw[←ew2];have S2:Hid _:=S1.out.go (ew2▸hJ.bel);obtain⟨g1,eg1⟩:=nme bk8;obtain⟨g2,eg2⟩:=nme bk9;have M1:Hid (Ac w2 (.agg #[.slice a1 n1 c1]) x∧Ac w2 (.agg #[.slice a2 n2 c2]) y∧w2.cell? ⟨g1,0,none⟩=some (.slice a1 n1 c1)∧w2.cell? ⟨g2,0,none⟩=some (.slice a2 n2 c2)∧w2.frozen? ⟨g2,0,none⟩=false∧g1≠g2∧w1.heap.size≤g1∧w1.heap.size≤g2∧g1<w2.heap.size∧g2<w2.heap.size∧Below w1.heap.size w1 w2):=by
  rw[eg1,eg2];exact⟨s3,s7,ce8,ce9,fz9,nd,ge8,ge9,lt8,lt9,ew2▸hJ.bel⟩
 rw[←eg1,←eg2];have F2:Hid (Fed w2 a0 l0 k0 m0 x∧Fed w2 a5 l5 k5 m5 y):=⟨FF.out.1.go M1.out.2.2.2.2.2.2.2.2.2.2,FF.out.2.1.go M1.out.2.2.2.2.2.2.2.2.2.2⟩;clear eg1 eg2 ew2 s3 s7 ce8 ce9 fz8 fz9 ge8 ge9 lt8 lt9 nd eu8 eu9 eb8 eb9 q1 q2 hJ hA S1;go_wp2_with fail
 refine Aj (JB w2 [sEq (.pointer (some ⟨b,0,none⟩)),sEq (.slice a0 l0 k0),sEq (.slice a0 m0 k0),sR (x),sEq (.pointer (some ⟨b,1,none⟩)),sEq (.slice a5 l5 k5),sEq (.slice a5 m5 k5),sR (y),sAny,sAny,sAny,sAny] [(8,10,3),(9,11,7)]) 46 (by kernel_rfl) rfl (by kernel_rfl) (JB.start _ _ _) (fun HG HN=>⟨?_,?_,?_,?_,?_,?_,?_,?_,?_,?_,?_,?_,trivial⟩) ?_
 ·intro L vs a w' hJ hF hP hL;have q1:(a.tmps[1]?).getD undef=.pointer (some ⟨b,0,none⟩):=hF.old 1 rfl;exact Aa (v:=.pointer (some ⟨b,0,none⟩)) rfl (by simp[execOp,go_sem,q1]) ⟨_,rfl,hJ.step hL rfl (Below.refl _ _) (by exact rfl)⟩
 ·intro L vs a w' hJ hF hP hL;have p0:L 0=true:=hP ⟨0,.data⟩ (by simp) rfl;have s0:vs 0=.pointer (some ⟨b,0,none⟩):=hJ.sp 0 p0;have q20:=hF.slot 0 20 rfl p0;have cb:=cell_later hJ.bel (S2.out.cel (b) 0 (.slice a0 l0 k0));exact Aa (v:=.slice a0 l0 k0) rfl (by simp[execOp,go_sem,q20,s0,cb]) ⟨_,rfl,hJ.step hL rfl (Below.refl _ _) (by exact rfl)⟩
 ·intro L vs a w' hJ hF hP hL;have p1:L 1=true:=hP ⟨1,.data⟩ (by simp) rfl;have s1:vs 1=.slice a0 l0 k0:=hJ.sp 1 p1;have q21:=hF.slot 1 21 rfl p1;refine Ai (f:=16) (args:= #[.slice a0 l0 k0]) rfl (by simp[go_sem,q21,s1]) (F2.out.1.cut _ hJ.bel) ?_;rintro e w2 ⟨rfl,hb⟩;exact⟨_,rfl,_,rfl,hJ.step hL rfl hb (by exact rfl)⟩
 ·intro L vs a w' hJ hF hP hL;have p2:L 2=true:=hP ⟨2,.data⟩ (by simp) rfl;have s2:vs 2=.slice a0 m0 k0:=hJ.sp 2 p2;have q22:=hF.slot 2 22 rfl p2;refine Ai (f:=17) (args:= #[.slice a0 m0 k0]) rfl (by simp[go_sem,q22,s2]) (F2.out.1.ref _ hJ.bel) ?_;rintro e w2 ⟨v,rfl,hv,hb⟩;exact⟨_,rfl,_,rfl,hJ.step hL rfl hb (by exact hv)⟩
 ·intro L vs a w' hJ hF hP hL;have q1:(a.tmps[1]?).getD undef=.pointer (some ⟨b,0,none⟩):=hF.old 1 rfl;exact Aa (v:=.pointer (some ⟨b,1,none⟩)) rfl (by simp[execOp,go_sem,q1]) ⟨_,rfl,hJ.step hL rfl (Below.refl _ _) (by exact rfl)⟩
 ·intro L vs a w' hJ hF hP hL;have p4:L 4=true:=hP ⟨4,.data⟩ (by simp) rfl;have s4:vs 4=.pointer (some ⟨b,1,none⟩):=hJ.sp 4 p4;have q24:=hF.slot 4 24 rfl p4;have cb:=cell_later hJ.bel (S2.out.cel (b) 1 (.slice a5 l5 k5));exact Aa (v:=.slice a5 l5 k5) rfl (by simp[execOp,go_sem,q24,s4,cb]) ⟨_,rfl,hJ.step hL rfl (Below.refl _ _) (by exact rfl)⟩
 ·intro L vs a w' hJ hF hP hL;have p5:L 5=true:=hP ⟨5,.data⟩ (by simp) rfl;have s5:vs 5=.slice a5 l5 k5:=hJ.sp 5 p5;have q25:=hF.slot 5 25 rfl p5;refine Ai (f:=16) (args:= #[.slice a5 l5 k5]) rfl (by simp[go_sem,q25,s5]) (F2.out.2.cut _ hJ.bel) ?_;rintro e w2 ⟨rfl,hb⟩;exact⟨_,rfl,_,rfl,hJ.step hL rfl hb (by exact rfl)⟩
 ·intro L vs a w' hJ hF hP hL;have p6:L 6=true:=hP ⟨6,.data⟩ (by simp) rfl;have s6:vs 6=.slice a5 m5 k5:=hJ.sp 6 p6;have q26:=hF.slot 6 26 rfl p6;refine Ai (f:=17) (args:= #[.slice a5 m5 k5]) rfl (by simp[go_sem,q26,s6]) (F2.out.2.ref _ hJ.bel) ?_;rintro e w2 ⟨v,rfl,hv,hb⟩;exact⟨_,rfl,_,rfl,hJ.step hL rfl hb (by exact hv)⟩
 ·intro L vs a w' hJ hF hP hL;exact Aa (v:=.pointer (some ⟨w'.heap.size,0,none⟩)) (w':=w'.alloc (.cells #[.slice none 0 0] 32)) rfl (by simp[execOp,go_sem]) ⟨_,rfl,hJ.alloc hL rfl rfl _⟩
 ·intro L vs a w' hJ hF hP hL;exact Aa (v:=.pointer (some ⟨w'.heap.size,0,none⟩)) (w':=w'.alloc (.cells #[.slice none 0 0] 32)) rfl (by simp[execOp,go_sem]) ⟨_,rfl,hJ.alloc hL rfl rfl _⟩
 ·intro L vs a w' hJ hF hP hL;have p8:L 8=true:=hP ⟨8,.data⟩ (by simp) rfl;have q6:=hF.slot 8 6 rfl p8;have p3:L 3=true:=hP ⟨3,.data⟩ (by simp) rfl;have s3:Ak w' (vs 3) (x):=hJ.sp 3 p3;have q23:=hF.slot 3 23 rfl p3;obtain⟨bk,e1,e2,e3,e4,e5,e6⟩:=hJ.bx (8,10,3) (by simp) p8;have e7:=e5 hL;obtain⟨aa,nn,cc,e8⟩:=s3.isAgg;exact Al (w':=w'.setCell ⟨bk,0,none⟩ (.slice aa nn cc)) rfl (by simp[execOp,go_sem,q6,q23,e1,e8,e7,e4]) ⟨undef,rfl,hJ.store (b:=(8,10,3)) (by simp) hL p8 p3 (by decide) rfl e1 e8⟩
 ·intro L vs a w' hJ hF hP hL;have p9:L 9=true:=hP ⟨9,.data⟩ (by simp) rfl;have q7:=hF.slot 9 7 rfl p9;have p7:L 7=true:=hP ⟨7,.data⟩ (by simp) rfl;have s7:Ak w' (vs 7) (y):=hJ.sp 7 p7;have q27:=hF.slot 7 27 rfl p7;obtain⟨bk,e1,e2,e3,e4,e5,e6⟩:=hJ.bx (9,11,7) (by simp) p9;have e7:=e5 hL;obtain⟨aa,nn,cc,e8⟩:=s7.isAgg;exact Al (w':=w'.setCell ⟨bk,0,none⟩ (.slice aa nn cc)) rfl (by simp[execOp,go_sem,q7,q27,e1,e8,e7,e4]) ⟨undef,rfl,hJ.store (b:=(9,11,7)) (by simp) hL p9 p7 (by decide) rfl e1 e8⟩
 intro L vs w' hA hJ;have s3:Ak w' (vs 3) (x):=hJ.sp 3 (hA 3 (by simp));have s7:Ak w' (vs 7) (y):=hJ.sp 7 (hA 7 (by simp));obtain⟨bk8,eb8,ge8,lt8,fz8,_,e6⟩:=hJ.bx (8,10,3) (by simp) (hA 8 (by simp));obtain⟨_,u8,eu8,ce8⟩:=e6 (hA 10 (by simp));clear e6;obtain⟨bk9,eb9,ge9,lt9,fz9,_,e6⟩:=hJ.bx (9,11,7) (by simp) (hA 9 (by simp));obtain⟨_,u9,eu9,ce9⟩:=e6 (hA 11 (by simp));clear e6;simp only[AC,Act.put,List.setIfInBounds_toArray,List.set_cons_zero,List.set_cons_succ,Nat.reduceAdd];obtain⟨a3,n3,c3,q1⟩:=s3.isAgg;obtain⟨a4,n4,c4,q2⟩:=s7.isAgg;rw[q1]at s3 eu8;rw[q2]at s7 eu9;obtain rfl:u8=.slice a3 n3 c3:=by simpa using eu8.symm
 obtain rfl:u9=.slice a4 n4 c4:=by simpa using eu9.symm
 have nd:bk8≠bk9:=fun e=>hJ.dj (8,10,3) (by simp) (9,11,7) (by simp) (hA 8 (by simp)) (hA 9 (by simp)) (by decide) (by rw[eb8,eb9,e]);simp only[eb8,eb9];obtain⟨w3,ew3⟩:=nme w';rw[←ew3]at s3 s7 ce8 ce9 fz8 fz9 lt8 lt9;rw[←ew3];have b23:Below w2.heap.size w2 w3:=ew3▸hJ.bel;obtain⟨h1,eh1⟩:=nme bk8;obtain⟨h2,eh2⟩:=nme bk9;rw[←eh1]at ce8 ge8 lt8 nd;rw[←eh2]at ce9 fz9 ge9 lt9 nd;rw[←eh1,←eh2];have M3:Hid (MT w w3 b g1 g2 h1 h2 a1 n1 c1 a2 n2 c2 a3 n3 c3 a4 n4 c4 x y y):=by
  obtain⟨p1,p2,p3,p4,p5,p6,p7,p8,p9,p10,p11⟩:=M1.out;obtain⟨o1,o2⟩:=HB.out;exact⟨p1.mono b23,p2.mono b23,s3,s7,cell_later b23 p3,cell_later b23 p4,ce8,ce9,(b23.frozen (World.block_lt_of_cell? _ _ p4)).trans p5,fz9,(ZZ.out.1.go p11).go b23,(ZZ.out.2.go p11).go b23,Ae FF.out.2.2.2 (Ae p11 b23),⟨p6,by omega,by omega,nd,by omega,by omega,by omega,by omega,by omega⟩,⟨by have:=FF.out.2.2.2.size;omega,by have:=FF.out.2.2.2.size;omega,o1⟩⟩
 have XX:Hid (x<P 15∧y<P 15∧Tab w):=⟨FF.out.1.rs,FF.out.2.1.rs,FF.out.2.2.1⟩;have k4:=M3.out.c4;clear eh1 eh2 ew3 s3 s7 ce8 ce9 fz8 fz9 ge8 ge9 lt8 lt9 nd eu8 eu9 eb8 eb9 q1 q2 hJ hA S2 b23 M1 F2 FF HB ZZ;go_wp2_with fail
 refine(DT _ y _ M3.out.ry (Hg XX.out.2.1).rfits).mono ?_;rintro e w4 ⟨rfl,hb4⟩;have M4:Hid _:=M3.out.go hb4;clear hb4 M3 k4;by_cases hy:y=0
 ·have d1:decide (y=0)=true:=decide_eq_true hy;have e4:=M4.out.c2;go_wp2_with fail
  refine(CR 1 _ (by omega)).mono ?_;rintro e w5 ⟨v5,rfl,hv5,hb5⟩;obtain⟨a5',n5',c5',rfl⟩:=hv5.isAgg;have N5:Hid _:=M4.out.go hb5;have k2:=N5.out.c2;have k2':=N5.out.f2;have M5:Hid _:=N5.out.setN hv5;clear hv5 hb5 M4 e4;go_wp2_with fail
  obtain⟨wa,hwa⟩:=nme (w5.setCell ⟨g2,0,none⟩ (.slice a5' n5' c5'));rw[←hwa]at M5;rw[←hwa];clear hwa N5 k2 k2';refine(Cu 1 _ (by omega)).mono ?_;rintro e wb ⟨v6,rfl,hv6,hb6⟩;obtain⟨a6',n6',c6',rfl⟩:=hv6.isAgg;have N6:Hid _:=M5.out.go hb6;have k2:=N6.out.c4;have k2':=N6.out.f4;have M6:Hid _:=N6.out.setR hv6;clear hv6 hb6 M5;obtain⟨wc,hwc⟩:=nme (wb.setCell ⟨h2,0,none⟩ (.slice a6' n6' c6'));rw[←hwc]at M6;have YY:Hid (RS 1∧0<1):=⟨Bn (by omega),by omega⟩;have EY:Hid (Cm y=1):=by show Cm y=1;unfold Cm;rw[if_pos hy]
  have k1:=M6.out.c1;have k3:=M6.out.c2;rw[hwc]at k1 k3;clear N6 hy;go_wp2_with fail
  rw[←hwc];clear hwc k1 k2 k2' k3;have k1:=M6.out.c1;have k2:=M6.out.c2;have k3:=M6.out.c3;have k4:=M6.out.c4;go_wp2_with fail
  refine(GB _ _ x (1) _ M6.out.nx M6.out.ny (Hg XX.out.1) YY.out.1 YY.out.2 (XX.out.2.2.go M6.out.bel)).mono ?_;rintro e w6 ⟨v6,rfl,hv6,hb6⟩;obtain⟨p1,p2,p3,p4,p5,p6,ev,_,_⟩:=hv6.raw;subst ev;have lbd:b+1+1<w6.heap.size:=World.block_lt_of_cell? _ _ (cell_later hb6 (M6.out.z2 0 (by omega)).1);obtain⟨w7,hw7⟩:=nme (w6.alloc (.cells #[.slice p1 p2 p3,.slice p4 p5 p6] 29));have b67:Below w6.heap.size w6 w7:=by rw[hw7];exact Ad (Ag _)
  have M7:Hid _:=M6.out.go (Ae hb6 b67);have V7:Hid (Rt w7 (.agg #[.slice p1 p2 p3,.slice p4 p5 p6]) (x/Nat.gcd x (1)) ((1)/Nat.gcd x (1))):=hv6.mono b67;have x3:=M7.out.c3;have x4:=M7.out.c4;have r0:w7.cell? ⟨w6.heap.size,0,none⟩=some (.slice p1 p2 p3):=by rw[hw7];simp[go_sem]
  have r1:w7.cell? ⟨w6.heap.size,1,none⟩=some (.slice p4 p5 p6):=by rw[hw7];simp[go_sem]
  rw[hw7]at x3 x4;clear hv6 hb6 b67 k1 k2 k3 k4 M6;go_wp2_with fail
  rw[←hw7]at x3 x4;rw[←hw7];clear hw7;obtain⟨d,hd⟩:=nme w6.heap.size;rw[←hd]at r0 r1 lbd;rw[←hd];clear hd;refine(GW _ _ x (1) _ M7.out.rx M7.out.ry (Hg XX.out.1).rsome YY.out.1.rsome YY.out.2).mono ?_;rintro e w8 ⟨v8,rfl,hv8,hb8⟩;obtain⟨t1,t2,t3,t4,t5,t6,ev,h6,h7⟩:=hv8;subst ev;obtain⟨w9,hw9⟩:=nme (w8.alloc (.cells #[.slice t1 t2 t3,.slice t4 t5 t6] 34));have b89:Below w8.heap.size w8 w9:=by rw[hw9];exact Ad (Ag _)
  have M9:Hid _:=M7.out.go (Ae hb8 b89);have V9:Hid (Rt w9 (.agg #[.slice p1 p2 p3,.slice p4 p5 p6]) (x/Nat.gcd x (1)) ((1)/Nat.gcd x (1))∧RRt w9 (.agg #[.slice t1 t2 t3,.slice t4 t5 t6]) (x/Nat.gcd x (1)) ((1)/Nat.gcd x (1))):=⟨V7.out.mono (Ae hb8 b89),⟨_,_,_,_,_,_,rfl,h6.mono b89,h7.mono b89⟩⟩;have q0:=cell_later (Ae hb8 b89) r0;have q1:=cell_later (Ae hb8 b89) r1;have q2:w9.cell? ⟨w8.heap.size,0,none⟩=some (.slice t1 t2 t3):=by rw[hw9];simp[go_sem]
  have q3:w9.cell? ⟨w8.heap.size,1,none⟩=some (.slice t4 t5 t6):=by rw[hw9];simp[go_sem]
  have z0:=(M9.out.z1 0 (by omega)).1;have z1:=(M9.out.z1 1 (by omega)).1;have z2:=(M9.out.z2 0 (by omega)).1;have z3:=(M9.out.z2 1 (by omega)).1;have y0:=(M9.out.z1 0 (by omega)).2;have y1:=(M9.out.z1 1 (by omega)).2;have y2:=(M9.out.z2 0 (by omega)).2;have y3:=(M9.out.z2 1 (by omega)).2;have lb2:d<w8.heap.size:=World.block_lt_of_cell? _ _ (cell_later hb8 r0);clear h6 h7 hb8 b89 r0 r1 x3 x4 M7 V7;go_wp2_with fail
  rw[←hw9];obtain⟨d',hd'⟩: ∃d',d'=w8.heap.size:=⟨_,rfl⟩;rw[←hd']at q2 q3 lb2;rw[←hd'];have nb1: ¬b+1=d:=by omega
  have nb2: ¬b+1+1=d:=by omega
  have nb3: ¬b+1=d':=by omega
  have nb4: ¬b+1+1=d':=by omega
  have nb5: ¬d=b+1:=by omega
  have nb6: ¬d=b+1+1:=by omega
  have nb7: ¬d'=b+1:=by omega
  have nb8: ¬d'=b+1+1:=by omega
  clear hw9 hd' lbd lb2;have Z:Hid _:=IQ (w0:=w) (s1:=.slice p1 p2 p3) (s2:=.slice p4 p5 p6) (t1:=.slice t1 t2 t3) (t2:=.slice t4 t5 t6) M9.out.z1 M9.out.z2 V9.out.1 V9.out.2 M9.out.bel (by have:=M9.out.lo.2.2;omega);go_region
  go_wp2_with fail
  refine bodyPost_ret (v:=.tuple #[.agg #[.slice p1 p2 p3,.slice p4 p5 p6],.agg #[.slice t1 t2 t3,.slice t4 t5 t6]]) (by simp[results,Tryz.results6,go_sem,z0,z1,z2,z3]) rfl ?_;rw[EY.out];exact⟨_,_,rfl,Z.out.1.mono (Au (Ag _)),Z.out.2.1.mono (Au (Ag _)),Au Z.out.2.2⟩
 have d1:decide (y=0)=false:=decide_eq_false hy;have YY:Hid (RS y∧0<y):=⟨Hg XX.out.2.1,by omega⟩;have EY:Hid (Cm y=y):=by show Cm y=y;unfold Cm;rw[if_neg hy]
 clear hy;have k1:=M4.out.c1;have k2:=M4.out.c2;have k3:=M4.out.c3;have k4:=M4.out.c4;go_wp2_with fail
 refine(GB _ _ x (y) _ M4.out.nx M4.out.ny (Hg XX.out.1) YY.out.1 YY.out.2 (XX.out.2.2.go M4.out.bel)).mono ?_;rintro e w6 ⟨v6,rfl,hv6,hb6⟩;obtain⟨p1,p2,p3,p4,p5,p6,ev,_,_⟩:=hv6.raw;subst ev;have lbd:b+1+1<w6.heap.size:=World.block_lt_of_cell? _ _ (cell_later hb6 (M4.out.z2 0 (by omega)).1);obtain⟨w7,hw7⟩:=nme (w6.alloc (.cells #[.slice p1 p2 p3,.slice p4 p5 p6] 29));have b67:Below w6.heap.size w6 w7:=by rw[hw7];exact Ad (Ag _)
 have M7:Hid _:=M4.out.go (Ae hb6 b67);have V7:Hid (Rt w7 (.agg #[.slice p1 p2 p3,.slice p4 p5 p6]) (x/Nat.gcd x (y)) ((y)/Nat.gcd x (y))):=hv6.mono b67;have x3:=M7.out.c3;have x4:=M7.out.c4;have r0:w7.cell? ⟨w6.heap.size,0,none⟩=some (.slice p1 p2 p3):=by rw[hw7];simp[go_sem]
 have r1:w7.cell? ⟨w6.heap.size,1,none⟩=some (.slice p4 p5 p6):=by rw[hw7];simp[go_sem]
 rw[hw7]at x3 x4;clear hv6 hb6 b67 k1 k2 k3 k4 M4;go_wp2_with fail
 rw[←hw7]at x3 x4;rw[←hw7];clear hw7;obtain⟨d,hd⟩:=nme w6.heap.size;rw[←hd]at r0 r1 lbd;rw[←hd];clear hd;refine(GW _ _ x (y) _ M7.out.rx M7.out.ry (Hg XX.out.1).rsome YY.out.1.rsome YY.out.2).mono ?_;rintro e w8 ⟨v8,rfl,hv8,hb8⟩;obtain⟨t1,t2,t3,t4,t5,t6,ev,h6,h7⟩:=hv8;subst ev;obtain⟨w9,hw9⟩:=nme (w8.alloc (.cells #[.slice t1 t2 t3,.slice t4 t5 t6] 34));have b89:Below w8.heap.size w8 w9:=by rw[hw9];exact Ad (Ag _)
 have M9:Hid _:=M7.out.go (Ae hb8 b89);have V9:Hid (Rt w9 (.agg #[.slice p1 p2 p3,.slice p4 p5 p6]) (x/Nat.gcd x (y)) ((y)/Nat.gcd x (y))∧RRt w9 (.agg #[.slice t1 t2 t3,.slice t4 t5 t6]) (x/Nat.gcd x (y)) ((y)/Nat.gcd x (y))):=⟨V7.out.mono (Ae hb8 b89),⟨_,_,_,_,_,_,rfl,h6.mono b89,h7.mono b89⟩⟩;have q0:=cell_later (Ae hb8 b89) r0;have q1:=cell_later (Ae hb8 b89) r1;have q2:w9.cell? ⟨w8.heap.size,0,none⟩=some (.slice t1 t2 t3):=by rw[hw9];simp[go_sem]
 have q3:w9.cell? ⟨w8.heap.size,1,none⟩=some (.slice t4 t5 t6):=by rw[hw9];simp[go_sem]
 have z0:=(M9.out.z1 0 (by omega)).1;have z1:=(M9.out.z1 1 (by omega)).1;have z2:=(M9.out.z2 0 (by omega)).1;have z3:=(M9.out.z2 1 (by omega)).1;have y0:=(M9.out.z1 0 (by omega)).2;have y1:=(M9.out.z1 1 (by omega)).2;have y2:=(M9.out.z2 0 (by omega)).2;have y3:=(M9.out.z2 1 (by omega)).2;have lb2:d<w8.heap.size:=World.block_lt_of_cell? _ _ (cell_later hb8 r0);clear h6 h7 hb8 b89 r0 r1 x3 x4 M7 V7;go_wp2_with fail
 rw[←hw9];obtain⟨d',hd'⟩: ∃d',d'=w8.heap.size:=⟨_,rfl⟩;rw[←hd']at q2 q3 lb2;rw[←hd'];have nb1: ¬b+1=d:=by omega
 have nb2: ¬b+1+1=d:=by omega
 have nb3: ¬b+1=d':=by omega
 have nb4: ¬b+1+1=d':=by omega
 have nb5: ¬d=b+1:=by omega
 have nb6: ¬d=b+1+1:=by omega
 have nb7: ¬d'=b+1:=by omega
 have nb8: ¬d'=b+1+1:=by omega
 clear hw9 hd' lbd lb2;have Z:Hid _:=IQ (w0:=w) (s1:=.slice p1 p2 p3) (s2:=.slice p4 p5 p6) (t1:=.slice t1 t2 t3) (t2:=.slice t4 t5 t6) M9.out.z1 M9.out.z2 V9.out.1 V9.out.2 M9.out.bel (by have:=M9.out.lo.2.2;omega);go_region
 go_wp2_with fail
 refine bodyPost_ret (v:=.tuple #[.agg #[.slice p1 p2 p3,.slice p4 p5 p6],.agg #[.slice t1 t2 t3,.slice t4 t5 t6]]) (by simp[results,Tryz.results6,go_sem,z0,z1,z2,z3]) rfl ?_;rw[EY.out];exact⟨_,_,rfl,Z.out.1.mono (Au (Ag _)),Z.out.2.1.mono (Au (Ag _)),Au Z.out.2.2⟩
structure SX (w0 w:World) (N M:List (Value×Nat)) (F G:List (Value×Nat×Nat)) (C:List (Nat×Nat×Value)):Prop where
 nats: ∀p∈N,Ac w p.1 p.2
 rnats: ∀p∈M,Ak w p.1 p.2
 frs: ∀p∈F,Rt w p.1 p.2.1 p.2.2
 rfrs: ∀p∈G,RRt w p.1 p.2.1 p.2.2
 cells: ∀p∈C,w.cell? ⟨p.1,p.2.1,none⟩=some p.2.2
 bel:Below w0.heap.size w0 w
theorem SX.go{w0 w:World}{N M:List (Value×Nat)}{F G:List (Value×Nat×Nat)}{C:List (Nat×Nat×Value)}(h:SX w0 w N M F G C){w':World}(hb:Below w.heap.size w w'):SX w0 w' N M F G C:=
 ⟨fun p hp=>(h.nats p hp).mono hb,fun p hp=>(h.rnats p hp).mono hb,fun p hp=>(h.frs p hp).mono hb,fun p hp=>(h.rfrs p hp).mono hb,fun p hp=>cell_later hb (h.cells p hp),Ae h.bel hb⟩
theorem SX.at{w0 w:World}{N M:List (Value×Nat)}{F G:List (Value×Nat×Nat)}{C:List (Nat×Nat×Value)}(h:SX w0 w N M F G C)(v:Value)(x:Nat)(hm:(v,x)∈N:=by simp):Ac w v x:=h.nats _ hm
theorem SX.rat{w0 w:World}{N M:List (Value×Nat)}{F G:List (Value×Nat×Nat)}{C:List (Nat×Nat×Value)}(h:SX w0 w N M F G C)(v:Value)(x:Nat)(hm:(v,x)∈M:=by simp):Ak w v x:=h.rnats _ hm
theorem SX.fr{w0 w:World}{N M:List (Value×Nat)}{F G:List (Value×Nat×Nat)}{C:List (Nat×Nat×Value)}(h:SX w0 w N M F G C)(v:Value)(p q:Nat)(hm:(v,p,q)∈F:=by simp):Rt w v p q:=h.frs _ hm
theorem SX.rfr{w0 w:World}{N M:List (Value×Nat)}{F G:List (Value×Nat×Nat)}{C:List (Nat×Nat×Value)}(h:SX w0 w N M F G C)(v:Value)(p q:Nat)(hm:(v,p,q)∈G:=by simp):RRt w v p q:=h.rfrs _ hm
theorem SX.cel{w0 w:World}{N M:List (Value×Nat)}{F G:List (Value×Nat×Nat)}{C:List (Nat×Nat×Value)}(h:SX w0 w N M F G C)(b i:Nat)(u:Value)(hm:(b,i,u)∈C:=by simp):w.cell? ⟨b,i,none⟩=some u:=h.cells _ hm
theorem SX.cell{w0 w:World}{N M:List (Value×Nat)}{F G:List (Value×Nat×Nat)}{C:List (Nat×Nat×Value)}(h:SX w0 w N M F G C)(b:Nat)(u:Value)(hm:(b,0,u)∈C:=by simp):w.cell? ⟨b,0,none⟩=some u:=h.cells _ hm
theorem SX.addN{w0 w:World}{N M:List (Value×Nat)}{F G:List (Value×Nat×Nat)}{C:List (Nat×Nat×Value)}(h:SX w0 w N M F G C){v:Value}{x:Nat}(hv:Ac w v x):SX w0 w ((v,x)::N) M F G C:=
 ⟨fun p hp=>by
  rcases List.mem_cons.1 hp with e|e
  ·subst e;exact hv
  exact h.nats p e,h.rnats,h.frs,h.rfrs,h.cells,h.bel⟩
theorem SX.addM{w0 w:World}{N M:List (Value×Nat)}{F G:List (Value×Nat×Nat)}{C:List (Nat×Nat×Value)}(h:SX w0 w N M F G C){v:Value}{x:Nat}(hv:Ak w v x):SX w0 w N ((v,x)::M) F G C:=
 ⟨h.nats,fun p hp=>by
  rcases List.mem_cons.1 hp with e|e
  ·subst e;exact hv
  exact h.rnats p e,h.frs,h.rfrs,h.cells,h.bel⟩
theorem SX.addF{w0 w:World}{N M:List (Value×Nat)}{F G:List (Value×Nat×Nat)}{C:List (Nat×Nat×Value)}(h:SX w0 w N M F G C){v:Value}{x y:Nat}(hv:Rt w v x y):SX w0 w N M ((v,x,y)::F) G C:=
 ⟨h.nats,h.rnats,fun p hp=>by
  rcases List.mem_cons.1 hp with e|e
  ·subst e;exact hv
  exact h.frs p e,h.rfrs,h.cells,h.bel⟩
theorem SX.addG{w0 w:World}{N M:List (Value×Nat)}{F G:List (Value×Nat×Nat)}{C:List (Nat×Nat×Value)}(h:SX w0 w N M F G C){v:Value}{x y:Nat}(hv:RRt w v x y):SX w0 w N M F ((v,x,y)::G) C:=
 ⟨h.nats,h.rnats,h.frs,fun p hp=>by
  rcases List.mem_cons.1 hp with e|e
  ·subst e;exact hv
  exact h.rfrs p e,h.cells,h.bel⟩
theorem SX.addC{w0 w:World}{N M:List (Value×Nat)}{F G:List (Value×Nat×Nat)}{C:List (Nat×Nat×Value)}(h:SX w0 w N M F G C){b i:Nat}{v:Value}(hv:w.cell? ⟨b,i,none⟩=some v):SX w0 w N M F G ((b,i,v)::C):=
 ⟨h.nats,h.rnats,h.frs,h.rfrs,fun p hp=>by
  rcases List.mem_cons.1 hp with e|e
  ·subst e;exact hv
  exact h.cells p e,h.bel⟩
theorem SX.box1{w0 w:World}{N M:List (Value×Nat)}{F G:List (Value×Nat×Nat)}{C:List (Nat×Nat×Value)}(h:SX w0 w N M F G C)(u:Value)(t:TypeId)(g:Nat)(hg:g=w.heap.size):SX w0 (w.alloc (.cells #[u] t)) N M F G ((g,0,u)::C):=by
 subst hg;exact(h.go (w':=w.alloc (.cells #[u] t)) (Ad (Below.refl _ _))).addC (by simp)
theorem SX.box{w0 w:World}{N M:List (Value×Nat)}{F G:List (Value×Nat×Nat)}{C:List (Nat×Nat×Value)}(h:SX w0 w N M F G C)(u u':Value)(t:TypeId)(g:Nat)(hg:g=w.heap.size):SX w0 (w.alloc (.cells #[u,u'] t)) N M F G ((g,0,u)::(g,1,u')::C):=by
 subst hg;have h':=h.go (w':=w.alloc (.cells #[u,u'] t)) (Ad (Below.refl _ _));exact(h'.addC (b:=w.heap.size) (i:=1) (v:=u') (by simp)).addC (by simp)
theorem SX.set{w0 w:World}{N M:List (Value×Nat)}{F G:List (Value×Nat×Nat)}{C:List (Nat×Nat×Value)}(h:SX w0 w N M F G C){b i:Nat}{a:Option Addr}{n c:Nat}(hc:w.cell? ⟨b,i,none⟩=some (.slice a n c))(hlo:w0.heap.size≤b)(C':List (Nat×Nat×Value))(hC: ∀p∈C',p∈C∧p.1≠b)(u:Value):SX w0 (w.setCell ⟨b,i,none⟩ u) N M F G C':=
 ⟨fun p hp=>(h.nats p hp).setCell (Af hc) u,fun p hp=>(h.rnats p hp).setCell (Af hc) u,fun p hp=>(h.frs p hp).setCell (Af hc) u,fun p hp=>(h.rfrs p hp).setCell (Af hc) u,
  fun p hp=>by
   rw[World.cell?_setCell_far _ _ _ _ (by simpa using Ne.symm (hC p hp).2)];exact h.cells p (hC p hp).1,
  h.bel.setCell (p:=⟨b,i,none⟩) hlo u⟩
theorem A8(w:World):SX w w [] [] [] [] []:=⟨(fun _ h=>by cases h),(fun _ h=>by cases h),(fun _ h=>by cases h),(fun _ h=>by cases h),(fun _ h=>by cases h),Below.refl _ _⟩
structure JD (w0:World) (specs:List Spec) (needs:List (List Nat)) (st val:Nat) (oth:List Nat) (Sto:World→Value→World→Prop) (L:Nat→Bool) (vs:Nat→Value) (w:World):Prop where
 core:L st=false→JB w0 specs [] L vs w
 cl: ∀j,L j=true→ ∀k∈needs.getD j [],L k=true
 fin:L st=true→(∀j∈oth,L j=true)∧ ∃w1,Below w0.heap.size w0 w1∧(specs.getD val sAny).1 w1 (vs val)∧Sto w1 (vs val) w
theorem JD.start(w:World)(specs:List Spec)(needs:List (List Nat))(st val:Nat)(oth:List Nat)(Sto:World→Value→World→Prop):JD w specs needs st val oth Sto (fun _=>false) (fun _=>undef) w.drew:=
 ⟨fun _=>JB.start _ _ _,(fun _ h=>by cases h),(fun h=>by cases h)⟩
theorem Ah{L:Nat→Bool}: ∀k∈([]:List Nat),L k=true:=fun _ h=>by cases h
theorem Ab{L:Nat→Bool}{a:Nat}{l:List Nat}(h:L a=true)(k: ∀j∈l,L j=true): ∀j∈a::l,L j=true:=fun j hj=>by
 rcases List.mem_cons.1 hj with e|e
 ·rw[e];exact h
 exact k j e
theorem JD.open{w0:World}{specs:List Spec}{needs:List (List Nat)}{st val:Nat}{oth:List Nat}{Sto:World→Value→World→Prop}{L:Nat→Bool}{vs:Nat→Value}{w:World}(h:JD w0 specs needs st val oth Sto L vs w){i:Nat}(hL:L i=false)(hi:i∈oth):JB w0 specs [] L vs w:=
 h.core (by
  cases e:L st
  ·rfl
  have:=(h.fin e).1 i hi;rw[hL]at this;cases this)
theorem JD.step{w0:World}{specs:List Spec}{needs:List (List Nat)}{st val:Nat}{oth:List Nat}{Sto:World→Value→World→Prop}{L:Nat→Bool}{vs:Nat→Value}{w:World}(h:JD w0 specs needs st val oth Sto L vs w){i:Nat}(hL:L i=false)(hi:i∈oth)(hne:i≠st){nd:List Nat}(he:needs.getD i []=nd)(hn: ∀k∈nd,L k=true){v:Value}{w':World}(k:JB w0 specs [] (Am L i) (As vs i v) w'):JD w0 specs needs st val oth Sto (Am L i) (As vs i v) w':=by
 refine⟨fun _=>k,fun j hj m hm=> ?_,fun hs=> ?_⟩
 ·by_cases e:j=i
  ·subst e;rw[he]at hm;have:=hn m hm;unfold Am;split<;>simp_all
  have:=h.cl j (by simpa[Am,e]using hj) m hm;unfold Am;split<;>simp_all
 have hs':L st=true:=by simpa[Am,hne.symm]using hs
 have:=(h.fin hs').1 i hi;rw[hL]at this;cases this
theorem JD.put{w0:World}{specs:List Spec}{needs:List (List Nat)}{st val:Nat}{oth:List Nat}{Sto:World→Value→World→Prop}{L:Nat→Bool}{vs:Nat→Value}{w:World}(h:JD w0 specs needs st val oth Sto L vs w)(hL:L st=false)(hv:val≠st){nd:List Nat}(he:needs.getD st []=nd)(hn: ∀k∈nd,L k=true)(ho: ∀j∈oth,L j=true)(hV:L val=true){w':World}(hs:Sto w (vs val) w'):JD w0 specs needs st val oth Sto (Am L st) (As vs st undef) w':=by
 have J:=h.core hL;refine⟨fun e=> ?_,fun j hj m hm=> ?_,fun _=>⟨fun j hj=> ?_,w,J.bel,?_,?_⟩⟩
 ·simp[Am]at e
 ·by_cases e:j=st
  ·subst e;rw[he]at hm;have:=hn m hm;unfold Am;split<;>simp_all
  have:=h.cl j (by simpa[Am,e]using hj) m hm;unfold Am;split<;>simp_all
 ·have:=ho j hj;unfold Am;split<;>simp_all
 ·have:As vs st undef val=vs val:=by simp[As,hv]
  rw[this];exact J.sp val hV
 have:As vs st undef val=vs val:=by simp[As,hv]
 rw[this];exact hs
def Dl(R:Nat)(w:World)(v:Value)(w':World):Prop:= ∃u u',v=.agg #[u,u']∧w'=(w.setCell ⟨R,0,none⟩ u).setCell ⟨R,1,none⟩ u'
end Go.Proofs.YtcbjkgphpnihiaaGreatDoor
