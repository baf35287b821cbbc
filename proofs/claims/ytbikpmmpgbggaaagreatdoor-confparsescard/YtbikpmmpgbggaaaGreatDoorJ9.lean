/- Contracts of the program's functions, part 9: own work, joined in build order. -/
import Derived.Test.YtbikpmmpgbggaaaGreatDoorJ8
import Derived.ArgAppend
namespace Go.Proofs.YtbikpmmpgbggaaaGreatDoor
open Go.RowKit
set_option maxRecDepth 100000
set_option linter.unusedVariables false
set_option maxHeartbeats 16000000
def EY(w:World)(p q:Nat)(ok:Bool)(e:Ending)(w':World):Prop:= ∃v,e=.returned (.tuple #[v,.bool ok])∧Rt w' v p q∧Below w.heap.size w w'
theorem OM{p q:Nat}(hq:0<q):0<Nat.gcd p q∧Nat.gcd (p/Nat.gcd p q) (q/Nat.gcd p q)=1∧0<q/Nat.gcd p q:=by
 have h0:0<Nat.gcd p q:=Nat.gcd_pos_of_pos_right _ hq;refine⟨h0,?_,Nat.div_pos (Nat.gcd_le_right _ hq) h0⟩;rw[Nat.gcd_div (Nat.gcd_dvd_left _ _) (Nat.gcd_dvd_right _ _),Nat.div_self h0]
theorem EO(v u:Value)(p q:Nat)(w:World)(h:Ac w v p)(k:Ac w u q)(hp:RS p)(hq:RS q)(hq0:0<q)(hT:Tab w):
  Calls Tryz.prog 94 #[v,u] w (EY w (p/Nat.gcd p q) (q/Nat.gcd p q) true):=by
 obtain⟨a,n,c,rfl⟩:=h.isAgg;obtain⟨a',n',c',rfl⟩:=k.isAgg;have HH:Hid (Ac w (.agg #[.slice a n c]) p∧Ac w (.agg #[.slice a' n' c']) q∧RS p∧RS q∧0<q∧Tab w):=⟨h,k,hp,hq,hq0,hT⟩;have ba:Hid (Below w.heap.size w (((w.alloc (.cells #[.slice a n c] 103)).alloc (.cells #[.slice a' n' c'] 103)).alloc (.cells #[.slice none 0 0,.slice none 0 0] 105))):=Ah (Ah (Ah (Aa w)));have hz:decide (q=0)=false:=decide_eq_false (by omega);clear h k hp hq hq0 hT;go_enter Tryz.func94,Tryz.ntmps94
 go_wp2_with fail
 refine(Gv _ q _ (HH.out.2.1.mono ba.out) HH.out.2.2.2.1.fits).mono ?_;rintro e w1 ⟨rfl,hb1⟩;have c0:w1.cell? ⟨w.heap.size,0,none⟩=some (.slice a n c):=cell_later hb1 (by simp[go_sem]);have c1:w1.cell? ⟨w.heap.size+1,0,none⟩=some (.slice a' n' c'):=cell_later hb1 (by simp[go_sem]);have c2:w1.cell? ⟨w.heap.size+1+1,0,none⟩=some (.slice none 0 0):=cell_later hb1 (by simp[go_sem]);have c3:w1.cell? ⟨w.heap.size+1+1,1,none⟩=some (.slice none 0 0):=cell_later hb1 (by simp[go_sem]);have f2:w1.frozen? ⟨w.heap.size+1+1,0,none⟩=false:=(hb1.frozen (by simp)).trans (by simp[go_sem]);have f3:w1.frozen? ⟨w.heap.size+1+1,1,none⟩=false:=(hb1.frozen (by simp)).trans (by simp[go_sem]);have B1:Hid (Below w.heap.size w w1):=Aj ba.out hb1;clear hb1 ba;go_wp2_with fail
 refine(Vm _ _ p q _ (HH.out.1.mono B1.out) (HH.out.2.1.mono B1.out) HH.out.2.2.1.p198 HH.out.2.2.2.1.p198 (HH.out.2.2.2.2.2.go B1.out)).mono ?_;rintro e w2 ⟨v2,rfl,hv2,hb2⟩;obtain⟨a2,n2,k2,rfl⟩:=hv2.isAgg;obtain⟨g,eg⟩:=nme (Nat.gcd p q);rw[←eg]at hv2⊢;have HG:Hid (0<g∧Nat.gcd (p/g) (q/g)=1∧0<q/g∧g<P 198):=by
  obtain⟨g1,g2,g3⟩:=OM (p:=p) HH.out.2.2.2.2.1;rw[←eg]at g1 g2 g3;refine⟨g1,g2,g3,Nat.lt_of_le_of_lt (eg▸Nat.gcd_le_right _ HH.out.2.2.2.2.1) HH.out.2.2.2.1.p198⟩
 obtain⟨w3,hw3⟩:=nme (w2.alloc (.cells #[.slice a2 n2 k2] 103));have b3:Below w1.heap.size w1 w3:=by rw[hw3];exact Aj hb2 (Ah (Aa w2))
 have b23:Below w2.heap.size w2 w3:=by rw[hw3];exact Ah (Aa w2)
 have d0:=cell_later b3 c0;have d1:=cell_later b3 c1;have d2:=cell_later b3 c2;have d3:=cell_later b3 c3;have h2:w3.frozen? ⟨w.heap.size+1+1,0,none⟩=false:=(b3.frozen (World.block_lt_of_cell? _ _ c2)).trans f2;have h3:w3.frozen? ⟨w.heap.size+1+1,1,none⟩=false:=(b3.frozen (World.block_lt_of_cell? _ _ c3)).trans f3;have d4:w3.cell? ⟨w2.heap.size,0,none⟩=some (.slice a2 n2 k2):=by rw[hw3];simp[go_sem]
 have I3:Hid (Ac w3 (.agg #[.slice a n c]) p∧Ac w3 (.agg #[.slice a' n' c']) q∧Ac w3 (.agg #[.slice a2 n2 k2]) g∧Below w.heap.size w w3):=⟨(HH.out.1.mono B1.out).mono b3,(HH.out.2.1.mono B1.out).mono b3,hv2.mono b23,Aj B1.out b3⟩;go_wp2_with fail
 rw[←hw3];obtain⟨b6,hb6⟩:=nme w2.heap.size;have nb: ¬w.heap.size+1+1=b6:=by
  have:w.heap.size+1+1<w2.heap.size:=World.block_lt_of_cell? _ _ (cell_later hb2 c2);omega
 have nb': ¬b6=w.heap.size+1+1:=fun e=>nb e.symm;rw[←hb6]at d4;rw[←hb6];have EG:Hid (g=Nat.gcd p q):=eg;clear hv2 hb2 b3 b23 c0 c1 c2 c3 f2 f3 hw3 hb6 hz eg;go_region_held3 (fun w'=>w'.cell? ⟨w.heap.size,0,none⟩=some (.slice a n c)∧w'.cell? ⟨w.heap.size+1,0,none⟩=some (.slice a' n' c')∧w'.cell? ⟨b6,0,none⟩=some (.slice a2 n2 k2)) (first| (simp[go_sem, *];done)| (trace_state;fail))
  (first
   | (go_at_call_of 124 (Value.agg #[Value.slice a n c]);refine Calls.mono (MY _ _ p g _ (Ac.mono I3.out.1 ?_) (Ac.mono I3.out.2.2.1 ?_) HH.out.2.2.1.p198 HG.out.2.2.2 HG.out.1) ?_;(first|exact Aa _|exact AV (Aa _));(first|exact Aa _|exact AV (Aa _));rintro e w4 ⟨v4,rfl,hv4,hb4⟩;have hb4:Below w3.heap.size w3 w4:=(by first|exact hb4|exact Bf hb4);obtain⟨a4,n4,k4,rfl⟩:=hv4.isAgg;have x0:=cell_later hb4 d0;have x1:=cell_later hb4 d1;have x2:=cell_later hb4 d2;have x3:=cell_later hb4 d3;have x4:=cell_later hb4 d4;have y2:w4.frozen? ⟨w.heap.size+1+1,0,none⟩=false:=(hb4.frozen (World.block_lt_of_cell? _ _ d2)).trans h2;have y3:w4.frozen? ⟨w.heap.size+1+1,1,none⟩=false:=(hb4.frozen (World.block_lt_of_cell? _ _ d3)).trans h3;have I4:Hid (Ac w4 (.agg #[.slice a4 n4 k4]) (p/g)∧Ac w4 (.agg #[.slice a' n' c']) q∧Ac w4 (.agg #[.slice a2 n2 k2]) g∧Below w.heap.size w w4):=⟨hv4,I3.out.2.1.mono hb4,I3.out.2.2.1.mono hb4,Aj I3.out.2.2.2 hb4⟩;clear hv4 hb4)
   | (go_at_call 124;refine Calls.mono (MY _ _ q g _ I4.out.2.1 I4.out.2.2.1 HH.out.2.2.2.1.p198 HG.out.2.2.2 HG.out.1) ?_;rintro e w5 ⟨v5,rfl,hv5,hb5⟩;obtain⟨a5,n5,k5,rfl⟩:=hv5.isAgg;have x5:=cell_later hb5 x2;have x6:=cell_later hb5 x3;have y5:w5.frozen? ⟨w.heap.size+1+1,0,none⟩=false:=(hb5.frozen (World.block_lt_of_cell? _ _ x2)).trans y2;have y6:w5.frozen? ⟨w.heap.size+1+1,1,none⟩=false:=(hb5.frozen (World.block_lt_of_cell? _ _ x3)).trans y3;have x7:=cell_later hb5 x0;have x8:=cell_later hb5 x1;have x9:=cell_later hb5 x4;have I5:Hid (Ac w5 (.agg #[.slice a4 n4 k4]) (p/g)∧Ac w5 (.agg #[.slice a5 n5 k5]) (q/g)∧Below w.heap.size w w5):=⟨I4.out.1.mono hb5,hv5,Aj I4.out.2.2.2 hb5⟩;clear hv5 hb5)
   | (go_at_call 123;refine Calls.mono (MZ _ _ (p/g) (q/g) _ I5.out.1 I5.out.2.1 (HH.out.2.2.1.le (Nat.div_le_self _ _)).fits HG.out.2.2.1 HG.out.2.1) ?_;rintro e w6 ⟨v6,rfl,hv6,hb6⟩;have x10:=cell_later hb6 x5;have x11:=cell_later hb6 x6;have y10:w6.frozen? ⟨w.heap.size+1+1,0,none⟩=false:=(hb6.frozen (World.block_lt_of_cell? _ _ x5)).trans y5;have y11:w6.frozen? ⟨w.heap.size+1+1,1,none⟩=false:=(hb6.frozen (World.block_lt_of_cell? _ _ x6)).trans y6;obtain⟨a6,n6,k6,a7,n7,k7,ev6,_,_⟩:=hv6.raw;subst ev6;have x12:=cell_later hb6 x7;have x13:=cell_later hb6 x8;have x14:=cell_later hb6 x9;have I6:Hid (Rt w6 (.agg #[.slice a6 n6 k6,.slice a7 n7 k7]) (p/g) (q/g)∧Below w.heap.size w w6):=⟨hv6,Aj I5.out.2.2 hb6⟩;clear hv6 hb6))
 have Z:Hid _:=CB (v:=.slice a6 n6 k6) (u:=.slice a7 n7 k7) x10 x11 I6.out.1 I6.out.2 (by omega);rw[EG.out]at Z;go_wp2_with fail
 exact bodyPost_ret (v:=.tuple #[.agg #[.slice a6 n6 k6,.slice a7 n7 k7],.bool true]) (by simp[results,Tryz.results94,go_sem,x10,x11]) rfl ⟨_,rfl,Z.out.1,Z.out.2⟩
theorem Rq(v u:Value)(p:Nat)(w:World)(h:Ac w v p)(k:Ac w u 0):
  Calls Tryz.prog 94 #[v,u] w (EY w 0 1 false):=by
 obtain⟨a,n,c,rfl⟩:=h.isAgg;obtain⟨a',n',c',rfl⟩:=k.isAgg;have HH:Hid (Ac w (.agg #[.slice a' n' c']) 0):=k;have ba:Hid (Below w.heap.size w (((w.alloc (.cells #[.slice a n c] 103)).alloc (.cells #[.slice a' n' c'] 103)).alloc (.cells #[.slice none 0 0,.slice none 0 0] 105))):=Ah (Ah (Ah (Aa w)));clear h k;go_enter Tryz.func94,Tryz.ntmps94
 go_wp2_with fail
 refine(Gv _ 0 _ (HH.out.mono ba.out) (OI (by omega)).fits).mono ?_;rintro e w1 ⟨rfl,hb1⟩;have c2:w1.cell? ⟨w.heap.size+1+1,0,none⟩=some (.slice none 0 0):=cell_later hb1 (by simp[go_sem]);have c3:w1.cell? ⟨w.heap.size+1+1,1,none⟩=some (.slice none 0 0):=cell_later hb1 (by simp[go_sem]);have f2:w1.frozen? ⟨w.heap.size+1+1,0,none⟩=false:=(hb1.frozen (by simp)).trans (by simp[go_sem]);have f3:w1.frozen? ⟨w.heap.size+1+1,1,none⟩=false:=(hb1.frozen (by simp)).trans (by simp[go_sem]);have Z:Hid _:=CB (v:=.slice none 0 0) (u:=.slice none 0 0) c2 c3 (FH w1) (Aj ba.out hb1) (by omega);clear hb1 ba;go_wp2_with fail
 exact bodyPost_ret (v:=.tuple #[.agg #[.slice none 0 0,.slice none 0 0],.bool false]) (by simp[results,Tryz.results94,go_sem,c2,c3]) rfl ⟨_,rfl,Z.out.1,Z.out.2⟩
theorem CR{x:Nat}(h:x<18446744073709551616):RS x:=⟨Nat.lt_of_lt_of_le (by rw[←FT]at h;exact h) (Dt (by omega))⟩
theorem Hl{G:Nat→Nat}{m n:Nat}(h:m≤n):U (Am G m 0) n=U G m:=by
 rw[Kw h fun i h1 h2=>BH (by omega)];exact Cz fun i hi=>by rw[BU (by omega),Nat.zero_add]
theorem Ep{G:Nat→Nat}{m:Nat}(hG:Dg G m)(i:Nat):Am G m 0 i<4294967296:=by
 by_cases h:0+i<m
 ·rw[BU h];exact hG _ h
 rw[BH h];omega
structure Pl (w0 wr:World) (v:Value) (F:Nat→Nat) (n:Nat) (G:Nat→Nat) (m i c:Nat) (H:Nat→Nat):Prop where
 own:OR wr 69 w0.heap.size v i (wd H)
 dg:Dg H i
 sum:U H i+c*B i=U (Am F n 0) i+U (Am G m 0) i
 car:c≤1
 bel:Below w0.heap.size w0 wr
theorem GT(w:World)(u:Value)(t:TypeId):(w.alloc (.cells #[u] t)).cell? ⟨w.heap.size,0,none⟩=some u:=by simp[go_sem]
def XC(a:Value)(f:Nat)(b:Value)(g:Nat)(s:Value)(z:Nat):Prop:=(s=a∧z=f)∨(s=b∧z=g)
theorem Wu{H:Nat→Nat}{F G i c s f g b:Nat}(hs:s=f+g+c)(h:H i=s%4294967296)(e:F+c*b=G):F+s%4294967296*b+s/4294967296*(b*4294967296)=G+f*b+g*b:=by
 have h1:=Nat.div_add_mod s 4294967296;have h2:s*b=(4294967296*(s/4294967296)+s%4294967296)*b:=by rw[h1]
 rw[hs]at h2⊢;grind
theorem OR.blk{w:World}{e:TypeId}{base n:Nat}{v:Value}{G:Nat→Value}(h:OR w e base v n G): ∀j,v.ownBlock=some j→base≤j:=by
 intro j hj;rcases h with⟨rfl,rfl⟩| ⟨g,cap,f,rfl,h1,_⟩
 ·simp[Value.ownBlock]at hj
 simp only[Value.ownBlock,Option.some.injEq]at hj;omega
theorem Pl.step{w0 wr w2:World}{v v2:Value}{F G H:Nat→Nat}{n m i c f g:Nat}(h:Pl w0 wr v F n G m i c H)(hf:f=Am F n 0 i∧g=Am G m 0 i)(lf:f<4294967296)(lg:g<4294967296)
  (ho:OR w2 69 w0.heap.size v2 (i+1) (fun j=>if j=i then .int .u64 (((f:Int)+g+c)%4294967296) else wd H j)) (hb:Below w0.heap.size w0 w2):
  Pl w0 w2 v2 F n G m (i+1) ((f+g+c)/4294967296) (put H i ((f+g+c)%4294967296)):=by
 refine⟨OR.congr ho fun j hj=> ?_,fun j hj=> ?_,?_,?_,hb⟩
 ·unfold wd put;split
  ·congr 1
  rfl
 ·unfold put;split
  ·exact Nat.mod_lt _ (by decide)
  exact h.dg j (by omega)
 ·rw[AP,AP,AP,AN,Cz (F:=put H i _) (G:=H) fun j hj=>Ar _ _ (by omega),←hf.1,←hf.2,DK];have:=Wu (H:=fun _=>(f+g+c)%4294967296) (i:=0) (s:=f+g+c) (f:=f) (g:=g) rfl rfl h.sum;omega
 have:=h.car;omega
theorem Pl.done{w0 wr:World}{v:Value}{F G H:Nat→Nat}{n m mx c:Nat}(h:Pl w0 wr v F n G m (mx+1) c H)(hn:n≤mx)(hm:m≤mx)(dF:Dg F n)(dG:Dg G m):U H (mx+1)=U F n+U G m:=by
 have h1:=h.sum;rw[Hl (by omega),Hl (by omega)]at h1;have h2:=Nat.lt_of_lt_of_le (DM dF) (Hs hn);have h3:=Nat.lt_of_lt_of_le (DM dG) (Hs hm);have h4:=DK mx;have h5:c=0∨c=1:=by have:=h.car;omega
 rcases h5 with rfl|rfl<;>omega
theorem Rr(v u:Value)(x y:Nat)(w:World)(h:Ai w v x)(k:Ai w u y)(hx:AG x)(hy:AG y):
  Calls Tryz.prog 98 #[v,u] w (Dm w (x+y)):=by
 obtain⟨ax,n,cap,rfl⟩:=h.isAgg;obtain⟨ay,m,cap',rfl⟩:=k.isAgg;obtain⟨F,hs,hd,h1,hv⟩:=h.open;obtain⟨G,ks,kd,k1,kv⟩:=k.open;have hn:n≤4294967296:=CQ (hv.symm▸hx) h1;have hm:m≤4294967296:=CQ (kv.symm▸hy) k1;have HH:Hid (Sl w ax n cap F∧Dg F n∧U F n=x∧Sl w ay m cap' G∧Dg G m∧U G m=y):=⟨hs,hd,hv,ks,kd,kv⟩;clear hs hd h1 hv ks kd k1 kv h k hx hy;obtain⟨mx,hmx⟩:=nme (max n m:Nat);have hm1:n≤mx:=by omega
 have hm2:m≤mx:=by omega
 have hm3:mx≤4294967296:=by omega
 have e1:(if n<m then(m:Int) else(n:Int))=(mx:Int):=by split<;>omega
 clear hmx;have HB:Hid (Below w.heap.size w (((w.alloc (.cells #[.slice ax n cap] 64)).alloc (.cells #[.slice ay m cap'] 64)).alloc (.cells #[.slice none 0 0] 64))):=(Ao _ _ _).alloc (by simp<;>omega) _;go_enter Tryz.func98,Tryz.ntmps98
 go_wp2_with fail
 obtain⟨w0,hw0⟩:=nme (((w.alloc (.cells #[.slice ax n cap] 64)).alloc (.cells #[.slice ay m cap'] 64)).alloc (.cells #[.slice none 0 0] 64));have c1:w0.cell? ⟨w.heap.size,0,none⟩=some (.slice ax n cap):=by rw[hw0];simp[go_sem]
 have c2:w0.cell? ⟨w.heap.size+1,0,none⟩=some (.slice ay m cap'):=by rw[hw0];simp[go_sem]
 have c3:w0.cell? ⟨w.heap.size+1+1,0,none⟩=some (.slice none 0 0):=by rw[hw0];simp[go_sem]
 have f3:w0.frozen? ⟨w.heap.size+1+1,0,none⟩=false:=by rw[hw0];simp[go_sem]
 rw[←hw0]at HB⊢;clear hw0;have CC:Hid _:=And.intro c1 (And.intro c2 (And.intro c3 f3));clear c1 c2 c3 f3;go_loopw [5,6,7] (fun l q t wr=> ∃(i c:Nat) (H:Nat→Nat),i≤mx+1∧t=.int .i64 (i:Int)∧q=.int .u64 (c:Int)∧Hid (Pl w0 wr l F n G m i c H)) (fun _ _ t _=>mx+1- (intOf t).toNat)
 case atStart=>exact⟨0,0,fun _=>0,by omega,rfl,rfl,⟨OR.nil _ _ _ _,fun i hi=>absurd hi (by omega),by simp[Ch],by omega,Below.refl _ _⟩⟩
 case round=>
  obtain⟨i,c,H,hi,rfl,rfl,hP⟩:=hrel;have d1:=cell_later hP.out.bel CC.out.1;have d2:=cell_later hP.out.bel CC.out.2.1;by_cases him:i≤mx
  ·have ht:decide (i≤mx)=true:=decide_eq_true him;have hc1:=hP.out.car;have hf:=Ep HH.out.2.1 i;have hg:=Ep HH.out.2.2.2.2.1 i;obtain⟨f,ef⟩:=nme (Am F n 0 i);obtain⟨g,eg⟩:=nme (Am G m 0 i);have EF:Hid (f=Am F n 0 i∧g=Am G m 0 i):=⟨ef,eg⟩;rw[←ef]at hf;rw[←eg]at hg;clear ef eg;have r1:IntKind.u64.wrap ((f:Int)+(g:Int))=((f+g:Nat):Int):=by rw[IntKind.wrap_u64];omega
   have r2:IntKind.u64.wrap (((f+g:Nat):Int)+(c:Int))=((f+g+c:Nat):Int):=by rw[IntKind.wrap_u64];omega
   have DD:Hid (∀(k:Nat) (s:Value) (z:Nat),XC (.slice ax n cap) f (.slice ay m cap') g s z→Calls Tryz.prog 102 #[s,.int .i64 (i:Int)] (wr.drewN k) fun e w'=>e=.returned (.int .u64 (z:Int))∧w'=wr.drewN k):=fun k s z hz=>by
    rcases hz with⟨rfl,rfl⟩| ⟨rfl,rfl⟩
    ·rw[EF.out.1];exact Dn _ _ _ F i _ (HH.out.1.mono (Bd (Aj HB.out hP.out.bel) k)) (by omega)
    rw[EF.out.2];exact Dn _ _ _ G i _ (HH.out.2.2.2.1.mono (Bd (Aj HB.out hP.out.bel) k)) (by omega)
   go_wp2_with fail
   go_quiet ((go_at_call 102;exact Calls.quiet_of_same (DD.out _ _ _ (by first|exact .inl ⟨rfl,rfl⟩|exact .inr ⟨rfl,rfl⟩))))
   have hs6:=HB.out.size;have OW:Hid _:=hP.out.own.below (Ah (Bd (Aa wr) nq) (o:=.cells #[.int .u64 (((f:Int)+(g:Int)+(c:Int))%4294967296)] 69));have CE:Hid (((wr.drewN nq).alloc (.cells #[.int .u64 (((f:Int)+(g:Int)+(c:Int))%4294967296)] 69)).cell? ⟨wr.heap.size,0,none⟩=some (.int .u64 (((f:Int)+(g:Int)+(c:Int))%4294967296))):=GT (wr.drewN nq) _ _;have SZ:Hid (w0.heap.size≤((wr.drewN nq).alloc (.cells #[.int .u64 (((f:Int)+(g:Int)+(c:Int))%4294967296)] 69)).heap.size):=Nat.le_trans hP.out.bel.size (Ah (Bd (Aa wr) nq)).size;have hs7:w0.heap.size≤wr.heap.size:=hP.out.bel.size;go_wp2_with (refine(id ?_:wpList Tryz.prog _ _ (⟨some 35,_,_,_,_,_⟩::_) _ _);refine hold ?_)
   intro _;refine A5 rfl (.tmp 31) (.tmp 34) 62 rfl 69 (.int .u64 0) 8 Tryz.underlying62 Tryz.info22b rfl (by omega) w0.heap.size _ i (wd H) rfl OW.out _ _ rfl _ CE.out rfl (by omega) SZ.out ?_;intro g2 cap2 w2 ho hg2 _ _;have S:Hid _:=hP.out.step EF.out hf hg ho (((Bd hP.out.bel nq).alloc hs7 _).grown hg2 SZ.out hP.out.own.blk);clear ho hg2 OW;go_wp2_with fail
   go_roundw
   case rel=>exact⟨i+1,_,_,by omega,by go_num,by go_num,S.out⟩
   case measure=>simp[intOf];omega
  obtain rfl:i=mx+1:=by omega
  have B0:Hid (Below w.heap.size w wr):=Aj HB.out hP.out.bel;have ht:decide (mx+1≤mx)=false:=decide_eq_false him;obtain⟨a,cap1,rfl,hsl⟩:=hP.out.own.sl (fun j hj=>by have:=hP.out.dg j hj;omega);have hcr:wr.cell? ⟨w.heap.size+1+1,0,none⟩=some (.slice none 0 0):=cell_later hP.out.bel CC.out.2.2.1;have hfr:wr.frozen? ⟨w.heap.size+1+1,0,none⟩=false:=(hP.out.bel.frozen (World.block_lt_of_cell? _ _ CC.out.2.2.1)).trans CC.out.2.2.2;have HS:Hid (Sl wr a (mx+1) cap1 H):=hsl;clear hsl;go_wp2_with fail
  refine(Eo _ (mx+1) _ H wr HS.out hP.out.dg (by omega) (fun e=>absurd e (by omega))).mono ?_;rintro e w3 ⟨v3,rfl,hv3,hb3⟩;rw[hP.out.done hm1 hm2 HH.out.2.1 HH.out.2.2.2.2.1,HH.out.2.2.1,HH.out.2.2.2.2.2]at hv3;have hcr3:w3.cell? ⟨w.heap.size+1+1,0,none⟩=some (.slice none 0 0):=cell_later hb3 hcr;have hfr3:w3.frozen? ⟨w.heap.size+1+1,0,none⟩=false:=(hb3.frozen (World.block_lt_of_cell? _ _ hcr)).trans hfr;obtain⟨a3,n3,cap3,rfl⟩:=hv3.isAgg;have HV3:Hid (Ai w3 (.agg #[.slice a3 n3 cap3]) (x+y)):=hv3;have B3:Hid (Below w.heap.size w w3):=Aj B0.out hb3;clear hv3 hb3 hcr hfr;go_wp2_with fail
  refine bodyPost_ret (v:=.agg #[.slice a3 n3 cap3]) (by simp[results,Tryz.results98,go_sem,hcr3]) rfl ⟨_,rfl,?_,B3.out.setCell (by show _≤_+1+1;omega) _⟩;exact HV3.out.setCell (Ad hcr3) _
theorem Ht(a:Option Addr)(n cap:Nat)(F:Nat→Nat)(w:World)(h:Sl w a n cap F)(hd:Dg F n)(hn:n≤1099511627776)(hn0:n≠0):
  Calls Tryz.prog 100 #[.slice a n cap] w fun e w'=> ∃k,e=.returned (.agg #[.slice a k cap])∧Ai w' (.agg #[.slice a k cap]) (U F n)∧Below w.heap.size w w':=by
 have HD:Hid (Dg F n∧True):=⟨hd,trivial⟩;clear hd;go_enter Tryz.func100,Tryz.ntmps100
 go_wp2_with fail
 go_loop [3] (fun t=> ∃k:Nat,k≤n∧t=.int .i64 k∧Hid (∀i,k≤i→i<n→F i=0)) (fun t=>(intOf t).toNat)
 case atStart=>exact⟨n,Nat.le_refl _,rfl,fun i h1 h2=>absurd h1 (by omega)⟩
 case round=>
  obtain⟨k,hk,rfl,hz⟩:=hrel;have HH:Hid (Sl w a n cap F):=h;clear h;by_cases h0:k=0
  ·subst h0;obtain⟨b,o,rfl,hw⟩:=HH.out.at 0 (by omega);have hcap:(0:Int)≤cap:=by omega
   have hcz: ¬cap=0:=by have:=HH.out.1;omega
   clear hw;go_wp2_with fail
   refine bodyPost_ret (v:=.agg #[.slice (some ⟨b,o,none⟩) 0 cap]) (by simp[results,Tryz.results100,go_sem]) rfl ⟨_,rfl,⟨_,0,cap,F,rfl,⟨Nat.zero_le _,HH.out.2.1,fun i hi=>absurd hi (by omega),.inl rfl⟩,fun i hi=>absurd hi (by omega),fun e=>absurd e (by omega),?_⟩,?_⟩
   ·rw[Ch,Gz fun i hi=>hz.out i (Nat.zero_le _) hi]
   exact(Below.refl _ _).alloc (Nat.le_refl _) _
  obtain⟨b,o,rfl,hw⟩:=HH.out.at (k-1) (by omega);have hc:(w.alloc (.cells #[.slice none 0 0] 64)).cell? ⟨b,o+(k-1),none⟩=some (.int .u64 (F (k-1):Nat)):=cell_later ((Below.refl _ _).alloc (Nat.le_refl _) _) (hw (k-1) (by omega));have h0':(0:Int)<k:=by omega
  clear hw;by_cases hf:F (k-1)=0
  ·rw[hf]at hc;go_wp2_with fail
   go_round
   case rel=>
    refine⟨k-1,by omega,by go_num,fun i h1 h2=> ?_⟩;by_cases e:i=k-1
    ·rw[e,hf]
    exact hz.out i (by omega) h2
   case measure=>simp[intOf];omega
  have hne:(((F (k-1):Nat):Int)==0)=false:=by simp;omega
  have hk0:((k:Int)==0)=false:=by simp;omega
  have hcap:(k:Int)≤cap:=by have:=HH.out.1;omega
  go_wp2_with fail
  have rn:Ai w (.agg #[.slice (some ⟨b,o,none⟩) k cap]) (U F n):=by
   obtain⟨s1,s2,s3,s4⟩:=HH.out;obtain⟨b2,o2,e2,hw2⟩: ∃b2 o2,some (⟨b,o,none⟩:Addr)=some ⟨b2,o2,none⟩∧Dc w b2 o2 n F:=s4.resolve_left (by omega);exact⟨_,k,cap,F,rfl,⟨by omega,s2,s3.mono hk,.inr ⟨b2,o2,e2,fun i hi=>hw2 i (by omega)⟩⟩,HD.out.1.mono hk,fun _=>hf,(Kw hk hz.out).symm⟩
  refine bodyPost_ret (v:=.agg #[.slice (some ⟨b,o,none⟩) k cap]) (by simp[results,Tryz.results100,go_sem]) rfl ⟨_,rfl,rn.mono ((Below.refl _ _).alloc (Nat.le_refl _) _),(Below.refl _ _).alloc (Nat.le_refl _) _⟩
def Tp(F:Nat→Nat)(n i:Nat):Nat:=U (fun j=>F (i+j)) (n-i)
theorem Rs(F:Nat→Nat)(n:Nat):Tp F n n=0:=by rw[Tp,Nat.sub_self,Ch]
theorem Ru(F:Nat→Nat)(n:Nat):Tp F n 0=U F n:=by
 rw[Tp,Nat.sub_zero];exact Cz fun j hj=>by rw[Nat.zero_add]
theorem ON(F:Nat→Nat){n i:Nat}(h:i<n):Tp F n i=F i+4294967296*Tp F n (i+1):=by
 unfold Tp;rw[show n-i=1+(n- (i+1)) by omega,Df,IE,AP,Ch,Gb,Nat.zero_add,Nat.mul_one,Nat.add_zero];congr 2
 exact Cz fun j hj=>by rw[show i+(1+j)=i+1+j by omega]
theorem TF{F G:Nat→Nat}{n i:Nat}(h: ∀j,i≤j→j<n→F j=G j):Tp F n i=Tp G n i:=Cz fun j hj=>h _ (by omega) (by omega)
theorem M1{r f d:Nat}(hr:r<d)(hf:f<4294967296):(r*4294967296+f)/d<4294967296:=by
 refine(Nat.div_lt_iff_lt_mul (by omega)).2 ?_;have:(r+1)*4294967296≤d*4294967296:=Nat.mul_le_mul_right _ hr;omega
theorem TG{f T Q r d s:Nat}(h:T=Q*d+r)(hs:s=r*4294967296+f):f+4294967296*T=(s/d+4294967296*Q)*d+s%d:=by
 have h1:=Nat.div_add_mod s d;have h2:4294967296*T=4294967296*(Q*d+r):=by rw[h]
 grind
structure Sm (F:Nat→Nat) (n d i r:Nat) (H:Nat→Nat):Prop where
 eq:Tp F n i=Tp H n i*d+r
 lt:r<d
 dg: ∀j,i≤j→j<n→H j<4294967296
theorem Sm.step{F H:Nat→Nat}{n d i r:Nat}(h:Sm F n d (i+1) r H)(hi:i<n)(hf:F i<4294967296):Sm F n d i ((r*4294967296+F i)%d) (put H i ((r*4294967296+F i)/d)):=by
 refine⟨?_,Nat.mod_lt _ (Nat.lt_of_le_of_lt (Nat.zero_le _) h.lt),fun j h1 h2=> ?_⟩
 ·rw[ON F hi,ON _ hi,AN,TF (F:=put H i _) (G:=H) fun j h1 h2=>Ar _ _ (by omega)];exact TG h.eq rfl
 unfold put;split
 ·exact M1 h.lt hf
 exact h.dg j (by omega) h2
theorem Sm.done{F H:Nat→Nat}{n d r:Nat}(h:Sm F n d 0 r H):U H n=U F n/d∧r=U F n%d:=by
 have h1:=h.eq;rw[Ru,Ru]at h1;have h2:=h.lt;have h3:0<d:=by omega
 rw[h1,Nat.mul_comm (U H n) d];constructor
 ·rw[Nat.mul_add_div h3,Nat.div_eq_of_lt h2,Nat.add_zero]
 rw[Nat.mul_add_mod,Nat.mod_eq_of_lt h2]
theorem Rv(ax:Option Addr)(n cap x d:Nat)(w:World)(h:Ai w (.agg #[.slice ax n cap]) x)(hx:AG x)(hd0:0<d)(hd1:d<4294967296)(hx0:x≠0):
  Calls Tryz.prog 132 #[.agg #[.slice ax n cap],.int .u64 (d:Int)] w fun e w'=> ∃k,e=.returned (.tuple #[.agg #[.slice (some ⟨w.heap.size+1+1,0,none⟩) k n],.int .u64 ((x%d:Nat):Int)])∧Ai w' (.agg #[.slice (some ⟨w.heap.size+1+1,0,none⟩) k n]) (x/d)∧Below w.heap.size w w':=by
 have hn0:n≠0:=fun e=>hx0 ((Ge h).1 e);obtain⟨F,hs,hd,h1,hv⟩:=h.open;have hn:n≤4294967296:=CQ (hv.symm▸hx) h1;have HH:Hid (Sl w ax n cap F∧Dg F n∧U F n=x):=⟨hs,hd,hv⟩;clear hs hd h1 hv h hx;have mk:=Cy (n:Int) (n:Int) n n rfl rfl (Nat.le_refl _) (by omega);go_enter Tryz.func132,Tryz.ntmps132
 go_wp2_with fail
 clear mk;obtain⟨w0,hw0⟩:=nme (((w.alloc (.cells #[.slice ax n cap] 64)).alloc (.cells #[.slice none 0 0] 64)).alloc (.cells (Cv n) 69));have c1:w0.cell? ⟨w.heap.size,0,none⟩=some (.slice ax n cap):=by rw[hw0];simp[go_sem]
 have c2:w0.cell? ⟨w.heap.size+1,0,none⟩=some (.slice none 0 0):=by rw[hw0];simp[go_sem]
 have f2:w0.frozen? ⟨w.heap.size+1,0,none⟩=false:=by rw[hw0];simp[go_sem]
 have R0:Row w0 (w.heap.size+1+1) n (fun _=>0):=by rw[hw0];exact Bh _ _ _ (by simp)
 have HB:Hid (Below w.heap.size w w0):=by rw[hw0];exact(Ao _ _ _).alloc (by simp<;>omega) _
 rw[←hw0];clear hw0;have CC:Hid _:=And.intro c1 (And.intro c2 f2);clear c1 c2 f2;go_loopw [7,8] (fun q t wr=> ∃(i r:Nat) (H:Nat→Nat),i≤n∧t=.int .i64 ((i:Int)-1)∧q=.int .u64 (r:Int)∧Hid (Row wr (w.heap.size+1+1) n H∧Sm F n d i r H∧w0.grownBy wr (some (w.heap.size+1+1)))) (fun _ t _=>(intOf t+1).toNat)
 case atStart=>exact⟨n,0,fun _=>0,by omega,rfl,rfl,⟨R0,⟨by rw[Rs,Rs];omega,hd0,fun j h1 h2=>absurd h2 (by omega)⟩,World.grownBy.refl _ _⟩⟩
 case round=>
  clear R0;obtain⟨i,r,H,hi,rfl,rfl,hP⟩:=hrel;by_cases hi0:0<i
  ·obtain⟨k,rfl⟩: ∃k,i=k+1:=⟨i-1,by omega⟩;obtain⟨b,o,rfl,hw⟩:=HH.out.1.at k (by omega);have hc0:=hw k (by omega);have hb:b<w.heap.size:=World.block_lt_of_cell? _ _ hc0;have hcw:wr.cell? ⟨b,o+k,none⟩=some (.int .u64 (F k:Nat)):=hP.out.2.2.cell (cell_later HB.out hc0) (by simp only[ne_eq,Option.some.injEq];omega);have hcx:wr.cell? ⟨w.heap.size,0,none⟩=some (.slice (some ⟨b,o,none⟩) n cap):=hP.out.2.2.cell CC.out.1 (by simp only[ne_eq,Option.some.injEq];omega);have hcd:wr.cell? ⟨w.heap.size+1+1,k,none⟩=some (.int .u64 (H k:Nat)):=hP.out.1.cell (by omega);have hfd:wr.frozen? ⟨w.heap.size+1+1,k,none⟩=false:=hP.out.1.frozen _;have hidx:((k+1:Nat):Int)-1=(k:Int):=by omega
   have hF:=HH.out.2.1 k (by omega);have hr:=hP.out.2.1.lt;have m1:IntKind.u64.wrap ((r:Int)*4294967296)=((r*4294967296:Nat):Int):=by rw[IntKind.wrap_u64];omega
   have m2:IntKind.u64.wrap (((r*4294967296:Nat):Int)+((F k:Nat):Int))=((r*4294967296+F k:Nat):Int):=by rw[IntKind.wrap_u64];omega
   have hq:=M1 hr hF;obtain⟨s,hs⟩:=nme (r*4294967296+F k);have m3:((d:Int)==0)=false:=by simp;omega
   have S:Hid _:=And.intro (hP.out.1.set k (show(r*4294967296+F k)/d<18446744073709551616 by omega)) (And.intro (hP.out.2.1.step (by omega) hF) (AZ _ hP.out.2.2 k (.int .u64 (((r*4294967296+F k)/d:Nat):Int))));clear hw hc0 hs hq;rw[hidx];have hz:((r:Int)*4294967296+((F k:Nat):Int))/(d:Int)=(((r*4294967296+F k)/d:Nat):Int):=by simp
   have hz2:((r:Int)*4294967296+((F k:Nat):Int))%(d:Int)=(((r*4294967296+F k)%d:Nat):Int):=by simp
   have HZ:Hid _:=And.intro hz hz2;clear hz hz2;go_wp2_with fail
   rw[HZ.out.1,HZ.out.2];go_roundw
   case rel=>exact⟨k,_,_,by omega,rfl,rfl,S.out⟩
   case measure=>simp[intOf]
  obtain rfl:i=0:=by omega
  have B0:Hid (Below w.heap.size w wr):=HB.out.grown hP.out.2.2 HB.out.size (fun k hk=>by cases hk;omega);have hcr:wr.cell? ⟨w.heap.size+1,0,none⟩=some (.slice none 0 0):=hP.out.2.2.cell CC.out.2.1 (by simp);have hfr:wr.frozen? ⟨w.heap.size+1,0,none⟩=false:=(World.frozen?_of_block (hP.out.2.2.block _ (World.block_lt_of_cell? _ _ CC.out.2.1) (by simp))).trans CC.out.2.2;go_wp2_with fail
  refine(Ht _ n n H wr (by have:=hP.out.1.sl (o:=0) (n:=n) (cap:=n) (by omega) (Nat.le_refl _) (by omega);rw[AX]at this;exact this) (fun j hj=>hP.out.2.1.dg j (Nat.zero_le _) hj) (by omega) hn0).mono ?_;rintro e w3 ⟨n3,rfl,hv3,hb3⟩;have he:=hP.out.2.1.done;rw[HH.out.2.2]at he;rw[he.1]at hv3;have hcr3:w3.cell? ⟨w.heap.size+1,0,none⟩=some (.slice none 0 0):=cell_later hb3 hcr;have hfr3:w3.frozen? ⟨w.heap.size+1,0,none⟩=false:=(hb3.frozen (World.block_lt_of_cell? _ _ hcr)).trans hfr;have HV3:Hid (Ai w3 (.agg #[.slice (some ⟨w.heap.size+1+1,0,none⟩) n3 n]) (x/d)):=hv3;have B3:Hid (Below w.heap.size w w3):=Aj B0.out hb3;have HE:Hid (r=x%d):=he.2;clear hv3 hb3 hcr hfr he;go_wp2_with fail
  refine bodyPost_ret (v:=.tuple #[.agg #[.slice (some ⟨w.heap.size+1+1,0,none⟩) n3 n],.int .u64 (r:Int)]) (by simp[results,Tryz.results132,go_sem,hcr3]) rfl ⟨_,by rw[HE.out],?_,B3.out.setCell (by show _≤_+1;omega) _⟩;exact HV3.out.setCell (Ad hcr3) _
theorem PO(v:Value)(x d:Nat)(w:World)(h:Ai w v x)(hx:AG x)(hd0:0<d)(hd1:d<4294967296)(hx0:x≠0):
  Calls Tryz.prog 132 #[v,.int .u64 (d:Int)] w fun e w'=> ∃v',e=.returned (.tuple #[v',.int .u64 ((x%d:Nat):Int)])∧Ai w' v' (x/d)∧Below w.heap.size w w':=by
 obtain⟨ax,n,cap,rfl⟩:=h.isAgg;exact(Rv ax n cap x d w h hx hd0 hd1 hx0).mono fun e w' ⟨k,e1,e2,e3⟩=>⟨_,e1,e2,e3⟩
theorem Mh(b o:Nat)(w:World):
  Calls Tryz.prog 100 #[.slice (some ⟨b,o,none⟩) 0 0] w (Dm w 0):=by
 go_enter Tryz.func100,Tryz.ntmps100
 go_wp2_with fail
 refine wp_loop_rounds 1 ?_;rw[rounds_succ];go_wp2_with fail
 exact bodyPost_ret (v:=.agg #[.slice (some ⟨b,o,none⟩) 0 0]) (by simp[results,Tryz.results100,go_sem]) rfl ⟨_,rfl,⟨_,0,0,fun _=>0,rfl,⟨Nat.le_refl _,by omega,fun i hi=>absurd hi (by omega),.inl rfl⟩,fun i hi=>absurd hi (by omega),fun h=>absurd h (by omega),rfl⟩,(Below.refl _ _).alloc (Nat.le_refl _) _⟩
theorem M5(b o n:Nat)(F:Nat→Nat)(w:World)(h:Sl w (some ⟨b,o,none⟩) n n F)(hd:Dg F n)(hn:n≤1099511627776):
  Calls Tryz.prog 100 #[.slice (some ⟨b,o,none⟩) n n] w (Dm w (U F n)):=by
 by_cases h0:n=0
 ·subst h0;exact Mh b o w
 exact Eo _ n n F w h hd hn fun e=>absurd e h0
theorem PP(H:Nat→Nat)(q N e:Nat)(hq:q<N):U (put H q e) N+H q*B q=U H N+e*B q:=by
 obtain⟨t,rfl⟩: ∃t,N=q+1+t:=⟨N- (q+1),by omega⟩;rw[Df _ (q+1),Df H (q+1),AP,AP,AN,Cz (F:=put H q e) (G:=H) (n:=q) fun i hi=>Ar _ _ (by omega),
  Cz (F:=fun i=>put H q e (q+1+i)) (G:=fun i=>H (q+1+i)) fun i hi=>Ar _ _ (by omega)]
 omega
theorem US{f g h c:Nat}(hf:f<4294967296)(hg:g<4294967296)(hh:h<4294967296)(hc:c<4294967296):f*g+h+c<18446744073709551616:=by
 have:f*g≤4294967295*4294967295:=Nat.mul_le_mul (by omega) (by omega);omega
theorem Xh{u' u h b s f g c T fb:Nat}(e1:u'+h*b=u+s%4294967296*b)(hs:s=f*g+h+c)(e2:u+c*b=T)(hfb:f*b*g=fb):u'+s/4294967296*(b*4294967296)=T+fb:=by
 have h1:=Nat.div_add_mod s 4294967296;have h2:s*b=(4294967296*(s/4294967296)+s%4294967296)*b:=by rw[h1]
 have h3:s*b=(f*g+h+c)*b:=by rw[hs]
 grind
structure Tm (F:Nat→Nat) (n:Nat) (G:Nat→Nat) (m i k c:Nat) (H:Nat→Nat):Prop where
 eq:U H (n+m)+c*B (i+k)=U F i*U G m+F i*B i*U G k
 dg:Dg H (n+m)
 top: ∀j,i+m≤j→H j=0
 car:c<4294967296
theorem Tm.step{F G H:Nat→Nat}{n m i k c:Nat}(h:Tm F n G m i k c H)(hi:i<n)(hk:k<m)(hf:F i<4294967296)(hg:G k<4294967296):
  Tm F n G m i (k+1) ((F i*G k+H (i+k)+c)/4294967296) (put H (i+k) ((F i*G k+H (i+k)+c)%4294967296)):=by
 have hl:=US hf hg (h.dg (i+k) (by omega)) h.car;refine⟨?_,fun j hj=> ?_,fun j hj=> ?_,by omega⟩
 ·rw[show i+(k+1)=i+k+1 by omega,DK,AP,Nat.mul_add,←Nat.add_assoc];refine Xh (PP H (i+k) (n+m) _ (by omega)) rfl h.eq ?_;rw[Mr];grind
 ·unfold put;split
  ·exact Nat.mod_lt _ (by decide)
  exact h.dg j hj
 rw[Ar _ _ (by omega)];exact h.top j hj
theorem Tm.next{F G H:Nat→Nat}{n m i c:Nat}(h:Tm F n G m i m c H)(hi:i<n):Tm F n G m (i+1) 0 0 (put H (i+m) c):=by
 refine⟨?_,fun j hj=> ?_,fun j hj=> ?_,by omega⟩
 ·have h1:=PP H (i+m) (n+m) c (by omega);rw[h.top (i+m) (by omega)]at h1;have h2:=h.eq;rw[AP,Ch];grind
 ·unfold put;split
  ·exact h.car
  exact h.dg j hj
 rw[Ar _ _ (by omega)];exact h.top j (by omega)
theorem CK(v u:Value)(x y:Nat)(w:World)(h:Ai w v x)(k:Ai w u y)(hx:AG x)(hy:AG y):
  Calls Tryz.prog 62 #[v,u] w (Dm w (x*y)):=by
 obtain⟨ax,n,cap,rfl⟩:=h.isAgg;obtain⟨ay,m,cap',rfl⟩:=k.isAgg;obtain⟨F,hs,hd,h1,hv⟩:=h.open;obtain⟨G,ks,kd,k1,kv⟩:=k.open;have hn:n≤4294967296:=CQ (hv.symm▸hx) h1;have hm:m≤4294967296:=CQ (kv.symm▸hy) k1;have HH:Hid (Sl w ax n cap F∧Dg F n∧U F n=x∧Sl w ay m cap' G∧Dg G m∧U G m=y):=⟨hs,hd,hv,ks,kd,kv⟩;clear hs hd h1 hv ks kd k1 kv h k hx hy;have mk:=Cy ((n:Int)+(m:Int)) ((n:Int)+(m:Int)) (n+m) (n+m) (by omega) (by omega) (Nat.le_refl _) (by omega);go_enter Tryz.func62,Tryz.ntmps62
 go_wp2_with fail
 clear mk;obtain⟨w0,hw0⟩:=nme ((((w.alloc (.cells #[.slice ax n cap] 64)).alloc (.cells #[.slice ay m cap'] 64)).alloc (.cells #[.slice none 0 0] 64)).alloc (.cells (Cv (n+m)) 69));have c1:w0.cell? ⟨w.heap.size,0,none⟩=some (.slice ax n cap):=by rw[hw0];simp[go_sem]
 have c2:w0.cell? ⟨w.heap.size+1,0,none⟩=some (.slice ay m cap'):=by rw[hw0];simp[go_sem]
 have c3:w0.cell? ⟨w.heap.size+1+1,0,none⟩=some (.slice none 0 0):=by rw[hw0];simp[go_sem]
 have f3:w0.frozen? ⟨w.heap.size+1+1,0,none⟩=false:=by rw[hw0];simp[go_sem]
 have R0:Row w0 (w.heap.size+1+1+1) (n+m) (fun _=>0):=by rw[hw0];exact Bh _ _ _ (by simp)
 have HB:Hid (Below w.heap.size w w0):=by rw[hw0];exact((Ao _ _ _).alloc (by simp<;>omega) _).alloc (by simp<;>omega) _
 rw[←hw0];clear hw0;have CC:Hid _:=And.intro c1 (And.intro c2 (And.intro c3 f3));clear c1 c2 c3 f3;go_loopw [6] (fun t wr=> ∃(i:Nat) (H:Nat→Nat),i≤n∧t=.int .i64 (i:Int)∧Hid (Row wr (w.heap.size+1+1+1) (n+m) H∧Tm F n G m i 0 0 H∧w0.grownBy wr (some (w.heap.size+1+1+1)))) (fun t _=>n- (intOf t).toNat)
 case atStart=>exact⟨0,fun _=>0,by omega,rfl,⟨R0,⟨by rw[Gz fun _ _=>rfl,Ch,Ch];omega,fun j _=>by show 0<_;omega,fun _ _=>rfl,by omega⟩,World.grownBy.refl _ _⟩⟩
 case round=>
  clear R0;obtain⟨i,H0,hi,rfl,hP0⟩:=hrel;have d1:wr.cell? ⟨w.heap.size,0,none⟩=some (.slice ax n cap):=hP0.out.2.2.cell CC.out.1 (by simp only[ne_eq,Option.some.injEq];omega);by_cases him:i<n
  ·have him':(i:Int)<n:=by omega
   have P0:Hid _:=hP0.out;go_wp2_with fail
   clear d1 hP0;go_loopw [7,8] (fun q t wq=> ∃(k c:Nat) (H:Nat→Nat),k≤m∧t=.int .i64 (k:Int)∧q=.int .u64 (c:Int)∧Hid (Row wq (w.heap.size+1+1+1) (n+m) H∧Tm F n G m i k c H∧w0.grownBy wq (some (w.heap.size+1+1+1)))) (fun _ t _=>m- (intOf t).toNat)
   case atStart=>exact⟨0,0,H0,by omega,rfl,rfl,P0.out⟩
   case round=>
    clear P0;obtain⟨k,c,H,hk,rfl,rfl,hP⟩:=hrel;have hcx:wr.cell? ⟨w.heap.size,0,none⟩=some (.slice ax n cap):=hP.out.2.2.cell CC.out.1 (by simp only[ne_eq,Option.some.injEq];omega);have hcy:wr.cell? ⟨w.heap.size+1,0,none⟩=some (.slice ay m cap'):=hP.out.2.2.cell CC.out.2.1 (by simp only[ne_eq,Option.some.injEq];omega);by_cases hkm:k<m
    ·have hkm':(k:Int)<m:=by omega
     obtain⟨b,o,rfl,hw⟩:=HH.out.1.at i him;obtain⟨b',o',rfl,hw'⟩:=HH.out.2.2.2.1.at k hkm;have hc0:=hw i him;have hc0':=hw' k hkm;have hb:b<w.heap.size:=World.block_lt_of_cell? _ _ hc0;have hb':b'<w.heap.size:=World.block_lt_of_cell? _ _ hc0';have e1:wr.cell? ⟨b,o+i,none⟩=some (.int .u64 (F i:Nat)):=hP.out.2.2.cell (cell_later HB.out hc0) (by simp only[ne_eq,Option.some.injEq];omega);have e2:wr.cell? ⟨b',o'+k,none⟩=some (.int .u64 (G k:Nat)):=hP.out.2.2.cell (cell_later HB.out hc0') (by simp only[ne_eq,Option.some.injEq];omega);have e3:wr.cell? ⟨w.heap.size+1+1+1,i+k,none⟩=some (.int .u64 (H (i+k):Nat)):=hP.out.1.cell (by omega);have e4:wr.frozen? ⟨w.heap.size+1+1+1,i+k,none⟩=false:=hP.out.1.frozen _;have wr1:IntKind.i64.wrap ((i:Int)+(k:Int))=(i:Int)+(k:Int):=by rw[IntKind.wrap_i64];omega
     have hik:i+k<n+m:=by omega
     have hF:=HH.out.2.1 i him;have hG:=HH.out.2.2.2.2.1 k hkm;have hl:=US hF hG (hP.out.2.1.dg (i+k) hik) hP.out.2.1.car;have S:Hid _:=And.intro (hP.out.1.set (i+k) (show(F i*G k+H (i+k)+c)%4294967296<18446744073709551616 by omega)) (And.intro (hP.out.2.1.step him hkm hF hG) (AZ _ hP.out.2.2 (i+k) (.int .u64 (((F i*G k+H (i+k)+c)%4294967296:Nat):Int))));obtain⟨p,hp⟩:=nme (F i*G k);have m1:IntKind.u64.wrap (((F i:Nat):Int)*((G k:Nat):Int))=(p:Int):=by rw[←Int.natCast_mul,←hp];exact Dl _ (by omega)
     rw[←hp]at S hl;have hh:H (i+k)≤p+H (i+k)+c:=by omega
     obtain⟨z,hz⟩:=nme (H (i+k));rw[←hz]at S hl hh e3;have m2:IntKind.u64.wrap ((p:Int)+(z:Int))=(p:Int)+(z:Int):=by rw[IntKind.wrap_u64];omega
     have m3:IntKind.u64.wrap ((p:Int)+(z:Int)+(c:Int))=(p:Int)+(z:Int)+(c:Int):=by rw[IntKind.wrap_u64];omega
     clear hw hw' hc0 hc0' hp hz hP hh;go_wp2_with fail
     go_region
     go_wp2_with fail
     have hz1:((p:Int)+(z:Int)+(c:Int))%4294967296=(((p+z+c)%4294967296:Nat):Int):=by omega
     have hz2:((p:Int)+(z:Int)+(c:Int))/4294967296=(((p+z+c)/4294967296:Nat):Int):=by omega
     rw[hz1,hz2];go_roundw
     case rel=>exact⟨k+1,_,_,by omega,by go_num,rfl,⟨S.out.1,S.out.2.1,Gq S.out.2.2 1⟩⟩
     case measure=>simp[intOf];omega
    obtain rfl:k=m:=by omega
    have e3:wr.cell? ⟨w.heap.size+1+1+1,i+k,none⟩=some (.int .u64 (H (i+k):Nat)):=hP.out.1.cell (by omega);have e4:wr.frozen? ⟨w.heap.size+1+1+1,i+k,none⟩=false:=hP.out.1.frozen _;have wr1:IntKind.i64.wrap ((i:Int)+(k:Int))=(i:Int)+(k:Int):=by rw[IntKind.wrap_i64];omega
    have hik:i+k<n+k:=by omega
    have S:Hid _:=And.intro (hP.out.1.set (i+k) (show c<18446744073709551616 by have:=hP.out.2.1.car;omega)) (And.intro (hP.out.2.1.next him) (AZ _ hP.out.2.2 (i+k) (.int .u64 ((c:Nat):Int))));clear hP;go_wp2_with fail
    go_roundw
    case rel=>exact⟨i+1,_,by omega,by go_num,S.out⟩
    case measure=>simp[intOf];omega
  obtain rfl:i=n:=by omega
  have B0:Hid (Below w.heap.size w wr):=HB.out.grown hP0.out.2.2 HB.out.size (fun k hk=>by cases hk;omega);have hcr:wr.cell? ⟨w.heap.size+1+1,0,none⟩=some (.slice none 0 0):=hP0.out.2.2.cell CC.out.2.2.1 (by simp);have hfr:wr.frozen? ⟨w.heap.size+1+1,0,none⟩=false:=(World.frozen?_of_block (hP0.out.2.2.block _ (World.block_lt_of_cell? _ _ CC.out.2.2.1) (by simp))).trans CC.out.2.2.2;go_wp2_with fail
  refine(M5 _ 0 (i+m) H0 wr (by have:=hP0.out.1.sl (o:=0) (n:=i+m) (cap:=i+m) (by omega) (Nat.le_refl _) (by omega);rw[AX]at this;exact this) hP0.out.2.1.dg (by omega)).mono ?_;rintro e w3 ⟨v3,rfl,hv3,hb3⟩;have he:=hP0.out.2.1.eq;rw[HH.out.2.2.1,HH.out.2.2.2.2.2,Ch,Nat.mul_zero,Nat.zero_mul,Nat.add_zero,Nat.add_zero]at he;rw[he]at hv3;have hcr3:w3.cell? ⟨w.heap.size+1+1,0,none⟩=some (.slice none 0 0):=cell_later hb3 hcr;have hfr3:w3.frozen? ⟨w.heap.size+1+1,0,none⟩=false:=(hb3.frozen (World.block_lt_of_cell? _ _ hcr)).trans hfr;obtain⟨a3,n3,cap3,rfl⟩:=hv3.isAgg;have HV3:Hid (Ai w3 (.agg #[.slice a3 n3 cap3]) (x*y)):=hv3;have B3:Hid (Below w.heap.size w w3):=Aj B0.out hb3;clear hv3 hb3 hcr hfr he;go_wp2_with fail
  refine bodyPost_ret (v:=.agg #[.slice a3 n3 cap3]) (by simp[results,Tryz.results62,go_sem,hcr3]) rfl ⟨_,rfl,?_,B3.out.setCell (by show _≤_+1+1;omega) _⟩;exact HV3.out.setCell (Ad hcr3) _
theorem Rw(Y:Nat→Nat)(k:Nat):U Y (k+2)=(Y (k+1)*4294967296+Y k)*B k+U Y k:=by
 rw[AP,AP,DK];grind
theorem Wv(R:Nat→Nat)(k:Nat):U R (k+3)=((R (k+2)*4294967296+R (k+1))*4294967296+R k)*B k+U R k:=by
 rw[AP,Rw,DK,DK];grind
structure RgD (A u y1 y0 Q:Nat):Prop where
 hi:Q<4294967296
 le3:Q≤(A*4294967296+u)/(y1*4294967296+y0)
 top:A≤y1*4294967296+y0
 norm:2147483648≤y1
 near: ∀q,q*(y1*4294967296+y0)≤A*4294967296+u→q<4294967296→q≤Q+1
 lu:u<4294967296
 l1:y1<4294967296
 l0:y0<4294967296
structure Gs (A y1 Q q r:Nat):Prop where
 eq:q*y1+r=A
 ge:Q≤q
theorem TH{A u y1 y0 Q:Nat}(g:RgD A u y1 y0 Q):Gs A y1 Q (A/y1) (A%y1):=by
 have h:=Ja (A:=A) (u:=u) (y0:=y0) (y1:=y1) rfl g.lu (by have:=g.norm;omega);exact⟨h.1,Nat.le_trans g.le3 h.2⟩
theorem Gs.step{A u y1 y0 Q q r:Nat}(h:Gs A y1 Q q r)(g:RgD A u y1 y0 Q)(hc:4294967296≤q∨r*4294967296+u<q*y0):0<q∧Gs A y1 Q (q-1) (r+y1):=by
 have hT:0<y1*4294967296+y0:=by have:=g.norm;omega
 have hlt:Q<q:=by
  rcases hc with hc|hc
  ·have:=g.hi;omega
  refine Nat.lt_of_le_of_lt g.le3 ?_;rw[Nat.div_lt_iff_lt_mul hT];have e:=Ki y1 y0 q r u;rw[h.eq]at e;exact MF e hc
 refine⟨by omega,?_,by omega⟩;have h1:=h.eq;obtain⟨t,rfl⟩: ∃t,q=t+1:=⟨q-1,by omega⟩;rw[Nat.add_mul]at h1;simp only[Nat.add_sub_cancel];omega
theorem Gs.done{A u y1 y0 Q q r:Nat}(h:Gs A y1 Q q r)(g:RgD A u y1 y0 Q)(hq:q<4294967296)(hc:q*y0≤r*4294967296+u):q≤Q+1:=by
 refine g.near q ?_ hq;have e:=Ki y1 y0 q r u;rw[h.eq]at e;exact MG e hc
theorem Gs.broke{A u y1 y0 Q q r:Nat}(h:Gs A y1 Q q r)(g:RgD A u y1 y0 Q)(hr:4294967296≤r):q<4294967296∧q≤Q+1:=by
 have h0:=g.l0;have hq:q<4294967296:=by
  rcases Nat.lt_or_ge q 4294967296 with hq|hq
  ·exact hq
  have h1:4294967296*y1≤q*y1:=Nat.mul_le_mul_right _ hq;have h2:=h.eq;have h3:=g.top;omega
 refine⟨hq,h.done g hq ?_⟩;have h4:q*y0≤4294967296*4294967296:=Nat.mul_le_mul (by omega) (by omega);have h5:4294967296*4294967296≤r*4294967296:=Nat.mul_le_mul_right _ hr;omega
theorem Ww{A u T R p low Yv yl:Nat}(hR:R=(A*4294967296+u)*p+low)(hY:Yv=T*p+yl)(hyl:yl<p)(hlt:R<Yv*4294967296):A≤T:=by
 have e1:(A*4294967296+u)*p=(A*4294967296)*p+u*p:=Nat.add_mul ..;have e2:((T+1)*4294967296)*p=(T*p+p)*4294967296:=by grind
 have h3:(T*p+yl)*4294967296≤(T*p+p)*4294967296:=Nat.mul_le_mul_right _ (by omega);have h1:(A*4294967296)*p<((T+1)*4294967296)*p:=by
  rw[e2];rw[hY,hR,e1]at hlt;exact Nat.lt_of_le_of_lt (Nat.le_trans (Nat.le_add_right _ _) (Nat.le_add_right _ _)) (Nat.lt_of_lt_of_le hlt h3)
 have h2:=Nat.lt_of_mul_lt_mul_right h1;omega
theorem Vp{R3 T R p low Yv yl q:Nat}(hR:R=R3*p+low)(hY:Yv=T*p+yl)(hyl:yl<p)(hYpos:0<Yv)(hT:4294967296≤T)(h1:q*T≤R3)(h2:q<4294967296):q≤R/Yv+1:=by
 rcases Nat.eq_zero_or_pos q with h0|h0
 ·rw[h0];exact Nat.zero_le _
 obtain⟨t,rfl⟩: ∃t,q=t+1:=⟨q-1,by omega⟩;have h3:t≤R/Yv:=by
  rw[Nat.le_div_iff_mul_le hYpos];have h4:t*Yv≤t*((T+1)*p):=Nat.mul_le_mul_left _ (by rw[hY,Nat.add_mul];omega);have h5:t*(T+1)≤R3:=by rw[Nat.add_mul]at h1;rw[Nat.mul_add];omega
  have h6:t*((T+1)*p)≤R3*p:=by rw[←Nat.mul_assoc];exact Nat.mul_le_mul_right _ h5
  omega
 exact Nat.succ_le_succ h3
theorem Xi{R Y:Nat→Nat}{k:Nat}(hR:Dg R (k+3))(hY:Dg Y (k+2))(htop:2147483648≤Y (k+1))(hlt:U R (k+3)<U Y (k+2)*4294967296):
  RgD (R (k+2)*4294967296+R (k+1)) (R k) (Y (k+1)) (Y k) (U R (k+3)/U Y (k+2)):=by
 have hT:=Rw Y k;have hR3:=Wv R k;have hp:=Jt k;have hyl:=DM (hY.mono (show k≤k+2 by omega));have hrl:=DM (hR.mono (show k≤k+3 by omega));have hT0:0<Y (k+1)*4294967296+Y k:=by omega
 have hYpos:0<U Y (k+2):=by
  have:1*B k≤(Y (k+1)*4294967296+Y k)*B k:=Nat.mul_le_mul_right _ (by omega);omega
 have l2:=hR (k+1) (by omega);have lu:=hR k (by omega);have l1:=hY (k+1) (by omega);have l0:=hY k (by omega);refine⟨?_,MK hR3 hrl hT hT0 rfl,?_,htop,fun q h1 h2=> ?_,lu,l1,l0⟩
 ·rw[Nat.div_lt_iff_lt_mul hYpos,Nat.mul_comm];exact hlt
 ·exact Ww hR3 hT hyl hlt
 exact Vp hR3 hT hyl hYpos (by omega) h1 h2
structure Ls (F Y:Nat→Nat) (N n j q i c b:Nat) (H:Nat→Nat):Prop where
 eq:U (fro H j) i+q*U (Am Y n 0) i=U (fro F j) i+(c+b)*B i
 out: ∀t,t<j∨j+i≤t→H t=F t
 dg:Dg H N
 lc:c<4294967296
 lb:b≤1
 fin:n<i→c=0
theorem TI(F Y:Nat→Nat)(N n j q:Nat)(hF:Dg F N):Ls F Y N n j q 0 0 0 F:=
 ⟨by simp[Ch],fun _ _=>rfl,hF,by omega,by omega,fun h=>absurd h (by omega)⟩
theorem TJ{q d c:Nat}(hq:q<4294967296)(hd:d<4294967296)(hc:c<4294967296):q*d+c<18446744073709551616∧(q*d+c)/4294967296<4294967296:=by
 have h:q*d≤4294967295*4294967295:=Nat.mul_le_mul (by omega) (by omega);omega
theorem Xj{h q u f cb i s p qd c b:Nat}{Bi:Nat}(e:h+q*u=f+(c+b)*Bi)(hp:p=qd+c)(hs:s+p%4294967296+b=4294967296+i)(hl:s<8589934592):
  h+s%4294967296*Bi+(q*u+qd*Bi)=f+i*Bi+(p/4294967296+(1-s/4294967296))*(Bi*4294967296):=by
 have hd:=Nat.div_add_mod p 4294967296;generalize p/4294967296=pd at*;generalize p%4294967296=pm at*;have hc:c+qd=4294967296*pd+pm:=by omega
 rcases Nat.lt_or_ge s 4294967296 with h1|h1
 ·rw[Nat.mod_eq_of_lt h1,Nat.div_eq_of_lt h1];have h2:(c+qd)*Bi=(4294967296*pd+pm)*Bi:=by rw[hc]
  have h3:(s+pm+b)*Bi=(4294967296+i)*Bi:=by rw[hs]
  grind
 obtain⟨z,rfl⟩: ∃z,s=4294967296+z:=⟨s-4294967296,by omega⟩;rw[show(4294967296+z)%4294967296=z by omega,show(4294967296+z)/4294967296=1 by omega];have h2:(c+qd)*Bi=(4294967296*pd+pm)*Bi:=by rw[hc]
 have h3:(4294967296+z+pm+b)*Bi=(4294967296+i)*Bi:=by rw[hs]
 grind
theorem Kx(H:Nat→Nat)(j i v:Nat):U (fro (put H (j+i) v) j) (i+1)=U (fro H j) i+v*B i:=by
 rw[AP];congr 1
 ·exact Cz fun t ht=>Ar _ _ (by omega)
 show put H (j+i) v (j+i)*B i=_;rw[AN]
theorem Ls.step{F Y H:Nat→Nat}{N n j q i c b d p s:Nat}(h:Ls F Y N n j q i c b H)(hd:d=Am Y n 0 i)(hY:Dg Y n)(hq:q<4294967296)(hp:p=q*d+c)(hs:s=4294967296+F (j+i)-p%4294967296-b)(hF:F (j+i)<4294967296):
  Ls F Y N n j q (i+1) (p/4294967296) (1-s/4294967296) (put H (j+i) (s%4294967296)):=by
 have ld:=Ep hY i;rw[←hd]at ld;have lb:=h.lb;have hsl:s<8589934592:=by omega
 have hse:s+p%4294967296+b=4294967296+F (j+i):=by omega
 refine⟨?_,fun t ht=> ?_,fun t ht=> ?_,?_,by omega,fun hn=> ?_⟩
 ·rw[Kx,AP,AP,Nat.mul_add,DK,←hd,←Nat.mul_assoc];exact Xj (cb:=0) h.eq hp hse hsl
 ·rw[Ar _ _ (by omega)];exact h.out t (by omega)
 ·unfold put;split
  ·exact Nat.mod_lt _ (by decide)
  exact h.dg t ht
 ·rw[hp];exact(TJ hq ld h.lc).2
 rw[hp,hd,BH (by omega),Nat.mul_zero,Nat.zero_add];exact Nat.div_eq_of_lt h.lc
theorem Ls.done{F Y H:Nat→Nat}{N n j q c b:Nat}(h:Ls F Y N n j q (n+1) c b H):U (fro H j) (n+1)+U Y n*q=U (fro F j) (n+1)+b*B (n+1):=by
 have e:=h.eq;rw[h.fin (by omega),Hl (by omega),Nat.zero_add,Nat.mul_comm q]at e;exact e
structure Bk (F Y:Nat→Nat) (N n j i c:Nat) (H:Nat→Nat):Prop where
 eq:U (fro H j) i+c*B i=U (fro F j) i+U (Am Y n 0) i
 out: ∀t,t<j∨j+i≤t→H t=F t
 dg:Dg H N
 lc:c≤1
theorem TL(F Y:Nat→Nat)(N n j:Nat)(hF:Dg F N):Bk F Y N n j 0 0 F:=
 ⟨by simp[Ch],fun _ _=>rfl,hF,by omega⟩
theorem Xk{h c f u Bi s a d:Nat}(e:h+c*Bi=f+u)(hs:s=a+d+c):h+s%4294967296*Bi+s/4294967296*(Bi*4294967296)=f+a*Bi+(u+d*Bi):=by
 have hd:=Nat.div_add_mod s 4294967296;generalize s/4294967296=sd at*;generalize s%4294967296=sm at*;have h2:(4294967296*sd+sm)*Bi=(a+d+c)*Bi:=by rw[hd,hs]
 grind
theorem Bk.step{F Y H:Nat→Nat}{N n j i c d s:Nat}(h:Bk F Y N n j i c H)(hd:d=Am Y n 0 i)(hY:Dg Y n)(hs:s=F (j+i)+d+c)(hF:F (j+i)<4294967296):
  Bk F Y N n j (i+1) (s/4294967296) (put H (j+i) (s%4294967296)):=by
 have ld:=Ep hY i;rw[←hd]at ld;have lc:=h.lc;refine⟨?_,fun t ht=> ?_,fun t ht=> ?_,by omega⟩
 ·rw[Kx,AP,AP,DK,←hd];exact Xk h.eq hs
 ·rw[Ar _ _ (by omega)];exact h.out t (by omega)
 unfold put;split
 ·exact Nat.mod_lt _ (by decide)
 exact h.dg t ht
theorem Bk.done{F Y H:Nat→Nat}{N n j c:Nat}(h:Bk F Y N n j (n+1) c H):U (fro H j) (n+1)+c*B (n+1)=U (fro F j) (n+1)+U Y n:=by
 have e:=h.eq;rw[Hl (by omega)]at e;exact e
structure RvD (X Yv:Nat) (N n jj:Nat) (F Q:Nat→Nat):Prop where
 eq:X=Yv*U Q (N-n)+U F N
 lt:U (fro F jj) n<Yv
 zero: ∀t,jj+n≤t→t<N→F t=0
 none: ∀t,t<jj→Q t=0
 dF:Dg F N
 dQ:Dg Q (N-n)
theorem TM{X Yv N n:Nat}{F:Nat→Nat}(hX:X=U F N)(dF:Dg F N)(hn:0<n)(hN:n≤N)(hY:B (n-1)≤Yv)(hz:F (N-1)=0):RvD X Yv N n (N-n) F (fun _=>0):=by
 refine⟨by rw[Gz fun _ _=>rfl,Nat.mul_zero,Nat.zero_add];exact hX,?_,fun t h1 h2=>absurd h1 (by omega),fun _ _=>rfl,dF,fun _ _=>by omega⟩;obtain⟨m,rfl⟩: ∃m,n=m+1:=⟨n-1,by omega⟩;rw[AP];have e:fro F (N- (m+1)) m=0:=by
  show F (N- (m+1)+m)=0;rw[show N- (m+1)+m=N-1 by omega];exact hz
 rw[e,Nat.zero_mul,Nat.add_zero];have h1:U (fro F (N- (m+1))) m<B m:=DM fun t ht=>dF _ (by omega);simp only[Nat.add_sub_cancel]at hY;omega
theorem TO(F:Nat→Nat)(j n:Nat):U (fro F j) (n+1)=F j+4294967296*U (fro F (j+1)) n:=by
 rw[show n+1=1+n by omega,Df,IE,AP,Ch,Gb,Nat.zero_add,Nat.mul_one];congr 2
 exact Cz fun t ht=>by show F (j+(1+t))=F (j+1+t);rw[show j+(1+t)=j+1+t by omega]
theorem RvD.small{X Yv N n j:Nat}{F Q:Nat→Nat}(h:RvD X Yv N n (j+1) F Q)(hj:j<N):U (fro F j) (n+1)<Yv*4294967296:=by
 rw[TO];have h1:=h.lt;have h2:=h.dF j hj;have h3:(U (fro F (j+1)) n+1)*4294967296≤Yv*4294967296:=Nat.mul_le_mul_right _ h1;omega
theorem UT{F:Nat→Nat}{N j m:Nat}(h:j+m≤N)(hz: ∀t,j+m≤t→t<N→F t=0):U F N=U F j+B j*U (fro F j) m:=by
 rw[Kw h hz,Df];rfl
theorem RvD.step{X Yv N n j d:Nat}{F Q H:Nat→Nat}(h:RvD X Yv N n (j+1) F Q)(hj:j+n<N)(hd:d=U (fro F j) (n+1)/Yv)(hr:U (fro H j) (n+1)=U (fro F j) (n+1)%Yv)(hYn:Yv<B n)
  (hout: ∀t,t<j∨j+n+1≤t→H t=F t) (dH:Dg H N) (ld:d<4294967296):RvD X Yv N n j H (put Q j d):=by
 have hYv:0<Yv:=Nat.lt_of_le_of_lt (Nat.zero_le _) h.lt;have hrl:U (fro H j) (n+1)<Yv:=by rw[hr];exact Nat.mod_lt _ hYv
 have htop:H (j+n)=0:=by
  rcases Nat.eq_zero_or_pos (H (j+n))with h0|h0
  ·exact h0
  have h1:1*B n≤H (j+n)*B n:=Nat.mul_le_mul_right _ h0;have h2:U (fro H j) (n+1)=U (fro H j) n+H (j+n)*B n:=AP ..;omega
 have eF:=UT (F:=F) (N:=N) (j:=j) (m:=n+1) (by omega) fun t h1 h2=>h.zero t (by omega) h2;have eH:=UT (F:=H) (N:=N) (j:=j) (m:=n+1) (by omega) fun t h1 h2=>by rw[hout t (by omega)];exact h.zero t (by omega) h2
 have eL:U H j=U F j:=Cz fun t ht=>hout t (by omega);have eQ:=PP Q j (N-n) d (by omega);rw[h.none j (by omega),Nat.zero_mul,Nat.add_zero]at eQ;have hdm:=Nat.div_add_mod (U (fro F j) (n+1)) Yv;rw[←hd,←hr]at hdm;refine⟨?_,?_,fun t h1 h2=> ?_,fun t ht=> ?_,dH,fun t ht=> ?_⟩
 ·rw[h.eq,eQ,eF,eH,eL,←hdm];grind
 ·have h2:U (fro H j) (n+1)=U (fro H j) n+H (j+n)*B n:=AP ..;rw[htop]at h2;omega
 ·by_cases e:t=j+n
  ·rw[e];exact htop
  rw[hout t (by omega)];exact h.zero t (by omega) h2
 ·rw[Ar _ _ (by omega)];exact h.none t (by omega)
 unfold put;split
 ·exact ld
 exact h.dQ t ht
theorem RvD.done{X Yv N n:Nat}{F Q:Nat→Nat}(h:RvD X Yv N n 0 F Q)(hn:n≤N):U Q (N-n)=X/Yv∧U F N=X%Yv:=by
 have h1:=h.lt;rw[AX]at h1;have h2:U F N=U F n:=Kw hn fun t a b=>h.zero t (by omega) b;have h3:=h.eq;rw[h2]at h3;rw[h2,h3];have hY:0<Yv:=by omega
 constructor
 ·rw[Nat.mul_add_div hY,Nat.div_eq_of_lt h1,Nat.add_zero]
 rw[Nat.mul_add_mod,Nat.mod_eq_of_lt h1]
theorem TP{R Yv d V' p:Nat}(h:V'+Yv*d=R)(hV:V'<p)(hYp:Yv≤p)(hY:0<Yv)(hlo:R/Yv≤d):d=R/Yv∧V'=R%Yv:=by
 have:=Kl (F:=R) (Y:=Yv) (d:=d) (bor:=0) (top:=0) (p:=p) (V':=V') (by omega) hV hYp hY (by rw[Nat.zero_mul,Nat.add_zero];exact hlo) (Nat.le_refl _);rw[Nat.zero_mul,Nat.add_zero]at this;exact this
theorem Vq{R Yv d V' V'' c p:Nat}(h:V'+Yv*d=R+p)(hV:V'<p)(hV2:V''<p)(hYp:Yv≤p)(hY:0<Yv)(hhi:d≤R/Yv+1)(h2:V''+c*p=V'+Yv)(hc:c≤1)(hR:R<Yv*p):0<d∧d-1=R/Yv∧V''=R%Yv:=by
 have:=LH (F:=R) (Y:=Yv) (d:=d) (bor:=1) (top:=0) (p:=p) (V':=V') (V'':=V'') (c:=c) (by omega) hV hV2 hYp hY (by rw[Nat.zero_mul,Nat.add_zero];exact hhi) (by omega) h2 hc (by rw[Nat.zero_mul,Nat.add_zero];exact hR);rw[Nat.zero_mul,Nat.add_zero]at this;exact this
theorem TQ(x y s:Nat):x*2^s/(y*2^s)=x/y∧x*2^s%(y*2^s)/2^s=x%y:=by
 have hp:0<2^s:=Nat.pow_pos (by decide);refine⟨Nat.mul_div_mul_right _ _ hp,?_⟩;rw[Nat.mul_mod_mul_right,Nat.mul_div_cancel _ hp]
def Bo(w:World)(g c n:Nat)(F:Nat→Nat):Prop:=(∃f,w.rowIs g 69 c f∧ ∀i,i<n→f i=wd F i)∧n≤c∧c≤9223372036854775807∧Ok F n
theorem Bo.cell{w:World}{g c n:Nat}{F:Nat→Nat}(h:Bo w g c n F){i:Nat}(hi:i<n):w.cell? ⟨g,i,none⟩=some (.int .u64 (F i:Nat)):=by
 obtain⟨⟨f,h1,h2⟩,h3,_⟩:=h;rw[h1.cell (show i<c by omega),h2 i hi];rfl
theorem Bo.frozen{w:World}{g c n:Nat}{F:Nat→Nat}(h:Bo w g c n F)(i:Nat):w.frozen? ⟨g,i,none⟩=false:=by
 obtain⟨⟨f,h1,h2⟩,h3⟩:=h;exact h1.frozen i
theorem Bo.set{w:World}{g c n:Nat}{F:Nat→Nat}(h:Bo w g c n F)(i:Nat){d:Nat}(hd:d<18446744073709551616):Bo (w.setCell ⟨g,i,none⟩ (.int .u64 (d:Int))) g c n (put F i d):=by
 obtain⟨⟨f,h1,h2⟩,h3,h4,h5⟩:=h;refine⟨⟨_,h1.set i _,fun j hj=> ?_⟩,h3,h4,fun j hj=> ?_⟩
 ·show(if j=i then _ else f j)=Value.int .u64 ((put F i d j:Nat):Int);by_cases e:j=i
  ·subst e;rw[if_pos rfl,AN]
  rw[if_neg e,Ar _ _ e,h2 j hj];rfl
 unfold put;split
 ·exact hd
 exact h5 j hj
theorem Bo.below{w w':World}{g c n:Nat}{F:Nat→Nat}(h:Bo w g c n F)(hb:Below w.heap.size w w'):Bo w' g c n F:=by
 obtain⟨⟨f,h1,h2⟩,h3⟩:=h;exact⟨⟨f,h1.of_block (hb.block g h1.lt),h2⟩,h3⟩
theorem Bo.drewN{w:World}{g c n:Nat}{F:Nat→Nat}(h:Bo w g c n F)(k:Nat):Bo (w.drewN k) g c n F:=h.below (Bd (Aa w) k)
theorem Bo.apart{w w':World}{g c n b:Nat}{F:Nat→Nat}(h:Bo w g c n F)(hg:w.grownBy w' (some b))(hne:g≠b):Bo w' g c n F:=by
 obtain⟨⟨f,h1,h2⟩,h3⟩:=h;exact⟨⟨f,h1.of_block (hg.block g h1.lt (by simpa using hne)),h2⟩,h3⟩
theorem Bo.sl{w:World}{g c n:Nat}{F:Nat→Nat}(h:Bo w g c n F):Sl w (some ⟨g,0,none⟩) n c F:=
 ⟨h.2.1,h.2.2.1,h.2.2.2,.inr ⟨g,0,rfl,fun i hi=>by rw[Nat.zero_add];exact h.cell hi⟩⟩
theorem Row.drow{w:World}{b N:Nat}{F:Nat→Nat}(h:Row w b N F)(hN:N≤9223372036854775807):Bo w b N N F:=⟨⟨_,h.1,fun i hi=>rfl⟩,Nat.le_refl _,hN,h.2⟩
theorem Sl.apart{w w':World}{a:Option Addr}{n cap b:Nat}{F:Nat→Nat}(h:Sl w a n cap F)(hg:w.grownBy w' (some b))(hne: ∀b' o',a=some ⟨b',o',none⟩→b'≠b):Sl w' a n cap F:=by
 obtain⟨s1,s2,s3,s4⟩:=h;refine⟨s1,s2,s3,s4.imp id ?_⟩;rintro⟨b',o',rfl,hw⟩;exact⟨b',o',rfl,hw.kept hg (by simpa using hne b' o' rfl)⟩
theorem N6{w:World}{ad:Addr}{m:Nat}{N:Nat→Nat}(h: ∀j,j<m→w.cell? (ad.add j)=some (wd N j)): ∀j u,((List.range m).map (wd N))[j]? =some u→w.cell? (ad.add j)=some u:=by
 intro j u hj;have hjm:j<m:=by
  have:=(List.getElem?_eq_some_iff.1 hj).1;simpa using this
 rw[List.getElem?_map,List.getElem?_range hjm]at hj;rw[h j hjm];exact hj
theorem J1{w:World}{ops:Array Oper}{rest:List Oper}{o:Oper}{ac:Act}{Q:Exit→Act→World→Prop}(hgd:o.guard=none)(s x:Operand)
  (ho:o.op=.call {callee:=.builtin .append,args:= #[s,x],argTypes:= #[62,62]}) (base:Nat) (v:Value) (hs:ac.eval s=v) (hv:v=.slice none 0 0)
  (ad:Addr) (m c:Nat) (N:Nat→Nat) (hx:ac.eval x=.slice (some ad) m c) (hc: ∀j,j<m→w.cell? (ad.add j)=some (wd N j)) (hn:m≤1099511627776) (hbase:base≤w.heap.size)
  (h: ∀v' w',OR w' 69 base v' m (wd N)→w.grownBy w' none→wpList Tryz.prog ops Q rest (ac.put o.dst v') w'):wpList Tryz.prog ops Q (o::rest) ac w:=by
 subst hv;obtain⟨i,hi,hzz,hsz,hb⟩:=info_parts Tryz.info22b;refine wpList_append_own w hgd s x 62 ho base 69 i _ 1 8 Tryz.underlying62 hi hzz hsz hb rfl (by omega) _ 0 _ hs (OR.nil w 69 base (wd N)).owns ad m c ((List.range m).map (wd N)) hx (by simp) (N6 hc) (fun u hu=>by simp at hu;obtain⟨j,_,rfl⟩:=hu;rfl) (by simp only[maxLen];omega) (by omega) hbase (fun v' w' k1 k2 _=>h v' w' ?_ k2);have e:0+m=m:=by omega
 rw[e]at k1;refine OR.of_owns k1 fun i hi=> ?_;simp[hi]
end Go.Proofs.YtbikpmmpgbggaaaGreatDoor
