import Derived.Test.YtnjalelblbjfiaaGreatDoorP6
namespace Go.Proofs.YtnjalelblbjfiaaGreatDoor
set_option maxRecDepth 100000
set_option maxHeartbeats 16000000
open Go.RowKit
open Go.Proofs.Tryz
open Bool renaming true→Mk,false→Md
open Go renaming Value→Ma,World→MV,Calls→Mo,info_parts→Ob,wpList_append_lies→OC,maxLen→Nj,TypeId→NL,run_callFunc_extern→RE,splice→M8,length_splice→NI,block_lt_of_cell→MO,run_firstCells_some→RF,growslice_fits→Sv,grownCap_ge→UB,grownCap_le_maxLen→Ud,run_storeCells_at→Qz,Program→Q4,setRow_heap→RC,zeroValue→QZ
open Go.Addr renaming add_lit→NM
open Go.Builtin renaming firstCells→PT,zeroCells→NV,append_→Na,clear_→SM
open Go.Ending renaming returned→MZ
open Go.IntKind renaming i64→I,wrap_i64→Mm
open Go.Lib renaming run_overlaps_apart→QC,run_append_grow_zeros→Pq,wpList_append_run→QK
open Go.Obj renaming cells→MY
open Go.Proofs.Tryz renaming prog→MT,func91→Qn,func93→Qo,func97→TY,func98→TZ
open Go.Value renaming agg→M1,int→Q,pointer→MQ,slice→MR,cells→N5,tuple→Nn,oneCell'→NC,ownBlock→NF
open Go.World renaming shape?→PV,cell?_of_block→Mj,cell?→M7,frozen?→Nz
open List renaming length_drop→M2,getElem?_drop→N2,getElem?_take→M5,mem_of_mem_drop→Nu,length_append→Mz,length_take→Mh,size_toArray→NY,getElem?_eq_getElem→NZ,append_assoc→Oi,take_append_of_le_length→OJ,take_take→RH,take_of_length_le→NN,drop_eq_nil_of_le→N9,append_nil→OY,range→PO,length_cons→N6,length_nil→OH,getElem?_eq_none→Re,eq_nil_of_length_eq_zero→PP,take_append_drop→Np,pairwise_append→PS,mem_cons→Nk,mem_append→Od,filter_eq_self→Rw,getElem_of_mem→Mt,getElem_drop→Pt,getElem_take→PR,drop_left→RG,mem_flatMap→Q0
open Nat renaming zero_add→NO,zero_le→NG,min_self→SL,le_refl→MP,le_of_eq→OU,lt_or_ge→N8,add_sub_cancel_left→RQ
open Option renaming some→N,none→S
open Or renaming inl→Mf,inr→MX
open _root_.Array renaming length_toList→Nl,getElem?_eq_some_iff→Mu,toList_append→Nq,size_map→RB,size_range→Qp
variable {L:List af}{w:MV}{a b:Ma}{t:NL}{g i m:Nat}{o:Oper}{P:Q4}
theorem Hf:(prog.info? 184).map (λi=>(i.zero,i.size,i.bytes))=N (N (M1 #[Q I 0,MQ S]),2,16):=UR
theorem jP:prog.underlying 167=N (.slice 184):=UR
theorem Ct:(prog.info? 184).map (·.size)=N 2:=UR
theorem G5(m:Ma)(n:Nat)(b:List Ma)(l:Nat)(a:List Ma)(w:MV)(h:w.ownsRow 0 184 2 m n b)(P:n<=199)(v:a.length=2)(o:∀j u,a[j]?=N u->w.cell? ⟨l,j,S⟩=N u)(x:∀u∈a,u.oneCell'=Mk):Mo MT 91 #[m,Q I n,MR (N ⟨l,0,S⟩) 1 1] w (bn 184 2 m n (b++a) w):=by
 obtain⟨y,z,B,C,D⟩:=Ob Hf;have H:=A h;have E:=A o;have R:(n:Int)<=199:=O;rcases h.2 with⟨p,F⟩|⟨g,q,T,p,_,G,U,J,K,L⟩
 ·subst p F;clear h o;go_enter Qn,ntmps91;go_wp2_with (first|(at_builtin;refine OC _ rfl _ _ 167 rfl 0 184 y (M1 #[Q I 0,MQ S]) 2 16 jP z B C D rfl US _ 0 b rfl H.o ⟨l,0,S⟩ 1 1 a rfl (by rw[v]) (λj u r=>by rw[NM,NO];exact E.o j u r) x US UT O (NG _) _ rfl ?_))
  intro c d s f i k M;have t:=A (show bn 184 2 (MR S 0 0) 0 (b++a) w (MZ (MR (N ⟨c,0,S⟩) 1 d)) s from⟨c,d,rfl,f,by rcases k with e|e;exact Mf e;exact MX O,aH.grown i λ_ e=>e⟩);clear f i k;go_wp2;go_ret;exact t.o
 ·subst p;clear h o L K G;have V:q<=9223372036854775807:=by unfold Nj at J;omega
  have W:(n:Int)<=q:=O;go_enter Qn,ntmps91;go_wp2_with (first|(at_builtin;refine OC _ rfl _ _ 167 rfl 0 184 y (M1 #[Q I 0,MQ S]) 2 16 jP z B C D rfl US _ n b rfl H.o ⟨l,0,S⟩ 1 1 a rfl (by rw[v]) (λj u r=>by rw[NM,NO];exact E.o j u r) x US UT O (NG _) _ rfl ?_))
  all_goals
   intro c d s f i k M;have t:=A (show bn 184 2 (MR (N ⟨g,0,S⟩) n q) n (b++a) w (MZ (MR (N ⟨c,0,S⟩) (n+1) d)) s from⟨c,d,rfl,f,by rcases k with e|e;exact Mf e;exact MX O,aH.grown i λ_ e=>e⟩);clear f i k;go_wp2;go_ret;exact t.o
theorem Ej(g n c i:Nat)(f:Array Ma)(h:List Ma)(k:Nat)(J:NL)(K:Nat)(d:List Ma)(w:MV)(o:w.heap[g]?=N (MY f 184 (0,0)))(s:c<=Nj)(L:f.size=c*2)(p:h.length=n*2)(t:f.toList.take (n*2)=h)(a0:∀u∈h,u.oneCell'=Mk)(hi:i<n)(a1:n+1<=c)(hn:n<=199)(q:d.length=2)(M:∀j u,d[j]?=N u->w.cell? ⟨k,j,S⟩=N u)(h1:∀u∈d,u.oneCell'=Mk)(P:k≠g)(a3:w.shape? k=N (J,K))(R:∀j,w.frozen? ⟨k,j,S⟩=Md):Mo MT 91 #[MR (N ⟨g,0,S⟩) n c,Q I i,MR (N ⟨k,0,S⟩) 1 1] w (bn 184 2 (MR (N ⟨g,0,S⟩) n c) n (h.take (i*2)++d++h.drop (i*2)) w):=by
 have T:w.shape? g=N (184,f.size):=by simp[PV,o]
 have a4:∀y z,(callFunc 156 #[MR (N ⟨k,0,S⟩) 1 1,MR (N ⟨g,(i+1)*2,S⟩) y z]).run MT w=.ok (.value (.bool Md)) w:=λy z=>by
  rw[RE func156 UR UR UR (e:=Extern.SlicesOverlaps.overlaps #[167,167] #[4]) UR,
   QC w 167 4 184 jP 2 (λ_=>rfl) ⟨k,0,S⟩ ⟨g,(i+1)*2,S⟩ 1 1 y z P J 184 K f.size a3 T O (R _) (R _)]
  rfl
 have hb:c<=9223372036854775807:=by unfold Nj at s;omega
 have c7:(n:Int)<=c:=O;have c8:(n:Int)+1<=c:=O;have c9:¬((i:Int)=(n:Int)):=O;have d0:(i:Int)<n:=O;have d1:¬((c:Int)<(n:Int)+1):=O;have d2:¬(c=i):=O;have d3:¬(c=i+1):=O;have d4:IntKind.i64.wrap ((i:Int)+1)=(i:Int)+1:=by rw[Mm];omega
 have d5:IntKind.i64.wrap ((n:Int)+1)=(n:Int)+1:=by rw[Mm];omega
 have d6:((i:Int)+1).toNat=i+1:=O;have e0:((n:Int)+1).toNat=n+1:=O;have e1:(0:Int)<=(i:Int)+1:=O;have e2:i<=n:=O;have e3:(i:Int)<=(n:Int)+1:=O;have r:f.toList.length=c*2:=by rw[Nl];exact L
 obtain⟨D,m⟩:=UX (h.drop (i*2));have U:D.length=(n-i)*2:=by rw[m,M2,p];omega
 have V:∀j v,D[j]?=N v->w.cell? ⟨g,i*2+j,S⟩=N v:=λj v l=>by
  rw[m,N2,<-t,M5]at l;split at l
  ·exact aM o l
  ·cases l
 have W:∀u∈D,u.oneCell'=true:=λu X=>a0 u (by rw[m]at X;exact Nu X);have B:(M8 (M8 f.toList ((i+1)*2) D) (i*2) d).take ((n+1)*2)=h.take (i*2)++d++h.drop (i*2):=by
  rw[show(i+1)*2=i*2+2 by omega,show(n+1)*2=n*2+2 by omega,m];exact md f.toList h d (i*2) (n*2) 2 t p q O (by rw[r];omega)
 have Y:(M8 (M8 f.toList ((i+1)*2) D) (i*2) d).length=c*2:=by
  rw[NI _ _ _ (by rw[NI _ _ _ O];omega),NI _ _ _ O,r]
 obtain⟨E,F⟩:=UX (h.take (i*2)++d++h.drop (i*2));have Z:E.length=(n+1)*2:=by rw[F];simp only[Mz,Mh,M2,p,q];omega
 rw[<-F]at B⊢;have HG:aA (w.heap[g]?=N (MY f.toList.toArray 184 (0,0))):=A (by rw[o]);have HV:=A M;have G:=A r;have H:=A U;have a7:=A V;have a8:=A W;have HR:=A B;have b0:=A Y;have b1:=A Z;clear o M t p L T r U V W B Y Z F m;generalize f.toList=C at*;have b2:=A s;clear s;go_enter Qn,ntmps91;go_wp2_with (simp only[a4])
 go_region_law (refine cO rfl _ _ 167 167 rfl 184 2 jP Ct g ((i+1)*2) (n-i) (c- (i+1)) ⟨g,i*2,S⟩ (n+1-i) (c-i) UV UV C 184 HG.o D (n-i) UW H.o (λj v l=>by rw[NM];exact a7.o j v l) (by rw[H.o,G.o];omega) a8.o (λb=>b=g) w (aH.refl _ _).drew (Mf rfl) ?_;intro w1 G1 C1 O1)
 have b9:aA (∀j u,d[j]?=N u->w1.cell? ⟨k,j,S⟩=N u):=A λj u l=>(Mj (w:=w) (a:=⟨k,j,S⟩) (O1.o k P)).trans (HV.o j u l);have c0:aA (i*2+d.length<=(M8 C ((i+1)*2) D).length):=A (by rw[NI _ _ _ (by rw[H.o,G.o];omega),G.o,q];omega);go_wp2_with (refine bo rfl _ _ 167 167 rfl 184 2 jP Ct g (i*2) (n+1-i) (c-i) ⟨k,0,S⟩ 1 1 rfl rfl (M8 C ((i+1)*2) D) 184 G1.o d 1 UW (by rw[q]) (λj v l=>by rw[NM,NO];exact b9.o j v l) c0.o h1 (λb=>b=g) w C1.o (Mf rfl) ?_)
 intro w2 G2 C2 O2;go_wp2;go_ret;exact⟨g,c,rfl,⟨b1.o,MX ⟨g,c,_,rfl,NG _,G2.o,a1,b2.o,by rw[NY];exact b0.o,HR.o⟩⟩,Mf rfl,C2.o.mono λx _ hx=>by subst hx;rfl⟩
theorem zg:(N5 (M1 #[Q I 0,MQ S])).size=2:=rfl
theorem Ek(g n c i:Nat)(Y:Array Ma)(e:List Ma)(p:Nat)(f:List Ma)(w:MV)(s:w.heap[g]?=N (MY Y 184 (0,0)))(t:e.length=n*2)(J:Y.toList.take (n*2)=e)(Z:∀u∈e,u.oneCell'=Mk)(hi:i<n)(e6:n<=c)(b4:c<n+1)(hn:n<=199)(y:f.length=2)(K:∀j u,f[j]?=N u->w.cell? ⟨p,j,S⟩=N u)(h1:∀u∈f,u.oneCell'=Mk):Mo MT 91 #[MR (N ⟨g,0,S⟩) n c,Q I i,MR (N ⟨p,0,S⟩) 1 1] w (bn 184 2 (MR (N ⟨g,0,S⟩) n c) n (e.take (i*2)++f++e.drop (i*2)) w):=by
 obtain rfl:c=n:=O;obtain⟨i0,b6,b9,c0,a1⟩:=Ob Hf;have a2:g<w.heap.size:=(Mu.1 s).1;have a3:p<w.heap.size:=by
  obtain⟨u,z⟩:∃u,f[0]?=N u:=⟨_,NZ O⟩;exact MO (K 0 u z)
 obtain⟨D,q⟩:=UX (e.drop (i*2));have a4:D.length=(c-i)*2:=by rw[q,M2,t];omega
 have a5:∀j v,D[j]?=N v->w.cell? ⟨g,i*2+j,S⟩=N v:=λj v d=>by
  rw[q,N2,<-J,M5]at d;split at d
  ·exact aM s d
  ·cases d
 have a6:∀u∈D,u.oneCell'=true:=λu z=>Z u (by rw[q]at z;exact Nu z);have a7:(PT i0.size i (MR (N ⟨g,0,S⟩) i c)).run MT w.drew=.ok (e.take (i*2)).toArray w.drew:=by
  rw[c0];exact RF w.drew 2 i ⟨g,0,S⟩ i c (e.take (i*2)) (by rw[Mh];omega) (λj v d=>by
   rw[NM,NO];rw[M5]at d;split at d
   ·rw[<-J,M5]at d;split at d
    ·exact aM s d
    ·cases d
   ·cases d)
 have L:i+(c+1-i)=c+1:=O;have a8:(c:Int)+1- (i:Int)=((c+1-i:Nat):Int):=O;obtain⟨G,B⟩:=UX (grownCap w (c+1) c 184);obtain⟨l,E⟩:=UX ((e.take (i*2)).toArray++NV (N5 (M1 #[Q I 0,MQ S])) (c+1-i)++NV (N5 (M1 #[Q I 0,MQ S])) (G- (c+1)):Array Ma);obtain⟨m,r⟩:=UX (w.drew.alloc (MY l 184));have a9:∀M,(Na #[167,3] M #[MR (N ⟨g,0,S⟩) i c,Q I ((c:Int)+1- (i:Int))]).run MT w=.ok (MR (N ⟨w.heap.size,0,S⟩) (c+1) G) m:=λM=>by
  have h:=Pq w 167 3 M 184 i0 _ I I jP UR b6 b9 (N ⟨g,0,S⟩) i c (e.take (i*2)) a7 (c+1-i) O O O O (by rw[a1];omega) (by rw[a1,L];exact Sv b4 O);rw[L]at h;rw[a8,r,E,B];exact h
 have c1:c+1<=G:=by rw[B];exact UB w _ _ _
 have P:G<=maxLen:=by rw[B];exact Ud w (c+1) c 184 UT
 have e8:G<=9223372036854775807:=by unfold Nj at P;omega
 have F:l.toList.length=G*2:=by
  rw[E];simp only[NV,zg,Nq,Mz,Nl,RB,Qp,Mh];omega
 have b0:l.toList.take (i*2)=e.take (i*2):=by
  rw[E,Nq,Nq,Oi,OJ (by rw[Mh];omega),RH,SL]
 have R:(M8 (M8 l.toList (i*2) f) ((i+1)*2) D).take ((c+1)*2)=e.take (i*2)++f++e.drop (i*2):=by
  rw[show(i+1)*2=i*2+2 by omega,show(c+1)*2=c*2+2 by omega,q];exact me l.toList e f (i*2) (c*2) 2 b0 t y O (by rw[F];omega)
 have T:(M8 l.toList (i*2) f).length=G*2:=by rw[NI _ _ _ O,F]
 have b1:(M8 (M8 l.toList (i*2) f) ((i+1)*2) D).length=G*2:=by rw[NI _ _ _ O,T]
 obtain⟨U,V⟩:=UX (e.take (i*2)++f++e.drop (i*2));have b2:U.length=(c+1)*2:=by rw[V];simp only[Mz,Mh,M2,t,y];omega
 rw[<-V]at R⊢;obtain⟨o,H⟩:=UX w.heap.size;have HG:aA (m.heap[o]?=N (MY l.toList.toArray 184 (0,0))):=A (by rw[r,H];exact(by simp:(w.heap.push (Obj.cells l 184))[w.heap.size]?=some (Obj.cells l.toList.toArray 184)));have W:aA (∀k,k<o->m.heap[k]?=w.heap[k]?):=A λk hk=>by rw[r];exact((Below.refl w.heap.size w.drew).alloc (MP _) _).block k O
 have c3:aA (aH (λb=>b=g) w m):=A (by rw[r];exact(aH.refl _ w).drew.alloc _);rw[<-H]at a9 a2 a3;have c4:aA (∀j u,f[j]?=N u->m.cell? ⟨p,j,S⟩=N u):=A λj u d=>(Mj (w:=w) (a:=⟨p,j,S⟩) (W.o p a3)).trans (K j u d);have c5:aA (∀j v,D[j]?=N v->m.cell? ⟨g,i*2+j,S⟩=N v):=A λj v d=>(Mj (w:=w) (a:=⟨g,i*2+j,S⟩) (W.o g a2)).trans (a5 j v d);have b3:=A a4;have c6:=A a6;have HR:=A R;have c8:=A b1;have c9:=A F;have d0:=A T;have d1:=A b2;have d2:=A P;have X:=A H;have d3:g≠o:=O;clear s K J t a4 a5 a6 R b1 b2 V q a7 L a8 E F b0 T r B P H W Z;generalize l.toList=C at*;have hb:c<=9223372036854775807:=O;have f2:¬((i:Int)=(c:Int)):=O;have f3:(i:Int)<c:=O;have f4:(c:Int)<(c:Int)+1:=O;have f5:¬(c=i):=O;have f6:¬(G=i):=O;have f7:¬(G=i+1):=O;have f8:IntKind.i64.wrap ((i:Int)+1)=(i:Int)+1:=by rw[Mm];omega
 have f9:IntKind.i64.wrap ((c:Int)+1)=(c:Int)+1:=by rw[Mm];omega
 have g0:IntKind.i64.wrap ((c:Int)+1- (i:Int))=(c:Int)+1- (i:Int):=by rw[Mm];omega
 have g1:((i:Int)+1).toNat=i+1:=O;have g2:(0:Int)<=(i:Int)+1:=O;have g3:i<=c:=O;have g4:(i:Int)<=(c:Int)+1:=O;go_enter Qn,ntmps91;go_wp2_with (first|(at_builtin;refine QK _ rfl _ _ 167 3 rfl _ _ rfl rfl _ _ (a9 _) ?_)|(refine bo rfl _ _ 167 167 rfl 184 2 jP Ct o (i*2) (c+1-i) (G-i) ⟨p,0,S⟩ 1 1 rfl rfl C 184 HG.o f 1 UW (by rw[y]) (λj v d=>by rw[NM,NO];exact c4.o j v d) (by rw[c9.o,y];omega) h1 (λb=>b=g) w c3.o (MX (OU X.o.symm)) ?_))
 intro w1 G1 C1 O1;have e1:aA (∀j v,D[j]?=N v->w1.cell? ⟨g,i*2+j,S⟩=N v):=A λj v d=>(Mj (w:=m) (a:=⟨g,i*2+j,S⟩) (O1.o g d3)).trans (c5.o j v d);go_wp2;go_region_law (refine cO rfl _ _ 167 167 rfl 184 2 jP Ct o ((i+1)*2) (c-i) (G- (i+1)) ⟨g,i*2,S⟩ (c-i) (c-i) UV UV (M8 C (i*2) f) 184 G1.o D (c-i) UW b3.o (λj v d=>by rw[NM];exact e1.o j v d) (by rw[b3.o,d0.o];omega) c6.o (λb=>b=g) w C1.o.drew (MX (OU X.o.symm)) ?_;intro w2 G2 C2 O2)
 go_wp2;go_ret;exact⟨o,G,rfl,⟨d1.o,MX ⟨o,G,_,rfl,NG _,G2.o,c1,d2.o,by rw[NY];exact c8.o,HR.o⟩⟩,MX (OU X.o.symm),C2.o.mono λx _ hx=>by subst hx;rfl⟩
theorem G7(d:Ma)(n i:Nat)(a:List Ma)(b:Nat)(p:NL)(q:Nat)(c:List Ma)(w:MV)(h:w.ownsRow 0 184 2 d n a)(r:∀u∈a,u.oneCell'=Mk)(L:i<=n)(f:n<=199)(k:c.length=2)(l:∀j u,c[j]?=N u->w.cell? ⟨b,j,S⟩=N u)(m:∀u∈c,u.oneCell'=Mk)(z:d.ownBlock≠N b)(B:w.shape? b=N (p,q))(C:∀j,w.frozen? ⟨b,j,S⟩=Md):Mo MT 91 #[d,Q I i,MR (N ⟨b,0,S⟩) 1 1] w (bn 184 2 d n (a.take (i*2)++c++a.drop (i*2)) w):=by
 by_cases D:i=n
 ·subst D;have E:a.take (i*2)=a:=NN (by rw[h.1];exact MP _);have F:a.drop (i*2)=[]:=N9 (by rw[h.1];exact MP _);rw[E,F,OY];exact G5 d i a b c w h f k l m
 ·have s:=h;rcases h.2 with⟨t,M⟩|⟨g,o,v,t,_,x,G,H,J,y⟩
  ·omega
  ·subst t;by_cases K:n+1<=o
   ·exact Ej g n o i v a b p q c w x H J s.1 y r O K f k l m (λe=>z (by rw[e];rfl)) B C
   ·exact Ek g n o i v a b c w x s.1 y r O G O f k l m
theorem Hb:(prog.info? 189).map (λi=>(i.zero,i.size,i.bytes))=N (N (M1 #[Q I 0,Q I 0,MQ S]),3,24):=UR
theorem jO:prog.underlying 170=N (.slice 189):=UR
theorem Cr:(prog.info? 189).map (·.size)=N 3:=UR
theorem Gz(m:Ma)(n:Nat)(b:List Ma)(l:Nat)(a:List Ma)(w:MV)(h:w.ownsRow 0 189 3 m n b)(P:n<=199)(v:a.length=3)(o:∀j u,a[j]?=N u->w.cell? ⟨l,j,S⟩=N u)(x:∀u∈a,u.oneCell'=Mk):Mo MT 93 #[m,Q I n,MR (N ⟨l,0,S⟩) 1 1] w (bn 189 3 m n (b++a) w):=by
 obtain⟨y,z,B,C,D⟩:=Ob Hb;have H:=A h;have E:=A o;have R:(n:Int)<=199:=O;rcases h.2 with⟨p,F⟩|⟨g,q,T,p,_,G,U,J,K,L⟩
 ·subst p F;clear h o;go_enter Qo,ntmps93;go_wp2_with (first|(at_builtin;refine OC _ rfl _ _ 170 rfl 0 189 y (M1 #[Q I 0,Q I 0,MQ S]) 3 24 jO z B C D rfl US _ 0 b rfl H.o ⟨l,0,S⟩ 1 1 a rfl (by rw[v]) (λj u r=>by rw[NM,NO];exact E.o j u r) x US UT O (NG _) _ rfl ?_))
  intro c d s f i k M;have t:=A (show bn 189 3 (MR S 0 0) 0 (b++a) w (MZ (MR (N ⟨c,0,S⟩) 1 d)) s from⟨c,d,rfl,f,by rcases k with e|e;exact Mf e;exact MX O,aH.grown i λ_ e=>e⟩);clear f i k;go_wp2;go_ret;exact t.o
 ·subst p;clear h o L K G;have V:q<=9223372036854775807:=by unfold Nj at J;omega
  have W:(n:Int)<=q:=O;go_enter Qo,ntmps93;go_wp2_with (first|(at_builtin;refine OC _ rfl _ _ 170 rfl 0 189 y (M1 #[Q I 0,Q I 0,MQ S]) 3 24 jO z B C D rfl US _ n b rfl H.o ⟨l,0,S⟩ 1 1 a rfl (by rw[v]) (λj u r=>by rw[NM,NO];exact E.o j u r) x US UT O (NG _) _ rfl ?_))
  all_goals
   intro c d s f i k M;have t:=A (show bn 189 3 (MR (N ⟨g,0,S⟩) n q) n (b++a) w (MZ (MR (N ⟨c,0,S⟩) (n+1) d)) s from⟨c,d,rfl,f,by rcases k with e|e;exact Mf e;exact MX O,aH.grown i λ_ e=>e⟩);clear f i k;go_wp2;go_ret;exact t.o
theorem Ef(g n c i:Nat)(f:Array Ma)(h:List Ma)(k:Nat)(J:NL)(K:Nat)(d:List Ma)(w:MV)(o:w.heap[g]?=N (MY f 189 (0,0)))(s:c<=Nj)(L:f.size=c*3)(p:h.length=n*3)(t:f.toList.take (n*3)=h)(a0:∀u∈h,u.oneCell'=Mk)(hi:i<n)(a1:n+1<=c)(hn:n<=199)(q:d.length=3)(M:∀j u,d[j]?=N u->w.cell? ⟨k,j,S⟩=N u)(h1:∀u∈d,u.oneCell'=Mk)(P:k≠g)(a3:w.shape? k=N (J,K))(R:∀j,w.frozen? ⟨k,j,S⟩=Md):Mo MT 93 #[MR (N ⟨g,0,S⟩) n c,Q I i,MR (N ⟨k,0,S⟩) 1 1] w (bn 189 3 (MR (N ⟨g,0,S⟩) n c) n (h.take (i*3)++d++h.drop (i*3)) w):=by
 have T:w.shape? g=N (189,f.size):=by simp[PV,o]
 have a4:∀y z,(callFunc 160 #[MR (N ⟨k,0,S⟩) 1 1,MR (N ⟨g,(i+1)*3,S⟩) y z]).run MT w=.ok (.value (.bool Md)) w:=λy z=>by
  rw[RE func160 UR UR UR (e:=Extern.SlicesOverlaps.overlaps #[170,170] #[4]) UR,
   QC w 170 4 189 jO 3 (λ_=>rfl) ⟨k,0,S⟩ ⟨g,(i+1)*3,S⟩ 1 1 y z P J 189 K f.size a3 T O (R _) (R _)]
  rfl
 have hb:c<=9223372036854775807:=by unfold Nj at s;omega
 have c7:(n:Int)<=c:=O;have c8:(n:Int)+1<=c:=O;have c9:¬((i:Int)=(n:Int)):=O;have d0:(i:Int)<n:=O;have d1:¬((c:Int)<(n:Int)+1):=O;have d2:¬(c=i):=O;have d3:¬(c=i+1):=O;have d4:IntKind.i64.wrap ((i:Int)+1)=(i:Int)+1:=by rw[Mm];omega
 have d5:IntKind.i64.wrap ((n:Int)+1)=(n:Int)+1:=by rw[Mm];omega
 have d6:((i:Int)+1).toNat=i+1:=O;have e0:((n:Int)+1).toNat=n+1:=O;have e1:(0:Int)<=(i:Int)+1:=O;have e2:i<=n:=O;have e3:(i:Int)<=(n:Int)+1:=O;have r:f.toList.length=c*3:=by rw[Nl];exact L
 obtain⟨D,m⟩:=UX (h.drop (i*3));have U:D.length=(n-i)*3:=by rw[m,M2,p];omega
 have V:∀j v,D[j]?=N v->w.cell? ⟨g,i*3+j,S⟩=N v:=λj v l=>by
  rw[m,N2,<-t,M5]at l;split at l
  ·exact aM o l
  ·cases l
 have W:∀u∈D,u.oneCell'=true:=λu X=>a0 u (by rw[m]at X;exact Nu X);have B:(M8 (M8 f.toList ((i+1)*3) D) (i*3) d).take ((n+1)*3)=h.take (i*3)++d++h.drop (i*3):=by
  rw[show(i+1)*3=i*3+3 by omega,show(n+1)*3=n*3+3 by omega,m];exact md f.toList h d (i*3) (n*3) 3 t p q O (by rw[r];omega)
 have Y:(M8 (M8 f.toList ((i+1)*3) D) (i*3) d).length=c*3:=by
  rw[NI _ _ _ (by rw[NI _ _ _ O];omega),NI _ _ _ O,r]
 obtain⟨E,F⟩:=UX (h.take (i*3)++d++h.drop (i*3));have Z:E.length=(n+1)*3:=by rw[F];simp only[Mz,Mh,M2,p,q];omega
 rw[<-F]at B⊢;have HG:aA (w.heap[g]?=N (MY f.toList.toArray 189 (0,0))):=A (by rw[o]);have HV:=A M;have G:=A r;have H:=A U;have a7:=A V;have a8:=A W;have HR:=A B;have b0:=A Y;have b1:=A Z;clear o M t p L T r U V W B Y Z F m;generalize f.toList=C at*;have b2:=A s;clear s;go_enter Qo,ntmps93;go_wp2_with (simp only[a4])
 go_region_law (refine cO rfl _ _ 170 170 rfl 189 3 jO Cr g ((i+1)*3) (n-i) (c- (i+1)) ⟨g,i*3,S⟩ (n+1-i) (c-i) UV UV C 189 HG.o D (n-i) UW H.o (λj v l=>by rw[NM];exact a7.o j v l) (by rw[H.o,G.o];omega) a8.o (λb=>b=g) w (aH.refl _ _).drew (Mf rfl) ?_;intro w1 G1 C1 O1)
 have b9:aA (∀j u,d[j]?=N u->w1.cell? ⟨k,j,S⟩=N u):=A λj u l=>(Mj (w:=w) (a:=⟨k,j,S⟩) (O1.o k P)).trans (HV.o j u l);have c0:aA (i*3+d.length<=(M8 C ((i+1)*3) D).length):=A (by rw[NI _ _ _ (by rw[H.o,G.o];omega),G.o,q];omega);go_wp2_with (refine bo rfl _ _ 170 170 rfl 189 3 jO Cr g (i*3) (n+1-i) (c-i) ⟨k,0,S⟩ 1 1 rfl rfl (M8 C ((i+1)*3) D) 189 G1.o d 1 UW (by rw[q]) (λj v l=>by rw[NM,NO];exact b9.o j v l) c0.o h1 (λb=>b=g) w C1.o (Mf rfl) ?_)
 intro w2 G2 C2 O2;go_wp2;go_ret;exact⟨g,c,rfl,⟨b1.o,MX ⟨g,c,_,rfl,NG _,G2.o,a1,b2.o,by rw[NY];exact b0.o,HR.o⟩⟩,Mf rfl,C2.o.mono λx _ hx=>by subst hx;rfl⟩
theorem zd:(N5 (M1 #[Q I 0,Q I 0,MQ S])).size=3:=rfl
theorem Eg(g n c i:Nat)(Y:Array Ma)(e:List Ma)(p:Nat)(f:List Ma)(w:MV)(s:w.heap[g]?=N (MY Y 189 (0,0)))(t:e.length=n*3)(J:Y.toList.take (n*3)=e)(Z:∀u∈e,u.oneCell'=Mk)(hi:i<n)(e6:n<=c)(b4:c<n+1)(hn:n<=199)(y:f.length=3)(K:∀j u,f[j]?=N u->w.cell? ⟨p,j,S⟩=N u)(h1:∀u∈f,u.oneCell'=Mk):Mo MT 93 #[MR (N ⟨g,0,S⟩) n c,Q I i,MR (N ⟨p,0,S⟩) 1 1] w (bn 189 3 (MR (N ⟨g,0,S⟩) n c) n (e.take (i*3)++f++e.drop (i*3)) w):=by
 obtain rfl:c=n:=O;obtain⟨i0,b6,b9,c0,a1⟩:=Ob Hb;have a2:g<w.heap.size:=(Mu.1 s).1;have a3:p<w.heap.size:=by
  obtain⟨u,z⟩:∃u,f[0]?=N u:=⟨_,NZ O⟩;exact MO (K 0 u z)
 obtain⟨D,q⟩:=UX (e.drop (i*3));have a4:D.length=(c-i)*3:=by rw[q,M2,t];omega
 have a5:∀j v,D[j]?=N v->w.cell? ⟨g,i*3+j,S⟩=N v:=λj v d=>by
  rw[q,N2,<-J,M5]at d;split at d
  ·exact aM s d
  ·cases d
 have a6:∀u∈D,u.oneCell'=true:=λu z=>Z u (by rw[q]at z;exact Nu z);have a7:(PT i0.size i (MR (N ⟨g,0,S⟩) i c)).run MT w.drew=.ok (e.take (i*3)).toArray w.drew:=by
  rw[c0];exact RF w.drew 3 i ⟨g,0,S⟩ i c (e.take (i*3)) (by rw[Mh];omega) (λj v d=>by
   rw[NM,NO];rw[M5]at d;split at d
   ·rw[<-J,M5]at d;split at d
    ·exact aM s d
    ·cases d
   ·cases d)
 have L:i+(c+1-i)=c+1:=O;have a8:(c:Int)+1- (i:Int)=((c+1-i:Nat):Int):=O;obtain⟨G,B⟩:=UX (grownCap w (c+1) c 189);obtain⟨l,E⟩:=UX ((e.take (i*3)).toArray++NV (N5 (M1 #[Q I 0,Q I 0,MQ S])) (c+1-i)++NV (N5 (M1 #[Q I 0,Q I 0,MQ S])) (G- (c+1)):Array Ma);obtain⟨m,r⟩:=UX (w.drew.alloc (MY l 189));have a9:∀M,(Na #[170,3] M #[MR (N ⟨g,0,S⟩) i c,Q I ((c:Int)+1- (i:Int))]).run MT w=.ok (MR (N ⟨w.heap.size,0,S⟩) (c+1) G) m:=λM=>by
  have h:=Pq w 170 3 M 189 i0 _ I I jO UR b6 b9 (N ⟨g,0,S⟩) i c (e.take (i*3)) a7 (c+1-i) O O O O (by rw[a1];omega) (by rw[a1,L];exact Sv b4 O);rw[L]at h;rw[a8,r,E,B];exact h
 have c1:c+1<=G:=by rw[B];exact UB w _ _ _
 have P:G<=maxLen:=by rw[B];exact Ud w (c+1) c 189 UT
 have e8:G<=9223372036854775807:=by unfold Nj at P;omega
 have F:l.toList.length=G*3:=by
  rw[E];simp only[NV,zd,Nq,Mz,Nl,RB,Qp,Mh];omega
 have b0:l.toList.take (i*3)=e.take (i*3):=by
  rw[E,Nq,Nq,Oi,OJ (by rw[Mh];omega),RH,SL]
 have R:(M8 (M8 l.toList (i*3) f) ((i+1)*3) D).take ((c+1)*3)=e.take (i*3)++f++e.drop (i*3):=by
  rw[show(i+1)*3=i*3+3 by omega,show(c+1)*3=c*3+3 by omega,q];exact me l.toList e f (i*3) (c*3) 3 b0 t y O (by rw[F];omega)
 have T:(M8 l.toList (i*3) f).length=G*3:=by rw[NI _ _ _ O,F]
 have b1:(M8 (M8 l.toList (i*3) f) ((i+1)*3) D).length=G*3:=by rw[NI _ _ _ O,T]
 obtain⟨U,V⟩:=UX (e.take (i*3)++f++e.drop (i*3));have b2:U.length=(c+1)*3:=by rw[V];simp only[Mz,Mh,M2,t,y];omega
 rw[<-V]at R⊢;obtain⟨o,H⟩:=UX w.heap.size;have HG:aA (m.heap[o]?=N (MY l.toList.toArray 189 (0,0))):=A (by rw[r,H];exact(by simp:(w.heap.push (Obj.cells l 189))[w.heap.size]?=some (Obj.cells l.toList.toArray 189)));have W:aA (∀k,k<o->m.heap[k]?=w.heap[k]?):=A λk hk=>by rw[r];exact((Below.refl w.heap.size w.drew).alloc (MP _) _).block k O
 have c3:aA (aH (λb=>b=g) w m):=A (by rw[r];exact(aH.refl _ w).drew.alloc _);rw[<-H]at a9 a2 a3;have c4:aA (∀j u,f[j]?=N u->m.cell? ⟨p,j,S⟩=N u):=A λj u d=>(Mj (w:=w) (a:=⟨p,j,S⟩) (W.o p a3)).trans (K j u d);have c5:aA (∀j v,D[j]?=N v->m.cell? ⟨g,i*3+j,S⟩=N v):=A λj v d=>(Mj (w:=w) (a:=⟨g,i*3+j,S⟩) (W.o g a2)).trans (a5 j v d);have b3:=A a4;have c6:=A a6;have HR:=A R;have c8:=A b1;have c9:=A F;have d0:=A T;have d1:=A b2;have d2:=A P;have X:=A H;have d3:g≠o:=O;clear s K J t a4 a5 a6 R b1 b2 V q a7 L a8 E F b0 T r B P H W Z;generalize l.toList=C at*;have hb:c<=9223372036854775807:=O;have f2:¬((i:Int)=(c:Int)):=O;have f3:(i:Int)<c:=O;have f4:(c:Int)<(c:Int)+1:=O;have f5:¬(c=i):=O;have f6:¬(G=i):=O;have f7:¬(G=i+1):=O;have f8:IntKind.i64.wrap ((i:Int)+1)=(i:Int)+1:=by rw[Mm];omega
 have f9:IntKind.i64.wrap ((c:Int)+1)=(c:Int)+1:=by rw[Mm];omega
 have g0:IntKind.i64.wrap ((c:Int)+1- (i:Int))=(c:Int)+1- (i:Int):=by rw[Mm];omega
 have g1:((i:Int)+1).toNat=i+1:=O;have g2:(0:Int)<=(i:Int)+1:=O;have g3:i<=c:=O;have g4:(i:Int)<=(c:Int)+1:=O;go_enter Qo,ntmps93;go_wp2_with (first|(at_builtin;refine QK _ rfl _ _ 170 3 rfl _ _ rfl rfl _ _ (a9 _) ?_)|(refine bo rfl _ _ 170 170 rfl 189 3 jO Cr o (i*3) (c+1-i) (G-i) ⟨p,0,S⟩ 1 1 rfl rfl C 189 HG.o f 1 UW (by rw[y]) (λj v d=>by rw[NM,NO];exact c4.o j v d) (by rw[c9.o,y];omega) h1 (λb=>b=g) w c3.o (MX (OU X.o.symm)) ?_))
 intro w1 G1 C1 O1;have e1:aA (∀j v,D[j]?=N v->w1.cell? ⟨g,i*3+j,S⟩=N v):=A λj v d=>(Mj (w:=m) (a:=⟨g,i*3+j,S⟩) (O1.o g d3)).trans (c5.o j v d);go_wp2;go_region_law (refine cO rfl _ _ 170 170 rfl 189 3 jO Cr o ((i+1)*3) (c-i) (G- (i+1)) ⟨g,i*3,S⟩ (c-i) (c-i) UV UV (M8 C (i*3) f) 189 G1.o D (c-i) UW b3.o (λj v d=>by rw[NM];exact e1.o j v d) (by rw[b3.o,d0.o];omega) c6.o (λb=>b=g) w C1.o.drew (MX (OU X.o.symm)) ?_;intro w2 G2 C2 O2)
 go_wp2;go_ret;exact⟨o,G,rfl,⟨d1.o,MX ⟨o,G,_,rfl,NG _,G2.o,c1,d2.o,by rw[NY];exact c8.o,HR.o⟩⟩,MX (OU X.o.symm),C2.o.mono λx _ hx=>by subst hx;rfl⟩
theorem G0(d:Ma)(n i:Nat)(a:List Ma)(b:Nat)(p:NL)(q:Nat)(c:List Ma)(w:MV)(h:w.ownsRow 0 189 3 d n a)(r:∀u∈a,u.oneCell'=Mk)(L:i<=n)(f:n<=199)(k:c.length=3)(l:∀j u,c[j]?=N u->w.cell? ⟨b,j,S⟩=N u)(m:∀u∈c,u.oneCell'=Mk)(z:d.ownBlock≠N b)(B:w.shape? b=N (p,q))(C:∀j,w.frozen? ⟨b,j,S⟩=Md):Mo MT 93 #[d,Q I i,MR (N ⟨b,0,S⟩) 1 1] w (bn 189 3 d n (a.take (i*3)++c++a.drop (i*3)) w):=by
 by_cases D:i=n
 ·subst D;have E:a.take (i*3)=a:=NN (by rw[h.1];exact MP _);have F:a.drop (i*3)=[]:=N9 (by rw[h.1];exact MP _);rw[E,F,OY];exact Gz d i a b c w h f k l m
 ·have s:=h;rcases h.2 with⟨t,M⟩|⟨g,o,v,t,_,x,G,H,J,y⟩
  ·omega
  ·subst t;by_cases K:n+1<=o
   ·exact Ef g n o i v a b p q c w x H J s.1 y r O K f k l m (λe=>z (by rw[e];rfl)) B C
   ·exact Eg g n o i v a b c w x s.1 y r O G O f k l m
theorem wL{o:Nat}{d c:List Ma}(f:w.heap[g]?=N (MY d.toArray t (0,0)))(h:o+c.length<=d.length)(i:∀v∈c,v.oneCell'=Mk):w.setCells g o c=w.setRow g (M8 d o c).toArray:=by
 have a:=run_storeCells_cells (P:=MT) g o c 0 w (λj k=>by
  have:o+j<d.length:=O;simp[M7,f,this]) (λj k=>by simp[Nz,f]) i
 have b:=Qz MT g o t c 0 d.toArray w f (by simpa using h) i;rw[a]at b;injection b with _ e;simpa[M8]using e
theorem cZ{y:Array Oper}{a:Act}{K:Act->MV->Prop}{z:Exit->Act->MV->Prop}{E:Prop}(B:o.guard=S)(s x:Operand)(t:NL)(C:o.op=Op.call {callee:=Callee.builtin Builtin.append,args:=#[s,x],argTypes:=#[t,t]})(e:NL)(i:TypeInfo)(d:Nat)(D:P.underlying t=N (.slice e))(F:P.info? e=N i)(G:i.size=d)(b n g:Nat)(H:a.eval s=MR (N ⟨b,0,S⟩) n g)(k:Addr)(m c:Nat)(f:List Ma)(J:a.eval x=MR (N k) m c)(L:f.length=m*d)(M:∀j u,f[j]?=N u->w.cell? (k.add j)=N u)(v:∀u∈f,u.oneCell'=Mk)(R:n+m<=g)(h:List Ma)(l:NL)(p:w.heap[b]?=N (MY h.toArray l (0,0)))(T:n*d+f.length<=h.length)(X:Nat->Prop)(q:MV)(U:aH X q w)(V:X b\/q.heap.size<=b)(W:∀r,aA (r.heap[b]?=N (MY (M8 h (n*d) f).toArray l (0,0)))->aA (aH X q r)->K (a.put o.dst (MR (N ⟨b,0,S⟩) (n+m) g)) r):if Region.wanted o (yielded y a.tmps)=Mk then Oper.wp P o a w K z else E:=by
 refine step_append_room B s x t C e i d D F G b 0 n g H k m c f J L M v R (λj Y=>?_) ?_
 ·have:n*d+j<h.length:=by omega
  simp[M7,Nz,p,this]
 ·rw[NO,wL p T v];exact W _ (A (RC w b _ _ l _ p)) (A (U.setRow V _))
theorem sQ(w:MV)(t e f:NL)(z:Ma)(h:P.underlying t=N (.slice e))(i:∀w,(QZ e).run P w=.ok z w)(a:List Ma)(j:(NV z.cells 1).toList=a)(k:∀u∈a,u.oneCell'=Mk)(g o c:Nat)(b:List Ma)(d:NL)(l:w.heap[g]?=N (MY b.toArray d (0,0)))(m:o+a.length<=b.length):(SM #[t] f #[MR (N ⟨g,o,S⟩) 1 c]).run P w=.ok (Nn #[]) (w.setRow g (M8 b o a).toArray):=by
 have n:=Qz P g o d a 0 b.toArray w l (by simpa using m) k;simp[SM,run_underlying h,i,j,n,M8]
theorem cL{l:Array Oper}{m:List Oper}{a:Act}{n:Exit->Act->MV->Prop}(q:o.guard=S)(x:Operand)(t:NL)(r:o.op=.call {callee:=.builtin .clear,args:=#[x],argTypes:=#[t]})(e:NL)(z:Ma)(s:P.underlying t=N (.slice e))(v:∀w,(QZ e).run P w=.ok z w)(b:List Ma)(y:(NV z.cells 1).toList=b)(B:∀u∈b,u.oneCell'=Mk)(g d c:Nat)(C:a.eval x=MR (N ⟨g,d,S⟩) 1 c)(f:List Ma)(i:NL)(p:w.heap[g]?=N (MY f.toArray i (0,0)))(D:d+b.length<=f.length)(X:Nat->Prop)(j:MV)(E:aH X j w)(F:X g\/j.heap.size<=g)(h:∀k,aA (k.heap[g]?=N (MY (M8 f d b).toArray i (0,0)))->aA (aH X j k)->wpList P l n m (a.put o.dst (Nn #[])) k):wpList P l n (o::m) a w:=by
 refine wpList_plain q λK G=>?_;have H:=sQ (P:=P) w t e o.type z s v b y B g d c f i p D;unfold Oper.wp;simp[execOp,r,resolve,invoke,builtin,C,H,Result.andThen];exact G _ _ (h _ (A (RC w g _ _ i _ p)) (A (E.setRow F _)))
theorem rc{h:Type}(L c f:List h)(a b s:Nat)(i:L.take b=c)(g:c.length=b)(m:f.length=s)(n:a+s<=b)(o:b<=L.length):(M8 (M8 L a (c.drop (a+s))) (b-s) f).take (b-s)=c.take a++c.drop (a+s):=by
 have p:(c.drop (a+s)).length=b- (a+s):=by rw[M2,g]
 have q:(M8 L a (c.drop (a+s))).length=L.length:=NI _ _ _ O;have k:∀j,j<b->c[j]?=L[j]?:=λj l=>by rw[<-i,M5,if_pos l]
 apply List.ext_getElem?;intro j;rw[M5,dY _ _ _ O,List.getElem?_append,Mh,g,Nat.min_eq_left (by omega:a<=b)];by_cases e:j<b-s
 ·rw[if_pos e,if_pos e,dY _ _ _ O];by_cases d:j<a
  ·rw[if_pos d,if_pos d,M5,if_pos d,k j O]
  ·rw[if_neg d,if_neg d,if_pos O]
 ·rw[if_neg e,if_neg O];symm;rw[List.getElem?_eq_none_iff];omega
theorem FY:(NV (N5 (M1 #[Q I 0,MQ S])) 1).toList=[Q I 0,MQ S]:=by
 have e:(N5 (M1 #[Q I 0,MQ S]))=#[Q I 0,MQ S]:=rfl;rw[e];simp[NV,PO,List.range.loop]
theorem Dx(g m q i:Nat)(l:List Ma)(w:MV)(h:w.ownsRow 0 184 2 (MR (N ⟨g,0,S⟩) (m+1) q) (m+1) l)(U:∀u∈l,u.oneCell'=Mk)(hi:i<=m)(hn:m<=199):Mo MT 97 #[MR (N ⟨g,0,S⟩) (m+1) q,Q I i,Q I ((i:Int)+1)] w λe z=>e=MZ (MR (N ⟨g,0,S⟩) m q)/\z.ownsRow 0 184 2 (MR (N ⟨g,0,S⟩) m q) m (l.take (i*2)++l.drop ((i+1)*2))/\aH (λb=>b=g) w z/\∀j u,([Q I 0,MQ S]:List Ma)[j]?=N u->z.cell? ⟨g,m*2+j,S⟩=N u:=by
 obtain⟨V,B,c2,X,e4⟩:=Ob Hf;obtain⟨t,h2⟩:=h;rcases h2 with⟨r,h0⟩|⟨d,f,n,r,_,E,e6,F,Y,G⟩
 ·cases r
 have e1:d=g:=by simpa using(by injection r with a b c;exact(congrArg (λo=>o.map (·.block)) a).symm:some d=some g)
 have e2:f=q:=by injection r with a b c;exact c.symm
 subst e1 e2;clear r;have x:n.toList.length=f*2:=by rw[Nl];exact Y
 obtain⟨D,p⟩:=UX (l.drop ((i+1)*2));have Z:D.length=(m-i)*2:=by rw[p,M2,t];omega
 have a0:∀j v,D[j]?=N v->w.cell? ⟨d,(i+1)*2+j,S⟩=N v:=λj v k=>by
  rw[p,N2,<-G,M5]at k;split at k
  ·exact aM E k
  ·cases k
 have a1:∀u∈D,u.oneCell'=true:=λu hu=>U u (by rw[p]at hu;exact Nu hu);have H:(M8 (M8 n.toList (i*2) D) (m*2) [Q I 0,MQ S]).take (m*2)=l.take (i*2)++l.drop ((i+1)*2):=by
  have:=rc n.toList l [Q I 0,MQ S] (i*2) ((m+1)*2) 2 G t rfl O (by rw[x];omega);rw[show(m+1)*2-2=m*2 by omega,show i*2+2=(i+1)*2 by omega,<-p]at this;rw[this,p]
 have J:(M8 n.toList (i*2) D).length=f*2:=by rw[NI _ _ _ O,x]
 have a3:(M8 (M8 n.toList (i*2) D) (m*2) [Q I 0,MQ S]).length=f*2:=by rw[NI _ _ _ (by simp only[N6,OH];omega),J]
 obtain⟨K,L⟩:=UX (l.take (i*2)++l.drop ((i+1)*2));have a4:K.length=m*2:=by rw[L];simp only[Mz,Mh,M2,t];omega
 rw[<-L]at H⊢;have HG:aA (w.heap[d]?=N (MY n.toList.toArray 184 (0,0))):=A (by rw[E]);have HC:=A x;have y:=A Z;have c6:=A a0;have a7:=A a1;have HR:=A H;have a9:=A a3;have b0:=A J;have b1:=A a4;have b2:=A F;have hb:f<=9223372036854775807:=by unfold Nj at F;omega
 clear E G t Y x Z a0 a1 H a3 a4 L p U F J;generalize n.toList=C at*;have q1:(i:Int)<=(m:Int):=O;have q2:(m:Int)+1<=f:=O;have q3:(0:Int)<=(i:Int)+1:=O;have q4:((i:Int)+1).toNat=i+1:=O;have q5:((m:Int)+1).toNat=m+1:=O;have q6:¬((i:Int)=(i:Int)+1):=O;have q7:(i:Int)<=f:=O;have q8:¬(f=m):=O;have q9:¬(f=i):=O;have f3:(m:Int)<=(m:Int)+1:=O;have d2:(i:Int)<=(i:Int)+1:=O;have f4:(0:Int)<=(m:Int)+1:=O;have b3:∀w,(QZ 184).run MT w=.ok (M1 #[Q I 0,MQ S]) w:=λ_=>by simp[QZ,typeInfo,B,c2]
 have b4:=A b3;have b5:∀u∈([Q I 0,MQ S]:List Ma),u.oneCell'=true:=by simp[NC]
 have b6:=A b5;have b9:aA (∀(W:MV),W.heap[d]?=N (MY (M8 (M8 C (i*2) D) (m*2) [Q I 0,MQ S]).toArray 184 (0,0))->∀j u,([Q I 0,MQ S]:List Ma)[j]?=N u->W.cell? ⟨d,m*2+j,S⟩=N u):=A λW hW j u k=>by
  have f5:j<([Q I 0,MQ S]:List Ma).length:=by
   rcases N8 j ([Q I 0,MQ S]:List Ma).length with h|h
   ·exact h
   ·rw[Re h]at k;cases k
  refine aM hW ?_;have hz:([Q I 0,MQ S]:List Ma).length=2:=rfl;rw[dY _ _ _ (by rw[b0.o,hz];omega),if_neg O,if_pos O,RQ];exact k
 have c0:aA (m*2+([Q I 0,MQ S]:List Ma).length<=(M8 C (i*2) D).length):=A (by rw[b0.o];simp only[N6,OH];omega);clear b3 b5;by_cases d5:f=i+1
 ·obtain rfl:m=i:=by omega
  subst d5;clear q8 q9 q6 q1 q7 d2 hi;have d6:D=[]:=PP (by rw[y.o];omega);subst d6;go_enter TY,ntmps97;go_wp2_with fail
  go_region_law (refine cZ rfl _ _ 167 rfl 184 V 2 jP B X d m (m+1) UV ⟨d,0,S⟩ 0 0 [] UV rfl (λj u k=>by cases k) a7.o O C 184 HG.o (by rw[y.o,HC.o];omega) (λb=>b=d) w (aH.refl _ _).drew (Mf rfl) ?_;intro w1 M P)
  go_wp2_with (refine cL rfl _ 167 rfl 184 (M1 #[Q I 0,MQ S]) jP b4.o [Q I 0,MQ S] FY b6.o d (m*2) 1 rfl (M8 C (m*2) []) 184 M.o c0.o (λb=>b=d) w P.o (Mf rfl) ?_)
  intro R s T;go_wp2;go_ret;exact⟨rfl,⟨b1.o,MX ⟨d,(m+1),_,rfl,NG _,s.o,O,b2.o,by rw[NY];exact a9.o,HR.o⟩⟩,T.o,b9.o R s.o⟩
 ·go_enter TY,ntmps97;go_wp2_with fail
  go_region_law (refine cZ rfl _ _ 167 rfl 184 V 2 jP B X d i f UV ⟨d,(i+1)*2,S⟩ (m-i) (f- (i+1)) D UV y.o (λj u k=>by rw[NM];exact c6.o j u k) a7.o O C 184 HG.o (by rw[y.o,HC.o];omega) (λb=>b=d) w (aH.refl _ _).drew (Mf rfl) ?_;intro w1 M P)
  have f6:i+(m-i)=m:=O;go_wp2_with (refine cL rfl _ 167 rfl 184 (M1 #[Q I 0,MQ S]) jP b4.o [Q I 0,MQ S] FY b6.o d (m*2) (f-m) rfl (M8 C (i*2) D) 184 M.o c0.o (λb=>b=d) w P.o (Mf rfl) ?_)
  intro R s T;go_wp2;go_ret;exact⟨rfl,⟨b1.o,MX ⟨d,f,_,rfl,NG _,s.o,O,b2.o,by rw[NY];exact a9.o,HR.o⟩⟩,T.o,b9.o R s.o⟩
theorem FX:(NV (N5 (M1 #[Q I 0,Q I 0,MQ S])) 1).toList=[Q I 0,Q I 0,MQ S]:=by
 have e:(N5 (M1 #[Q I 0,Q I 0,MQ S]))=#[Q I 0,Q I 0,MQ S]:=rfl;rw[e];simp[NV,PO,List.range.loop]
theorem Dw(g m q i:Nat)(l:List Ma)(w:MV)(h:w.ownsRow 0 189 3 (MR (N ⟨g,0,S⟩) (m+1) q) (m+1) l)(U:∀u∈l,u.oneCell'=Mk)(hi:i<=m)(hn:m<=199):Mo MT 98 #[MR (N ⟨g,0,S⟩) (m+1) q,Q I i,Q I ((i:Int)+1)] w λe z=>e=MZ (MR (N ⟨g,0,S⟩) m q)/\z.ownsRow 0 189 3 (MR (N ⟨g,0,S⟩) m q) m (l.take (i*3)++l.drop ((i+1)*3))/\aH (λb=>b=g) w z/\∀j u,([Q I 0,Q I 0,MQ S]:List Ma)[j]?=N u->z.cell? ⟨g,m*3+j,S⟩=N u:=by
 obtain⟨V,B,c2,X,e4⟩:=Ob Hb;obtain⟨t,h2⟩:=h;rcases h2 with⟨r,h0⟩|⟨d,f,n,r,_,E,e6,F,Y,G⟩
 ·cases r
 have e1:d=g:=by simpa using(by injection r with a b c;exact(congrArg (λo=>o.map (·.block)) a).symm:some d=some g)
 have e2:f=q:=by injection r with a b c;exact c.symm
 subst e1 e2;clear r;have x:n.toList.length=f*3:=by rw[Nl];exact Y
 obtain⟨D,p⟩:=UX (l.drop ((i+1)*3));have Z:D.length=(m-i)*3:=by rw[p,M2,t];omega
 have a0:∀j v,D[j]?=N v->w.cell? ⟨d,(i+1)*3+j,S⟩=N v:=λj v k=>by
  rw[p,N2,<-G,M5]at k;split at k
  ·exact aM E k
  ·cases k
 have a1:∀u∈D,u.oneCell'=true:=λu hu=>U u (by rw[p]at hu;exact Nu hu);have H:(M8 (M8 n.toList (i*3) D) (m*3) [Q I 0,Q I 0,MQ S]).take (m*3)=l.take (i*3)++l.drop ((i+1)*3):=by
  have:=rc n.toList l [Q I 0,Q I 0,MQ S] (i*3) ((m+1)*3) 3 G t rfl O (by rw[x];omega);rw[show(m+1)*3-3=m*3 by omega,show i*3+3=(i+1)*3 by omega,<-p]at this;rw[this,p]
 have J:(M8 n.toList (i*3) D).length=f*3:=by rw[NI _ _ _ O,x]
 have a3:(M8 (M8 n.toList (i*3) D) (m*3) [Q I 0,Q I 0,MQ S]).length=f*3:=by rw[NI _ _ _ (by simp only[N6,OH];omega),J]
 obtain⟨K,L⟩:=UX (l.take (i*3)++l.drop ((i+1)*3));have a4:K.length=m*3:=by rw[L];simp only[Mz,Mh,M2,t];omega
 rw[<-L]at H⊢;have HG:aA (w.heap[d]?=N (MY n.toList.toArray 189 (0,0))):=A (by rw[E]);have HC:=A x;have y:=A Z;have c6:=A a0;have a7:=A a1;have HR:=A H;have a9:=A a3;have b0:=A J;have b1:=A a4;have b2:=A F;have hb:f<=9223372036854775807:=by unfold Nj at F;omega
 clear E G t Y x Z a0 a1 H a3 a4 L p U F J;generalize n.toList=C at*;have q1:(i:Int)<=(m:Int):=O;have q2:(m:Int)+1<=f:=O;have q3:(0:Int)<=(i:Int)+1:=O;have q4:((i:Int)+1).toNat=i+1:=O;have q5:((m:Int)+1).toNat=m+1:=O;have q6:¬((i:Int)=(i:Int)+1):=O;have q7:(i:Int)<=f:=O;have q8:¬(f=m):=O;have q9:¬(f=i):=O;have f3:(m:Int)<=(m:Int)+1:=O;have d2:(i:Int)<=(i:Int)+1:=O;have f4:(0:Int)<=(m:Int)+1:=O;have b3:∀w,(QZ 189).run MT w=.ok (M1 #[Q I 0,Q I 0,MQ S]) w:=λ_=>by simp[QZ,typeInfo,B,c2]
 have b4:=A b3;have b5:∀u∈([Q I 0,Q I 0,MQ S]:List Ma),u.oneCell'=true:=by simp[NC]
 have b6:=A b5;have b9:aA (∀(W:MV),W.heap[d]?=N (MY (M8 (M8 C (i*3) D) (m*3) [Q I 0,Q I 0,MQ S]).toArray 189 (0,0))->∀j u,([Q I 0,Q I 0,MQ S]:List Ma)[j]?=N u->W.cell? ⟨d,m*3+j,S⟩=N u):=A λW hW j u k=>by
  have f5:j<([Q I 0,Q I 0,MQ S]:List Ma).length:=by
   rcases N8 j ([Q I 0,Q I 0,MQ S]:List Ma).length with h|h
   ·exact h
   ·rw[Re h]at k;cases k
  refine aM hW ?_;have hz:([Q I 0,Q I 0,MQ S]:List Ma).length=3:=rfl;rw[dY _ _ _ (by rw[b0.o,hz];omega),if_neg O,if_pos O,RQ];exact k
 have c0:aA (m*3+([Q I 0,Q I 0,MQ S]:List Ma).length<=(M8 C (i*3) D).length):=A (by rw[b0.o];simp only[N6,OH];omega);clear b3 b5;by_cases d5:f=i+1
 ·obtain rfl:m=i:=by omega
  subst d5;clear q8 q9 q6 q1 q7 d2 hi;have d6:D=[]:=PP (by rw[y.o];omega);subst d6;go_enter TZ,ntmps98;go_wp2_with fail
  go_region_law (refine cZ rfl _ _ 170 rfl 189 V 3 jO B X d m (m+1) UV ⟨d,0,S⟩ 0 0 [] UV rfl (λj u k=>by cases k) a7.o O C 189 HG.o (by rw[y.o,HC.o];omega) (λb=>b=d) w (aH.refl _ _).drew (Mf rfl) ?_;intro w1 M P)
  go_wp2_with (refine cL rfl _ 170 rfl 189 (M1 #[Q I 0,Q I 0,MQ S]) jO b4.o [Q I 0,Q I 0,MQ S] FX b6.o d (m*3) 1 rfl (M8 C (m*3) []) 189 M.o c0.o (λb=>b=d) w P.o (Mf rfl) ?_)
  intro R s T;go_wp2;go_ret;exact⟨rfl,⟨b1.o,MX ⟨d,(m+1),_,rfl,NG _,s.o,O,b2.o,by rw[NY];exact a9.o,HR.o⟩⟩,T.o,b9.o R s.o⟩
 ·go_enter TZ,ntmps98;go_wp2_with fail
  go_region_law (refine cZ rfl _ _ 170 rfl 189 V 3 jO B X d i f UV ⟨d,(i+1)*3,S⟩ (m-i) (f- (i+1)) D UV y.o (λj u k=>by rw[NM];exact c6.o j u k) a7.o O C 189 HG.o (by rw[y.o,HC.o];omega) (λb=>b=d) w (aH.refl _ _).drew (Mf rfl) ?_;intro w1 M P)
  have f6:i+(m-i)=m:=O;go_wp2_with (refine cL rfl _ 170 rfl 189 (M1 #[Q I 0,Q I 0,MQ S]) jO b4.o [Q I 0,Q I 0,MQ S] FX b6.o d (m*3) (f-m) rfl (M8 C (i*3) D) 189 M.o c0.o (λb=>b=d) w P.o (Mf rfl) ?_)
  intro R s T;go_wp2;go_ret;exact⟨rfl,⟨b1.o,MX ⟨d,f,_,rfl,NG _,s.o,O,b2.o,by rw[NY];exact a9.o,HR.o⟩⟩,T.o,b9.o R s.o⟩
def jM(w:MV)(a:Ma):Prop:=∀g,a.ownBlock=N g->∃n p,w.cell? ⟨g,0,S⟩=N (Q I n)/\w.cell? ⟨g,1,S⟩=N (MQ p)
def jL(w:MV)(a:Ma):Prop:=∀g,a.ownBlock=N g->∃n m p,w.cell? ⟨g,0,S⟩=N (Q I n)/\w.cell? ⟨g,1,S⟩=N (Q I m)/\w.cell? ⟨g,2,S⟩=N (MQ p)
theorem jM.lE(h:jM w a)(b:a.ownBlock=N g):dB w g:=by
 obtain⟨n,p,c,d⟩:=h g b;exact MX (MX (Mf ⟨n,p,c,d⟩))
theorem jL.lE(h:jL w a)(b:a.ownBlock=N g):dB w g:=by
 obtain⟨n,m,p,c,d,e⟩:=h g b;exact MX (MX (MX (Mf ⟨n,m,p,c,d,e⟩)))
theorem pz{c:Type}{R:c->c->Prop}{L:List c}(i:Nat)(e:c)(h:L.Pairwise R)(j:∀a∈L.take i,R a e)(k:∀a∈L.drop i,R e a):(L.take i++e::L.drop i).Pairwise R:=by
 have d:=h;rw[<-Np i L,PS]at d;rw[PS];refine⟨d.1,List.pairwise_cons.2 ⟨k,d.2.1⟩,λa g b f=>?_⟩;rcases Nk.1 f with rfl|f
 ·exact j a g
 ·exact d.2.2 a g b f
theorem nC{a:Type}{L:List a}(i:Nat)(e x:a):x∈L.take i++e::L.drop i↔x=e\/x∈L:=by
 have:x∈L↔x∈L.take i\/x∈L.drop i:=by rw[<-Od,Np]
 rw[this,Od,Nk];constructor
 ·rintro(h|h|h)
  ·exact MX (Mf h)
  ·exact Mf h
  ·exact MX (MX h)
 ·rintro(h|h|h)
  ·exact MX (Mf h)
  ·exact Mf h
  ·exact MX (MX h)
theorem jm{a:Type}{L:List a}(e:a)(h:i<=L.length):(L.take i++e::L.drop i).length=L.length+1:=by
 simp only[Mz,Mh,N6,M2];omega
theorem il{d:Type}{L:List d}(p:d->Bool)(h:i<L.length)(g:p L[i]=Md)(f:∀j (b:j<L.length),j≠i->p L[j]=Mk):L.take i++L.drop (i+1)=L.filter p:=by
 have e:L=L.take i++L[i]::L.drop (i+1):=by rw[<-List.drop_eq_getElem_cons h,Np]
 conv=>rhs;rw[e]
 rw[List.filter_append,List.filter_cons,g];simp only[Bool.false_eq_true,if_false];rw[Rw.2,Rw.2]
 ·intro a c;obtain⟨j,b,rfl⟩:=Mt c;rw[Pt];exact f _ _ O
 ·intro a c;obtain⟨j,b,rfl⟩:=Mt c;rw[PR];rw[Mh]at b;exact f _ _ O
theorem kB(L M:List af):gX (L++M)=gX L++gX M:=by simp[gX]
theorem j8(L M:List af):gL (L++M)=gL L++gL M:=by simp[gL]
theorem ur(L:List af)(i:Nat):(gX L).take (i*2)=gX (L.take i):=by
 rcases N8 L.length i with h|h
 ·rw[NN (by rw[jD];omega),NN O]
 ·have e:=congrArg gX (Np i L).symm;rw[kB]at e;rw[e,OJ (by rw[jD,Mh];omega),NN (by rw[jD,Mh];omega)]
theorem us(L:List af)(i:Nat):(gX L).drop (i*2)=gX (L.drop i):=by
 rcases N8 L.length i with h|h
 ·rw[N9 (by rw[jD];omega),N9 O];rfl
 ·have e:=congrArg gX (Np i L).symm;rw[kB]at e;have l:(gX (L.take i)).length=i*2:=by rw[jD,Mh];omega
  rw[e,<-l,RG]
theorem up(L:List af)(i:Nat):(gL L).take (i*3)=gL (L.take i):=by
 rcases N8 L.length i with h|h
 ·rw[NN (by rw[jC];omega),NN O]
 ·have e:=congrArg gL (Np i L).symm;rw[j8]at e;rw[e,OJ (by rw[jC,Mh];omega),NN (by rw[jC,Mh];omega)]
theorem uq(L:List af)(i:Nat):(gL L).drop (i*3)=gL (L.drop i):=by
 rcases N8 L.length i with h|h
 ·rw[N9 (by rw[jC];omega),N9 O];rfl
 ·have e:=congrArg gL (Np i L).symm;rw[j8]at e;have l:(gL (L.take i)).length=i*3:=by rw[jC,Mh];omega
  rw[e,<-l,RG]
theorem yG:∀u∈gX L,u.oneCell'=true:=by
 intro u a;obtain⟨e,_,h⟩:=Q0.1 a;simp at h;rcases h with rfl|rfl<;>rfl
theorem xx:∀u∈gL L,u.oneCell'=true:=by
 intro u a;obtain⟨e,_,h⟩:=Q0.1 a;simp at h;rcases h with rfl|rfl|rfl<;>rfl
theorem aY{w':MV}{B:Nat}{s n:Nat}{b:List Ma}(h:w.ownsRow B t s a n b)(c:∀g,a.ownBlock=N g->w'.heap[g]?=w.heap[g]?):w'.ownsRow B t s a n b:=by
 refine⟨h.1,?_⟩;rcases h.2 with h|⟨g,d,e,rfl,f,i,j⟩
 ·exact Mf h
 ·exact MX ⟨g,d,e,rfl,f,(c g rfl).trans i,j⟩
theorem aH.setCell{X:Nat->Prop}{a b:MV}{p:Addr}(h:aH X a b)(c:X p.block\/a.heap.size<=p.block)(v:Ma):aH X a (b.setCell p v):=
 ⟨h.os,h.tape,h.output,by rw[World.size_setCell];exact h.size,λk f d=>(Below.heap_setCell _ _ _ _ (by intro e;rcases c with c|c;exact d (e▸c);omega)).trans (h.block k f d)⟩
theorem jM.ne{d:Fn}{f c:Array Ma}(h:jM w a)(e:a.ownBlock=N g)(i:w.cell? ⟨m,0,S⟩=N (.func d f c)):m≠g:=by
 rintro rfl;obtain⟨n,p,b,_⟩:=h m e;rw[i]at b;cases b
theorem bI(w:MV)(o:Obj):(w.alloc o).heap[w.heap.size]?=N o:=by
 show(w.heap.push o)[w.heap.size]?=N o;simp
theorem aZ(w:MV)(o:Obj):(w.alloc o).heap.size=w.heap.size+1:=by
 show(w.heap.push o).size=_;simp
theorem jM.lC(h:w.ownsRow 0 184 2 b L.length (gX L))(c:0<L.length):jM w b:=by
 obtain⟨a,k,g,rfl,d⟩:=ie h;obtain⟨rfl,e,f⟩:=d 0 c;intro i j;obtain rfl:g=i:=by simpa[NF]using j
 exact⟨_,_,e,f⟩
theorem qr{a:MV}{d:Ma}{c:List af}(e:a.cell? ⟨m,0,S⟩=N (.func (.func 33) #[] #[]))(f:a.cell? ⟨m,1,S⟩=N d)(h:∀j,a.frozen? ⟨m,j,S⟩=Md)(i:a.ownsRow 0 184 2 b c.length (gX c))(k:∀g,b.ownBlock=N g->m≠g)(l:c.length<=200)(n:w=a.setCell ⟨m,1,S⟩ b):oV w m b c:=by
 subst n;refine⟨?_,?_,aY i λg o=>Below.heap_setCell _ _ _ _ (k g o).symm,λj=>?_,l⟩
 ·rw[World.cell?_setCell_other _ _ _ _ (by simp)];exact e
 ·exact World.cell?_setCell_same _ _ _ f
 ·rw[World.frozen?_setCell];exact h j
theorem F8(m:Nat)(v:Ma)(L:List af)(c:af)(w:MV)(hm:oV w m v L)(G:gB L)(H:jM w v)(J:qH L c.2.id=S)(hn:L.length<=199):Mo MT 41 #[MQ (N ⟨m,0,S⟩),Q I c.2.id,MQ (N ⟨c.1,0,S⟩)] w λe K=>e=MZ (Nn #[])/\∃o k,oV K m o k/\gB k/\jM K o/\(∀x,x∈k↔x=c\/x∈L)/\k.length=L.length+1/\(∀b,o.ownBlock=N b->v.ownBlock=N b\/w.heap.size<=b)/\aH (λb=>b=m\/v.ownBlock=N b) w K:=by
 have CP:=A (oG m v L c.2.id w hm G);obtain⟨C,h1,M,h3,h4⟩:=hm;obtain⟨a,q,g,rfl,hc⟩:=ie M;have R:m<w.heap.size:=MO C;have D:∀b,(MR a L.length q).ownBlock=N b->m≠b:=λb d=>H.ne d C;have HO:=A M;have T:=A G;have U:=A H;have H3:=A h3;have V:=A D;clear M h3 G H hc D;go_enter func41,ntmps41;go_wp2_with fail
 refine CP.o.mono ?_;rintro e f ⟨i,hi,X,Y,rfl,d⟩;have HF:=A (th X Y T.o);have l:(decide (i<L.length)&&(kU L i==c.2.id))=false:=by
  rw[<-Bool.not_eq_true,Bool.and_eq_true,decide_eq_true_eq,beq_iff_eq];intro h;have:=HF.o;rw[dif_pos h,J]at this;cases this
 have HL:=A X;have HR:=A Y;have k0:=cell_later d C;have k1:=cell_later d h1;have r:=A d;have e5:=d.size;have d5:m<f.heap.size:=O;clear CP X Y d HF C h1;go_wp2_with fail
 obtain⟨W,y⟩:=UX (f.alloc (MY #[Q I c.2.id,MQ (N ⟨c.1,0,S⟩)] 184));have E:=UY y;have F:W.heap[f.heap.size]?=N (MY #[Q I c.2.id,MQ (N ⟨c.1,0,S⟩)] 184 (0,0)):=by rw[y];exact bI _ _
 have d6:W.heap.size=f.heap.size+1:=by rw[y];exact aZ _ _
 have oW:W.ownsRow 0 184 2 (MR a L.length q) L.length (gX L):=aY HO.o λb d=>by
  have:b<w.heap.size:=by obtain⟨n,p,Z,_⟩:=U.o b d;exact MO Z
  exact(E.block b O).trans (r.o.block b this)
 have CI:=G7 (MR a L.length q) L.length i (gX L) f.heap.size 184 2 [Q I c.2.id,MQ (N ⟨c.1,0,S⟩)] W oW yG hi hn rfl
  (λj u z=>aM F z) oc (λd=>by obtain⟨n,p,Z,_⟩:=U.o f.heap.size d;have:f.heap.size<w.heap.size:=MO Z;omega) (by simp[PV,F]) (λj=>by simp[Nz,F])
 rw[<-y];refine CI.mono ?_;rintro e s ⟨B,a0,rfl,a1,a2,a3⟩;have a4:s.heap[m]?=w.heap[m]?:=(a3.block m O λh=>V.o m h rfl).trans ((E.block m d5).trans (r.o.block m R));have a5:∀j,s.cell? ⟨m,j,S⟩=w.cell? ⟨m,j,S⟩:=λj=>Mj (a:=⟨m,j,S⟩) a4;have a6:∀j,s.frozen? ⟨m,j,S⟩=false:=λj=>(World.frozen?_of_block (a:=⟨m,j,S⟩) a4).trans (H3.o j);have d0:s.cell? ⟨m,0,S⟩=N (.func (.func 33) #[] #[]):=(a5 0).trans ((r.o.cell (p:=⟨m,0,S⟩) R).symm.trans k0);have d1:s.cell? ⟨m,1,S⟩=N (MR a L.length q):=(a5 1).trans ((r.o.cell (p:=⟨m,1,S⟩) R).symm.trans k1);have e6:=a6 1;have a7:(L.take i++c::L.drop i).length=L.length+1:=jm c hi;have c4:(gX L).take (i*2)++[Q I c.2.id,MQ (N ⟨c.1,0,S⟩)]++(gX L).drop (i*2)=gX (L.take i++c::L.drop i):=by
  rw[ur,us,kB];simp[gX]
 rw[c4]at a1;have c5:∀g,(MR (N ⟨B,0,S⟩) (L.length+1) a0).ownBlock=N g->m≠g:=λg hg=>by
  obtain rfl:B=g:=by simpa[NF]using hg
  rcases a2 with h|h
  ·exact V.o _ h
  ·omega
 have c6:∀x,x∈L->x.2.id≠c.2.id:=λx l he=>by
  have:=List.find?_eq_none.1 J x l;simp[he]at this
 have P:=A (show∀t,t=s.setCell ⟨m,1,S⟩ (MR (N ⟨B,0,S⟩) (L.length+1) a0)->∃o k,oV t m o k/\gB k/\jM t o/\(∀x,x∈k↔x=c\/x∈L)/\k.length=L.length+1/\(∀b,o.ownBlock=N b->(MR a L.length q).ownBlock=N b\/w.heap.size<=b)/\aH (λb=>b=m\/(MR a L.length q).ownBlock=N b) w t from by
  intro t c7;have hM:oV t m (MR (N ⟨B,0,S⟩) (L.length+1) a0) (L.take i++c::L.drop i):=qr d0 d1 a6 (by rw[a7];exact a1) c5 O c7;refine⟨_,_,hM,?_,jM.lC hM.2.2.1 O,nC i c,a7,?_,?_⟩
  ·refine pz i c T.o (λx l=>?_) (λx l=>?_)
   ·obtain⟨j,z,rfl⟩:=Mt l;rw[Mh]at z;rw[PR];have:=HL.o j O;rwa[cQ O]at this
   ·have D:=c6 x (Nu l);obtain⟨j,z,rfl⟩:=Mt l;rw[M2]at z;rw[Pt]at D⊢;have:=HR.o (i+j) O O;rw[cQ O]at this;omega
  ·intro b d;obtain rfl:B=b:=by simpa[NF]using d
   rcases a2 with h|h
   ·exact Mf h
   ·exact MX O
  ·rw[c7];refine aH.setCell ?_ (Mf (Mf rfl)) _;exact((aH.aG r.o).trans ((aH.aG E).trans (a3.mono λx _ l=>MX l))))
 clear a1 a2 a3 a4 a5 a6 d0 c4 c5 c6 CI oW F d6 E y HL HR HO U V T r J H3 a7;go_wp2;go_end0;exact⟨rfl,P.o _ rfl⟩
end Go.Proofs.YtnjalelblbjfiaaGreatDoor
