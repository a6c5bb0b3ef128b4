import Derived.Test.YtnjalelblbjfiaaGreatDoorP11
namespace Go.Proofs.YtnjalelblbjfiaaGreatDoor
set_option maxRecDepth 100000
set_option maxHeartbeats 16000000
open Go.RowKit
open Go.Proofs.Tryz
open And renaming intro→Mp
open Go renaming Value→Ma,World→MV,block_lt_of_cell→MO,run_loadAt_mid→NW
open Go.IntKind renaming i64→I,wrap_i64→Mm
open Go.Obj renaming cells→MY
open Go.Proofs.Tryz renaming prog→MT
open Go.Value renaming agg→M1,int→Q,string→MS,slice→MR,pointer→MQ,oneCell'→NC
open Nat renaming le_refl→MP,le_trans→Mx,lt_of_lt_of_le→Mi
open Option renaming some→N,none→S
open _root_.Array renaming getElem?_eq_some_iff→Mu
section
attribute [local go_sem] Oper.semAt_some aI
def wW(v:Ma):Sem Value:=Instr.loadAt 66 v
theorem yQ(v:Ma):Instr.loadAt 66 v=wW v:=rfl
def wV(p v:Ma):Sem Unit:=Instr.storeAt 66 p v
theorem wU(p v:Ma):Instr.storeAt 66 p v=wV p v:=rfl
theorem Il:∃d,prog.underlying 66=N d/\d.isRow=true:=gO UR
theorem sL:(prog.info? 66).map (·.size)=N 2:=UR
theorem KC:(prog.info? 66).map (λi=>(i.zero,i.size,i.bytes))=N (N (M1 #[Q I 0,MS ⟨#[]⟩]),2,24):=UR
theorem Im:prog.underlying 59=N (.slice 66):=UR
def p7(x:Int)(j:Nat):Array Value:=(oC [Q I x,MS ⟨#[]⟩] j).toArray
theorem Ca(x:Int)(a b c d:Option Addr)(e f g h i j k l:Nat)(w:MV):(Instr.buildSlice 29 4 #[(0,M1 #[Q I x,MR S 0 0,MR a e i,MR S 0 0,MR S 0 0]),(1,M1 #[Q I x,MR S 0 0,MR b f j,MR S 0 0,MR S 0 0]),(2,M1 #[Q I x,MR S 0 0,MR c g k,MR S 0 0,MR S 0 0]),(3,M1 #[Q I x,MR S 0 0,MR d h l,MR S 0 0,MR S 0 0])]).run MT w=.ok (MR (N ⟨w.heap.size,0,S⟩) 4 4) (w.alloc (MY #[Q I x,MR S 0 0,MR a e i,MR S 0 0,MR S 0 0,Q I x,MR S 0 0,MR b f j,MR S 0 0,MR S 0 0,Q I x,MR S 0 0,MR c g k,MR S 0 0,MR S 0 0,Q I x,MR S 0 0,MR d h l,MR S 0 0,MR S 0 0] 78)):=UR
def tE(m:Nat)(u:Ma):au:=⟨m,MR S 0 0,u,MR S 0 0,MR S 0 0⟩
theorem Gr{m:Nat}(a:m<=100000000000)(W:MV)(c:Nat->Nat)(u:Ma)(h:qN W c 2 u (Jq m)):(tE m u).Ok W c:=⟨a,qN.nil _ _,h,qN.nil _ _,qN.nil _ _⟩
attribute [local go_sem ↓ high] Ca
attribute [local go_sem ↓ high] yQ wU fj
theorem BJ(W:MV)(x:Int)(j:Nat):∀q u,(oC [Q I x,MS ⟨#[]⟩] j)[q]?=N u->(W.alloc (MY (p7 x j) 66)).cell? ((⟨W.heap.size,0,S⟩:Addr).add q)=N u:=λq u a=>by
 rw[Addr.add_mid];exact aN W (p7 x j) 66 q u (by unfold p7;rw[List.toList_toArray];exact a)
theorem lS{W:MV}{x:Int}{v:Ma}{a:Nat}(h:FM W 66 2 [Q I x,MS ⟨#[]⟩] v a)(j:Nat)(i:0<j/\j<=3)(q:a<=1000):∃b e d,(nl #[59,59] 59 #[v,MR (N ⟨W.heap.size,0,S⟩) j j]).run MT (W.alloc (MY (p7 x j) 66))=.ok (.value (MR (N ⟨b,0,S⟩) (a+j) e)) d/\ax W d 66 2 [Q I x,MS ⟨#[]⟩] v a j b:=by
 obtain⟨r,l,m,n,o⟩:=info_parts KC;have f:Below W.heap.size W (W.alloc (MY (p7 x j) 66)):=(Below.refl _ W).alloc (MP _) _;obtain⟨b,e,d,p,G⟩:=oP (P:=MT) (ty:=59) (c:=j) Im l m n o (M:=[Q I x,MS ⟨#[]⟩]) rfl oc (h.alloc (MY (p7 x j) 66)) j (BJ W x j) i.1 UT O;refine⟨b,e,d,e9 p,⟨(aH.aG f).trans G.chg,G.blk.imp id λh=>Mx f.size h,G.lt,G.full,G.hld,λg k h=>G.still g k (aO h f)⟩⟩
theorem EX(w:MV)(b:Nat)(tv sv D v:Ma)(n d:Nat)(E:List au)(a0:Nat->Nat)(h:WS w b tv sv D n E a0)(hv:KP w 66 2 v d)(hc:∀x,v.ownBlock=some x->a0 x=0)(hl:d<=1000)(hn:n<100000000000)(hK:E.length+4<=100000000000):Calls MT 72 #[MQ (some ⟨b,0,S⟩),v] w λe W=>e=.returned (.tuple #[])/\∃i4 f4 f5,f4.length=E.length+4/\WS W b tv sv i4 (n+1) f4 f5/\aH (λx=>x=b\/D.ownBlock=some x\/v.ownBlock=some x) w W/\∀x,x<w.heap.size->a0 x≠0->f5 x=a0 x:=by
 obtain⟨dr,b6,b9⟩:=Il;obtain⟨m,hm⟩:=UX (n+1:Nat);have i5:IntKind.i64.wrap ((n:Int)+1)=(m:Int):=by rw[Mm];omega
 have l4:IntKind.i64.wrap (-(m:Int))= -(m:Int):=by rw[Mm];omega
 have M:=h.c2;have h3:=h.c3;have f7:b<w.heap.size:=MO M;have f2:=h.frz 2;have i8:(∃a c,v=MR a d c)/\∀x,v.ownBlock=some x->x<w.heap.size:=by
  rcases hv with⟨rfl,rfl⟩|⟨g,a2,a3,rfl,F,-⟩
  ·exact⟨⟨_,_,rfl⟩,λx l=>by cases l⟩
  ·exact⟨⟨_,_,rfl⟩,λx l=>by cases l;exact(Mu.1 F).1⟩
 obtain⟨⟨q,o,i9⟩,f9⟩:=i8;have c0:v.ownBlock≠some b:=λe=>by have:=hc b e;rw[h.cw]at this;omega
 obtain⟨f,G⟩:=UX ((w.setCell ⟨b,2,S⟩ (Q I m)).alloc (MY #[Q I (-(m:Int)),MS ⟨#[]⟩] 66));have a4:(w.setCell ⟨b,2,S⟩ (Q I m)).heap.size=w.heap.size:=by simp
 have j0:(wV (MQ (some ⟨w.heap.size,0,S⟩)) (M1 #[Q I (-(m:Int)),MS ⟨#[]⟩])).run MT ((w.setCell ⟨b,2,S⟩ (Q I m)).alloc (MY #[Q I 0,MS ⟨#[]⟩] 66))=.ok () f:=by
  have:=run_storeAt_new (P:=MT) (w.setCell ⟨b,2,S⟩ (Q I m)) 66 #[Q I 0,MS ⟨#[]⟩] #[Q I (-(m:Int)),MS ⟨#[]⟩] sL rfl oc;rw[a4]at this;rw[G];exact this
 have c1:aH (λx=>x=b) w (w.setCell ⟨b,2,S⟩ (Q I m)):=aH.setCell (X:=λx=>x=b) (p:=⟨b,2,S⟩) (aH.refl _ w) (.inl rfl) _;have c2:aH (λx=>x=b) w f:=by rw[G];exact c1.trans (aH.aG ((Below.refl _ _).alloc (MP _) _))
 have o1:jr w (w.setCell ⟨b,2,S⟩ (Q I m)) b 2:=jr.set (λ_=>⟨rfl,rfl⟩) _;have H:∀j,f.cell? ⟨b,j,S⟩=(w.setCell ⟨b,2,S⟩ (Q I m)).cell? ⟨b,j,S⟩/\f.frozen? ⟨b,j,S⟩=(w.setCell ⟨b,2,S⟩ (Q I m)).frozen? ⟨b,j,S⟩:=λj=>by
  rw[G];exact jr.aS (heap_alloc_old _ _ (by rw[a4];exact f7)) j
 have d0:=(H 0).1.trans ((o1 0 US).1.trans h.c0);have d1:=(H 1).1.trans ((o1 1 US).1.trans h.c1);have d2:=(H 2).1.trans (World.cell?_setCell_same _ _ _ M);have d3:=(H 3).1.trans ((o1 3 US).1.trans h3);have df:∀j,f.frozen? ⟨b,j,S⟩=false:=λj=>(H j).2.trans ((World.frozen?_setCell _ _ _ _).trans (h.frz j));have bx:f.rangeAt w.heap.size 0 [Q I (-(m:Int)),MS ⟨#[]⟩]:=by
  rw[G,<-a4];exact aN _ _ _
 have s2:w.heap.size<f.heap.size:=by rw[G];simp
 have g9:AD f 66 2 [Q I (-(m:Int)),MS ⟨#[]⟩] v d 0:=by
  rcases hv with h|⟨g,a2,a3,e,F,M,h3⟩
  ·exact .inl h
  ·refine .inr ⟨g,a2,a3,e,?_,M,h3,λk R=>absurd R (Nat.not_lt_zero k)⟩;have j1:g≠b:=λe'=>c0 (by rw[e,<-e'];rfl);exact(c2.block g (Mu.1 F).1 j1).trans F
 have t:=A h;have HV:=A λx (l:v.ownBlock=some x)=>Mp (hc x l) (f9 x l);have c5:=A c2;have y:=A (Mp d0 (Mp d1 (Mp d2 (Mp d3 df))));have j3:=A bx;have j4:=A g9;have c6:=A c0;have HM:=A hm;have HL:=A hl;have j5:=A hK;have HN:=A hn;have l5:=A s2;have l6:(d:Int)<=1000:=O;subst i9;clear h hv hc f9 c0 a4 c1 c2 o1 H d0 d1 d2 d3 df bx g9 G hm hl hK hn s2 h3;go_enter func72,ntmps72;go_wp2_with fail
 clear j0 i5 M f2 f7;go_loopw [5] (λi wr=>∃j:Nat,j<=d/\i=Q I j/\aH (λx=>(MR q d o).ownBlock=some x) f wr/\AD wr 66 2 [Q I (-(m:Int)),MS ⟨#[]⟩] (MR q d o) d j) (λi _=>d- (intOf i).toNat)
 case atStart=>exact⟨0,O,rfl,⟨rfl,rfl,rfl,MP _,λ_ _ _=>rfl⟩,j4.o⟩
 case round=>
  obtain⟨j,hj,rfl,c9,h1⟩:=hrel;have d4:(MR q d o).ownBlock≠some w.heap.size:=λe=>by have:=(HV.o _ e).2;omega
  have T:wr.rangeAt w.heap.size 0 [Q I (-(m:Int)),MS ⟨#[]⟩]:=λi u U=>c9.block.cell d4 (j3.o i u U);have l8:(wW (MQ (some ⟨w.heap.size,0,S⟩))).run MT wr=.ok (M1 #[Q I (-(m:Int)),MS ⟨#[]⟩]) wr:=NW wr w.heap.size 0 66 [Q I (-(m:Int)),MS ⟨#[]⟩] dr T b6 b9 sL;have m0:w.heap.size<wr.heap.size:=MO (bz T);have J:=A c9;have V:=A h1;clear c9 h1;by_cases k0:j<d
  ·have k1:(j:Int)<d:=by omega
   obtain⟨g,k2⟩:∃g,q=some ⟨g,0,S⟩:=by
    rcases V.o with⟨-,e⟩|⟨g,a2,a3,e,-⟩
    ·omega
    ·cases e;exact⟨g,rfl⟩
   subst k2;obtain⟨ht,h5⟩:=V.o.nL rfl k0;obtain⟨Y,a7⟩:=UX (wr.setCells g (j*2) [Q I (-(m:Int)),MS ⟨#[]⟩]);have m1:(wV (MQ (some ⟨g,j*2,S⟩)) (M1 #[Q I (-(m:Int)),MS ⟨#[]⟩])).run MT wr=.ok () Y:=by
    rw[a7];exact run_storeAt_mid (P:=MT) wr g (j*2) 66 #[Q I (-(m:Int)),MS ⟨#[]⟩] ht sL oc
   have k3:aA (aH (λx=>(MR (some ⟨g,0,S⟩) d o).ownBlock=some x) f Y):=A (by
    rw[a7];exact aH.setCells [Q I (-(m:Int)),MS ⟨#[]⟩] (j*2) (.inl rfl) J.o)
   have k4:aA (AD Y 66 2 [Q I (-(m:Int)),MS ⟨#[]⟩] (MR (some ⟨g,0,S⟩) d o) d (j+1)):=A (by rw[a7];exact h5);have m2:g<wr.heap.size:=by
    rcases V.o with⟨e,-⟩|⟨g',a2,a3,e,F,-⟩
    ·cases e
    ·cases e;exact(Mu.1 F).1
   clear a7 ht h5 T;go_wp2_with fail
   go_roundw
   case rel=>exact⟨j+1,O,by go_num,k3.o,k4.o⟩
   case measure=>simp[intOf];omega
  ·have k1:¬(j:Int)<d:=by omega
   have k5:j=d:=O;have hH:FM wr 66 2 [Q I (-(m:Int)),MS ⟨#[]⟩] (MR q d o) d:=by
    have:=V.o;rw[k5]at this;exact this
   obtain⟨ba,ca,B,ha,z⟩:=lS hH 1 O HL.o;obtain⟨bb,cb,C,hb,r⟩:=lS z.hld 2 O HL.o;obtain⟨bc,cc,K,h9,s⟩:=lS r.hld 3 O HL.o;have m4:(nl #[59,59] 59 #[MR q d o,MR (some ⟨wr.heap.size,0,S⟩) 1 1]).run MT (wr.alloc (MY #[Q I (-(m:Int)),MS ⟨#[]⟩] 66))=.ok (.value (MR (some ⟨ba,0,S⟩) (d+1) ca)) B:=ha;have m5:(nl #[59,59] 59 #[MR q d o,MR (some ⟨B.heap.size,0,S⟩) 2 2]).run MT (B.alloc (MY #[Q I (-(m:Int)),MS ⟨#[]⟩,Q I (-(m:Int)),MS ⟨#[]⟩] 66))=.ok (.value (MR (some ⟨bb,0,S⟩) (d+2) cb)) C:=hb;have m6:(nl #[59,59] 59 #[MR q d o,MR (some ⟨C.heap.size,0,S⟩) 3 3]).run MT (C.alloc (MY #[Q I (-(m:Int)),MS ⟨#[]⟩,Q I (-(m:Int)),MS ⟨#[]⟩,Q I (-(m:Int)),MS ⟨#[]⟩] 66))=.ok (.value (MR (some ⟨bc,0,S⟩) (d+3) cc)) K:=h9;clear ha hb h9;have b1:B.rangeAt w.heap.size 0 [Q I (-(m:Int)),MS ⟨#[]⟩]:=λi u U=>z.chg.block.cell d4 (T i u U);have e1:C.rangeAt w.heap.size 0 [Q I (-(m:Int)),MS ⟨#[]⟩]:=λi u U=>r.chg.block.cell d4 (b1 i u U);have n0:(wW (MQ (some ⟨w.heap.size,0,S⟩))).run MT B=.ok (M1 #[Q I (-(m:Int)),MS ⟨#[]⟩]) B:=NW B w.heap.size 0 66 [Q I (-(m:Int)),MS ⟨#[]⟩] dr b1 b6 b9 sL;have n1:(wW (MQ (some ⟨w.heap.size,0,S⟩))).run MT C=.ok (M1 #[Q I (-(m:Int)),MS ⟨#[]⟩]) C:=NW C w.heap.size 0 66 [Q I (-(m:Int)),MS ⟨#[]⟩] dr e1 b6 b9 sL;have L:aH (λx=>(MR q d o).ownBlock=some x) f K:=((J.o.trans z.chg).trans r.chg).trans s.chg;have k6:b<f.heap.size:=MO y.o.1;have e2:K.cell? ⟨b,2,S⟩=some (Q I m):=L.block.cell c6.o y.o.2.2.1;have e3:K.cell? ⟨b,3,S⟩=some D:=L.block.cell c6.o y.o.2.2.2.1;have l0:b<K.heap.size:=MO e2;have i0:iX K 78 5 D E.length (eO E):=by
    have Z:D.ownBlock≠some b:=λe=>by have:=t.o.cK b e;rw[t.o.cw]at this;omega
    refine t.o.rK.aj λx l=>(L.block x (Mi (t.o.rK.lt l) c5.o.size) λe=>?_).trans (c5.o.block x (t.o.rK.lt l) λe=>Z (by rw[l,e]));have:=(HV.o x e).1;rw[t.o.cK x l]at this;omega
   obtain⟨g8,l2,W8,i1,i2,c8,i3⟩:=Uf (N:=[tE m (MR q d o),tE m (MR (some ⟨ba,0,S⟩) (d+1) ca),tE m (MR (some ⟨bb,0,S⟩) (d+2) cb),tE m (MR (some ⟨bc,0,S⟩) (d+3) cc)]) (A:=#[Q I m,MR S 0 0,MR q d o,MR S 0 0,MR S 0 0,Q I m,MR S 0 0,MR (some ⟨ba,0,S⟩) (d+1) ca,MR S 0 0,MR S 0 0,Q I m,MR S 0 0,MR (some ⟨bb,0,S⟩) (d+2) cb,MR S 0 0,MR S 0 0,Q I m,MR S 0 0,MR (some ⟨bc,0,S⟩) (d+3) cc,MR S 0 0,MR S 0 0]) i0 j5.o O rfl rfl (by simp[eO,tE,au.cells,NC]);have n2:=e9 i1;have Z:D.ownBlock≠some b:=λe=>by have:=t.o.cK b e;rw[t.o.cw]at this;omega
   have e8:W8.cell? ⟨b,3,S⟩=some D:=c8.block.cell Z e3;have n3:b<W8.heap.size:=MO e8;have f8:W8.frozen? ⟨b,3,S⟩=false:=by
    rw[(jr.aS (c8.block b l0 Z) 3).2,(jr.aS (L.block b k6 c6.o) 3).2];exact y.o.2.2.2.2 3
   have n6:w.heap.size<B.heap.size:=MO (bz b1);have n7:w.heap.size<C.heap.size:=MO (bz e1);have e5:=A (oI (tE m) t.o HV.o c5.o y.o.1 y.o.2.1 y.o.2.2.1 y.o.2.2.2.1 y.o.2.2.2.2 L s.hld (by have:=HL.o;omega) (z.blk.imp id λh=>Mx J.o.size h) (r.blk.imp id λh=>Mx J.o.size (Mx z.chg.size h)) (s.blk.imp id λh=>Mx J.o.size (Mx z.chg.size (Mx r.chg.size h))) (Mi z.lt (Mx r.chg.size s.chg.size)) (Mi r.lt s.chg.size) s.lt (ca:=ca) (cb:=cb) (cc:=cc) (λk R=>s.still _ _ (r.still _ _ (z.full k R))) (λk R=>s.still _ _ (r.full k R)) s.full c8 (kv':=MR (some ⟨g8,0,S⟩) (E.length+4) l2) (λx l=>by cases l;exact i3) i2 (Gr (by have:=HN.o;have:=HM.o;omega)));clear hH z r s b1 e1 L i0 i1 i2 c8 i3 Z T J V;go_wp2_with fail
   go_region
   go_end0;refine⟨rfl,_,_,_,?_,HM.o▸e5.o.2.1,e5.o.1,e5.o.2.2⟩;simp
end
end Go.Proofs.YtnjalelblbjfiaaGreatDoor
