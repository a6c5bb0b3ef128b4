import Derived.Test.YtnjalelblbjfiaaGreatDoorP41
namespace Go.Proofs.YtnjalelblbjfiaaGreatDoor
set_option maxRecDepth 100000
set_option maxHeartbeats 16000000
open Go.RowKit
open Go.Proofs.Tryz
open Go.Sort (grow)
open And renaming intro→Mp
open Bool renaming true→Mk
open Go renaming World→MV,Addr→Oz,Calls→Mo,block_lt_of_cell→MO,cell_later→MW,redrawn→NK,run_loadAt_mid→NW
open Go.Ending renaming returned→MZ
open Go.IntKind renaming i64→I
open Go.Lit renaming int→Ny
open Go.Obj renaming cells→MY
open Go.Proofs.Tryz renaming prog→MT,func10→QL
open Go.RowKit renaming Below→Mb
open Go.RowKit.Below renaming refl→MU
open Go.Value renaming pointer→MQ,agg→M1,int→Q,string→MS,slice→MR,bool→M0
open List renaming length_set→Mw,eq_of_mem_replicate→PC,replicate→Nv,length_replicate→Rg,length_append→Mz,length_singleton→Rf,not_mem_nil→OE,getElem_mem→Ms
open Nat renaming le_succ_of_le→Sa,le_refl→MP,zero_le→NG,le_trans→Mx
open Option renaming some→N,none→S
variable {W w:MV}{a b c k n:Nat}{d:Nat->Nat}
section
attribute [local go_sem] Oper.semAt_some aI
attribute [local go_sem ↓ high] fj
def AS(w:MV)(i b e:Nat)(f:Nat->Nat):Prop:=∃j g k n c a h,LW w i j g k n c h f/\LS w g a f ((b:Int)*1000000)/\((∀d∈a,d.cN)/\eS c/\c.length+a.length<=e)/\n<=b/\h.length<=4*b/\a.length<=e
theorem AS.still(h:AS w a b c d)(e:Mb w.heap.size w W):AS W a b c d:=by
 obtain⟨f,g,i,n,j,k,l,h,m,o,p,q,r⟩:=h;exact⟨f,g,i,n,j,k,l,h.still e,m.still e,o,p,q,r⟩
theorem yM{a:List aC}{b:List aL}(h:(∀d∈a,d.cN)/\eS b/\b.length+a.length<=c):(∀d∈a,d.cN)/\eS b/\b.length+a.length<=c+1:=⟨h.1,h.2.1,Sa h.2.2⟩
theorem AS.succ(h:AS w a b c d):AS w a (b+1) (c+1) d:=by
 obtain⟨e,f,g,n,i,j,k,h,l,m,o,p,q⟩:=h;exact⟨e,f,g,n,i,j,k,h,l.later O,yM m,O,O,O⟩
theorem wQ{a:List aC}{b:List aL}{i:Nat}{d:aC}(h:(∀d∈a,d.cN)/\eS b/\b.length+a.length<=c)(f:d.cN):(∀z∈a.set i d,z.cN)/\eS b/\b.length+(a.set i d).length<=c+1:=by
 refine⟨λz g=>?_,h.2.1,by rw[Mw];exact Sa h.2.2⟩;rcases List.mem_or_eq_of_mem_set g with e|e
 ·exact h.1 z e
 ·rw[e];exact f
theorem uV(w:MV)(f j k:Nat)(g:Nat->Nat)(l b m n:Int)(o:ByteArray)(p:Option Oz)(q s:Nat)(r:Rl)(t u v x y:Int)(h:AS w f j k g)(z:b<1\/8<b):Mo MT 10 #[MQ (N ⟨f,0,S⟩),M1 #[Q I 6,Q I l,Q I b,Q I m,Q I n,MS o,MR p q s,Q I r.id,Q I r.pr,Q I r.k0,Q I r.v0,Q I r.m0,Q I r.k1,Q I r.v1,Q I r.m1,Q I r.k2,Q I r.v2,Q I r.m2,Q I r.k3,Q I r.v3,Q I r.m3,Q I r.k4,Q I r.v4,Q I r.m4,Q I r.ac,Q I r.po,Q I t,Q I u,Q I v,Q I x,Q I y]] w λe W=>e=MZ (M0 Mk)/\∃d,AS W f (j+1) (k+1) d/\cz w W g d:=by
 obtain⟨a,i⟩:=UX (w.alloc (MY #[Q I 6,Q I l,Q I b,Q I m,Q I n,MS o,MR p q s,Q I r.id,Q I r.pr,Q I r.k0,Q I r.v0,Q I r.m0,Q I r.k1,Q I r.v1,Q I r.m1,Q I r.k2,Q I r.v2,Q I r.m2,Q I r.k3,Q I r.v3,Q I r.m3,Q I r.k4,Q I r.v4,Q I r.m4,Q I r.ac,Q I r.po,Q I t,Q I u,Q I v,Q I x,Q I y] 41));have B:=UY i;have C:a.rangeAt w.heap.size 0 [Q I 6,Q I l,Q I b,Q I m,Q I n,MS o,MR p q s,Q I r.id,Q I r.pr,Q I r.k0,Q I r.v0,Q I r.m0,Q I r.k1,Q I r.v1,Q I r.m1,Q I r.k2,Q I r.v2,Q I r.m2,Q I r.k3,Q I r.v3,Q I r.m3,Q I r.k4,Q I r.v4,Q I r.m4,Q I r.ac,Q I r.po,Q I t,Q I u,Q I v,Q I x,Q I y]:=by rw[i];exact aN _ _ _
 have G:a.cell? ⟨w.heap.size,0,S⟩=N (Q I 6):=C 0 _ rfl;have J:a.cell? ⟨w.heap.size,2,S⟩=N (Q I b):=C 2 _ rfl;have K:w.heap.size<a.heap.size:=MO G;have H:aA (∃d,AS a f (j+1) (k+1) d/\cz w a g d):=A ⟨g,(h.still B).succ,cz.aG B⟩;have D:=A (Fp b a z);have E:=A (AZ b a z);have F:=A (eZ 1 a);clear h B C z;go_enter QL,ntmps10;go_wp2_with fail
 rw[<-i];clear i;refine D.o.mono ?_;rintro e W ⟨rfl,c⟩;rw[c];clear c W D;go_wp2_with fail
 refine E.o.mono ?_;rintro e W ⟨rfl,c⟩;rw[c];clear c W E;go_wp2_with fail
 refine F.o.mono ?_;rintro e W ⟨rfl,c⟩;rw[c];clear c W F;go_wp2;go_ret;exact⟨rfl,H.o⟩
theorem BO(w:MV)(c H J:Nat)(V:Nat->Nat)(X:Int)(q:Nat)(Y Z:Int)(oS:ByteArray)(la:Option Oz)(ll lc:Nat)(r:Rl)(x0 x1 x2 x3 x4:Int)(h:AS w c H J V)(y:1<=q/\q<=8)(hN:H<=20000000000)(hQ:J<=100000000)(l:Int)(x:l=q):Mo MT 10 #[MQ (N ⟨c,0,S⟩),M1 #[Q I 6,Q I X,Q I l,Q I Y,Q I Z,MS oS,MR la ll lc,Q I r.id,Q I r.pr,Q I r.k0,Q I r.v0,Q I r.m0,Q I r.k1,Q I r.v1,Q I r.m1,Q I r.k2,Q I r.v2,Q I r.m2,Q I r.k3,Q I r.v3,Q I r.m3,Q I r.k4,Q I r.v4,Q I r.m4,Q I r.ac,Q I r.po,Q I x0,Q I x1,Q I x2,Q I x3,Q I x4]] w λe W=>e=MZ (M0 Mk)/\∃u,AS W c (H+1) (J+1) u/\cz w W V u:=by
 subst x;obtain⟨l,x⟩:=UX (q:Int);rw[<-x];obtain⟨tv,sv,kv,n,Ts,Ss,Ks,h,hs,hp,h1,h2,h3⟩:=h;obtain⟨a,K⟩:=UX (w.alloc (MY #[Q I 6,Q I X,Q I l,Q I Y,Q I Z,MS oS,MR la ll lc,Q I r.id,Q I r.pr,Q I r.k0,Q I r.v0,Q I r.m0,Q I r.k1,Q I r.v1,Q I r.m1,Q I r.k2,Q I r.v2,Q I r.m2,Q I r.k3,Q I r.v3,Q I r.m3,Q I r.k4,Q I r.v4,Q I r.m4,Q I r.ac,Q I r.po,Q I x0,Q I x1,Q I x2,Q I x3,Q I x4] 41));have L:=UY K;have hk:a.rangeAt w.heap.size 0 [Q I 6,Q I X,Q I l,Q I Y,Q I Z,MS oS,MR la ll lc,Q I r.id,Q I r.pr,Q I r.k0,Q I r.v0,Q I r.m0,Q I r.k1,Q I r.v1,Q I r.m1,Q I r.k2,Q I r.v2,Q I r.m2,Q I r.k3,Q I r.v3,Q I r.m3,Q I r.k4,Q I r.v4,Q I r.m4,Q I r.ac,Q I r.po,Q I x0,Q I x1,Q I x2,Q I x3,Q I x4]:=by rw[K];exact aN _ _ _
 have k0:a.cell? ⟨w.heap.size,0,S⟩=N (Q I 6):=hk 0 _ rfl;have k2:a.cell? ⟨w.heap.size,2,S⟩=N (Q I l):=hk 2 _ rfl;have h6:w.heap.size<a.heap.size:=MO k0;have hA:=h.still L;have e2:=hs.still L;have CN:aA (Mo MT 19 #[Q I l] a λe w'=>∃fb rb B t vb k m F C,e=MZ (.tuple #[MQ (N ⟨C.heap.size,0,S⟩),Q I 0])/\bu a fb rb B t vb k m F C q w'):=A (by rw[x];exact xw q a y.1 y.2 hA.laid);have HA:=A hA;have HS:=A e2;have HP:=A hp;have h8:=A L;have HN:=A (Mp h1 (Mp h2 (Mp h3 (Mp hN hQ))));have M:=A (Mp y x);clear h hs hA e2 hp L h1 h2 h3 hN hQ hk y x;go_enter QL,ntmps10;go_wp2_with fail
 rw[<-K];clear K;refine CN.o.mono ?_;rintro e j ⟨fb,rb,B,t,vb,k,m,F,C,rfl,D⟩;have b6:Mb a.heap.size a j:=D.n.lo.trans (D.lo.mono D.n.lo.size);have e6:=MW b6 k2;have h9:w.heap.size<j.heap.size:=MO e6;have CX:aA (Mo MT 24 #[Q I l] j λe W=>e=MZ (MQ (N ⟨j.heap.size,0,S⟩))/\∃P,aT W j.heap.size (tS P q)/\Mb j.heap.size j W/\∀b,P.ownBlock=N b->j.heap.size<b):=A (by rw[M.o.2];exact Aa q j M.o.1 O);have HI:=A D;have b9:=A b6;clear CN D b6 k0 k2 h6;go_wp2_with fail
 refine CX.o.mono ?_;rintro e o ⟨rfl,xv,hX,c2,f4⟩;obtain⟨P,Qv,f6,f7,f8,-,i1⟩:=HI.o.imp HS.o.mean o.heap.size j.heap.size xv;have c3:Mb a.heap.size a o:=b9.o.trans (c2.mono b9.o.size);have H3:=HA.o.still c3;have S3:=HS.o.still c3;obtain⟨R,E⟩:=UX (o.alloc (MY #[MQ (N ⟨C.heap.size,0,S⟩),MQ (N ⟨j.heap.size,0,S⟩)] 73));have c5:=UY E;have v:=H3.still c5;have T:=S3.still c5;have s4:R.heap.size=o.heap.size+1:=by rw[E];simp
 obtain⟨g,g1,G,g2,g3,U,hg,hq⟩:=FE (p:=o.heap.size) T.row T.pS (by have:=HN.o;omega) v.uE;have i2:aA (∃u,AS (G.setCell ⟨c,1,S⟩ (MR (N ⟨g,0,S⟩) (Ss.length+1) g1)) c (H+1) (J+1) u/\cz w (G.setCell ⟨c,1,S⟩ (MR (N ⟨g,0,S⟩) (Ss.length+1) g1)) V u):=A (by
  obtain⟨u,f1,f2,f3⟩:=Iv (d:=wz o.heap.size C.heap.size j.heap.size fb rb B t vb k m F P Qv q xv) HA.o HS.o O b9.o f6 f7 f8 HI.o.sz c2 hX (λb B=>by
   rcases B with e|e|e|e|e|e|⟨z,i,e⟩
   ·rw[e];exact MP _
   ·exact Nat.le_of_lt (f4 b e)
   ·cases e
   ·cases e
   ·cases e
   ·cases e
   ·rw[PC i]at e;cases e) rfl E g3 U hg hq (Hp xv q).symm rfl rfl (by show 0<(Nv q jG).length;rw[Rg];exact M.o.1.1) (by show(Nv q jG).length<=8;rw[Rg];exact M.o.1.2) (λz i=>by rw[PC i];exact NG _) (λz i=>by rw[PC i];exact⟨show(0:Int)<=1 by decide,show(1:Int)<4096 by decide⟩) rfl rfl
  have y:=HN.o;refine⟨u,⟨tv,_,kv,n,Ts,_,Ks,f1,f2.later O,⟨λz i=>?_,HP.o.2.1,by rw[Mz,Rf];have:=HP.o.2.2;omega⟩,O,O,by rw[Mz,Rf];omega⟩,f3.iF h8.o⟩;rcases List.mem_append.1 i with i|i
  ·exact HP.o.1 z i
  ·rw[List.mem_singleton.1 i];exact⟨⟨List.Perm.refl _,List.Pairwise.nil,λf s=>absurd s OE,NG _⟩,⟨List.Perm.refl _,List.Pairwise.nil,λf s=>absurd s OE,NG _⟩,⟨rfl,λf s=>absurd s OE,λ_ _=>rfl,λf s=>absurd s OE,λf s=>absurd s OE⟩,λz i=>by rw[i1 z i];intro e;cases e⟩)
 have g6:=e9 g2;rw[s4,E]at g6;have c1:=H3.c1;have i8:c<o.heap.size:=MO c1;have c6:sv.ownBlock≠N c:=λe=>by have:=T.cS c e;rw[v.cw]at this;omega
 have e1:G.cell? ⟨c,1,S⟩=N sv:=U.block.cell c6 v.c1;have f5:G.frozen? ⟨c,1,S⟩=false:=by
  rw[(jr.aS (U.block c (MO v.c0) c6) 1).2];exact v.frz 1
 have j0:c<G.heap.size:=MO e1;obtain⟨ta,tm,tc,i6⟩:=v.sS;rw[i6]at c1 e1 g6;clear g3 U hg hq g2 H3 S3 v T c5 s4 E c3 c2 hX f4 f6 f7 f8 CX e6 h9 c6;go_wp2_with fail
 go_ret;exact⟨rfl,i2.o⟩
attribute [local go_sem ↓ high] fJ
theorem yl(w:MV)(b u v:Nat)(d:Nat->Nat)(a f g i j:Int)(k:ByteArray)(l:Option Oz)(m n:Nat)(r:Rl)(o p q s t:Int)(h:AS w b u v d)(y:6<a)(z:w.cell? ⟨b,1,S⟩=N (MR S 0 0)):Mo MT 10 #[MQ (N ⟨b,0,S⟩),M1 #[Q I a,Q I f,Q I g,Q I i,Q I j,MS k,MR l m n,Q I r.id,Q I r.pr,Q I r.k0,Q I r.v0,Q I r.m0,Q I r.k1,Q I r.v1,Q I r.m1,Q I r.k2,Q I r.v2,Q I r.m2,Q I r.k3,Q I r.v3,Q I r.m3,Q I r.k4,Q I r.v4,Q I r.m4,Q I r.ac,Q I r.po,Q I o,Q I p,Q I q,Q I s,Q I t]] w λe W=>e=MZ (M0 Mk)/\∃c,AS W b (u+1) (v+1) c/\cz w W d c:=by
 have C:b<w.heap.size:=MO z;have x:Mb w.heap.size w (w.alloc (MY #[Q I a,Q I f,Q I g,Q I i,Q I j,MS k,MR l m n,Q I r.id,Q I r.pr,Q I r.k0,Q I r.v0,Q I r.m0,Q I r.k1,Q I r.v1,Q I r.m1,Q I r.k2,Q I r.v2,Q I r.m2,Q I r.k3,Q I r.v3,Q I r.m3,Q I r.k4,Q I r.v4,Q I r.m4,Q I r.ac,Q I r.po,Q I o,Q I p,Q I q,Q I s,Q I t] 41)):=(MU _ w).alloc (MP _) _;have B:aA (∃c,AS (w.alloc (MY #[Q I a,Q I f,Q I g,Q I i,Q I j,MS k,MR l m n,Q I r.id,Q I r.pr,Q I r.k0,Q I r.v0,Q I r.m0,Q I r.k1,Q I r.v1,Q I r.m1,Q I r.k2,Q I r.v2,Q I r.m2,Q I r.k3,Q I r.v3,Q I r.m3,Q I r.k4,Q I r.v4,Q I r.m4,Q I r.ac,Q I r.po,Q I o,Q I p,Q I q,Q I s,Q I t] 41)) b (u+1) (v+1) c/\cz w (w.alloc (MY #[Q I a,Q I f,Q I g,Q I i,Q I j,MS k,MR l m n,Q I r.id,Q I r.pr,Q I r.k0,Q I r.v0,Q I r.m0,Q I r.k1,Q I r.v1,Q I r.m1,Q I r.k2,Q I r.v2,Q I r.m2,Q I r.k3,Q I r.v3,Q I r.m3,Q I r.k4,Q I r.v4,Q I r.m4,Q I r.ac,Q I r.po,Q I o,Q I p,Q I q,Q I s,Q I t] 41)) d c):=A ⟨d,(h.still x).succ,cz.aG x⟩;have D:¬a<6:=O;have E:¬a=6:=O;clear h x y;go_enter QL,ntmps10;go_wp2;go_ret;exact⟨rfl,B.o⟩
theorem ET(g6:pZ)(w:MV)(b k V:Nat)(l:Nat->Nat)(ki c f q s:Int)(j:ByteArray)(m:Option Oz)(o p:Nat)(r:Rl)(t u v x y:Int)(T:List Int)(h:AS w b k V l)(hL:MD w l m o p T)(e1: -9223372036854775808<=c/\c<=9223372036854775807)(hN:k<=20000000000)(hQ:V<=100000000)(g7:(Ny I f).wf=Mk)(g8:(Ny I r.id).wf=Mk)(e4:6<ki):Mo MT 10 #[MQ (N ⟨b,0,S⟩),M1 #[Q I ki,Q I c,Q I f,Q I q,Q I s,MS j,MR m o p,Q I r.id,Q I r.pr,Q I r.k0,Q I r.v0,Q I r.m0,Q I r.k1,Q I r.v1,Q I r.m1,Q I r.k2,Q I r.v2,Q I r.m2,Q I r.k3,Q I r.v3,Q I r.m3,Q I r.k4,Q I r.v4,Q I r.m4,Q I r.ac,Q I r.po,Q I t,Q I u,Q I v,Q I x,Q I y]] w λe W=>e=MZ (M0 Mk)/\∃a,AS W b (k+1) (V+1) a/\cz w W l a:=by
 have e5:=h;obtain⟨C,B,L,n,E,z,M,h,hs,hp,h1,h2,h3⟩:=h;by_cases hT:z.length=0
 ·have c1:=h.c1;rw[hs.row.2 hT]at c1;exact yl w b k V l ki c f q s j m o p r t u v x y e5 O c1
 have f3:0<z.length:=O;clear e5 hT;obtain⟨i,F,f4⟩:=yV c f3;obtain⟨ds,f6,f7⟩:=pm;obtain⟨J,c2⟩:=UX (w.alloc (MY #[Q I ki,Q I c,Q I f,Q I q,Q I s,MS j,MR m o p,Q I r.id,Q I r.pr,Q I r.k0,Q I r.v0,Q I r.m0,Q I r.k1,Q I r.v1,Q I r.m1,Q I r.k2,Q I r.v2,Q I r.m2,Q I r.k3,Q I r.v3,Q I r.m3,Q I r.k4,Q I r.v4,Q I r.m4,Q I r.ac,Q I r.po,Q I t,Q I u,Q I v,Q I x,Q I y] 41));obtain⟨K,c3⟩:=UX w.heap.size;have c4:=UY c2;have hk:J.rangeAt K 0 [Q I ki,Q I c,Q I f,Q I q,Q I s,MS j,MR m o p,Q I r.id,Q I r.pr,Q I r.k0,Q I r.v0,Q I r.m0,Q I r.k1,Q I r.v1,Q I r.m1,Q I r.k2,Q I r.v2,Q I r.m2,Q I r.k3,Q I r.v3,Q I r.m3,Q I r.k4,Q I r.v4,Q I r.m4,Q I r.ac,Q I r.po,Q I t,Q I u,Q I v,Q I x,Q I y]:=by rw[c2,c3];exact aN _ _ _
 obtain⟨ta,tc,tg,c6,f8⟩:=hs.row.Ub;have d1:=MW c4 h.c1;have k5:b<w.heap.size:=MO h.c0;have h0:b<J.heap.size:=MO d1;rw[c6]at d1;obtain⟨h4,f9⟩:=f8 i F;have d2:=MW c4 f9;have h5:tg<J.heap.size:=MO d2;have k0:J.cell? ⟨K,0,S⟩=N (Q I ki):=hk 0 _ rfl;have k1:J.cell? ⟨K,1,S⟩=N (Q I c):=hk 1 _ rfl;have h8:K<J.heap.size:=MO k0;have k9:¬(z.length:Int)=0:=O;have l0:(i:Int)<z.length:=O;have c7:=A c6;subst h4;have g0:aA (∀(d:Nat) (os:Array Obj),Mo MT 26 #[Q I c,Q I z.length] (grow (NK J d) os) λe w'=>e=MZ (Q I i)/\Mb (grow (NK J d) os).heap.size (grow (NK J d) os) w'):=A λd os=>(ma c z.length i (grow (NK J d) os) e1 O f4 F).mono λe w' hh=>Mp hh.1 (by rw[hh.2];exact MU _ _);have HH:=A h;have HS:=A hs;have P:=A hp;have HL:=A hL;have d4:=A c4;have HK:=A hk;have HN:=A (Mp h1 (Mp h2 (Mp h3 (Mp hN hQ))));have g4:=h.c1;rw[c6]at g4;obtain⟨D,hD⟩:=UX (z[i]);rw[<-hD]at d2;have HD:=A hD;have b5:=A e4;have k6:¬ki<6:=O;have k7:¬ki=6:=O;clear hD c6 f8 f9 h hs hp hL c4 hk f4 e1 h1 h2 h3 hN hQ e4 f3;go_enter QL,ntmps10;go_wp2_with fail
 rw[<-c2,<-c3];have c8:=A c3;clear c2 g4 c3;refine wp_region_quiet_below UR UR ?_
 repeat(quiet_step (exact Calls.regrown_of (g0.o _ _)))
 refine wpQuiet_nil ?_;intro g a3;replace a3:=aE a3;obtain⟨i1,i2⟩:=aW a3;have i3:=a3.size;have j0:=MW a3 k0;have l6:K<g.heap.size:=MO j0;have c9:=d4.o.trans (a3.mono d4.o.size);have X:=A c9;have a4:=A (aO HK.o a3);have G:=A (HH.o.still c9);have H:=A (HS.o.still c9);clear a3 i1 i2 i3 d1 h0 d2 h5 k0 k1 h8 g0 d4 HK c9 k6 k7;have hn:=HN.o;by_cases n7:ki=7
 ·subst n7;have d6:(rx (MQ (N ⟨K,0,S⟩))).run MT g=.ok (M1 #[Q I 7,Q I c,Q I f,Q I q,Q I s,MS j,MR m o p,Q I r.id,Q I r.pr,Q I r.k0,Q I r.v0,Q I r.m0,Q I r.k1,Q I r.v1,Q I r.m1,Q I r.k2,Q I r.v2,Q I r.m2,Q I r.k3,Q I r.v3,Q I r.m3,Q I r.k4,Q I r.v4,Q I r.m4,Q I r.ac,Q I r.po,Q I t,Q I u,Q I v,Q I x,Q I y]) g:=NW _ K 0 41 [Q I 7,Q I c,Q I f,Q I q,Q I s,MS j,MR m o p,Q I r.id,Q I r.pr,Q I r.k0,Q I r.v0,Q I r.m0,Q I r.k1,Q I r.v1,Q I r.m1,Q I r.k2,Q I r.v2,Q I r.m2,Q I r.k3,Q I r.v3,Q I r.m3,Q I r.k4,Q I r.v4,Q I r.m4,Q I r.ac,Q I r.po,Q I t,Q I u,Q I v,Q I x,Q I y] ds a4.o f6 f7 oq;have R:aA (Mo MT 27 #[MQ (N ⟨b,0,S⟩),MQ (N ⟨D.p,0,S⟩),M1 #[Q I 7,Q I c,Q I f,Q I q,Q I s,MS j,MR m o p,Q I r.id,Q I r.pr,Q I r.k0,Q I r.v0,Q I r.m0,Q I r.k1,Q I r.v1,Q I r.m1,Q I r.k2,Q I r.v2,Q I r.m2,Q I r.k3,Q I r.v3,Q I r.m3,Q I r.k4,Q I r.v4,Q I r.m4,Q I r.ac,Q I r.po,Q I t,Q I u,Q I v,Q I x,Q I y]] g λe W=>e=MZ (M0 Mk)/\∃a,AS W b (k+1) (V+1) a/\cz w W l a):=A (by
   rw[HD.o];obtain⟨l1,l2,l3,l4,l5⟩:=HL.o;refine(EV g b i C B L n E z M l ((k:Int)*1000000) 7 c f q s j m o p r t u v x y T G.o H.o F (l1.aD X.o) l2 l3 l4 l5 O O).mono ?_;rintro e W ⟨Y,b6,b9,a,d',q1,Z,q3,q4,q5⟩;exact⟨Y,a,⟨C,B,b6,n+1,E,_,b9,Z,q3.later O,wQ P.o (q4.Lp (P.o.1 _ (Ms F))),O,O,by rw[Mw];omega⟩,q5.iF X.o⟩)
  clear a4 HH HS P HL HN G H X HD b5 c8 c7 hn;go_wp2_with fail
  refine R.o.mono ?_;rintro e W ⟨rfl,U⟩;have HF:=A U;clear U R d6;go_wp2;go_ret;exact⟨rfl,HF.o⟩
 by_cases j4:ki=14
 ·subst j4;have j2:g.cell? ⟨K,2,S⟩=N (Q I f):=a4.o 2 _ rfl;have j5:g.cell? ⟨K,5,S⟩=N (MS j):=a4.o 5 _ rfl;have R:aA (Mo MT 28 #[MQ (N ⟨b,0,S⟩),MQ (N ⟨D.p,0,S⟩),Q I f,MS j] g λe W=>e=MZ (M0 Mk)/\∃a,AS W b (k+1) (V+1) a/\cz w W l a):=A (by
   rw[HD.o];refine(BV g6 g b i C B L n E z M l ((k:Int)*1000000) f j G.o H.o F (P.o.1 _ (Ms F)) O O).mono ?_;rintro e W ⟨Y,b6,b9,a,d',q1,Z,q3,q4,q5⟩;exact⟨Y,a,⟨C,B,b6,n+1,E,_,b9,Z,q3.later O,wQ P.o q4,O,O,by rw[Mw];omega⟩,q5.iF X.o⟩)
  clear a4 HH HS P HL HN G H X HD b5 c8 c7 hn;go_wp2_with fail
  refine R.o.mono ?_;rintro e W ⟨rfl,U⟩;have HF:=A U;clear U R;go_wp2;go_ret;exact⟨rfl,HF.o⟩
 by_cases j6:ki=15
 ·subst j6;have R:aA (Mo MT 13 #[MQ (N ⟨b,0,S⟩),MQ (N ⟨D.p,0,S⟩)] g λe W=>e=MZ (M0 Mk)/\∃a,AS W b (k+1) (V+1) a/\cz w W l a):=A (by
   rw[HD.o];refine(tA g b i C B L n E z M l ((k:Int)*1000000) G.o H.o F O O O).mono ?_;rintro e W ⟨Y,b6,b9,a,q1,Z,q3,q5⟩;exact⟨Y,a,⟨C,B,b6,n+1,E,_,b9,Z,q3.later O,yM P.o,O,O,O⟩,q5.iF X.o⟩)
  clear a4 HH HS P HL HN G H X HD b5 c8 c7 hn;go_wp2_with fail
  refine R.o.mono ?_;rintro e W ⟨rfl,U⟩;have HF:=A U;clear U R;go_wp2;go_ret;exact⟨rfl,HF.o⟩
 have d6:(rx (MQ (N ⟨K,0,S⟩))).run MT g=.ok (M1 #[Q I ki,Q I c,Q I f,Q I q,Q I s,MS j,MR m o p,Q I r.id,Q I r.pr,Q I r.k0,Q I r.v0,Q I r.m0,Q I r.k1,Q I r.v1,Q I r.m1,Q I r.k2,Q I r.v2,Q I r.m2,Q I r.k3,Q I r.v3,Q I r.m3,Q I r.k4,Q I r.v4,Q I r.m4,Q I r.ac,Q I r.po,Q I t,Q I u,Q I v,Q I x,Q I y]) g:=NW _ K 0 41 [Q I ki,Q I c,Q I f,Q I q,Q I s,MS j,MR m o p,Q I r.id,Q I r.pr,Q I r.k0,Q I r.v0,Q I r.m0,Q I r.k1,Q I r.v1,Q I r.m1,Q I r.k2,Q I r.v2,Q I r.m2,Q I r.k3,Q I r.v3,Q I r.m3,Q I r.k4,Q I r.v4,Q I r.m4,Q I r.ac,Q I r.po,Q I t,Q I u,Q I v,Q I x,Q I y] ds a4.o f6 f7 oq;have R:aA (Mo MT 29 #[MQ (N ⟨D.p,0,S⟩),M1 #[Q I ki,Q I c,Q I f,Q I q,Q I s,MS j,MR m o p,Q I r.id,Q I r.pr,Q I r.k0,Q I r.v0,Q I r.m0,Q I r.k1,Q I r.v1,Q I r.m1,Q I r.k2,Q I r.v2,Q I r.m2,Q I r.k3,Q I r.v3,Q I r.m3,Q I r.k4,Q I r.v4,Q I r.m4,Q I r.ac,Q I r.po,Q I t,Q I u,Q I v,Q I x,Q I y]] g λe W=>e=MZ (M0 Mk)/\∃a,AS W b (k+1) (V+1) a/\cz w W l a):=A (by
  rw[HD.o];have hr:=P.o.1 _ (Ms F);have a9:∀(e:Ending) (W:MV),(e=MZ (M0 Mk)/\∃a d',LW W b C B L n E M a/\LS W B (z.set i d') a ((k:Int)*1000000+1000000)/\d'.cN/\cz g W l a)->e=MZ (M0 Mk)/\∃a,AS W b (k+1) (V+1) a/\cz w W l a:=by
   rintro e W ⟨Y,a,d',Z,q3,q4,q5⟩;exact⟨Y,a,⟨C,B,L,n,E,_,M,Z,q3.later O,wQ P.o q4,O,O,by rw[Mw];omega⟩,q5.iF X.o⟩
  have h6:=b5.o;rcases(by omega:ki=13\/ki=8\/ki=9\/ki=10\/ki=11\/ki=12\/15<ki)with rfl|rfl|rfl|rfl|rfl|rfl|k2
  ·exact(BP g b i C B L n E z M l ((k:Int)*1000000) c f q s j m o p r t u v x y G.o H.o F O).mono λe W ⟨Y,a,d',Z,q3,q4,q5⟩=>a9 e W ⟨Y,a,d',Z,q3,q4.Lp hr,q5⟩
  ·exact(BR g b i C B L n E z M l ((k:Int)*1000000) c f q s j m o p r t u v x y G.o H.o F hr).mono a9
  ·exact(ym g b i C B L n E z M l ((k:Int)*1000000) c f q s j m o p r t u v x y G.o H.o F hr).mono a9
  ·exact(uW g b i C B L n E z M l ((k:Int)*1000000) c f q s j m o p r t u v x y G.o H.o F hr).mono a9
  ·exact(wk g b i C B L n E z M l ((k:Int)*1000000) c f q s j m o p r t u v x y G.o H.o F hr g8 O).mono a9
  ·exact(wl g b i C B L n E z M l ((k:Int)*1000000) c f q s j m o p r t u v x y G.o H.o F hr g7).mono a9
  ·exact(yn g b i C B L n E z M l ((k:Int)*1000000) ki c f q s j m o p r t u v x y G.o H.o hr k2).mono a9)
 clear a4 HH HS P HL HN G H X HD b5 c8 c7 hn;go_wp2_with fail
 refine R.o.mono ?_;rintro e W ⟨rfl,U⟩;have HF:=A U;clear U R d6;go_wp2;go_ret;exact⟨rfl,HF.o⟩
theorem BN(w:MV)(a b f:Nat)(g:Nat->Nat)(j c m o p:Int)(q:ByteArray)(s:Option Oz)(t u:Nat)(r:Rl)(v y z B C:Int)(h:AS w a b f g)(J: -9223372036854775808<=c/\c<=9223372036854775807)(K:b<=20000000000)(hQ:f<=100000000)(L:j<6):Mo MT 10 #[MQ (N ⟨a,0,S⟩),M1 #[Q I j,Q I c,Q I m,Q I o,Q I p,MS q,MR s t u,Q I r.id,Q I r.pr,Q I r.k0,Q I r.v0,Q I r.m0,Q I r.k1,Q I r.v1,Q I r.m1,Q I r.k2,Q I r.v2,Q I r.m2,Q I r.k3,Q I r.v3,Q I r.m3,Q I r.k4,Q I r.v4,Q I r.m4,Q I r.ac,Q I r.po,Q I v,Q I y,Q I z,Q I B,Q I C]] w λe W=>e=MZ (M0 Mk)/\∃d,AS W a (b+1) (f+1) d/\cz w W g d:=by
 obtain⟨M,D,P,n,E,R,T,h,U,⟨V,Y,ht⟩,Z,h2,h3⟩:=h;refine(ES w a D b E.length g j c m o p q s t u r v y z B C ⟨M,P,n,E,T,h,Y,Z,h2,MP _⟩ J K O L).mono ?_;rintro e W ⟨he,d,⟨a2,a3,n',a5,a6,q1,q2,q3,q4,q5⟩,hw⟩;obtain⟨⟨X,F,G⟩,H⟩:=hw;refine⟨he,d,⟨a2,D,a3,n',a5,R,a6,q1,(U.aj F (λx k l=>?_) H).later O,⟨V,q2,O⟩,q3,q4,O⟩,⟨X,F,λx k l=>?_⟩,H⟩
 ·obtain⟨f1,f2,f3⟩:=G x k l;exact⟨f1,O,f2,λi=>⟨O,O⟩⟩
 ·exact(G x k l).2.1
theorem J7(B:pZ)(w:MV)(b c d:Nat)(f:Nat->Nat)(l g a m n:Int)(o:ByteArray)(i:Option Oz)(j k:Nat)(r:Rl)(p q s t u:Int)(T:List Int)(h:AS w b c d f)(C:MD w f i j k T)(y: -9223372036854775808<=g/\g<=9223372036854775807)(v:c<=20000000000)(x:d<=100000000)(D:(Ny I a).wf=Mk)(E:(Ny I r.id).wf=Mk):Mo MT 10 #[MQ (N ⟨b,0,S⟩),M1 #[Q I l,Q I g,Q I a,Q I m,Q I n,MS o,MR i j k,Q I r.id,Q I r.pr,Q I r.k0,Q I r.v0,Q I r.m0,Q I r.k1,Q I r.v1,Q I r.m1,Q I r.k2,Q I r.v2,Q I r.m2,Q I r.k3,Q I r.v3,Q I r.m3,Q I r.k4,Q I r.v4,Q I r.m4,Q I r.ac,Q I r.po,Q I p,Q I q,Q I s,Q I t,Q I u]] w λe W=>e=MZ (M0 Mk)/\∃z,AS W b (c+1) (d+1) z/\cz w W f z:=by
 by_cases F:l<6
 ·exact BN w b c d f l g a m n o i j k r p q s t u h y v x F
 ·by_cases G:l=6
  ·subst G;by_cases H:a<1\/8<a
   ·exact uV w b c d f g a m n o i j k r p q s t u h H
   ·exact BO w b c d f g a.toNat m n o i j k r p q s t u h O v x a O
  ·exact ET B w b c d f l g a m n o i j k r p q s t u T h C y v x D E O
end
section
attribute [local go_sem] Oper.semAt_some aI
def K5(W:MV)(a:Option Oz)(n g b:Nat):Prop:=(0<n->a=N ⟨g,b,S⟩)/\∀j,j<n->∃s:jS,W.rangeAt g (b+j*31) s.cells/\((-9223372036854775808<=s.oa/\s.oa<=9223372036854775807)/\(Ny I s.oN).wf=Mk/\(Ny I s.r.id).wf=Mk)/\∃T,iY W (MR s.la s.ll s.lc) T/\s.ll<=s.lc/\T.length<=100000000/\∀t∈T,(Ny I t).wf=Mk
theorem K5.aD{a:Option Oz}{g:Nat}(h:K5 w a n g b)(c:Mb w.heap.size w W):K5 W a n g b:=⟨h.1,λj d=>by
 obtain⟨s,e,f,T,i,k⟩:=h.2 j d;exact⟨s,aO e c,f,T,i.aD c,k⟩⟩
theorem AS.oX(w:MV)(e:cP w)(a:fE w):AS (w.alloc (MY #[MR S 0 0,MR S 0 0,Q I 0,MR S 0 0] 31)) w.heap.size 0 0 (λx=>if x=w.heap.size then 1 else 4):=by
 have b:Mb w.heap.size w (w.alloc (MY #[MR S 0 0,MR S 0 0,Q I 0,MR S 0 0] 31)):=(MU _ w).alloc (MP _) _;obtain⟨f,g,n,k,l,h,m,o,p,q⟩:=TS.oX w e;have t:=jH a;exact⟨f,MR S 0 0,g,n,k,[],l,h,⟨⟨MW b a.1,MW b a.2.1,MW b a.2.2.1,MW b a.2.2.2⟩,if_neg O,⟨World.ownsRow_nil _ 1 46 1,λ_=>rfl⟩,λx c=>(by cases c),λx j u c=>(by cases c),λi r=>(by cases r)⟩,⟨λd s=>(by cases s),m,q⟩,o,p,MP _⟩
theorem EQ(w:MV)(a b d:Nat)(c:Nat->Nat)(h:AS w a b d c)(m:b<=20000000000):Mo MT 11 #[MQ (N ⟨a,0,S⟩)] w λe f=>e=MZ (M0 Mk)/\Mb w.heap.size w f:=by
 obtain⟨g,i,j,n,k,o,l,h,p,q,r,s,t⟩:=h;exact BM w a g i j n k l c h O
attribute [local go_sem ↓ high] fJ
end
section
attribute [local go_sem] Oper.semAt_some aI
section
variable {w W:World}{f N Q t s:Nat}{l:Nat->Nat}
def AT(w:MV)(f N t s:Nat)(l:Nat->Nat):Prop:=∃g c h n a b e,LW w f g c h n a e l/\LS w c b l ((N:Int)*1000000)/\((∀d∈b,d.cN)/\eS a)/\n<=N/\e.length<=4*N/\a.length=t/\b.length=s
theorem AS.Kb(h:AS w f N Q l):∃t s,t+s<=Q/\AT w f N t s l:=by
 obtain⟨a,b,c,n,d,e,g,h,i,⟨j,k,m⟩,o,p,-⟩:=h;exact⟨_,_,m,a,b,c,n,d,e,g,h,i,⟨j,k⟩,o,p,rfl,rfl⟩
theorem AT.whole(h:AT w f N t s l)(a:t+s<=Q):AS w f N Q l:=by
 obtain⟨b,c,d,n,e,g,i,h,j,⟨k,m⟩,o,p,rfl,rfl⟩:=h;exact⟨b,c,d,n,e,g,i,h,j,⟨k,m,a⟩,o,p,O⟩
theorem AT.AI(h:AT w f N t s l)(hN:N<=20000000000):f<w.heap.size/\∃a c,w.cell? ⟨f,0,S⟩=some (MR a t c)/\∀i,i<t->∃g p,a=some ⟨g,0,S⟩/\w.cell? ⟨g,i,S⟩=some (MQ (some ⟨p,0,S⟩))/\Mo MT 12 #[MQ (some ⟨f,0,S⟩),MQ (some ⟨p,0,S⟩)] w λe W=>e=MZ (M0 Mk)/\∃b,AT W f (N+1) t s b/\cz w W l b:=by
 obtain⟨m,o,B,n,q,C,D,h,E,⟨F,r⟩,h1,h2,rfl,rfl⟩:=h;obtain⟨G,H,J,K,L⟩:=h.rT.AI;have u:=h.c0;refine⟨MO u,G,H,by rw[<-K];exact u,λi j=>?_⟩;obtain⟨M,P⟩:=L i j;refine⟨J,_,M,P,(qt w f i m o B n q D l h j (r _ (Ms j)) O O).mono ?_⟩;rintro e W ⟨R,T,U,b,d,V,⟨⟨X,v,y⟩,z⟩⟩;refine⟨R,b,⟨m,o,T,n+1,q,C,U,V,(E.aj v (λx k d=>?_) z).later O,⟨F,r⟩,O,O,rfl,rfl⟩,⟨X,v,λx k d=>?_⟩,z⟩
 ·obtain⟨Y,Z,f3⟩:=y x k d;exact⟨Y,O,Z,λi=>⟨O,O⟩⟩
 ·exact(y x k d).2.1
theorem AT.Ub(h:AT w f N t s l)(R:N<=20000000000):f<w.heap.size/\∃a c,w.cell? ⟨f,1,S⟩=some (MR a s c)/\∀i,i<s->∃g p,a=some ⟨g,0,S⟩/\w.cell? ⟨g,i,S⟩=some (MQ (some ⟨p,0,S⟩))/\Mo MT 13 #[MQ (some ⟨f,0,S⟩),MQ (some ⟨p,0,S⟩)] w λe W=>e=MZ (M0 Mk)/\∃b,AT W f (N+1) t s b/\cz w W l b:=by
 obtain⟨d,j,u,n,k,m,v,h,o,⟨x,y⟩,T,U,rfl,rfl⟩:=h;obtain⟨z,B,C,D,E⟩:=o.row.Ub;have q:=h.c1;refine⟨MO q,z,B,by rw[<-D];exact q,λi r=>?_⟩;obtain⟨F,G⟩:=E i r;refine⟨C,_,F,G,(tA w f i d j u n k m v l ((N:Int)*1000000) h o r O O O).mono ?_⟩;rintro e W ⟨H,J,K,b,V,L,M,P⟩;exact⟨H,b,⟨d,j,J,n+1,k,m,K,L,M.later O,⟨x,y⟩,O,O,rfl,rfl⟩,P⟩
end
theorem B9{N:Nat}(h:N<=k*(k+2)):N+1+(k+1)<=(k+1)*(k+1+2):=by
 rw[show(k+1)*(k+1+2)=k*(k+2)+(2*k+3) by simp only[Nat.add_mul,Nat.mul_add];omega];omega
theorem FA{N:Nat}(h:N<=k*(k+2))(a:k<=n)(b:n<=104858):N<=11000000000:=
 Mx h (Mx (Nat.mul_le_mul (Mx a b) (Nat.add_le_add_right (Mx a b) 2)) US)
attribute [local go_sem ↓ high] fJ
theorem Gm(h7:pZ)(w:MV)(a:Option Oz)(n c g v:Nat)(M:cP w)(p:fE w)(hs:K5 w a n g v)(hn:n<=104858):Mo MT 6 #[MR a n c] w λe W=>e=MZ (M0 Mk)/\Mb w.heap.size w W:=by
 obtain⟨ds,h9,i0⟩:=pm;have CF:=A (BX w M);have CG:=A λ(W:MV) (d:Mb w.heap.size w W)=>yo W (M.iW (aH.aG (X:=λ_=>False) d).block (λ_ h=>h.elim)) ⟨MW d p.1,MW d p.2.1,MW d p.2.2.1,MW d p.2.2.2⟩;have B:=A λ(W:MV) (d:Mb w.heap.size w W)=>AS.oX W (M.iW (aH.aG (X:=λ_=>False) d).block (λ_ h=>h.elim)) ⟨MW d p.1,MW d p.2.1,MW d p.2.2.1,MW d p.2.2.2⟩;have m2:(n:Int)<=104858:=O;have HS:=A hs;have P:=A hn;clear M p hs hn;go_enter func6,ntmps6;go_wp2_with fail
 refine CF.o.mono ?_;rintro e W1 ⟨rfl,b1⟩;have C2:=A (CG.o W1 b1);have b2:=A b1;clear CF CG b1;go_wp2_with fail
 refine C2.o.mono ?_;rintro e q ⟨rfl,C⟩;have D:=b2.o.trans (C.mono b2.o.size);obtain⟨R,U⟩:=UX (q.alloc (MY #[MR S 0 0,MR S 0 0,Q I 0,MR S 0 0] 31));have y:AS R q.heap.size 0 0 (λx=>if x=q.heap.size then 1 else 4):=by rw[U];exact B.o q D
 have E:Mb w.heap.size w R:=D.trans (by rw[U];exact(MU _ q).alloc D.size _);obtain⟨f,b3⟩:=UX q.heap.size;rw[<-b3]at y;have HO:aA (KR w.heap.size (λx=>if x=f then 1 else 4)):=A λx hx=>if_neg (by have:=D.size;omega);have HT:=A y;have i4:=A E;clear C2 B b2 C D y E;go_wp2_with fail
 rw[<-U,<-b3];clear U b3;go_loopw [6] (λi wr=>∃k N:Nat,k<=n/\i=Q I k/\N<=k*(k+2)/\∃l,AS wr f N k l/\Mb w.heap.size w wr/\KR w.heap.size l) (λi _=>n- (intOf i).toNat)
 case atStart=>exact⟨0,0,O,rfl,O,_,HT.o,i4.o,HO.o⟩
 case round=>
  obtain⟨k,N,hk,rfl,b4,l,y,d,ho⟩:=hrel;have m4:=FA b4 hk P.o;have i6:=A b4;have e0:=A y;have z:=A d;have b5:=A ho;clear y d ho b4;by_cases i8:k<n
  ·have i9:(k:Int)<n:=by omega
   obtain⟨s,hr,⟨e2,e3,e4⟩,T,q1,q2,q3,q4⟩:=HS.o.2 k i8;have j0:a=some ⟨g,v,S⟩:=HS.o.1 O;subst j0;have e8:=aO hr z.o;obtain⟨F,V,Y,Z,oK,oS,la,ll,lc,r,x0,x1,x2,x3,x4⟩:=s;have b9:wr.rangeAt g (v+k*31) [Q I F,Q I V,Q I Y,Q I Z,Q I oK,MS oS,MR la ll lc,Q I r.id,Q I r.pr,Q I r.k0,Q I r.v0,Q I r.m0,Q I r.k1,Q I r.v1,Q I r.m1,Q I r.k2,Q I r.v2,Q I r.m2,Q I r.k3,Q I r.v3,Q I r.m3,Q I r.k4,Q I r.v4,Q I r.m4,Q I r.ac,Q I r.po,Q I x0,Q I x1,Q I x2,Q I x3,Q I x4]:=e8;have c0:wr.cell? ⟨g,v+k*31,S⟩=some (Q I F):=bz b9;have j1:g<wr.heap.size:=MO c0;have j2:(rx (MQ (some ⟨g,v+k*31,S⟩))).run MT wr=.ok (M1 #[Q I F,Q I V,Q I Y,Q I Z,Q I oK,MS oS,MR la ll lc,Q I r.id,Q I r.pr,Q I r.k0,Q I r.v0,Q I r.m0,Q I r.k1,Q I r.v1,Q I r.m1,Q I r.k2,Q I r.v2,Q I r.m2,Q I r.k3,Q I r.v3,Q I r.m3,Q I r.k4,Q I r.v4,Q I r.m4,Q I r.ac,Q I r.po,Q I x0,Q I x1,Q I x2,Q I x3,Q I x4]) wr:=NW _ g (v+k*31) 41 [Q I F,Q I V,Q I Y,Q I Z,Q I oK,MS oS,MR la ll lc,Q I r.id,Q I r.pr,Q I r.k0,Q I r.v0,Q I r.m0,Q I r.k1,Q I r.v1,Q I r.m1,Q I r.k2,Q I r.v2,Q I r.m2,Q I r.k3,Q I r.v3,Q I r.m3,Q I r.k4,Q I r.v4,Q I r.m4,Q I r.ac,Q I r.po,Q I x0,Q I x1,Q I x2,Q I x3,Q I x4] ds b9 h9 i0 oq;have B:=A (J7 h7 wr f N k l F V Y Z oK oS la ll lc r x0 x1 x2 x3 x4 T e0.o ⟨q1.aD z.o,q2,q3,q4,λb d h0=>b5.o b (q1.lt h0 d)⟩ e2 O (by have:=P.o;omega) e3 e4);clear hr e8 q1 q2 q3 q4 e3 e4 b9 e2;go_wp2_with fail
   refine B.o.mono ?_;rintro e q ⟨rfl,j4,f1,f2⟩;obtain⟨C,f3⟩:=f2.LL z.o.size b5.o;obtain⟨t,s,f4,f5⟩:=f1.Kb;have c1:=A f4;have j5:=A f5;have j6:=A (z.o.trans C);have k0:=A f3;have m5:(t:Int)<=200000:=by have:=P.o;omega
   have m6:(s:Int)<=200000:=by have:=P.o;omega
   clear f1 f2 C f3 f5 f4 B j2 c0 j1 e0 z b5;go_wp2_with fail
   go_loopw [7,8] (λo i wr=>o=M0 Mk/\∃j:Nat,j<=t/\i=Q I j/\∃l,AT wr f (N+1+j) t s l/\Mb w.heap.size w wr/\KR w.heap.size l) (λ_ i _=>t- (intOf i).toNat)
   case atStart=>exact⟨rfl,0,O,rfl,j4,j5.o,j6.o,k0.o⟩
   case round=>
    obtain⟨rfl,j,hj,rfl,k1,c2,E,f7⟩:=hrel;obtain⟨G,ta,tc,z0,H⟩:=c2.AI O;have f9:=A c2;have c3:=A E;have g0:=A f7;have u:=A H;clear c2 E f7 H;by_cases k4:j<t
    ·have k5:(j:Int)<t:=by omega
     obtain⟨tg,tp,rfl,J,K⟩:=u.o j k4;have c5:tg<wr.heap.size:=MO J;have L:=A K;clear K u f9;go_wp2_with fail
     refine L.o.mono ?_;rintro e W4 ⟨rfl,k7,g1,g2⟩;obtain⟨g3,g4⟩:=g2.LL c3.o.size g0.o;have k9:=A g1;have l0:=A (c3.o.trans g3);have l1:=A g4;clear g1 g2 g3 g4 L z0 J c5 G;go_wp2_with fail
     go_roundw
     case rel=>exact⟨rfl,j+1,O,by go_num,k7,k9.o,l0.o,l1.o⟩
     case measure=>simp[intOf];omega
    ·have k5:¬(j:Int)<t:=by omega
     have HJ:=A hj;clear hj u;go_wp2_with fail
     clear z0 G;go_loopw [7,9] (λo i wr=>o=M0 Mk/\∃m:Nat,m<=s/\i=Q I m/\∃l,AT wr f (N+1+j+m) t s l/\Mb w.heap.size w wr/\KR w.heap.size l) (λ_ i _=>s- (intOf i).toNat)
     case atStart=>exact⟨rfl,0,O,rfl,k1,f9.o,c3.o,g0.o⟩
     case round=>
      obtain⟨rfl,m,p,rfl,g5,c7,g6,g7⟩:=hrel;obtain⟨G,ta,tc,z1,H⟩:=c7.Ub (by have:=HJ.o;omega);have c8:=A c7;have b0:=A g6;have g9:=A g7;have u:=A H;clear c7 g6 g7 H;by_cases l2:m<s
      ·have l3:(m:Int)<s:=by omega
       obtain⟨tg,tp,rfl,J,K⟩:=u.o m l2;have c5:tg<wr.heap.size:=MO J;have L:=A K;clear K u c8;go_wp2_with fail
       refine L.o.mono ?_;rintro e W6 ⟨rfl,l4,h1,h2⟩;obtain⟨h3,h4⟩:=h2.LL b0.o.size g9.o;have l5:=A h1;have l6:=A (b0.o.trans h3);have l7:=A h4;clear h1 h2 h3 h4 L z1 J c5 G;go_wp2_with fail
       go_roundw
       case rel=>exact⟨rfl,m+1,O,by go_num,l4,l5.o,l6.o,l7.o⟩
       case measure=>simp[intOf];omega
      ·have l3:¬(m:Int)<s:=by omega
       have h5:N+1+j+m<=(k+1)*(k+1+2):=Mx (by have:=HJ.o;have:=c1.o;omega) (B9 i6.o);have CL:=A (EQ wr f (N+1+j+m) (k+1) g5 (c8.o.whole c1.o) (by have:=HJ.o;omega));have l8:=A h5;clear h5 u;go_wp2_with fail
       refine CL.o.mono ?_;rintro e W8 ⟨rfl,c9⟩;have m0:=A ((c8.o.whole c1.o).still c9);have m1:=A (b0.o.trans (c9.mono b0.o.size));clear c9 CL z1 G p;go_wp2_with fail
       go_roundw
       case rel=>exact⟨k+1,N+1+j+m,O,by go_num,l8.o,g5,m0.o,m1.o,g9.o⟩
       case measure=>simp[intOf];omega
  ·have i9:¬(k:Int)<n:=by omega
   go_wp2;go_ret;exact⟨rfl,z.o⟩
end
end Go.Proofs.YtnjalelblbjfiaaGreatDoor
