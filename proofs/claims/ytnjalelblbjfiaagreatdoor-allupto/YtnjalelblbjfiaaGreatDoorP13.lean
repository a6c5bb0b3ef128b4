import Derived.Test.YtnjalelblbjfiaaGreatDoorP12
namespace Go.Proofs.YtnjalelblbjfiaaGreatDoor
set_option maxRecDepth 100000
set_option maxHeartbeats 16000000
open Go.RowKit
open Go.Proofs.Tryz
open Go.Sort (grow)
open Go renaming World→MV,Value→Ma,Addr→Oz,Calls→Mo,cell_later→MW,block_lt_of_cell→MO,redrawn→NK,wp_region_quiet_below→Mg,wpQuiet_nil→M3,run_loadAt_mid→NW
open Go.Ending renaming returned→MZ
open Go.IntKind renaming i64→I
open Go.Obj renaming cells→MY
open Go.Proofs.Tryz renaming prog→MT,func23→Ph,func10→QL
open Go.RowKit renaming Below→Mb
open Go.RowKit.Below renaming refl→MU
open Go.Value renaming pointer→MQ,agg→M1,int→Q,string→MS,slice→MR,bool→M0
open Option renaming some→N,none→S
open Nat renaming le_refl→MP,le_trans→Mx
open List renaming mem_cons→Nk,not_mem_nil→OE,any_eq_false→Po
open List.Pairwise renaming cons→Ps,nil→Tb
variable {b:List af}{c d e:Nat}
section
attribute [local go_sem] Oper.semAt_some aI
attribute [local go_sem ↓ high] ia
theorem yi(w:MV)(p:Nat)(P R T:Ma)(n:Nat)(b:List aL)(U:List au)(V:Nat->Nat)(l X Y Z:Int)(oS:ByteArray)(la:Option Oz)(ll lc:Nat)(r:Rl)(x0 x1 x2 x3 x4:Int)(h:LW w p P R T n b U V)(ha:eS b)(c4: -9223372036854775808<=l/\l<=9223372036854775807)(f7:0<b.length)(h6:b.length<=1000000000):Mo MT 23 #[MQ (N ⟨p,0,S⟩),M1 #[Q I 2,Q I l,Q I X,Q I Y,Q I Z,MS oS,MR la ll lc,Q I r.id,Q I r.pr,Q I r.k0,Q I r.v0,Q I r.m0,Q I r.k1,Q I r.v1,Q I r.m1,Q I r.k2,Q I r.v2,Q I r.m2,Q I r.k3,Q I r.v3,Q I r.m3,Q I r.k4,Q I r.v4,Q I r.m4,Q I r.ac,Q I r.po,Q I x0,Q I x1,Q I x2,Q I x3,Q I x4]] w λe W=>e=MZ (M0 true)/\∃o v,o.length=b.length/\eS o/\LW W p P R T n o U v/\jv w W V v:=by
 obtain⟨dr,c6,c7⟩:=dJ;obtain⟨i,y,c8⟩:=yV l f7;obtain⟨f,E⟩:=UX (w.alloc (MY #[Q I 2,Q I l,Q I X,Q I Y,Q I Z,MS oS,MR la ll lc,Q I r.id,Q I r.pr,Q I r.k0,Q I r.v0,Q I r.m0,Q I r.k1,Q I r.v1,Q I r.m1,Q I r.k2,Q I r.v2,Q I r.m2,Q I r.k3,Q I r.v3,Q I r.m3,Q I r.k4,Q I r.v4,Q I r.m4,Q I r.ac,Q I r.po,Q I x0,Q I x1,Q I x2,Q I x3,Q I x4] 41));obtain⟨a,F⟩:=UX w.heap.size;have G:=UY E;have H:f.rangeAt a 0 [Q I 2,Q I l,Q I X,Q I Y,Q I Z,MS oS,MR la ll lc,Q I r.id,Q I r.pr,Q I r.k0,Q I r.v0,Q I r.m0,Q I r.k1,Q I r.v1,Q I r.m1,Q I r.k2,Q I r.v2,Q I r.m2,Q I r.k3,Q I r.v3,Q I r.m3,Q I r.k4,Q I r.v4,Q I r.m4,Q I r.ac,Q I r.po,Q I x0,Q I x1,Q I x2,Q I x3,Q I x4]:=by rw[E,F];exact aN _ _ _
 obtain⟨ta,tc,tg,J,c9⟩:=h.rT.AI;have a9:=MW G h.c0;have h9:p<w.heap.size:=MO h.c0;have f9:p<f.heap.size:=MO a9;rw[J]at a9;obtain⟨g0,d0⟩:=c9 i y;have b0:=MW G d0;have g1:tg<f.heap.size:=MO b0;have k0:f.cell? ⟨a,0,S⟩=N (Q I 2):=H 0 _ rfl;have k1:f.cell? ⟨a,1,S⟩=N (Q I l):=H 1 _ rfl;have g3:a<f.heap.size:=MO k0;have i0:¬(b.length:Int)=0:=O;have i1:(i:Int)<b.length:=O;have i2:=A J;subst g0;have d1:aA (∀(d:Nat) (z:Array Obj),Mo MT 26 #[Q I l,Q I b.length] (grow (NK f d) z) λe q=>e=MZ (Q I i)/\Mb (grow (NK f d) z).heap.size (grow (NK f d) z) q):=A λd z=>(ma l b.length i (grow (NK f d) z) c4 O c8 y).mono λe q hh=>And.intro hh.1 (by rw[hh.2];exact MU _ _);have K:=A h;have HA:=A ha;have b2:=A G;have HK:=A H;have d5:=h.c0;rw[J]at d5;obtain⟨D,hD⟩:=UX (b[i]);rw[<-hD]at b0;have s:=A hD;clear hD J c9 d0 h ha G H c8 c4;go_enter Ph,ntmps23;go_wp2_with fail
 rw[<-E,<-F];have d6:=A F;clear E d5 F;refine Mg UR UR ?_
 repeat(quiet_step (exact Calls.regrown_of (d1.o _ _)))
 refine M3 ?_;intro k m;replace m:=aE m;obtain⟨g4,g5⟩:=aW m;have g6:=m.size;have j0:=MW m k0;have i3:a<k.heap.size:=MO j0;have B:=A (b2.o.trans (m.mono b2.o.size));have e0:=A (aO HK.o m);clear m g4 g5 g6 a9 f9 b0 g1 k0 k1 g3 d1 b2 HK;have t:=(K.o.tab i y);rw[<-s.o]at t;have q0:=MW B.o t.c0;have q1:=MW B.o t.c1;have g8:D.p<k.heap.size:=MO q0;have b4:k.rangeAt a 7 [Q I r.id,Q I r.pr,Q I r.k0,Q I r.v0,Q I r.m0,Q I r.k1,Q I r.v1,Q I r.m1,Q I r.k2,Q I r.v2,Q I r.m2,Q I r.k3,Q I r.v3,Q I r.m3,Q I r.k4,Q I r.v4,Q I r.m4,Q I r.ac,Q I r.po]:=uj e0.o;have g9:(kZ (MQ (N ⟨a,7,S⟩))).run MT k.drew=.ok (M1 #[Q I r.id,Q I r.pr,Q I r.k0,Q I r.v0,Q I r.m0,Q I r.k1,Q I r.v1,Q I r.m1,Q I r.k2,Q I r.v2,Q I r.m2,Q I r.k3,Q I r.v3,Q I r.m3,Q I r.k4,Q I r.v4,Q I r.m4,Q I r.ac,Q I r.po]) k.drew:=NW k.drew a 7 37 [Q I r.id,Q I r.pr,Q I r.k0,Q I r.v0,Q I r.m0,Q I r.k1,Q I r.v1,Q I r.m1,Q I r.k2,Q I r.v2,Q I r.m2,Q I r.k3,Q I r.v3,Q I r.m3,Q I r.k4,Q I r.v4,Q I r.m4,Q I r.ac,Q I r.po] dr b4 c6 c7 ay;obtain⟨c,b5⟩:=UX (ah D.L r);have CI:aA (Mo MT 15 #[MQ (N ⟨D.t,0,S⟩),M1 #[Q I r.id,Q I r.pr,Q I r.k0,Q I r.v0,Q I r.m0,Q I r.k1,Q I r.v1,Q I r.m1,Q I r.k2,Q I r.v2,Q I r.m2,Q I r.k3,Q I r.v3,Q I r.m3,Q I r.k4,Q I r.v4,Q I r.m4,Q I r.ac,Q I r.po]] k.drew λe q=>e=MZ (Q I c)/\go k.drew q D.t D.F D.L r):=A (by
  rw[b5];exact ka D.t r k.drew D.F D.L ((t.tab.still B.o).still ((MU _ k).drew)))
 have h0:=A q1;have e4:=A b4;have e5:=A λx (hx:D.F x)=>t.tab.lt hx;have e6:=A b5;clear t b4 b5;go_wp2_with fail
 go_region_with
  (first|(go_at_call 15;refine CI.o.mono ?_;rintro e g ⟨rfl,C⟩;have HI:=A C;clear C))
 all_goals
  have b9:Mb w.heap.size w k.drew:=B.o.drew;have C:go k.drew g b[i].t b[i].F b[i].L r:=by rw[<-s.o];exact HI.o
  have e8:=A C;obtain⟨F',L',f0,f1,L,-⟩:=C;obtain⟨c0,-,c1,f2⟩:=K.o.FT y b9 f0 f1 L ((MU _ g).drew);rw[<-s.o]at c0 c1 L;have p1:g.cell? ⟨D.p,1,S⟩=N (MQ (N ⟨D.y,0,S⟩)):=c1;have i6:D.p<g.heap.size:=MO p1;have f3:¬D.F a:=λhx=>by have:=e5.o a hx;rw[d6.o]at this;omega
  have c2:g.rangeAt a 7 [Q I r.id,Q I r.pr,Q I r.k0,Q I r.v0,Q I r.m0,Q I r.k1,Q I r.v1,Q I r.m1,Q I r.k2,Q I r.v2,Q I r.m2,Q I r.k3,Q I r.v3,Q I r.m3,Q I r.k4,Q I r.v4,Q I r.m4,Q I r.ac,Q I r.po]:=λj u hu=>L.block.cell f3 (e4.o j u hu);have i8:a<g.heap.size:=MO (bz c2);have i9:(kZ (MQ (N ⟨a,7,S⟩))).run MT g.drew=.ok (M1 #[Q I r.id,Q I r.pr,Q I r.k0,Q I r.v0,Q I r.m0,Q I r.k1,Q I r.v1,Q I r.m1,Q I r.k2,Q I r.v2,Q I r.m2,Q I r.k3,Q I r.v3,Q I r.m3,Q I r.k4,Q I r.v4,Q I r.m4,Q I r.ac,Q I r.po]) g.drew:=NW g.drew a 7 37 [Q I r.id,Q I r.pr,Q I r.k0,Q I r.v0,Q I r.m0,Q I r.k1,Q I r.v1,Q I r.m1,Q I r.k2,Q I r.v2,Q I r.m2,Q I r.k3,Q I r.v3,Q I r.m3,Q I r.k4,Q I r.v4,Q I r.m4,Q I r.ac,Q I r.po] dr c2 c6 c7 ay;have CX:=A (qV 1 D.y 0 D.v D.rs r g.drew c0 ⟨US,f2⟩);have h4:aA (∀e W,uB 1 D.y 0 D.v D.rs r g.drew e W->e=MZ (Q I c)/\∃o v,o.length=b.length/\eS o/\LW W p P R T n o U v/\jv w W V v):=A λe W M=>by
   rw[e6.o];have:=Fz (r:=r) (e:=e) (W:=W) (w3:=g.drew) K.o y HA.o b9 e8.o ((MU _ g).drew) (by rw[<-s.o];exact M);rwa[<-s.o]at this
  clear f0 f1 L c0 c1 f2 c2 b9 HI e8 K HA B e0 h0 e4 e5 e6 d6 s f3 CI g9 q0 q1 g8;go_wp2_with fail
  go_region_with
   (first|(go_at_call 25;refine(eZ _ _).mono ?_;rintro e q ⟨rfl,f4⟩;rw[f4];clear f4 q)|(go_at_call 67;refine CX.o.mono ?_;rintro e W M;obtain⟨he,hf⟩:=h4.o e W M;rw[he];have HF:=A hf;clear he hf M))
  all_goals
   go_wp2;go_ret;exact⟨rfl,HF.o⟩
theorem wh(w:MV)(s:Nat)(R T U:Ma)(n:Nat)(b:List aL)(V:List au)(X:Nat->Nat)(l f Y Z:Int)(oS:ByteArray)(la:Option Oz)(ll lc:Nat)(r:Rl)(x0 x1 x2 x3 x4:Int)(h:LW w s R T U n b V X)(ha:eS b)(c2: -9223372036854775808<=l/\l<=9223372036854775807)(f1:0<b.length)(h1:b.length<=1000000000):Mo MT 23 #[MQ (N ⟨s,0,S⟩),M1 #[Q I 3,Q I l,Q I f,Q I Y,Q I Z,MS oS,MR la ll lc,Q I r.id,Q I r.pr,Q I r.k0,Q I r.v0,Q I r.m0,Q I r.k1,Q I r.v1,Q I r.m1,Q I r.k2,Q I r.v2,Q I r.m2,Q I r.k3,Q I r.v3,Q I r.m3,Q I r.k4,Q I r.v4,Q I r.m4,Q I r.ac,Q I r.po,Q I x0,Q I x1,Q I x2,Q I x3,Q I x4]] w λe W=>e=MZ (M0 true)/\∃p v,p.length=b.length/\eS p/\LW W s R T U n p V v/\jv w W X v:=by
 obtain⟨dr,f2,f3⟩:=dJ;obtain⟨i,y,c3⟩:=yV l f1;obtain⟨g,F⟩:=UX (w.alloc (MY #[Q I 3,Q I l,Q I f,Q I Y,Q I Z,MS oS,MR la ll lc,Q I r.id,Q I r.pr,Q I r.k0,Q I r.v0,Q I r.m0,Q I r.k1,Q I r.v1,Q I r.m1,Q I r.k2,Q I r.v2,Q I r.m2,Q I r.k3,Q I r.v3,Q I r.m3,Q I r.k4,Q I r.v4,Q I r.m4,Q I r.ac,Q I r.po,Q I x0,Q I x1,Q I x2,Q I x3,Q I x4] 41));obtain⟨j,G⟩:=UX w.heap.size;have H:=UY F;have J:g.rangeAt j 0 [Q I 3,Q I l,Q I f,Q I Y,Q I Z,MS oS,MR la ll lc,Q I r.id,Q I r.pr,Q I r.k0,Q I r.v0,Q I r.m0,Q I r.k1,Q I r.v1,Q I r.m1,Q I r.k2,Q I r.v2,Q I r.m2,Q I r.k3,Q I r.v3,Q I r.m3,Q I r.k4,Q I r.v4,Q I r.m4,Q I r.ac,Q I r.po,Q I x0,Q I x1,Q I x2,Q I x3,Q I x4]:=by rw[F,G];exact aN _ _ _
 obtain⟨ta,tc,tg,K,c4⟩:=h.rT.AI;have a9:=MW H h.c0;have h5:s<w.heap.size:=MO h.c0;have f5:s<g.heap.size:=MO a9;rw[K]at a9;obtain⟨f6,c5⟩:=c4 i y;have b0:=MW H c5;have f7:tg<g.heap.size:=MO b0;have k0:g.cell? ⟨j,0,S⟩=N (Q I 3):=J 0 _ rfl;have k1:g.cell? ⟨j,1,S⟩=N (Q I l):=J 1 _ rfl;have f9:j<g.heap.size:=MO k0;have h6:¬(b.length:Int)=0:=O;have h7:(i:Int)<b.length:=O;have h8:=A K;subst f6;have c6:aA (∀(d:Nat) (z:Array Obj),Mo MT 26 #[Q I l,Q I b.length] (grow (NK g d) z) λe q=>e=MZ (Q I i)/\Mb (grow (NK g d) z).heap.size (grow (NK g d) z) q):=A λd z=>(ma l b.length i (grow (NK g d) z) c2 O c3 y).mono λe q hh=>And.intro hh.1 (by rw[hh.2];exact MU _ _);have L:=A h;have HA:=A ha;have b2:=A H;have HK:=A J;have d0:=h.c0;rw[K]at d0;obtain⟨D,hD⟩:=UX (b[i]);rw[<-hD]at b0;have t:=A hD;clear hD K c4 c5 h ha H J c3 c2;go_enter Ph,ntmps23;go_wp2_with fail
 rw[<-F,<-G];have d1:=A G;clear F d0 G;refine Mg UR UR ?_
 repeat(quiet_step (exact Calls.regrown_of (c6.o _ _)))
 refine M3 ?_;intro m o;replace o:=aE o;obtain⟨g0,g1⟩:=aW o;have g2:=o.size;have j0:=MW o k0;have h9:j<m.heap.size:=MO j0;have B:=A (b2.o.trans (o.mono b2.o.size));have d2:=A (aO HK.o o);clear o g0 g1 g2 a9 f5 b0 f7 k0 k1 f9 c6 b2 HK;have u:=(L.o.tab i y);rw[<-t.o]at u;have q0:=MW B.o u.c0;have q1:=MW B.o u.c1;have g4:D.p<m.heap.size:=MO q0;have j2:m.cell? ⟨j,2,S⟩=N (Q I f):=d2.o 2 _ rfl;obtain⟨c,b4⟩:=UX ((if(D.L.any λa=>a.2.id==f)then 0 else 7):Int);have CI:aA (Mo MT 17 #[MQ (N ⟨D.t,0,S⟩),Q I f] m.drew λe q=>e=MZ (Q I c)/\bQ q D.t D.F (D.L.filter λa=>a.2.id !=f)/\aH D.F m.drew q):=A (by
  rw[b4];exact sJ D.t f m.drew D.F D.L ((u.tab.still B.o).still ((MU _ m).drew)))
 have g5:=A q1;have e0:=A j2;have e1:=A λx (C:D.F x)=>u.tab.lt C;have e2:=A b4;clear u b4 f2 f3;go_wp2_with fail
 go_region_with
  (first|(go_at_call 17;refine CI.o.mono ?_;rintro e k ⟨rfl,E⟩;have HI:=A E;clear E))
 all_goals
  have b5:Mb w.heap.size w m.drew:=B.o.drew;have E:bQ k b[i].t b[i].F (b[i].L.filter λa=>a.2.id !=f)/\aH b[i].F m.drew k:=by rw[<-t.o];exact HI.o
  have b6:=A E;obtain⟨e4,M⟩:=E;obtain⟨b9,-,c0,e5⟩:=L.o.FT y b5 e4 (λ_ C=>.inl C) M ((MU _ k).drew);rw[<-t.o]at b9 c0 M;have p1:k.cell? ⟨D.p,1,S⟩=N (MQ (N ⟨D.y,0,S⟩)):=c0;have i0:D.p<k.heap.size:=MO p1;have e6:¬D.F j:=λC=>by have:=e1.o j C;rw[d1.o]at this;omega
  have j3:k.cell? ⟨j,2,S⟩=N (Q I f):=M.block.cell e6 e0.o;have i1:j<k.heap.size:=MO j3;have CX:=A (qW 1 D.y 0 D.v D.rs f k.drew b9 ⟨US,e5⟩);have g9:aA (∀e W,FK 1 D.y 0 D.rs f k.drew e W->e=MZ (Q I c)/\∃p v,p.length=b.length/\eS p/\LW W s R T U n p V v/\jv w W X v):=A λe W P=>by
   rw[e2.o];have:=Do (x:=f) (e:=e) (W:=W) (w3:=k.drew) L.o y HA.o b5 b6.o.1 b6.o.2 ((MU _ k).drew) (by rw[<-t.o];exact P);rwa[<-t.o]at this
  clear e4 M b9 c0 e5 b5 HI b6 L HA B d2 g5 e0 e1 e2 d1 t e6 CI q0 q1 g4 j2;go_wp2_with fail
  go_region_with
   (first|(go_at_call 25;refine(eZ _ _).mono ?_;rintro e q ⟨rfl,e7⟩;rw[e7];clear e7 q)|(go_at_call 68;refine CX.o.mono ?_;rintro e W P;obtain⟨he,hf⟩:=g9.o e W P;rw[he];have HF:=A hf;clear he hf P))
  all_goals
   go_wp2;go_ret;exact⟨rfl,HF.o⟩
end
section
attribute [local go_sem] Oper.semAt_some aI
attribute [local go_sem ↓ high] fj
theorem yj(w:MV)(a:Nat)(m o q:Ma)(n:Nat)(d:List aL)(s:List au)(f:Nat->Nat)(H J K L:Int)(M:ByteArray)(P:Option Oz)(R T:Nat)(r:Rl)(U V X Y Z:Int)(h:LW w a m o q n d s f)(ha:eS d)(b4:d.length<=1000000000):Mo MT 23 #[MQ (N ⟨a,0,S⟩),M1 #[Q I 1,Q I H,Q I J,Q I K,Q I L,MS M,MR P R T,Q I r.id,Q I r.pr,Q I r.k0,Q I r.v0,Q I r.m0,Q I r.k1,Q I r.v1,Q I r.m1,Q I r.k2,Q I r.v2,Q I r.m2,Q I r.k3,Q I r.v3,Q I r.m3,Q I r.k4,Q I r.v4,Q I r.m4,Q I r.ac,Q I r.po,Q I U,Q I V,Q I X,Q I Y,Q I Z]] w λe W=>e=MZ (M0 true)/\∃b5 i u,i.length=d.length+1/\eS i/\LW W a b5 o q n i s u/\jv w W f u:=by
 obtain⟨j,y⟩:=UX (w.alloc (MY #[Q I 1,Q I H,Q I J,Q I K,Q I L,MS M,MR P R T,Q I r.id,Q I r.pr,Q I r.k0,Q I r.v0,Q I r.m0,Q I r.k1,Q I r.v1,Q I r.m1,Q I r.k2,Q I r.v2,Q I r.m2,Q I r.k3,Q I r.v3,Q I r.m3,Q I r.k4,Q I r.v4,Q I r.m4,Q I r.ac,Q I r.po,Q I U,Q I V,Q I X,Q I Y,Q I Z] 41));have z:=UY y;have B:LW j a m o q n d s f:=h.aD z λ_ _ _=>rfl;have CN:=A (oj j B.laid);have HH:=A h;have H1:=A B;have HA:=A ha;have C:=A z;clear h B ha z;go_enter Ph,ntmps23;go_wp2_with fail
 rw[<-y];clear y;refine CN.o.mono ?_;rintro e c ⟨t,F,rfl,hT,hF,D⟩;have hb:=C.o.trans (D.mono C.o.size);have E:=A (H1.o.aD (col':=f) D λ_ _ _=>rfl);have c0:=E.o.c0;have f0:=E.o.frz 0;have d0:a<c.heap.size:=MO c0;obtain⟨k,l⟩:=UX ((c.alloc (MY #[MR S 0 0] 83)).alloc (MY #[MQ (N ⟨t,0,S⟩),MQ (N ⟨c.heap.size,0,S⟩)] 81));have a6:Mb c.heap.size c k:=by rw[l];exact((MU _ c).alloc (MP _) _).alloc (by simp) _
 have b:LW k a m o q n d s f:=E.o.aD a6 λ_ _ _=>rfl;have s4:k.heap.size=c.heap.size+2:=by rw[l];simp
 obtain⟨g,d1,G,a8,a9,v,hg,hq⟩:=Cd (p:=c.heap.size+1) b.rT b.pT b4 b.uE;have c2:=A (GR HH.o HA.o hb hT (λx hx=>Mx C.o.size (hF x hx)) l a9 v hg hq);have b2:=e9 a8;rw[s4,l]at b2;have e0:G.cell? ⟨a,0,S⟩=N m:=v.block.cell (λe=>by have:=b.cT a e;rw[b.cw]at this;omega) b.c0;have f5:G.frozen? ⟨a,0,S⟩=false:=by
  rw[(jr.aS (v.block a (MO b.c0) (λe=>by have:=b.cT a e;rw[b.cw]at this;omega)) 0).2];exact b.frz 0
 have d3:a<G.heap.size:=MO e0;obtain⟨⟨ta,tm,tc,c4⟩,-⟩:=b.FO;rw[c4]at c0 e0 b2;clear a9 v hg hq a8 b a6 s4 l hb hT hF D CN;go_wp2_with fail
 go_ret;obtain⟨i,u,f1,f2,f3,f4⟩:=c2.o;exact⟨rfl,_,i,u,f1,f2,f3,f4⟩
theorem wi(w:MV)(a:Nat)(y z B:Ma)(n:Nat)(c:List aL)(C:List au)(D:Nat->Nat)(b d f g i:Int)(j:ByteArray)(k:Option Oz)(l m:Nat)(r:Rl)(o p q s t:Int)(h:LW w a y z B n c C D)(F:b≠1)(u:c.length=0):Mo MT 23 #[MQ (N ⟨a,0,S⟩),M1 #[Q I b,Q I d,Q I f,Q I g,Q I i,MS j,MR k l m,Q I r.id,Q I r.pr,Q I r.k0,Q I r.v0,Q I r.m0,Q I r.k1,Q I r.v1,Q I r.m1,Q I r.k2,Q I r.v2,Q I r.m2,Q I r.k3,Q I r.v3,Q I r.m3,Q I r.k4,Q I r.v4,Q I r.m4,Q I r.ac,Q I r.po,Q I o,Q I p,Q I q,Q I s,Q I t]] w λe W=>e=MZ (M0 true)/\Mb w.heap.size w W:=by
 have v:=h.c0;have x:=h.rT.2 u;rw[x]at v;have G:a<w.heap.size:=MO v;have E:=A (show Mb w.heap.size w (w.alloc (MY #[Q I b,Q I d,Q I f,Q I g,Q I i,MS j,MR k l m,Q I r.id,Q I r.pr,Q I r.k0,Q I r.v0,Q I r.m0,Q I r.k1,Q I r.v1,Q I r.m1,Q I r.k2,Q I r.v2,Q I r.m2,Q I r.k3,Q I r.v3,Q I r.m3,Q I r.k4,Q I r.v4,Q I r.m4,Q I r.ac,Q I r.po,Q I o,Q I p,Q I q,Q I s,Q I t] 41))from(MU _ w).alloc (MP _) _);clear h x u;go_enter Ph,ntmps23;go_wp2;go_ret;exact⟨rfl,E.o⟩
end
section
def TS(w:MV)(d:Nat)(e:Ma)(b f:Nat)(g:Nat->Nat):Prop:=∃h i n a c,LW w d h e i n a c g/\eS a/\n<=b/\c.length<=4*b/\a.length<=f
theorem TS.aD{w W:MV}{b:Nat}{e:Ma}{a:Nat->Nat}(h:TS w b e c d a)(f:Mb w.heap.size w W):∃g,TS W b e (c+1) (d+1) g/\jv w W a g:=by
 obtain⟨i,j,n,k,l,h,m,o,p,q⟩:=h;exact⟨a,⟨i,j,n,k,l,h.aD f λ_ _ _=>rfl,m,O,O,O⟩,jv.aD f λ_ _ _=>rfl⟩
theorem yk(w:MV)(c:Nat)(j:Ma)(K L:Nat)(k:Nat->Nat)(m d o p q:Int)(s:ByteArray)(t:Option Oz)(u v:Nat)(r:Rl)(x y z B C:Int)(h:TS w c j K L k)(J: -9223372036854775808<=d/\d<=9223372036854775807)(hN:K<=20000000000)(hQ:L<=100000000):Mo MT 23 #[MQ (N ⟨c,0,S⟩),M1 #[Q I m,Q I d,Q I o,Q I p,Q I q,MS s,MR t u v,Q I r.id,Q I r.pr,Q I r.k0,Q I r.v0,Q I r.m0,Q I r.k1,Q I r.v1,Q I r.m1,Q I r.k2,Q I r.v2,Q I r.m2,Q I r.k3,Q I r.v3,Q I r.m3,Q I r.k4,Q I r.v4,Q I r.m4,Q I r.ac,Q I r.po,Q I x,Q I y,Q I z,Q I B,Q I C]] w λe W=>e=MZ (M0 true)/\∃b,TS W c j (K+1) (L+1) b/\jv w W k b:=by
 have T:=h;obtain⟨f,g,n,l,i,h,F,h1,h2,h3⟩:=h;by_cases M:m=1
 ·subst M;refine(yj w c f j g n l i k d o p q s t u v r x y z B C h F O).mono ?_;rintro e W ⟨a,Y,G,b,P,H,D,E⟩;exact⟨a,b,⟨Y,g,n,G,i,D,H,O,O,O⟩,E⟩
 by_cases Z:l.length=0
 ·refine(wi w c f j g n l i k m d o p q s t u v r x y z B C h M Z).mono ?_;rintro e W ⟨a,R⟩;exact⟨a,T.aD R⟩
 by_cases U:m=2
 ·subst U;refine(yi w c f j g n l i k d o p q s t u v r x y z B C h F J O O).mono ?_;rintro e W ⟨a,G,b,P,H,D,E⟩;exact⟨a,b,⟨f,g,n,G,i,D,H,O,O,O⟩,E⟩
 by_cases V:m=3
 ·subst V;refine(wh w c f j g n l i k d o p q s t u v r x y z B C h F J O O).mono ?_;rintro e W ⟨a,G,b,P,H,D,E⟩;exact⟨a,b,⟨f,g,n,G,i,D,H,O,O,O⟩,E⟩
 by_cases X:m=4
 ·subst X;refine(wj w c f j g n l i k d o p q s t u v r x y z B C h F J O O).mono ?_;rintro e W ⟨a,R⟩;exact⟨a,T.aD R⟩
 ·refine(uU w c f j g n l i k m d o p q s t u v r x y z B C h F J O O M U V X O O).mono ?_;rintro e W ⟨a,a0,a1,b,P,D,E⟩;exact⟨a,b,⟨f,a0,n+1,l,a1,D,F,O,O,O⟩,E⟩
theorem pm:∃d,prog.underlying 41=N d/\d.isRow=true:=gO UR
theorem oq:(prog.info? 41).map (·.size)=N 31:=UR
def rx(v:Ma):Sem Value:=Instr.loadAt 41 v
theorem fJ(v:Ma):Instr.loadAt 41 v=rx v:=rfl
attribute [local go_sem ↓ high] fJ
theorem ES(w:MV)(t:Nat)(x:Ma)(u v:Nat)(y:Nat->Nat)(a b c d f:Int)(g:ByteArray)(i:Option Oz)(j k:Nat)(r:Rl)(l m o p q:Int)(h:TS w t x u v y)(B: -9223372036854775808<=b/\b<=9223372036854775807)(E:u<=20000000000)(F:v<=100000000)(a0:a<6):Mo MT 10 #[MQ (N ⟨t,0,S⟩),M1 #[Q I a,Q I b,Q I c,Q I d,Q I f,MS g,MR i j k,Q I r.id,Q I r.pr,Q I r.k0,Q I r.v0,Q I r.m0,Q I r.k1,Q I r.v1,Q I r.m1,Q I r.k2,Q I r.v2,Q I r.m2,Q I r.k3,Q I r.v3,Q I r.m3,Q I r.k4,Q I r.v4,Q I r.m4,Q I r.ac,Q I r.po,Q I l,Q I m,Q I o,Q I p,Q I q]] w λe W=>e=MZ (M0 true)/\∃s,TS W t x (u+1) (v+1) s/\jv w W y s:=by
 obtain⟨M,P,R⟩:=pm;have z:Mb w.heap.size w (w.alloc (MY #[Q I a,Q I b,Q I c,Q I d,Q I f,MS g,MR i j k,Q I r.id,Q I r.pr,Q I r.k0,Q I r.v0,Q I r.m0,Q I r.k1,Q I r.v1,Q I r.m1,Q I r.k2,Q I r.v2,Q I r.m2,Q I r.k3,Q I r.v3,Q I r.m3,Q I r.k4,Q I r.v4,Q I r.m4,Q I r.ac,Q I r.po,Q I l,Q I m,Q I o,Q I p,Q I q] 41)):=(MU _ w).alloc (MP _) _;by_cases k1:a<1
 ·have C:=A (h.aD z);clear h z B;go_enter QL,ntmps10;go_wp2;go_ret;exact⟨rfl,C.o⟩
 ·have G:(w.alloc (MY #[Q I a,Q I b,Q I c,Q I d,Q I f,MS g,MR i j k,Q I r.id,Q I r.pr,Q I r.k0,Q I r.v0,Q I r.m0,Q I r.k1,Q I r.v1,Q I r.m1,Q I r.k2,Q I r.v2,Q I r.m2,Q I r.k3,Q I r.v3,Q I r.m3,Q I r.k4,Q I r.v4,Q I r.m4,Q I r.ac,Q I r.po,Q I l,Q I m,Q I o,Q I p,Q I q] 41)).rangeAt w.heap.size 0 [Q I a,Q I b,Q I c,Q I d,Q I f,MS g,MR i j k,Q I r.id,Q I r.pr,Q I r.k0,Q I r.v0,Q I r.m0,Q I r.k1,Q I r.v1,Q I r.m1,Q I r.k2,Q I r.v2,Q I r.m2,Q I r.k3,Q I r.v3,Q I r.m3,Q I r.k4,Q I r.v4,Q I r.m4,Q I r.ac,Q I r.po,Q I l,Q I m,Q I o,Q I p,Q I q]:=aN _ _ _;have T:(rx (MQ (N ⟨w.heap.size,0,S⟩))).run MT (w.alloc (MY #[Q I a,Q I b,Q I c,Q I d,Q I f,MS g,MR i j k,Q I r.id,Q I r.pr,Q I r.k0,Q I r.v0,Q I r.m0,Q I r.k1,Q I r.v1,Q I r.m1,Q I r.k2,Q I r.v2,Q I r.m2,Q I r.k3,Q I r.v3,Q I r.m3,Q I r.k4,Q I r.v4,Q I r.m4,Q I r.ac,Q I r.po,Q I l,Q I m,Q I o,Q I p,Q I q] 41))=.ok (M1 #[Q I a,Q I b,Q I c,Q I d,Q I f,MS g,MR i j k,Q I r.id,Q I r.pr,Q I r.k0,Q I r.v0,Q I r.m0,Q I r.k1,Q I r.v1,Q I r.m1,Q I r.k2,Q I r.v2,Q I r.m2,Q I r.k3,Q I r.v3,Q I r.m3,Q I r.k4,Q I r.v4,Q I r.m4,Q I r.ac,Q I r.po,Q I l,Q I m,Q I o,Q I p,Q I q]) (w.alloc (MY #[Q I a,Q I b,Q I c,Q I d,Q I f,MS g,MR i j k,Q I r.id,Q I r.pr,Q I r.k0,Q I r.v0,Q I r.m0,Q I r.k1,Q I r.v1,Q I r.m1,Q I r.k2,Q I r.v2,Q I r.m2,Q I r.k3,Q I r.v3,Q I r.m3,Q I r.k4,Q I r.v4,Q I r.m4,Q I r.ac,Q I r.po,Q I l,Q I m,Q I o,Q I p,Q I q] 41)):=NW _ w.heap.size 0 41 [Q I a,Q I b,Q I c,Q I d,Q I f,MS g,MR i j k,Q I r.id,Q I r.pr,Q I r.k0,Q I r.v0,Q I r.m0,Q I r.k1,Q I r.v1,Q I r.m1,Q I r.k2,Q I r.v2,Q I r.m2,Q I r.k3,Q I r.v3,Q I r.m3,Q I r.k4,Q I r.v4,Q I r.m4,Q I r.ac,Q I r.po,Q I l,Q I m,Q I o,Q I p,Q I q] M G P R oq;have D:TS (w.alloc (MY #[Q I a,Q I b,Q I c,Q I d,Q I f,MS g,MR i j k,Q I r.id,Q I r.pr,Q I r.k0,Q I r.v0,Q I r.m0,Q I r.k1,Q I r.v1,Q I r.m1,Q I r.k2,Q I r.v2,Q I r.m2,Q I r.k3,Q I r.v3,Q I r.m3,Q I r.k4,Q I r.v4,Q I r.m4,Q I r.ac,Q I r.po,Q I l,Q I m,Q I o,Q I p,Q I q] 41)) t x u v y:=by
   obtain⟨U,V,n,X,Y,h,Z,D,h2,h3⟩:=h;exact⟨U,V,n,X,Y,h.aD z λ_ _ _=>rfl,Z,O,O,O⟩
  have H:=A (yk (w.alloc (MY #[Q I a,Q I b,Q I c,Q I d,Q I f,MS g,MR i j k,Q I r.id,Q I r.pr,Q I r.k0,Q I r.v0,Q I r.m0,Q I r.k1,Q I r.v1,Q I r.m1,Q I r.k2,Q I r.v2,Q I r.m2,Q I r.k3,Q I r.v3,Q I r.m3,Q I r.k4,Q I r.v4,Q I r.m4,Q I r.ac,Q I r.po,Q I l,Q I m,Q I o,Q I p,Q I q] 41)) t x u v y a b c d f g i j k r l m o p q D B E F);have J:=A z;clear h D G z B E F;go_enter QL,ntmps10;go_wp2_with fail
  refine H.o.mono ?_;rintro e W ⟨rfl,s,K,L⟩;have C:=A (⟨s,K,L.iF J.o⟩:∃s,TS W t x (u+1) (v+1) s/\jv w W y s);clear K L H J T;go_wp2;go_ret;exact⟨rfl,C.o⟩
end
def rO:Rl:=⟨1,5,0,0,0,0,0,0,0,0,0,0,0,0,0,0,0,0,0⟩
def rN:Rl:=⟨2,9,0,0,0,0,0,0,0,0,0,0,0,0,1,80,90,1,0⟩
def tR:Rl:=⟨3,9,0,0,0,0,0,0,0,6,255,0,0,0,0,0,0,0,0⟩
theorem Bu{c d:List af}{f g:Nat}(i:∀x,x∈c↔x=(e,rO)\/x∈[])(j:∀x,x∈d↔x=(f,rN)\/x∈c)(k:∀x,x∈b↔x=(g,tR)\/x∈d)(l:cC b):b=[(f,rN),(g,tR),(e,rO)]:=by
 refine n5 l ?_ λx=>?_
 ·refine Ps (λx a=>?_) (Ps (λx a=>?_) (Ps (λx a=>by cases a) Tb))
  ·simp only[Nk,OE,or_false]at a;rcases a with rfl|rfl<;>dsimp only<;>decide
  ·simp only[Nk,OE,or_false]at a;rcases a with rfl;dsimp only;decide
 ·rw[k,j,i];simp only[Nk,OE,or_false];constructor
  ·rintro(h|h|h)
   ·exact .inr (.inl h)
   ·exact .inl h
   ·exact .inr (.inr h)
  ·rintro(h|h|h)
   ·exact .inr (.inl h)
   ·exact .inl h
   ·exact .inr (.inr h)
theorem rD:ah [] rO=0:=US
theorem rC(d:∀x,x∈b↔x=(c,rO)\/x∈[])(g:b.length=0+1):ah b rN=0:=by
 have e:(b.any λa=>a.2.id==rN.id)=false:=by
  rw[Po];intro x f;rcases(d x).1 f with rfl|h
  ·dsimp only;decide
  ·cases h
 unfold ah;rw[e,if_pos US,if_neg US,if_neg O]
theorem rB{c:List af}(f:∀x,x∈c↔x=(d,rO)\/x∈[])(g:∀x,x∈b↔x=(e,rN)\/x∈c)(k:b.length<=2):ah b tR=0:=by
 have i:(b.any λa=>a.2.id==tR.id)=false:=by
  rw[Po];intro x j;rcases(g x).1 j with rfl|h
  ·dsimp only;decide
  ·rcases(f x).1 h with rfl|h
   ·dsimp only;decide
   ·cases h
 unfold ah;rw[i,if_pos US,if_neg US,if_neg O]
theorem zS(d b f:Nat):cD [(b,rN),(f,tR),(d,rO)] 0 0 6 0 85 2 0:=by
 unfold cD;rw[if_pos US];refine⟨N (b,rN),⟨by simp,by dsimp only;decide,λe c a=>?_⟩,rfl,rfl⟩;simp only[Nk,OE,or_false]at c;rcases c with rfl|rfl|rfl
 ·revert a;dsimp only;decide
 ·revert a;dsimp only;decide
 ·revert a;dsimp only;decide
theorem zR(d f b:Nat):cD [(f,rN),(b,tR),(d,rO)] 0 0 6 0 91 3 0:=by
 unfold cD;rw[if_pos US];refine⟨N (b,tR),⟨by simp,by dsimp only;decide,λe c a=>?_⟩,rfl,rfl⟩;simp only[Nk,OE,or_false]at c;rcases c with rfl|rfl|rfl
 ·revert a;dsimp only;decide
 ·revert a;dsimp only;decide
 ·revert a;dsimp only;decide
theorem zQ(b d f:Nat):cD [(d,rN),(f,tR),(b,rO)] 0 0 17 0 91 1 0:=by
 unfold cD;rw[if_pos US];refine⟨N (b,rO),⟨by simp,by dsimp only;decide,λe c a=>?_⟩,rfl,rfl⟩;simp only[Nk,OE,or_false]at c;rcases c with rfl|rfl|rfl
 ·revert a;dsimp only;decide
 ·revert a;dsimp only;decide
 ·revert a;dsimp only;decide
theorem Bv(t:Nat)(c d f g i a b:Int)(w:MV)(F:Nat->Prop)(L:List af)(h:bQ w t F L)(j:cD L c d f g i a b):Mo MT 16 #[MQ (N ⟨t,0,S⟩),M1 #[Q I c,Q I d,Q I f,Q I g,Q I i]] w λe k=>e=MZ (.tuple #[Q I a,Q I b])/\Mb w.heap.size w k:=by
 have:=Fh t c d f g i w F L h;rw[xB j]at this;exact this
theorem BX(w:MV)(Y:cP w):Mo MT 7 #[] w λe W=>e=MZ (M0 true)/\Mb w.heap.size w W:=by
 have Z:=A (oj w Y);clear Y;go_enter func7,ntmps7;go_wp2_with fail
 refine Z.o.mono ?_;rintro e r ⟨t,F,rfl,hT,hF,a2⟩;have C1:aA (Mo MT 15 #[MQ (N ⟨t,0,S⟩),M1 #[Q I 1,Q I 5,Q I 0,Q I 0,Q I 0,Q I 0,Q I 0,Q I 0,Q I 0,Q I 0,Q I 0,Q I 0,Q I 0,Q I 0,Q I 0,Q I 0,Q I 0,Q I 0,Q I 0]] r λe a=>e=MZ (Q I 0)/\go r a t F [] rO):=A (by
  have:=ka t rO r F [] hT;rw[rD]at this;exact this)
 have s:=A hF;have f:=A a2;clear Z hT hF a2;go_wp2_with fail
 refine C1.o.mono ?_;rintro e i ⟨rfl,u,L1,a5,a6,a7,a8⟩;rw[if_pos rD]at a8;obtain⟨j,v,y⟩:=a8;have a9:Mb w.heap.size w i:=f.o.trans (a7.aD f.o.size s.o);have b0:∀x,u x->w.heap.size<=x:=λx d=>(a6 x d).elim (s.o x) λh=>Mx f.o.size h;have C2:aA (Mo MT 15 #[MQ (N ⟨t,0,S⟩),M1 #[Q I 2,Q I 9,Q I 0,Q I 0,Q I 0,Q I 0,Q I 0,Q I 0,Q I 0,Q I 0,Q I 0,Q I 0,Q I 0,Q I 0,Q I 1,Q I 80,Q I 90,Q I 1,Q I 0]] i λe a=>e=MZ (Q I 0)/\go i a t u L1 rN):=A (by
  have:=ka t rN i u L1 a5;rw[rC v y]at this;exact this)
 have z:=A b0;have k:=A a9;have c:=A (And.intro v y);clear C1 a5 a6 a7 v y b0 a9 s f;go_wp2_with fail
 refine C2.o.mono ?_;rintro e l ⟨rfl,B,C,b5,b6,b9,c1⟩;rw[if_pos (rC c.o.1 c.o.2)]at c1;obtain⟨m,D,f5⟩:=c1;have c2:Mb w.heap.size w l:=k.o.trans (b9.aD k.o.size z.o);have c3:∀x,B x->w.heap.size<=x:=λx d=>(b6 x d).elim (z.o x) λh=>Mx k.o.size h;have E:C.length<=2:=by have:=c.o.2;rw[List.length_nil]at this;omega
 have C3:aA (Mo MT 15 #[MQ (N ⟨t,0,S⟩),M1 #[Q I 3,Q I 9,Q I 0,Q I 0,Q I 0,Q I 0,Q I 0,Q I 0,Q I 0,Q I 6,Q I 255,Q I 0,Q I 0,Q I 0,Q I 0,Q I 0,Q I 0,Q I 0,Q I 0]] l λe a=>e=MZ (Q I 0)/\go l a t B C tR):=A (by
  have:=ka t tR l B C b5;rw[rB c.o.1 D E]at this;exact this)
 have G:=A c3;have n:=A c2;have o:=A (And.intro D E);clear C2 b5 b6 b9 D f5 E c3 c2 z k;go_wp2_with fail
 refine C3.o.mono ?_;rintro e w4 ⟨rfl,b,L3,p,c6,c7,c8⟩;rw[if_pos (rB c.o.1 o.o.1 o.o.2)]at c8;obtain⟨q,c9,-⟩:=c8;have f6:=Bu c.o.1 o.o.1 c9 p.jw;have d0:Mb w.heap.size w w4:=n.o.trans (c7.aD n.o.size G.o);have d1:∀x,b x->w.heap.size<=x:=λx d=>(c6 x d).elim (G.o x) λh=>Mx n.o.size h;subst f6;have d2:=A p;have H:=A d0;have d3:=A d1;have C4:=A (Bv t 0 0 6 0 85 2 0 w4 b _ p (zS j m q));clear C3 p c6 c7 c9 d1 d0 G n c o;go_wp2_with fail
 refine C4.o.mono ?_;rintro e w5 ⟨rfl,J⟩;have K:=d2.o.still J;have d5:=H.o.trans (J.mono H.o.size);have C5:=A (Bv t 0 0 6 0 91 3 0 w5 b _ K (zR j m q));have e0:=A K;have L:=A d5;clear C4 J K d5 d2 H;go_wp2_with fail
 refine C5.o.mono ?_;rintro e w6 ⟨rfl,M⟩;have P:=e0.o.still M;have e1:=L.o.trans (M.mono L.o.size);have C6:=A (Bv t 0 0 17 0 91 1 0 w6 b _ P (zQ j m q));have e3:=A P;have R:=A e1;clear C5 M P e1 e0 L;go_wp2_with fail
 refine C6.o.mono ?_;rintro e T ⟨rfl,U⟩;have e4:=e3.o.still U;have e5:=R.o.trans (U.mono R.o.size);have C7:aA (Mo MT 17 #[MQ (N ⟨t,0,S⟩),Q I 9] T λe a=>e=MZ (Q I 7)/\bQ a t b [(m,rN),(q,tR),(j,rO)]/\aH b T a):=A (sJ t 9 T b _ e4);have V:=A e5;clear C6 U e4 e5 e3 R;go_wp2_with fail
 refine C7.o.mono ?_;rintro e w8 ⟨rfl,e7,e8⟩;have f0:=V.o.trans (e8.aD V.o.size d3.o);have C8:=A (sG t w8 b _ e7);have X:=A f0;clear C7 e7 e8 f0 V d3;go_wp2_with fail
 refine C8.o.mono ?_;rintro e w9 ⟨g,g3,rfl,f3,f4⟩;have c0:w9.cell? ⟨g,0,S⟩=N (Q I 2):=by
  have:=f3.cells (g:=g) rfl 0 (Q I 2) rfl;rwa[Addr.add_mid]at this
 have g4:g<w9.heap.size:=MO c0;have g1:=A (X.o.trans (f4.mono X.o.size));clear f3 f4 C8 X;go_wp2;go_ret;exact⟨rfl,g1.o⟩
section
structure jS where
 ki:Int
 oa:Int
 oN:Int
 oM:Int
 oK:Int
 oS:ByteArray
 la:Option Oz
 ll:Nat
 lc:Nat
 r:Rl
 x0:Int
 x1:Int
 x2:Int
 x3:Int
 x4:Int
def Iw(a b c d e:Int)(f:ByteArray)(g:Option Oz)(h i:Nat)(r:Rl)(j k l m n:Int):List Value:=[Q I a,Q I b,Q I c,Q I d,Q I e,MS f,MR g h i,Q I r.id,Q I r.pr,Q I r.k0,Q I r.v0,Q I r.m0,Q I r.k1,Q I r.v1,Q I r.m1,Q I r.k2,Q I r.v2,Q I r.m2,Q I r.k3,Q I r.v3,Q I r.m3,Q I r.k4,Q I r.v4,Q I r.m4,Q I r.ac,Q I r.po,Q I j,Q I k,Q I l,Q I m,Q I n]
def jS.cells(s:jS):List Value:=Iw s.ki s.oa s.oN s.oM s.oK s.oS s.la s.ll s.lc s.r s.x0 s.x1 s.x2 s.x3 s.x4
def KR(s:Nat)(a:Nat->Nat):Prop:=∀x,x<s->a x=4
theorem TS.oX(w:MV)(c:cP w):TS (w.alloc (MY #[MR S 0 0,MR S 0 0,Q I 0,MR S 0 0] 31)) w.heap.size (MR S 0 0) 0 0 (λx=>if x=w.heap.size then 1 else 4):=by
 have e:Mb w.heap.size w (w.alloc (MY #[MR S 0 0,MR S 0 0,Q I 0,MR S 0 0] 31)):=(MU _ w).alloc (MP _) _;have b:(w.alloc (MY #[MR S 0 0,MR S 0 0,Q I 0,MR S 0 0] 31)).rangeAt w.heap.size 0 [MR S 0 0,MR S 0 0,Q I 0,MR S 0 0]:=aN _ _ _;refine⟨MR S 0 0,MR S 0 0,0,[],[],⟨c.iW (aH.aG (X:=λ_=>False) e).block (λ_ h=>h.elim),b 0 _ rfl,b 1 _ rfl,b 2 _ rfl,b 3 _ rfl,⟨_,_,_,rfl⟩,λj=>?_,⟨World.ownsRow_nil _ 1 44 1,λ_=>rfl⟩,⟨World.ownsRow_nil _ 1 78 5,λ_=>rfl⟩,if_pos rfl,λx a=>(by cases a),λx j u a=>(by cases a),λx a=>(by cases a),λi f=>(by cases f),λk g=>(by cases g)⟩,λd l=>(by cases l),MP _,Nat.zero_le _,MP _⟩;have m:=heap_alloc_new w (MY #[MR S 0 0,MR S 0 0,Q I 0,MR S 0 0] 31);show World.frozen? _ ⟨w.heap.size,j,S⟩=false;unfold World.frozen?;rw[m];simp
attribute [local go_sem ↓ high] fJ
end
end Go.Proofs.YtnjalelblbjfiaaGreatDoor
