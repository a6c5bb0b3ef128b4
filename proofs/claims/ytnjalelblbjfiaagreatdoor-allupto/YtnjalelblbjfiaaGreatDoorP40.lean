import Derived.Test.YtnjalelblbjfiaaGreatDoorP39
namespace Go.Proofs.YtnjalelblbjfiaaGreatDoor
set_option maxRecDepth 100000
set_option maxHeartbeats 16000000
open Go.RowKit
open Go.Proofs.Tryz
open Go.Sort (grow)
open And renaming intro→Mp
open Bool renaming true→Mk,false→Md
open Go renaming Value→Ma,World→MV,Calls→Mo,block_lt_of_cell→MO,cell_later→MW,redrawn→NK,below_regrown→NP,wp_region_quiet_below→Mg,wpQuiet_nil→M3
open Go.Ending renaming returned→MZ
open Go.IntKind renaming i64→I
open Go.Obj renaming cells→MY
open Go.Proofs.Tryz renaming prog→MT,func29→Px
open Go.RowKit renaming Below→Mb
open Go.RowKit.Below renaming refl→MU
open Go.Value renaming pointer→MQ,agg→M1,int→Q,string→MS,slice→MR,bool→M0
open Option renaming some→N,none→S
open Or renaming inr→MX,inl→Mf
open Int renaming natCast_nonneg→Ns
open List renaming getElem_mem→Ms
open Nat renaming le_refl→MP
variable {b:ByteArray}{e:Ending}{l p v:Int}{K:List Rt}{c:Ma}{B a o y:Nat}{r:Rl}{x:aK}
section
attribute [local go_sem] Oper.semAt_some aI
section
variable {w W:World}
theorem sW{d:Rt}{r:Int}(h:fD a c K d r w W):aH (λb=>b=a\/c.ownBlock=N b) w W:=by
 unfold fD at h;split at h
 ·obtain⟨_,_,_,_,_,_,_,e⟩:=h;exact e
 ·exact aH.aG h
theorem oh(h:ec a c K p l w W):aH (λb=>b=a\/c.ownBlock=N b) w W:=by
 unfold ec at h;split at h
 ·obtain⟨_,_,_,d⟩:=h;exact d
 ·exact aH.aG h
theorem AU(h:qK y x v b w W):aH (λb=>b=y) w W:=by
 rcases h with⟨-,rfl⟩|⟨-,_,_,h,_⟩
 ·exact aH.refl _ _
 ·exact h
theorem xV(h:jZ y x p l v b w W):aH (λb=>b=y\/x.rv.ownBlock=N b) w W:=by
 rcases h with⟨-,h⟩|⟨-,_,_,h,_⟩
 ·exact aH.aG h
 ·exact h
theorem uI(h:ky y x p l w W):aH (λb=>b=y) w W:=by
 rcases h with⟨-,rfl⟩|⟨-,_,_,h,_⟩
 ·exact aH.refl _ _
 ·exact h
theorem tp{a:List Rl}{x:Int}(h:FK B y o a x w e W):aH (λb=>b=y) w W:=by
 rcases h with⟨-,rfl,-⟩|⟨_,_,_,_,_,_,h,_⟩
 ·exact aH.refl _ _
 ·exact h
theorem Fa{v:Ma}{a:List Rl}(h:uB B y o v a r w e W):aH (λb=>b=y\/v.ownBlock=N b) w W:=by
 rcases h with⟨-,-,h⟩|⟨-,-,-,h⟩|⟨-,-,-,-,h⟩|⟨-,-,-,-,_,_,_,_,_,_,h,_⟩
 ·exact aH.aG h
 ·exact aH.aG h
 ·exact aH.aG h
 ·exact h
theorem DX(h:uA y x r w e W):aH (λb=>b=y\/x.tv.ownBlock=N b) w W:=by
 rcases h with⟨-,-,h⟩|⟨-,h⟩
 ·exact aH.aG h
 ·exact Fa h
end
theorem BR(w:MV)(H i:Nat)(J q K:Ma)(n:Nat)(L:List aL)(s:List aC)(P:List au)(B:Nat->Nat)(M:Int)(oa j oM oK:Int)(k:ByteArray)(la:Option Addr)(ll lc:Nat)(r:Rl)(x0 x1 x2 x3 x4:Int)(h:LW w H J q K n L P B)(hs:LS w q s B M)(hi:i<s.length)(m:s[i].cN):Mo MT 29 #[MQ (N ⟨s[i].p,0,S⟩),M1 #[Q I 8,Q I oa,Q I j,Q I oM,Q I oK,MS k,MR la ll lc,Q I r.id,Q I r.pr,Q I r.k0,Q I r.v0,Q I r.m0,Q I r.k1,Q I r.v1,Q I r.m1,Q I r.k2,Q I r.v2,Q I r.m2,Q I r.k3,Q I r.v3,Q I r.m3,Q I r.k4,Q I r.v4,Q I r.m4,Q I r.ac,Q I r.po,Q I x0,Q I x1,Q I x2,Q I x3,Q I x4]] w λe W=>e=MZ (M0 Mk)/\∃o p,LW W H J q K n L P o/\LS W q (s.set i p) o (M+1000000)/\p.cN/\cz w W B o:=by
 obtain⟨f,R⟩:=UX (w.alloc (MY #[Q I 8,Q I oa,Q I j,Q I oM,Q I oK,MS k,MR la ll lc,Q I r.id,Q I r.pr,Q I r.k0,Q I r.v0,Q I r.m0,Q I r.k1,Q I r.v1,Q I r.m1,Q I r.k2,Q I r.v2,Q I r.m2,Q I r.k3,Q I r.v3,Q I r.m3,Q I r.k4,Q I r.v4,Q I r.m4,Q I r.ac,Q I r.po,Q I x0,Q I x1,Q I x2,Q I x3,Q I x4] 41));obtain⟨a,T⟩:=UX w.heap.size;have U:=UY R;have V:f.rangeAt a 0 [Q I 8,Q I oa,Q I j,Q I oM,Q I oK,MS k,MR la ll lc,Q I r.id,Q I r.pr,Q I r.k0,Q I r.v0,Q I r.m0,Q I r.k1,Q I r.v1,Q I r.m1,Q I r.k2,Q I r.v2,Q I r.m2,Q I r.k3,Q I r.v3,Q I r.m3,Q I r.k4,Q I r.v4,Q I r.m4,Q I r.ac,Q I r.po,Q I x0,Q I x1,Q I x2,Q I x3,Q I x4]:=by rw[R,T];exact aN _ _ _
 have k0:f.cell? ⟨a,0,S⟩=N (Q I 8):=V 0 _ rfl;have k2:f.cell? ⟨a,2,S⟩=N (Q I j):=V 2 _ rfl;have k5:f.cell? ⟨a,5,S⟩=N (MS k):=V 5 _ rfl;have e2:a<f.heap.size:=MO k0;have X:=(h.still U).still ((MU _ f).drew);have C:=(hs.still U).still ((MU _ f).drew);have g:=C.sw i hi;have u:=hs.sw i hi;obtain⟨d,D⟩:=UX (s[i]);rw[<-D]at g u m⊢;have q0:f.cell? ⟨d.p,0,S⟩=N (MQ (N ⟨d.s,0,S⟩)):=g.c0;have q1:f.cell? ⟨d.p,1,S⟩=N (MQ (N ⟨d.y,0,S⟩)):=g.c1;have e3:d.p<f.heap.size:=MO q0;have Y:Mb w.heap.size w f.drew:=U.drew;have v:∀b,(b=d.fm\/d.fsv.ownBlock=N b)->d.bV b:=λb e=>by
  rcases e with e|e
  ·exact MX (MX (MX (MX (MX (MX (Mf e))))))
  ·exact MX (MX (MX (MX (MX (MX (MX (Mf e)))))))
 have x:¬((λb=>b=d.fm\/d.fsv.ownBlock=N b) a):=λe=>by have:=u.imp.lt (v a e);omega
 have E:¬((λb=>b=d.fm\/d.fsv.ownBlock=N b) d.p):=λe=>by have:=g.cI _ (v _ e);rw[g.cp]at this;omega
 obtain⟨y,F⟩:=UX (ku d.x.Fl j k:Int);have CT:aA (Mo MT 73 #[MQ (N ⟨d.s,0,S⟩),Q I j,MS k] f.drew λe l=>e=MZ (Q I y)/\(∃hI:it d.fm d.fsv d.Fs j k f.drew l,True)/\l.cell? ⟨a,2,S⟩=N (Q I j)/\l.cell? ⟨a,5,S⟩=N (MS k)/\l.cell? ⟨d.p,0,S⟩=N (MQ (N ⟨d.s,0,S⟩))/\l.cell? ⟨d.p,1,S⟩=N (MQ (N ⟨d.y,0,S⟩))):=A ((Fq d.s d.fm d.fsv d.Fs j k f.drew g.imp.r.h1 g.imp.r.hF g.imp.r.sF g.imp.r.hH m.f.n).mono λe l Z=>by
  obtain⟨h1,G⟩:=Z;rw[m.f.Ka,<-F]at h1;obtain⟨_,_,_,_,_,_,z,_⟩:=tX g.imp m.f G;exact⟨h1,⟨G,trivial⟩,z.block.cell x k2,z.block.cell x k5,z.block.cell E q0,z.block.cell E q1⟩)
 have c7:=A (Mp X (Mp C (Mp g (Mp u (Mp m (Mp D (Mp Y (Mp v F))))))));have c8:=A T;clear h hs X C g u m D Y U V v x E F;go_enter Px,ntmps29;go_wp2_with fail
 rw[<-R,<-T];clear R T;go_region_held3 (λt=>t.cell? ⟨a,2,S⟩=N (Q I j)/\t.cell? ⟨a,5,S⟩=N (MS k)/\t.cell? ⟨d.p,0,S⟩=N (MQ (N ⟨d.s,0,S⟩))) (go_keep)
  (first|(go_at_call 73;refine CT.o.mono ?_;rintro e l ⟨rfl,⟨hI,-⟩,b2,b5,e4,d1⟩;have HI:=A hI;clear hI))
 clear q0 q1 k0 k2 k5 e2 e3;have CX:aA (Mo MT 74 #[MQ (N ⟨d.y,0,S⟩),Q I j,MS k] l.drew λe W=>e=MZ (Q I y)/\(∃o p,LW W H J q K n L P o/\LS W q (s.set i p) o (M+1000000)/\p.cN/\cz w W B o)/\W.cell? ⟨a,2,S⟩=N (Q I j)/\W.cell? ⟨a,5,S⟩=N (MS k)/\W.cell? ⟨d.p,1,S⟩=N (MQ (N ⟨d.y,0,S⟩))):=A (by
  obtain⟨X,C,g,u,m,D,Y,v,F⟩:=c7.o;have G:=HI.o;obtain⟨_,_,_,_,_,_,z,_⟩:=tX g.imp m.f G;have e5:aT l.drew d.y d.x:=(g.uF z λb hb _=>v b hb).aD ((MU _ l).drew);have e6:∀b,d.x.cR d.y b->b<w.heap.size:=λb hb=>u.ref.AG hb;refine(De d.y d.x j k l.drew e5 (by have:=m.f.n;have:=m.f.p.length_eq;omega)).mono λe W Z=>?_;have c0:=AU Z.2;have mY:∀b,(b=d.y)->d.x.cR d.y b:=λb e=>by
   subst e;exact Mf rfl
  have x:¬((λb=>b=d.y) a):=λe=>by have:=e6 _ (mY _ e);have:=c8.o;omega
  have E:¬((λb=>b=d.y) d.p):=λe=>by have:=g.cX _ (mY _ e);rw[g.cp]at this;omega
  have d5:e=MZ (Q I y)/\∃o p,LW W H J q K n L P o/\LS W q (s.set i p) o (M+1000000)/\p.cN/\cz w W B o:=by
   subst D;obtain⟨h3,h4⟩:=Z;refine⟨h3.trans (by rw[F]),?_⟩;obtain⟨c,p,f1,f2,f3,f4⟩:=Hu X C hi m G ((MU _ l).drew) h4;exact⟨c,p,f1,f2,f3,f4.iF Y⟩
  exact⟨d5.1,d5.2,c0.block.cell x b2,c0.block.cell x b5,c0.block.cell E d1⟩)
 clear HI CT c7 c8;go_wp2_with fail
 go_region_held3 (λt=>t.cell? ⟨a,2,S⟩=N (Q I j)/\t.cell? ⟨a,5,S⟩=N (MS k)/\t.cell? ⟨d.p,1,S⟩=N (MQ (N ⟨d.y,0,S⟩))) (go_keep)
  (first|(go_at_call 74;refine CX.o.mono ?_;rintro e W ⟨rfl,hF,g2,g5,gp⟩;have HF:=A hF;clear hF))
 clear CX e4 d1 gp b2 g2 b5 g5;have CN:=A (eZ y W);go_wp2_with fail
 refine CN.o.mono ?_;rintro e W' ⟨rfl,e1⟩;rw[e1];clear e1 W' CN;go_wp2;go_ret;exact⟨rfl,HF.o⟩
theorem ym(w:MV)(P i:Nat)(R v T:Ma)(n:Nat)(U:List aL)(x:List aC)(V:List au)(E:Nat->Nat)(M:Int)(oa g j k:Int)(l:ByteArray)(la:Option Addr)(ll lc:Nat)(r:Rl)(x0 x1 x2 x3 x4:Int)(h:LW w P R v T n U V E)(hs:LS w v x E M)(hi:i<x.length)(u:x[i].cN):Mo MT 29 #[MQ (N ⟨x[i].p,0,S⟩),M1 #[Q I 9,Q I oa,Q I g,Q I j,Q I k,MS l,MR la ll lc,Q I r.id,Q I r.pr,Q I r.k0,Q I r.v0,Q I r.m0,Q I r.k1,Q I r.v1,Q I r.m1,Q I r.k2,Q I r.v2,Q I r.m2,Q I r.k3,Q I r.v3,Q I r.m3,Q I r.k4,Q I r.v4,Q I r.m4,Q I r.ac,Q I r.po,Q I x0,Q I x1,Q I x2,Q I x3,Q I x4]] w λe W=>e=MZ (M0 Mk)/\∃p s,LW W P R v T n U V p/\LS W v (x.set i s) p (M+1000000)/\s.cN/\cz w W E p:=by
 obtain⟨f,X⟩:=UX (w.alloc (MY #[Q I 9,Q I oa,Q I g,Q I j,Q I k,MS l,MR la ll lc,Q I r.id,Q I r.pr,Q I r.k0,Q I r.v0,Q I r.m0,Q I r.k1,Q I r.v1,Q I r.m1,Q I r.k2,Q I r.v2,Q I r.m2,Q I r.k3,Q I r.v3,Q I r.m3,Q I r.k4,Q I r.v4,Q I r.m4,Q I r.ac,Q I r.po,Q I x0,Q I x1,Q I x2,Q I x3,Q I x4] 41));obtain⟨a,Y⟩:=UX w.heap.size;have Z:=UY X;have z:f.rangeAt a 0 [Q I 9,Q I oa,Q I g,Q I j,Q I k,MS l,MR la ll lc,Q I r.id,Q I r.pr,Q I r.k0,Q I r.v0,Q I r.m0,Q I r.k1,Q I r.v1,Q I r.m1,Q I r.k2,Q I r.v2,Q I r.m2,Q I r.k3,Q I r.v3,Q I r.m3,Q I r.k4,Q I r.v4,Q I r.m4,Q I r.ac,Q I r.po,Q I x0,Q I x1,Q I x2,Q I x3,Q I x4]:=by rw[X,Y];exact aN _ _ _
 have k0:f.cell? ⟨a,0,S⟩=N (Q I 9):=z 0 _ rfl;have k2:f.cell? ⟨a,2,S⟩=N (Q I g):=z 2 _ rfl;have k3:f.cell? ⟨a,3,S⟩=N (Q I j):=z 3 _ rfl;have k4:f.cell? ⟨a,4,S⟩=N (Q I k):=z 4 _ rfl;have k5:f.cell? ⟨a,5,S⟩=N (MS l):=z 5 _ rfl;have e8:a<f.heap.size:=MO k0;have hA:=(h.still Z).still ((MU _ f).drew);have F:=(hs.still Z).still ((MU _ f).drew);have m:=F.sw i hi;have B:=hs.sw i hi;obtain⟨d,G⟩:=UX (x[i]);rw[<-G]at m B u⊢;have q0:f.cell? ⟨d.p,0,S⟩=N (MQ (N ⟨d.s,0,S⟩)):=m.c0;have q1:f.cell? ⟨d.p,1,S⟩=N (MQ (N ⟨d.y,0,S⟩)):=m.c1;have f0:d.p<f.heap.size:=MO q0;have a1:Mb w.heap.size w f.drew:=Z.drew;have C:∀b,(b=d.hb\/d.hsv.ownBlock=N b)->d.bV b:=λb e=>by
  rcases e with e|e
  ·exact MX (MX (MX (MX (MX (MX (MX (MX (MX (MX (MX (Mf e)))))))))))
  ·exact MX (MX (MX (MX (MX (MX (MX (MX (MX (MX (MX (MX e)))))))))))
 have t:¬((λb=>b=d.hb\/d.hsv.ownBlock=N b) a):=λe=>by have:=B.imp.lt (C a e);omega
 have H:¬((λb=>b=d.hb\/d.hsv.ownBlock=N b) d.p):=λe=>by have:=m.cI _ (C _ e);rw[m.cp]at this;omega
 obtain⟨D,J⟩:=UX (gE d.x.Hl g j k l:Int);have CT:aA (Mo MT 75 #[MQ (N ⟨d.s,0,S⟩),Q I g,Q I j,Q I k,MS l] f.drew λe o=>e=MZ (Q I D)/\(∃hI:fD d.hb d.hsv d.R ⟨g,j,k,l⟩ (gZ d.R g j k l) f.drew o,True)/\o.cell? ⟨a,2,S⟩=N (Q I g)/\o.cell? ⟨a,3,S⟩=N (Q I j)/\o.cell? ⟨a,4,S⟩=N (Q I k)/\o.cell? ⟨a,5,S⟩=N (MS l)/\o.cell? ⟨d.p,0,S⟩=N (MQ (N ⟨d.s,0,S⟩))/\o.cell? ⟨d.p,1,S⟩=N (MQ (N ⟨d.y,0,S⟩))):=A ((Dz d.s d.rb d.hb d.hsv d.R g j k l f.drew m.imp.h.h2 m.imp.h.h0 m.imp.h.hM m.imp.h.hS u.h.n).mono λe o hh=>by
  obtain⟨h1,K⟩:=hh;rw[u.h.Ka,<-J]at h1;have y:=sW K;exact⟨h1,⟨K,trivial⟩,y.block.cell t k2,y.block.cell t k3,y.block.cell t k4,y.block.cell t k5,y.block.cell H q0,y.block.cell H q1⟩)
 have d1:=A (Mp hA (Mp F (Mp m (Mp B (Mp u (Mp G (Mp a1 (Mp C J))))))));have d2:=A Y;clear h hs hA F m B u G a1 Z z C t H J;go_enter Px,ntmps29;go_wp2_with fail
 rw[<-X,<-Y];clear X Y;go_region_held3 (λq=>q.cell? ⟨a,2,S⟩=N (Q I g)/\q.cell? ⟨a,3,S⟩=N (Q I j)/\q.cell? ⟨a,4,S⟩=N (Q I k)/\q.cell? ⟨a,5,S⟩=N (MS l)/\q.cell? ⟨d.p,0,S⟩=N (MQ (N ⟨d.s,0,S⟩))) (go_keep)
  (first|(go_at_call 75;refine CT.o.mono ?_;rintro e o ⟨rfl,⟨hI,-⟩,b2,b3,b4,b5,f5,e0⟩;have HI:=A hI;clear hI))
 clear q0 q1 k0 k2 k3 k4 k5 e8 f0;have CX:aA (Mo MT 76 #[MQ (N ⟨d.y,0,S⟩),Q I g,Q I j,Q I k,MS l] o.drew λe W=>e=MZ (Q I D)/\(∃p s,LW W P R v T n U V p/\LS W v (x.set i s) p (M+1000000)/\s.cN/\cz w W E p)/\W.cell? ⟨a,2,S⟩=N (Q I g)/\W.cell? ⟨a,3,S⟩=N (Q I j)/\W.cell? ⟨a,4,S⟩=N (Q I k)/\W.cell? ⟨a,5,S⟩=N (MS l)/\W.cell? ⟨d.p,1,S⟩=N (MQ (N ⟨d.y,0,S⟩))):=A (by
  obtain⟨hA,F,m,B,u,G,a1,C,J⟩:=d1.o;have K:=HI.o;have y:=sW K;have f6:aT o.drew d.y d.x:=(m.uF y λb hb _=>C b hb).aD ((MU _ o).drew);have f7:∀b,d.x.cR d.y b->b<w.heap.size:=λb hb=>B.ref.AG hb;refine(AX d.y d.x g j k l o.drew f6 (by have:=u.h.n;have:=u.h.len;omega)).mono λe W hh=>?_;have L:=xV hh.2;have mY:∀b,(b=d.y\/d.x.rv.ownBlock=N b)->d.x.cR d.y b:=λb e=>by
   rcases e with e|e
   ·exact Mf e
   ·exact MX (MX (MX (Mf e)))
  have t:¬((λb=>b=d.y\/d.x.rv.ownBlock=N b) a):=λe=>by have:=f7 _ (mY _ e);have:=d2.o;omega
  have H:¬((λb=>b=d.y\/d.x.rv.ownBlock=N b) d.p):=λe=>by have:=m.cX _ (mY _ e);rw[m.cp]at this;omega
  have e4:e=MZ (Q I D)/\∃p s,LW W P R v T n U V p/\LS W v (x.set i s) p (M+1000000)/\s.cN/\cz w W E p:=by
   subst G;obtain⟨h3,h4⟩:=hh;refine⟨h3.trans (by rw[J]),?_⟩;obtain⟨c,s,f1,f2,f3,f4⟩:=D7 hA F hi u K ((MU _ o).drew) h4;exact⟨c,s,f1,f2,f3,f4.iF a1⟩
  exact⟨e4.1,e4.2,L.block.cell t b2,L.block.cell t b3,L.block.cell t b4,L.block.cell t b5,L.block.cell H e0⟩)
 clear HI CT d1 d2;go_wp2_with fail
 go_region_held3 (λq=>q.cell? ⟨a,2,S⟩=N (Q I g)/\q.cell? ⟨a,3,S⟩=N (Q I j)/\q.cell? ⟨a,4,S⟩=N (Q I k)/\q.cell? ⟨a,5,S⟩=N (MS l)/\q.cell? ⟨d.p,1,S⟩=N (MQ (N ⟨d.y,0,S⟩))) (go_keep)
  (first|(go_at_call 76;refine CX.o.mono ?_;rintro e W ⟨rfl,hF,g2,g3,g4,g5,gp⟩;have HF:=A hF;clear hF))
 clear CX f5 e0 gp b2 g2 b3 g3 b4 g4 b5 g5;have CN:=A (eZ D W);go_wp2_with fail
 refine CN.o.mono ?_;rintro e W' ⟨rfl,e7⟩;rw[e7];clear e7 W' CN;go_wp2;go_ret;exact⟨rfl,HF.o⟩
theorem uW(w:MV)(H i:Nat)(J p K:Ma)(n:Nat)(L:List aL)(q:List aC)(P:List au)(B:Nat->Nat)(M:Int)(oa j k oK:Int)(oS:ByteArray)(la:Option Addr)(ll lc:Nat)(r:Rl)(x0 x1 x2 x3 x4:Int)(h:LW w H J p K n L P B)(hs:LS w p q B M)(hi:i<q.length)(s:q[i].cN):Mo MT 29 #[MQ (N ⟨q[i].p,0,S⟩),M1 #[Q I 10,Q I oa,Q I j,Q I k,Q I oK,MS oS,MR la ll lc,Q I r.id,Q I r.pr,Q I r.k0,Q I r.v0,Q I r.m0,Q I r.k1,Q I r.v1,Q I r.m1,Q I r.k2,Q I r.v2,Q I r.m2,Q I r.k3,Q I r.v3,Q I r.m3,Q I r.k4,Q I r.v4,Q I r.m4,Q I r.ac,Q I r.po,Q I x0,Q I x1,Q I x2,Q I x3,Q I x4]] w λe W=>e=MZ (M0 Mk)/\∃m o,LW W H J p K n L P m/\LS W p (q.set i o) m (M+1000000)/\o.cN/\cz w W B m:=by
 obtain⟨f,R⟩:=UX (w.alloc (MY #[Q I 10,Q I oa,Q I j,Q I k,Q I oK,MS oS,MR la ll lc,Q I r.id,Q I r.pr,Q I r.k0,Q I r.v0,Q I r.m0,Q I r.k1,Q I r.v1,Q I r.m1,Q I r.k2,Q I r.v2,Q I r.m2,Q I r.k3,Q I r.v3,Q I r.m3,Q I r.k4,Q I r.v4,Q I r.m4,Q I r.ac,Q I r.po,Q I x0,Q I x1,Q I x2,Q I x3,Q I x4] 41));obtain⟨a,T⟩:=UX w.heap.size;have U:=UY R;have V:f.rangeAt a 0 [Q I 10,Q I oa,Q I j,Q I k,Q I oK,MS oS,MR la ll lc,Q I r.id,Q I r.pr,Q I r.k0,Q I r.v0,Q I r.m0,Q I r.k1,Q I r.v1,Q I r.m1,Q I r.k2,Q I r.v2,Q I r.m2,Q I r.k3,Q I r.v3,Q I r.m3,Q I r.k4,Q I r.v4,Q I r.m4,Q I r.ac,Q I r.po,Q I x0,Q I x1,Q I x2,Q I x3,Q I x4]:=by rw[R,T];exact aN _ _ _
 have k0:f.cell? ⟨a,0,S⟩=N (Q I 10):=V 0 _ rfl;have k2:f.cell? ⟨a,2,S⟩=N (Q I j):=V 2 _ rfl;have k3:f.cell? ⟨a,3,S⟩=N (Q I k):=V 3 _ rfl;have e2:a<f.heap.size:=MO k0;have X:=(h.still U).still ((MU _ f).drew);have C:=(hs.still U).still ((MU _ f).drew);have g:=C.sw i hi;have u:=hs.sw i hi;obtain⟨d,D⟩:=UX (q[i]);rw[<-D]at g u s⊢;have q0:f.cell? ⟨d.p,0,S⟩=N (MQ (N ⟨d.s,0,S⟩)):=g.c0;have q1:f.cell? ⟨d.p,1,S⟩=N (MQ (N ⟨d.y,0,S⟩)):=g.c1;have e3:d.p<f.heap.size:=MO q0;have Y:Mb w.heap.size w f.drew:=U.drew;have v:∀b,(b=d.hb\/d.hsv.ownBlock=N b)->d.bV b:=λb e=>by
  rcases e with e|e
  ·exact MX (MX (MX (MX (MX (MX (MX (MX (MX (MX (MX (Mf e)))))))))))
  ·exact MX (MX (MX (MX (MX (MX (MX (MX (MX (MX (MX (MX e)))))))))))
 have x:¬((λb=>b=d.hb\/d.hsv.ownBlock=N b) a):=λe=>by have:=u.imp.lt (v a e);omega
 have E:¬((λb=>b=d.hb\/d.hsv.ownBlock=N b) d.p):=λe=>by have:=g.cI _ (v _ e);rw[g.cp]at this;omega
 obtain⟨y,F⟩:=UX (jN d.x.Hl j k:Int);have CT:aA (Mo MT 77 #[MQ (N ⟨d.s,0,S⟩),Q I j,Q I k] f.drew λe l=>e=MZ (Q I y)/\(∃hI:ec d.hb d.hsv d.R j k f.drew l,True)/\l.cell? ⟨a,2,S⟩=N (Q I j)/\l.cell? ⟨a,3,S⟩=N (Q I k)/\l.cell? ⟨d.p,0,S⟩=N (MQ (N ⟨d.s,0,S⟩))/\l.cell? ⟨d.p,1,S⟩=N (MQ (N ⟨d.y,0,S⟩))):=A ((xu d.s d.rb d.hb d.hsv d.R j k f.drew g.imp.h.h2 g.imp.h.h0 g.imp.h.hM g.imp.h.hS).mono λe l Z=>by
  obtain⟨h1,G⟩:=Z;rw[s.h.KT,<-F]at h1;have z:=oh G;exact⟨h1,⟨G,trivial⟩,z.block.cell x k2,z.block.cell x k3,z.block.cell E q0,z.block.cell E q1⟩)
 have c7:=A (Mp X (Mp C (Mp g (Mp u (Mp s (Mp D (Mp Y (Mp v F))))))));have c8:=A T;clear h hs X C g u s D Y U V v x E F;go_enter Px,ntmps29;go_wp2_with fail
 rw[<-R,<-T];clear R T;go_region_held3 (λt=>t.cell? ⟨a,2,S⟩=N (Q I j)/\t.cell? ⟨a,3,S⟩=N (Q I k)/\t.cell? ⟨d.p,0,S⟩=N (MQ (N ⟨d.s,0,S⟩))) (go_keep)
  (first|(go_at_call 77;refine CT.o.mono ?_;rintro e l ⟨rfl,⟨hI,-⟩,b2,b3,e4,d1⟩;have HI:=A hI;clear hI))
 clear q0 q1 k0 k2 k3 e2 e3;have CX:aA (Mo MT 78 #[MQ (N ⟨d.y,0,S⟩),Q I j,Q I k] l.drew λe W=>e=MZ (Q I y)/\(∃m o,LW W H J p K n L P m/\LS W p (q.set i o) m (M+1000000)/\o.cN/\cz w W B m)/\W.cell? ⟨a,2,S⟩=N (Q I j)/\W.cell? ⟨a,3,S⟩=N (Q I k)/\W.cell? ⟨d.p,1,S⟩=N (MQ (N ⟨d.y,0,S⟩))):=A (by
  obtain⟨X,C,g,u,s,D,Y,v,F⟩:=c7.o;have G:=HI.o;have z:=oh G;have e5:aT l.drew d.y d.x:=(g.uF z λb hb _=>v b hb).aD ((MU _ l).drew);have e6:∀b,d.x.cR d.y b->b<w.heap.size:=λb hb=>u.ref.AG hb;refine(wB d.y d.x j k l.drew e5 (by have:=s.h.n;have:=s.h.len;omega)).mono λe W Z=>?_;have c0:=uI Z.2;have mY:∀b,(b=d.y)->d.x.cR d.y b:=λb e=>by
   subst e;exact Mf rfl
  have x:¬((λb=>b=d.y) a):=λe=>by have:=e6 _ (mY _ e);have:=c8.o;omega
  have E:¬((λb=>b=d.y) d.p):=λe=>by have:=g.cX _ (mY _ e);rw[g.cp]at this;omega
  have d5:e=MZ (Q I y)/\∃m o,LW W H J p K n L P m/\LS W p (q.set i o) m (M+1000000)/\o.cN/\cz w W B m:=by
   subst D;obtain⟨h3,h4⟩:=Z;refine⟨h3.trans (by rw[F]),?_⟩;obtain⟨c,o,f1,f2,f3,f4⟩:=xa X C hi s G ((MU _ l).drew) h4;exact⟨c,o,f1,f2,f3,f4.iF Y⟩
  exact⟨d5.1,d5.2,c0.block.cell x b2,c0.block.cell x b3,c0.block.cell E d1⟩)
 clear HI CT c7 c8;go_wp2_with fail
 go_region_held3 (λt=>t.cell? ⟨a,2,S⟩=N (Q I j)/\t.cell? ⟨a,3,S⟩=N (Q I k)/\t.cell? ⟨d.p,1,S⟩=N (MQ (N ⟨d.y,0,S⟩))) (go_keep)
  (first|(go_at_call 78;refine CX.o.mono ?_;rintro e W ⟨rfl,hF,g2,g3,gp⟩;have HF:=A hF;clear hF))
 clear CX e4 d1 gp b2 g2 b3 g3;have CN:=A (eZ y W);go_wp2_with fail
 refine CN.o.mono ?_;rintro e W' ⟨rfl,e1⟩;rw[e1];clear e1 W' CN;go_wp2;go_ret;exact⟨rfl,HF.o⟩
theorem wl(w:MV)(G i:Nat)(H p J:Ma)(n:Nat)(K:List aL)(q:List aC)(L:List au)(x:Nat->Nat)(M:Int)(oa j oM oK:Int)(oS:ByteArray)(la:Option Addr)(ll lc:Nat)(r:Rl)(x0 x1 x2 x3 x4:Int)(h:LW w G H p J n K L x)(hs:LS w p q x M)(hi:i<q.length)(s:q[i].cN)(hN:(Lit.int I j).wf=Mk):Mo MT 29 #[MQ (N ⟨q[i].p,0,S⟩),M1 #[Q I 12,Q I oa,Q I j,Q I oM,Q I oK,MS oS,MR la ll lc,Q I r.id,Q I r.pr,Q I r.k0,Q I r.v0,Q I r.m0,Q I r.k1,Q I r.v1,Q I r.m1,Q I r.k2,Q I r.v2,Q I r.m2,Q I r.k3,Q I r.v3,Q I r.m3,Q I r.k4,Q I r.v4,Q I r.m4,Q I r.ac,Q I r.po,Q I x0,Q I x1,Q I x2,Q I x3,Q I x4]] w λe W=>e=MZ (M0 Mk)/\∃l o,LW W G H p J n K L l/\LS W p (q.set i o) l (M+1000000)/\o.cN/\cz w W x l:=by
 obtain⟨f,P⟩:=UX (w.alloc (MY #[Q I 12,Q I oa,Q I j,Q I oM,Q I oK,MS oS,MR la ll lc,Q I r.id,Q I r.pr,Q I r.k0,Q I r.v0,Q I r.m0,Q I r.k1,Q I r.v1,Q I r.m1,Q I r.k2,Q I r.v2,Q I r.m2,Q I r.k3,Q I r.v3,Q I r.m3,Q I r.k4,Q I r.v4,Q I r.m4,Q I r.ac,Q I r.po,Q I x0,Q I x1,Q I x2,Q I x3,Q I x4] 41));obtain⟨k,R⟩:=UX w.heap.size;have T:=UY P;have hk:f.rangeAt k 0 [Q I 12,Q I oa,Q I j,Q I oM,Q I oK,MS oS,MR la ll lc,Q I r.id,Q I r.pr,Q I r.k0,Q I r.v0,Q I r.m0,Q I r.k1,Q I r.v1,Q I r.m1,Q I r.k2,Q I r.v2,Q I r.m2,Q I r.k3,Q I r.v3,Q I r.m3,Q I r.k4,Q I r.v4,Q I r.m4,Q I r.ac,Q I r.po,Q I x0,Q I x1,Q I x2,Q I x3,Q I x4]:=by rw[P,R];exact aN _ _ _
 have k0:f.cell? ⟨k,0,S⟩=N (Q I 12):=hk 0 _ rfl;have k2:f.cell? ⟨k,2,S⟩=N (Q I j):=hk 2 _ rfl;have e2:k<f.heap.size:=MO k0;have U:=(h.still T).still ((MU _ f).drew);have y:=(hs.still T).still ((MU _ f).drew);have g:=y.sw i hi;have t:=hs.sw i hi;obtain⟨d,z⟩:=UX (q[i]);rw[<-z]at g t s⊢;have q0:f.cell? ⟨d.p,0,S⟩=N (MQ (N ⟨d.s,0,S⟩)):=g.c0;have q1:f.cell? ⟨d.p,1,S⟩=N (MQ (N ⟨d.y,0,S⟩)):=g.c1;have e3:d.p<f.heap.size:=MO q0;have V:Mb w.heap.size w f.drew:=T.drew;have u:∀b,(d.F b\/b=d.vb)->d.bV b:=λb e=>by
  rcases e with e|e
  ·exact MX (MX (MX (MX (MX (MX (MX (MX (MX (Mf e)))))))))
  ·exact MX (MX (MX (MX (MX (MX (MX (MX (Mf e))))))))
 have X:¬((λb=>d.F b\/b=d.vb) k):=λe=>by have:=t.imp.lt (u k e);omega
 have B:¬((λb=>d.F b\/b=d.vb) d.p):=λe=>by have:=g.cI _ (u _ e);rw[g.cp]at this;omega
 obtain⟨v,C⟩:=UX (if(d.L.any λa=>a.2.id==j)then 0 else 7:Int);have CT:aA (Mo MT 81 #[MQ (N ⟨d.s,0,S⟩),Q I j] f.drew λe m=>e=MZ (Q I v)/\(∃hI:DS d.t d.vb d.F d.L d.V j f.drew m,True)/\m.cell? ⟨k,2,S⟩=N (Q I j)/\m.cell? ⟨d.p,0,S⟩=N (MQ (N ⟨d.s,0,S⟩))/\m.cell? ⟨d.p,1,S⟩=N (MQ (N ⟨d.y,0,S⟩))):=A ((Aw d.s d.t d.vb d.F d.L d.V j f.drew g.imp.r.h3 g.imp.r.hT g.imp.r.h4 g.imp.r.hV hN).mono λe m Y=>by
  obtain⟨h1,D⟩:=Y;rw[<-C]at h1;have E:=D.2.2.1;exact⟨h1,⟨D,trivial⟩,E.block.cell X k2,E.block.cell B q0,E.block.cell B q1⟩)
 have c6:=A (Mp U (Mp y (Mp g (Mp t (Mp s (Mp z (Mp V (Mp u C))))))));have c7:=A R;clear h hs U y g t s z V T hk u X B C;go_enter Px,ntmps29;go_wp2_with fail
 rw[<-P,<-R];clear P R;go_region_held3 (λF=>F.cell? ⟨k,2,S⟩=N (Q I j)/\F.cell? ⟨d.p,0,S⟩=N (MQ (N ⟨d.s,0,S⟩))) (go_keep)
  (first|(go_at_call 81;refine CT.o.mono ?_;rintro e m ⟨rfl,⟨hI,-⟩,b2,e4,c9⟩;have HI:=A hI;clear hI))
 clear q0 q1 k0 k2 e2 e3;have CX:aA (Mo MT 68 #[MQ (N ⟨d.y,3,S⟩),Q I j] m.drew λe W=>e=MZ (Q I v)/\(∃l o,LW W G H p J n K L l/\LS W p (q.set i o) l (M+1000000)/\o.cN/\cz w W x l)/\W.cell? ⟨k,2,S⟩=N (Q I j)/\W.cell? ⟨d.p,1,S⟩=N (MQ (N ⟨d.y,0,S⟩))):=A (by
  obtain⟨U,y,g,t,s,z,V,u,C⟩:=c6.o;have D:=HI.o;have E:=D.2.2.1;have Z:aT m.drew d.y d.x:=(g.uF E λb hb _=>u b hb).aD ((MU _ m).drew);have e5:∀b,d.x.cR d.y b->b<w.heap.size:=λb hb=>t.ref.AG hb;refine(qW 1 d.y 3 d.x.tv d.x.rs j m.drew ⟨Z.c3,Z.frz 3,Z.rt,by rw[s.v.r,List.length_map];exact g.imp.r.hT.AL,O⟩ ⟨O,by have:=Z.lt;omega⟩).mono λe W Y=>?_;have d2:=tp Y;have mY:∀b,(b=d.y)->d.x.cR d.y b:=λb e=>by
   subst e;exact Mf rfl
  have X:¬((λb=>b=d.y) k):=λe=>by have:=e5 _ (mY _ e);have:=c7.o;omega
  have B:¬((λb=>b=d.y) d.p):=λe=>by have:=g.cX _ (mY _ e);rw[g.cp]at this;omega
  have d4:e=MZ (Q I v)/\∃l o,LW W G H p J n K L l/\LS W p (q.set i o) l (M+1000000)/\o.cN/\cz w W x l:=by
   subst z;obtain⟨h3,c,o,f1,f2,f3,f4⟩:=JN U y hi s D ((MU _ m).drew) Y;exact⟨h3.trans (by rw[C]),c,o,f1,f2,f3,f4.iF V⟩
  exact⟨d4.1,d4.2,d2.block.cell X b2,d2.block.cell B c9⟩)
 clear HI CT c6 c7;go_wp2_with fail
 go_region_held3 (λF=>F.cell? ⟨k,2,S⟩=N (Q I j)/\F.cell? ⟨d.p,1,S⟩=N (MQ (N ⟨d.y,0,S⟩))) (go_keep)
  (first|(go_at_call 68;refine CX.o.mono ?_;rintro e W ⟨rfl,hF,g2,gp⟩;have HF:=A hF;clear hF))
 clear CX e4 c9 gp b2 g2;have CN:=A (eZ v W);go_wp2_with fail
 refine CN.o.mono ?_;rintro e W' ⟨rfl,e0⟩;rw[e0];clear e0 W' CN;go_wp2;go_ret;exact⟨rfl,HF.o⟩
theorem rq{g:List Rl}{i j m n a b:Int}(h:qJ g i j l m n a)(o:qJ g i j l m n b):a=b:=by
 rcases h with⟨rfl,d⟩|⟨k,q,rfl,d,r⟩
 ·rcases o with⟨rfl,-⟩|⟨e,p,rfl,c,-⟩
  ·rfl
  ·rw[d _ (Ms p)]at c;cases c
 ·rcases o with⟨rfl,c⟩|⟨e,p,rfl,c,s⟩
  ·rw[c _ (Ms q)]at d;cases d
  ·rcases Nat.lt_trichotomy k e with f|rfl|f
   ·rw[s k f]at d;cases d
   ·rfl
   ·rw[r e f]at c;cases c
theorem pi(a:List Rl)(b c d f g:Int):∃z,qJ a b c d f g z:=by
 cases e:a.findIdx? λr=>r.dX b c d f g with
 |none=>
  refine⟨-1,Mf ⟨rfl,λq h=>?_⟩⟩;exact List.findIdx?_eq_none_iff.1 e q h
 |some k=>
  obtain⟨i,l,m⟩:=List.findIdx?_eq_some_iff_getElem.1 e;exact⟨k,MX ⟨k,i,rfl,l,λj n=>by simpa using m j n⟩⟩
theorem fY.jd{n:Nat}{L:List af}{b:List Rl}{V:Int->Int×Int}(h:fY n L b V)(c:r∈b)(e:r.ac=2):0<=r.po/\r.po<n:=by
 rw[h.r]at c;obtain⟨a,d,rfl⟩:=List.mem_map.1 c;exact h.p a d e
theorem aT.rP{w:MV}(h:aT w y x):∃a b g,x.tv=MR a x.rs.length b/\∀k (c:k<x.rs.length),a=N ⟨g,0,S⟩/\w.cell? ⟨g,k*19+17,S⟩=N (Q I x.rs[k].ac)/\w.cell? ⟨g,k*19+18,S⟩=N (Q I x.rs[k].po):=by
 obtain⟨a,b,g,e,f⟩:=h.rt.row;refine⟨a,b,g,e,λk c=>?_⟩;obtain⟨i,d⟩:=f k c;exact⟨i,d 17 _ rfl,d 18 _ rfl⟩
theorem wD(p5:pZ)(y:Nat)(x:aK)(k:Nat)(d:ByteArray)(f i g a:ByteArray)(c l:Int)(w:MV)(h:aT w y x)(hk:k<x.Q.length)(hT:∀q∈x.Q,q.T.length<1000000000000)(hQ:x.Q.length<=8)(hK:x.K.length<=64)(hs:bZ x.K)(u0:∀e∈x.K,(0<=e.port/\e.port<x.Q.length)/\dH e.mac=Md)(hN:∀q∈x.Q,0<=q.nat/\q.nat<4096)(hd:d.size<=600)(hf:bd d=N ⟨f,i,Mk,c,l,g,a⟩)(hg:dH i=Md)(L:List af)(V:Int->Int×Int)(Fs:List Fc)(R:List Rt)(hF:dD Fs x.Fl)(hH:de R x.Hl)(hV:fY x.Q.length L x.rs V)(hL:cC L)(u8:∀r∈x.rs,r.ok=Mk)(u9:x.rs.length<=200)(RR:Int->List (Int×ByteArray)->List Mc->Prop)(i9:cG (iD x.P k) ⟨f,i,Mk,c,l,g,a⟩=Mk->RR 3 [] x.K)(h3:cG (iD x.P k) ⟨f,i,Mk,c,l,g,a⟩=Md->∀s,dy x.K ⟨eV (iD x.P k) ⟨f,i,Mk,c,l,g,a⟩,i,k,0⟩ s->IX RR x.P L V Fs R s (gI (ja x.P k d ⟨f,i,Mk,c,l,g,a⟩))):Mo MT 71 #[MQ (N ⟨y,0,S⟩),Q I k,MS d] w (gV y x RR w):=by
 obtain⟨z1,z2,z3,z4,z5,z6⟩:=rU hf hd;simp only at z1 z2 z3 z4 z5 z6;obtain⟨pa,J2,pg,v1,v2⟩:=h.jd;obtain⟨rfl,q0,q1,hn⟩:=v2 k hk;have c0:=h.c0;rw[v1]at c0;have K1:=A c0;have D1:=A q0;have D2:=A q1;have q3:=A hn;obtain⟨a1,v4,b1,q4,-⟩:=hn;have HX:=A h;have q5:=x.vh hk;obtain⟨nt,v6⟩:=UX (x.Q[k].nat);obtain⟨T,v7⟩:=UX (x.Q[k].T);have E0:=hN _ (Ms hk);have q6:=hT _ (Ms hk);have v8:ja x.P k d ⟨f,i,Mk,c,l,g,a⟩=⟨k,d,⟨f,i,Mk,c,l,g,a⟩,⟨#[]⟩,0,0,Md,Md⟩:=by
  unfold ja;rw[show((k:Int).toNat)=k from rfl,q5];simp only[eV,ee.FQ,if_true]
 rw[v8]at h3;rw[q5]at i9 h3;simp only[ee.FQ,cG,eV,if_true,Bool.true_and]at i9 h3;rw[<-v6]at E0 D1 q0;rw[<-v7]at i9 h3 q6 q3 q4;rw[q4]at D2 q1 q3;have E1:=A i9;have E3:=A h3;have f2:=A hT;have e3:=A hQ;have f3:=A hK;have g1:=A u0;have E4:=A hs;have Z:=A hF;have h7:=A hH;have v9:=A hV;have E6:=A hL;have F1:=A u8;have F2:=A u9;have HG:=A hg;have F3:=A q6;have g2:(k:Int)<x.Q.length:=O;have K3:¬(k:Int)<0:=O;have L0:¬(x.Q.length:Int)<=k:=O;have L1:(x.Q.length:Int)<=8:=O;have L2:¬(600:Int)<d.size:=O;have L3:(d.size:Int)<=600:=O;have w0:=h.lt;have G1:=A w0;have CC:=ru d w hd;rw[hf]at CC;have w1:=A CC;have HF:=A hf;clear h hT hQ hK hs u0 hN hd hf hg i9 h3 v1 v2 q5 v6 v7 q6 q4 CC v8 hF hH hV hL u8 u9;go_enter func71,ntmps71;go_wp2_with fail
 refine w1.o.mono ?_;rintro e W ⟨⟨cs,rfl,w2⟩,hb⟩;obtain rfl:=w2.2 _ HF.o;simp only[Option.isSome,an];obtain⟨bf,n8⟩:=UX W.heap.size;obtain⟨W1,o0⟩:=UX (W.alloc (MY #[MS f,MS i,Q I c,Q I l,M0 Mk,MS g,MS a] 248));have k9:Mb w.heap.size w W1:=by rw[o0];exact hb.alloc hb.size _
 have f5:W1.heap[bf]?=N (MY #[MS f,MS i,Q I c,Q I l,M0 Mk,MS g,MS a] 248 (0,0)):=by rw[o0,n8];exact aU _ _
 have w3:w.heap.size<=bf:=by rw[n8];exact hb.size
 have w4:=A k9;have w5:=A f5;have f6:=A w3;have w6:=A o0;have w7:=A n8;have CG:=gW i W1 O;rw[HG.o]at CG;have w8:=A CG;have i0:=aB (j:=0) f5 rfl;have i1:=aB (j:=1) f5 rfl;have i2:=aB (j:=2) f5 rfl;have i4:=aB (j:=4) f5 rfl;have x3:=bC f5 2;have q9:=aJ f5;have p0:=MW k9 c0;have p1:=MW k9 q0;have p2:=MW k9 q1;have x5:=MO p0;have x6:=MO p1;clear hb k9 f5 w3 o0 n8 w2 w1 CG c0 q0 q1 w0;go_wp2_with fail
 rw[<-w6.o,<-w7.o];refine w8.o.mono ?_;rintro e W0 ⟨rfl,b3⟩;rw[b3];clear b3 W0 w8;obtain⟨W2,x7⟩:=UX W1;have o1:=w4;have x8:=w5;rw[<-x7]at o1 x8 i0 i1 i2 i4 x3 q9 p0 p1 p2 x5 x6⊢;clear x7 w6 w7 w4 w5;have CI:aA (∀dd os,Mo MT 128 #[MR a1 T.length v4,Q I c] (grow (NK W2 dd) os) λe w'=>e=MZ (M0 (gF T c))/\Mb (grow (NK W2 dd) os).heap.size (grow (NK W2 dd) os) w'):=A λdd os=>(vz T (MR a1 T.length v4) c (grow (NK W2 dd) os) ((q3.o.aD o1.o).aD (NP W2 dd os)) F3.o).mono λe w' hh=>⟨hh.1,hh.2▸MU _ _⟩;obtain⟨tw,r4⟩:=UX (gF T c);rw[<-r4]at CI;have h9:=E1;have l0:=E3;rw[<-r4]at h9 l0;clear r4;go_wp2_with fail
 refine Mg UR UR ?_
 repeat(quiet_step (exact Calls.regrown_of (CI.o _ _)))
 refine M3 ?_;intro wq a8;replace a8:=aE a8;obtain⟨r5,r7⟩:=aW a8;have s0:=a8.size;have s1:=o1.o.trans (a8.mono o1.o.size);have i3:=(a8.block bf q9).trans x8.o;have b4:=A s1;have G6:=A i3;have j2:=aB (j:=2) i3 rfl;have j4:=aB (j:=4) i3 rfl;have j1:=aB (j:=1) i3 rfl;have s2:=aJ i3;have l1:aA (RR 3 [] x.K->gV y x RR w (MZ (.tuple #[MR S 0 0,Q I 3])) wq):=A λhR=>gV.none HX.o hR b4.o;have CL:=A (ro y x c k i wq (HX.o.aD s1) E4.o f3.o);clear a8 r5 r7 s0 s1 i3 i0 i1 i2 i4 x3 q9 p0 p1 p2 x5 x6 CI;cases tw with
 |false=>
  have B:=A (l1.o (h9.o (by first|(rw[Bool.not_false,Bool.or_true])|rfl|(rw[g4];rfl)|exact g4)));clear l1 CL l0 h9;go_wp2;go_ret2;exact B.o
 |true=>
  cases g4:(c==0)with
  |true=>
   have B:=A (l1.o (h9.o (by first|rfl|(rw[g4];rfl)|exact g4)));clear l1 CL l0 h9;go_wp2;go_ret2;exact B.o
  |false=>
   have y4:=A (l0.o (by first|(rw[g4];rfl)|exact g4));clear l1 l0 h9;go_wp2_with fail
   refine CL.o.mono ?_;rintro e W4 ⟨rfl,P,s,hl,s4,s5,y5⟩;have u:=A s4;have c1:=A s5;have a5:=A y5;have a0:=A (y4.o s hl);have C:=A hl;have d4:W4.heap[bf]?=N (MY #[MS f,MS i,Q I c,Q I l,M0 Mk,MS g,MS a] 248 (0,0)):=(s5.block bf s2 (by
    rintro(e|e)
    ·have:=G1.o;have:=f6.o;omega
    ·have:=HX.o.rk.lt e;have:=f6.o;omega)).trans G6.o
   have y7:=A d4;have s6:=A s2;have k0:=aB (j:=0) d4 rfl;have k1:=aB (j:=1) d4 rfl;have k2:=aB (j:=2) d4 rfl;have k3:=aB (j:=3) d4 rfl;have k4:=aB (j:=4) d4 rfl;have k5:=aB (j:=5) d4 rfl;have k6:=aB (j:=6) d4 rfl;have s7:=aJ d4;have y8:=s4.lt;clear hl s4 s5 y5 d4 CL y4 j1 j2 j4 s2 g4;have y9:aA (gI ⟨k,d,⟨f,i,Mk,c,l,g,a⟩,⟨#[]⟩,0,0,Md,Md⟩=if(g.toList==[8,0])=Mk/\jX a=Mk then⟨k,d,⟨f,i,Mk,c,l,g,a⟩,a,cn a,bT a 2,Mk,Md⟩else⟨k,d,⟨f,i,Mk,c,l,g,a⟩,⟨#[]⟩,0,0,Md,Md⟩):=A (by
    unfold gI rz;by_cases h1:(g.toList==[8,0])=Mk
    ·rw[if_pos (show(cj g==2)=Mk by rw[beq_iff_eq,kF];exact h1)];cases h2:jX a with
     |true=>rw[if_pos rfl,if_pos ⟨h1,rfl⟩]
     |false=>rw[if_neg US,if_neg (by rintro⟨-,e⟩;cases e)]
    ·rw[if_neg (show¬(cj g==2)=Mk by rw[beq_iff_eq,kF];exact h1),if_neg (λe=>h1 e.1)])
   rw[y9.o]at a0;clear y9;cases o5:(g.toList==[8,0])with
   |false=>
    rw[if_neg (by rw[o5];rintro⟨e,-⟩;cases e)]at a0;have l2:aA ((cj g==2)=Md):=A (by rw[beq_eq_false_iff_ne,Ne,kF,o5];decide);have d5:=A (a0.o.2 (lX rfl));obtain⟨W5,o6⟩:=UX W4;have n:aA (Mb W4.heap.size W4 W5):=A (by rw[o6];exact MU _ _);have m:=y7;rw[<-o6]at m⊢;clear k0 k1 k2 k3 k4 k6 s7 y8 a0;rw[<-o6]at k5;clear o6;have k0:=aB (j:=0) m.o rfl;have k1:=aB (j:=1) m.o rfl;have k2:=aB (j:=2) m.o rfl;have k3:=aB (j:=3) m.o rfl;have k4:=aB (j:=4) m.o rfl;have k5:=aB (j:=5) m.o rfl;have k6:=aB (j:=6) m.o rfl;have i5:=aJ m.o;have s8:=(u.o.aD n.o).lt;have CF:=eU y {x with kv:=P,K:=s} c W5 (u.o.aD n.o) (by show x.Fl.length<=1000;have:=Z.o.n;have:=Z.o.p.length_eq;omega);obtain⟨U,b0⟩:=UX (cH x.Fl c);rw[show cH ({x with kv:=P,K:=s}:aK).Fl c=U from b0.symm]at CF;have c8:=A CF;have d6:aA (dU Fs ⟨k,d,⟨f,i,Mk,c,l,g,a⟩,⟨#[]⟩,0,0,Md,Md⟩=(f.toList==U.toList)):=A (by rw[b0];exact fT Z.o z1);clear CF b0;go_wp2_with fail
    refine c8.o.mono ?_;rintro e W0 ⟨rfl,b3⟩;rw[b3];clear b3 W0 c8;have c2:=A (d5.o.2 ⟨k,d,⟨f,i,Mk,c,l,g,a⟩,⟨#[]⟩,0,0,Md,Md⟩ (wN l2.o));clear d6;have E:=A (dE y {x with kv:=P,K:=s} ⟨k,d,⟨f,i,Mk,c,l,g,a⟩,⟨#[]⟩,0,0,Md,Md⟩ W5 (u.o.aD n.o) f2.o e3.o (C.o.length f3.o) (λe o=>(C.o.ub o).elim (λe1=>by rw[e1];exact⟨⟨Ns k,g2⟩,HG.o⟩) (λh1=>g1.o e h1)) (by show 0<f.size;omega) z4 z5 (by show f.size+i.size+g.size+a.size<=10000;omega));simp only[an]at E;go_wp2_with fail
    refine E.o.mono ?_;rintro e H ⟨lv,o,b2,J⟩;have D:=c2.o;rw[iP]at o b2;obtain⟨X,F⟩:=UX ((if(mJ x.P s ⟨k,d,⟨f,i,Mk,c,l,g,a⟩,⟨#[]⟩,0,0,Md,Md⟩).length=0 then 8 else 0):Int);rw[<-F]at o D;subst o;have B:=A (dw b4.o c1.o u.o a5.o n.o J b2 D C.o.ne);clear b2 J F D;go_wp2;go_ret2;exact B.o
   |true=>
    have l2:aA ((cj g==2)=Mk):=A (by rw[beq_iff_eq,kF];exact o5);have CR:=A (oe a W4 O);go_wp2_with fail
    refine CR.o.mono ?_;rintro e W5 ⟨rfl,s9⟩;have n:=A s9;have m:=A ((s9.block bf s7).trans y7.o);clear s9 k0 k1 k2 k3 k4 k5 k6 s7 y8 CR;cases o7:jX a with
    |false=>
     rw[if_neg (by rw[o7];rintro⟨-,e⟩;cases e)]at a0;have d5:=A (a0.o.2 (lX rfl));clear a0;have k0:=aB (j:=0) m.o rfl;have k1:=aB (j:=1) m.o rfl;have k2:=aB (j:=2) m.o rfl;have k3:=aB (j:=3) m.o rfl;have k4:=aB (j:=4) m.o rfl;have k5:=aB (j:=5) m.o rfl;have k6:=aB (j:=6) m.o rfl;have i5:=aJ m.o;have s8:=(u.o.aD n.o).lt;have CF:=eU y {x with kv:=P,K:=s} c W5 (u.o.aD n.o) (by show x.Fl.length<=1000;have:=Z.o.n;have:=Z.o.p.length_eq;omega);obtain⟨U,b0⟩:=UX (cH x.Fl c);rw[show cH ({x with kv:=P,K:=s}:aK).Fl c=U from b0.symm]at CF;have c8:=A CF;have d6:aA (dU Fs ⟨k,d,⟨f,i,Mk,c,l,g,a⟩,⟨#[]⟩,0,0,Md,Md⟩=(f.toList==U.toList)):=A (by rw[b0];exact fT Z.o z1);clear CF b0;go_wp2_with fail
     refine c8.o.mono ?_;rintro e W0 ⟨rfl,b3⟩;rw[b3];clear b3 W0 c8;cases f7:(f.toList==U.toList)with
     |false=>
      have c2:=A (d5.o.2 ⟨k,d,⟨f,i,Mk,c,l,g,a⟩,⟨#[]⟩,0,0,Md,Md⟩ (ji (d6.o.trans f7)));have E:=A (dE y {x with kv:=P,K:=s} ⟨k,d,⟨f,i,Mk,c,l,g,a⟩,⟨#[]⟩,0,0,Md,Md⟩ W5 (u.o.aD n.o) f2.o e3.o (C.o.length f3.o) (λe o=>(C.o.ub o).elim (λe1=>by rw[e1];exact⟨⟨Ns k,g2⟩,HG.o⟩) (λh1=>g1.o e h1)) (by show 0<f.size;omega) z4 z5 (by show f.size+i.size+g.size+a.size<=10000;omega));simp only[an]at E;go_wp2_with fail
      refine E.o.mono ?_;rintro e H ⟨lv,o,b2,J⟩;have D:=c2.o;rw[iP]at o b2;obtain⟨X,F⟩:=UX ((if(mJ x.P s ⟨k,d,⟨f,i,Mk,c,l,g,a⟩,⟨#[]⟩,0,0,Md,Md⟩).length=0 then 8 else 0):Int);rw[<-F]at o D;subst o;have B:=A (dw b4.o c1.o u.o a5.o n.o J b2 D C.o.ne);clear b2 J F D;go_wp2;go_ret2;exact B.o
     |true=>
      have f8:iJ Fs R ⟨k,d,⟨f,i,Mk,c,l,g,a⟩,⟨#[]⟩,0,0,Md,Md⟩=jh Fs R ⟨k,d,⟨f,i,Mk,c,l,g,a⟩,⟨#[]⟩,0,0,Md,Md⟩:=lM l2.o (d6.o.trans f7);have c9:=A d5.o;rw[f8]at c9;have CR:=A (iZ p5 y bf {x with kv:=P,K:=s} ⟨k,d,⟨f,i,Mk,c,l,g,a⟩,⟨#[]⟩,0,0,Md,Md⟩ Fs R W5 (u.o.aD n.o) m.o Z.o h7.o (λe=>by cases e));clear f8;go_wp2_with fail
      refine CR.o.mono ?_;rintro e H ⟨r,rfl,F⟩;rcases F with⟨l3,Y,J⟩|⟨rfl,q,Y,G,d0⟩
      ·have z0:(r !=0)=true:=by rw[bne_iff_ne];exact l3
       have B:=A (dl b4.o c1.o u.o a5.o (n.o.trans (J.mono n.o.size)) (c9.o.1 r Y) C.o.ne);clear Y J CR;go_wp2;go_ret2;exact B.o
      ·have v:=sX h7.o Z.o Y;have c2:=A (c9.o.2 q Y);have d1:=aT.DU (u.o.aD n.o) HX.o d0 f6.o (λb hb=>(a5.o b hb).imp id λe=>by have:=s6.o;omega);have E:=A (dE y {x with kv:=P,K:=s} q H d1 f2.o e3.o (C.o.length f3.o) (λe o=>(C.o.ub o).elim (λe1=>by rw[e1];exact⟨⟨Ns k,g2⟩,HG.o⟩) (λh1=>g1.o e h1)) (by rw[v.2.2.1];decide) v.2.2.2.1 (by rw[v.2.2.2.2.1];decide) (by rw[v.2.2.1,v.2.2.2.2.2.1,v.2.2.2.2.2.2.1,v.2.2.2.2.2.2.2];show 6+6+g.size+(⟨#[]⟩:ByteArray).size<=10000;rw[z3];decide));rw[v.1,v.2.1]at E;simp only[an]at E;have l4:=A d1;have l5:=A d0;clear Y v d1 d0 CR k0 k1 k2 k3 k4 k5 k6;have m0:=aB (j:=0) G rfl;have m1:=aB (j:=1) G rfl;have m2:=aB (j:=2) G rfl;have m3:=aB (j:=3) G rfl;have m4:=aB (j:=4) G rfl;have m5:=aB (j:=5) G rfl;have m6:=aB (j:=6) G rfl;clear G;go_wp2_with fail
       refine E.o.mono ?_;rintro e W7 ⟨lv,o,d2,f9⟩;have D:=c2.o;rw[iP]at o d2;obtain⟨X,F⟩:=UX ((if(mJ x.P s q).length=0 then 8 else 0):Int);rw[<-F]at o D;subst o;have B:=A (fA b4.o c1.o l4.o a5.o n.o f6.o l5.o f9 d2 D C.o.ne);clear d2 f9 F D;go_wp2;go_ret2;exact B.o
    |true=>
     obtain⟨t0,B1⟩:=wo o7;rw[if_pos ⟨o5,o7⟩]at a0;have g6:=aB (j:=6) m.o rfl;have gb:=aJ m.o;have gy:=(u.o.aD n.o).lt;have CK:aA (∀dd os,Mo MT 134 #[MS a] (grow (NK W5 dd) os) λe w'=>e=MZ (M1 #[Q I (i7 a 12),Q I (i7 a 16),Q I (b8 a 9),Q I (pB a),Q I (pA a)])/\Mb (grow (NK W5 dd) os).heap.size (grow (NK W5 dd) os) w'):=A λdd os=>xW a _ t0 O B1;obtain⟨z,hz⟩:=pi x.rs (i7 a 12) (i7 a 16) (b8 a 9) (pB a) (pA a);have B4:aA (∀dd os,Mo MT 133 #[MQ (N ⟨y,3,S⟩),M1 #[Q I (i7 a 12),Q I (i7 a 16),Q I (b8 a 9),Q I (pB a),Q I (pA a)]] (grow (NK W5 dd) os) λe w'=>e=MZ (Q I z)/\Mb (grow (NK W5 dd) os).heap.size (grow (NK W5 dd) os) w'):=A λdd os=>by
      have hx:=(u.o.aD n.o).aD (NP W5 dd os);refine(nj 1 y 3 _ _ _ _ _ _ _ _ ⟨hx.c3,hx.frz 3,hx.rt,F2.o,O⟩ F1.o).mono ?_;rintro e w' ⟨⟨z',rfl,H3⟩,hb⟩;rw[rq H3 hz];exact⟨rfl,hb⟩
     have HJ:=A (v9.o.Lr E6.o x.P (p:=⟨k,d,⟨f,i,Mk,c,l,g,a⟩,a,cn a,bT a 2,Mk,Md⟩) rfl hz);go_wp2_with fail
     refine Mg UR UR ?_
     repeat(quiet_step (first|exact Calls.regrown_of (CK.o _ _)|exact Calls.regrown_of (B4.o _ _)))
     refine M3 ?_;intro wq a8;replace a8:=aE a8;obtain⟨r5,r7⟩:=aW a8;have s0:=a8.size;have B5:=A (n.o.trans (a8.mono n.o.size));have B7:=A ((a8.block bf gb).trans m.o);clear a8 r5 r7 s0 g6 gb gy CK B4 n m o7 B1;have n:=B5;have m:=B7;clear B5 B7;rcases hz with⟨rfl,-⟩|⟨kz,t2,rfl,-,-⟩
     ·skip
      have d5:=A (a0.o.2 (HJ.o.1 rfl));clear a0 HJ;have k0:=aB (j:=0) m.o rfl;have k1:=aB (j:=1) m.o rfl;have k2:=aB (j:=2) m.o rfl;have k3:=aB (j:=3) m.o rfl;have k4:=aB (j:=4) m.o rfl;have k5:=aB (j:=5) m.o rfl;have k6:=aB (j:=6) m.o rfl;have i5:=aJ m.o;have s8:=(u.o.aD n.o).lt;have CF:=eU y {x with kv:=P,K:=s} c wq (u.o.aD n.o) (by show x.Fl.length<=1000;have:=Z.o.n;have:=Z.o.p.length_eq;omega);obtain⟨U,b0⟩:=UX (cH x.Fl c);rw[show cH ({x with kv:=P,K:=s}:aK).Fl c=U from b0.symm]at CF;have c8:=A CF;have d6:aA (dU Fs ⟨k,d,⟨f,i,Mk,c,l,g,a⟩,a,cn a,bT a 2,Mk,Md⟩=(f.toList==U.toList)):=A (by rw[b0];exact fT Z.o z1);clear CF b0;go_wp2_with fail
      refine c8.o.mono ?_;rintro e W0 ⟨rfl,b3⟩;rw[b3];clear b3 W0 c8;cases f7:(f.toList==U.toList)with
      |false=>
       have c2:=A (d5.o.2 ⟨k,d,⟨f,i,Mk,c,l,g,a⟩,a,cn a,bT a 2,Mk,Md⟩ (ji (d6.o.trans f7)));have E:=A (dE y {x with kv:=P,K:=s} ⟨k,d,⟨f,i,Mk,c,l,g,a⟩,a,cn a,bT a 2,Mk,Md⟩ wq (u.o.aD n.o) f2.o e3.o (C.o.length f3.o) (λe o=>(C.o.ub o).elim (λe1=>by rw[e1];exact⟨⟨Ns k,g2⟩,HG.o⟩) (λh1=>g1.o e h1)) (by show 0<f.size;omega) z4 z5 (by show f.size+i.size+g.size+a.size<=10000;omega));simp only[an]at E;go_wp2_with fail
       refine E.o.mono ?_;rintro e H ⟨lv,o,b2,J⟩;have D:=c2.o;rw[iP]at o b2;obtain⟨X,F⟩:=UX ((if(mJ x.P s ⟨k,d,⟨f,i,Mk,c,l,g,a⟩,a,cn a,bT a 2,Mk,Md⟩).length=0 then 8 else 0):Int);rw[<-F]at o D;subst o;have B:=A (dw b4.o c1.o u.o a5.o n.o J b2 D C.o.ne);clear b2 J F D;go_wp2;go_ret2;exact B.o
      |true=>
       have f8:iJ Fs R ⟨k,d,⟨f,i,Mk,c,l,g,a⟩,a,cn a,bT a 2,Mk,Md⟩=jh Fs R ⟨k,d,⟨f,i,Mk,c,l,g,a⟩,a,cn a,bT a 2,Mk,Md⟩:=lM l2.o (d6.o.trans f7);have c9:=A d5.o;rw[f8]at c9;have CR:=A (iZ p5 y bf {x with kv:=P,K:=s} ⟨k,d,⟨f,i,Mk,c,l,g,a⟩,a,cn a,bT a 2,Mk,Md⟩ Fs R wq (u.o.aD n.o) m.o Z.o h7.o (λ_=>⟨rfl,t0,by show a.size<=1000;omega⟩));clear f8;go_wp2_with fail
       refine CR.o.mono ?_;rintro e H ⟨r,rfl,F⟩;rcases F with⟨l3,Y,J⟩|⟨rfl,q,Y,G,d0⟩
       ·have z0:(r !=0)=true:=by rw[bne_iff_ne];exact l3
        have B:=A (dl b4.o c1.o u.o a5.o (n.o.trans (J.mono n.o.size)) (c9.o.1 r Y) C.o.ne);clear Y J CR;go_wp2;go_ret2;exact B.o
       ·have v:=sX h7.o Z.o Y;have c2:=A (c9.o.2 q Y);have d1:=aT.DU (u.o.aD n.o) HX.o d0 f6.o (λb hb=>(a5.o b hb).imp id λe=>by have:=s6.o;omega);have E:=A (dE y {x with kv:=P,K:=s} q H d1 f2.o e3.o (C.o.length f3.o) (λe o=>(C.o.ub o).elim (λe1=>by rw[e1];exact⟨⟨Ns k,g2⟩,HG.o⟩) (λh1=>g1.o e h1)) (by rw[v.2.2.1];decide) v.2.2.2.1 (by rw[v.2.2.2.2.1];decide) (by rw[v.2.2.1,v.2.2.2.2.2.1,v.2.2.2.2.2.2.1,v.2.2.2.2.2.2.2];show 6+6+g.size+a.size<=10000;omega));rw[v.1,v.2.1]at E;simp only[an]at E;have l4:=A d1;have l5:=A d0;clear Y v d1 d0 CR k0 k1 k2 k3 k4 k5 k6;have m0:=aB (j:=0) G rfl;have m1:=aB (j:=1) G rfl;have m2:=aB (j:=2) G rfl;have m3:=aB (j:=3) G rfl;have m4:=aB (j:=4) G rfl;have m5:=aB (j:=5) G rfl;have m6:=aB (j:=6) G rfl;clear G;go_wp2_with fail
        refine E.o.mono ?_;rintro e W7 ⟨lv,o,d2,f9⟩;have D:=c2.o;rw[iP]at o d2;obtain⟨X,F⟩:=UX ((if(mJ x.P s q).length=0 then 8 else 0):Int);rw[<-F]at o D;subst o;have B:=A (fA b4.o c1.o l4.o a5.o n.o f6.o l5.o f9 d2 D C.o.ne);clear d2 f9 F D;go_wp2;go_ret2;exact B.o
     ·skip
      obtain⟨ta,L8,tg,C1,C2⟩:=(u.o.aD n.o).rP;obtain⟨C3,o9,l7⟩:=C2 kz t2;have c3:=(u.o.aD n.o).c3;rw[show({x with kv:=P,K:=s}:aK).tv=x.tv from rfl,C1,C3]at c3;have L9:(kz:Int)<x.rs.length:=O;have M4:(0:Int)<=kz:=O;have H4:=MO c3;have H5:=MO o9;have hj:=HJ.o.2 kz t2 rfl;obtain⟨ac,t3⟩:=UX (x.rs[kz].ac);obtain⟨po,t4⟩:=UX (x.rs[kz].po);have l8:ac=2->0<=po/\po<x.Q.length:=λe=>by
       rw[t3]at e;rw[t4];have:=v9.o.jd (Ms t2) e;exact this
      change wq.cell? ⟨tg,kz*19+17,S⟩=N (Q I x.rs[kz].ac)at o9;change wq.cell? ⟨tg,kz*19+18,S⟩=N (Q I x.rs[kz].po)at l7;rw[<-t3]at hj o9;rw[<-t4]at hj l7;have b6:=A hj;clear hj t3 t4 C2 C3 C1 HJ;by_cases i8:ac=1
      ·rw[if_pos i8]at b6;have B:=A (dl b4.o c1.o u.o a5.o n.o (a0.o.1 4 [] b6.o) C.o.ne);subst i8;clear a0 b6 l7 l8;go_wp2;go_ret2;exact B.o
      ·have M6:(ac==1)=false:=by rw[beq_eq_false_iff_ne];exact i8
       rw[if_neg i8]at b6;by_cases g9:ac=2
       ·rw[if_pos g9]at b6;obtain⟨M,rfl⟩:∃M:Nat,po=M:=⟨po.toNat,by have:=l8 g9;omega⟩;have H6:M<x.Q.length:=by have:=l8 g9;omega
        subst g9;have CO:=A (od y M {x with kv:=P,K:=s} c wq (u.o.aD n.o) H6 f2.o e3.o);rw[show({x with kv:=P,K:=s}:aK).P=x.P from rfl]at CO;have k2:=aB (j:=2) m.o rfl;have i5:=aJ m.o;clear i8 l8;go_wp2_with fail
        refine CO.o.mono ?_;rintro e H ⟨rfl,J⟩;have p4:=A (n.o.trans (J.mono n.o.size));have g0:=A ((J.block bf i5).trans m.o);have y6:=MW J c3;clear J CO c3 o9 l7 k2 i5 H4 H5;cases t6:gH (iD x.P M) c with
        |false=>
         have n0:eG x.P ⟨k,d,⟨f,i,Mk,c,l,g,a⟩,a,cn a,bT a 2,Mk,Md⟩ (M:Int)=[]:=by
          unfold eG;rw[if_neg];show¬gH (iD x.P M) c=Mk;rw[t6];decide
         rw[n0]at b6;have B:=A (dl b4.o c1.o u.o a5.o p4.o (a0.o.1 8 [] b6.o) C.o.ne);clear a0 b6 n0;go_wp2;go_ret2;exact B.o
        |true=>
         have n0:eG x.P ⟨k,d,⟨f,i,Mk,c,l,g,a⟩,a,cn a,bT a 2,Mk,Md⟩ (M:Int)=jE x.P ⟨f,i,Mk,c,l,g,a⟩ [(M:Int)]:=by
          unfold eG;rw[if_pos]
          ·rfl
          ·exact t6
         rw[n0]at b6;have H7:aA (RR 0 (jE x.P ⟨f,i,Mk,c,l,g,a⟩ [(M:Int)]) s):=A (a0.o.1 0 _ b6.o);have E:aA (Mo MT 136 #[MQ (N ⟨y,0,S⟩),M1 (an ⟨f,i,Mk,c,l,g,a⟩),MR (N ⟨H.heap.size,0,S⟩) 1 1] (H.alloc (MY #[Q I M] 3)) λe w'=>∃lv,e=MZ (.tuple #[lv,Q I 0])/\aX eY (H.alloc (MY #[Q I M] 3)).heap.size w' 66 2 lv (jE x.P ⟨f,i,Mk,c,l,g,a⟩ [(M:Int)])/\Mb (H.alloc (MY #[Q I M] 3)).heap.size (H.alloc (MY #[Q I M] 3)) w'):=A (by
          have H8:Mb H.heap.size H (H.alloc (MY #[Q I M] 3)):=(MU _ H).alloc (MP _) _;have hn:ir (H.alloc (MY #[Q I M] 3)) (MR (N ⟨H.heap.size,0,S⟩) 1 1) [(M:Int)]:=⟨_,_,H.heap.size,rfl,λj hj=>by
           have:j=0:=by simp at hj;exact hj
           subst this;exact⟨rfl,aB (aU _ _) rfl⟩⟩
          have hx:=mM y {x with kv:=P,K:=s} ⟨f,i,Mk,c,l,g,a⟩ [(M:Int)] (MR (N ⟨H.heap.size,0,S⟩) 1 1) (H.alloc (MY #[Q I M] 3)) ((u.o.aD p4.o).aD H8) hn (λt ht=>by rw[List.mem_singleton]at ht;subst ht;show 0<=(M:Int)/\(M:Int)<x.Q.length;omega) (by simp) e3.o z4 z5 (by show f.size+i.size+g.size+a.size<=10000;omega);exact hx)
         simp only[an]at E;have j0:=aB (j:=0) g0.o rfl;have j1:=aB (j:=1) g0.o rfl;have j2:=aB (j:=2) g0.o rfl;have j3:=aB (j:=3) g0.o rfl;have j4:=aB (j:=4) g0.o rfl;have j5:=aB (j:=5) g0.o rfl;have j6:=aB (j:=6) g0.o rfl;have P0:=aJ g0.o;have J0:aA (Mb W4.heap.size W4 (H.alloc (MY #[Q I M] 3))):=A (p4.o.alloc p4.o.size _);clear a0 b6 n0 t6;go_wp2_with fail
         refine E.o.mono ?_;rintro e W8 ⟨lv,rfl,C5,C6⟩;have B:=A (dw b4.o c1.o u.o a5.o J0.o C6 C5 H7.o C.o.ne);clear C5 C6;go_wp2;go_ret2;exact B.o
       ·have P3:(ac==2)=false:=by rw[beq_eq_false_iff_ne];exact g9
        rw[if_neg g9]at b6;have d5:=A (a0.o.2 b6.o);clear a0 b6 l7 l8 i8 g9;have k0:=aB (j:=0) m.o rfl;have k1:=aB (j:=1) m.o rfl;have k2:=aB (j:=2) m.o rfl;have k3:=aB (j:=3) m.o rfl;have k4:=aB (j:=4) m.o rfl;have k5:=aB (j:=5) m.o rfl;have k6:=aB (j:=6) m.o rfl;have i5:=aJ m.o;have s8:=(u.o.aD n.o).lt;have CF:=eU y {x with kv:=P,K:=s} c wq (u.o.aD n.o) (by show x.Fl.length<=1000;have:=Z.o.n;have:=Z.o.p.length_eq;omega);obtain⟨U,b0⟩:=UX (cH x.Fl c);rw[show cH ({x with kv:=P,K:=s}:aK).Fl c=U from b0.symm]at CF;have c8:=A CF;have d6:aA (dU Fs ⟨k,d,⟨f,i,Mk,c,l,g,a⟩,a,cn a,bT a 2,Mk,Md⟩=(f.toList==U.toList)):=A (by rw[b0];exact fT Z.o z1);clear CF b0;go_wp2_with fail
        refine c8.o.mono ?_;rintro e W0 ⟨rfl,b3⟩;rw[b3];clear b3 W0 c8;cases f7:(f.toList==U.toList)with
        |false=>
         have c2:=A (d5.o.2 ⟨k,d,⟨f,i,Mk,c,l,g,a⟩,a,cn a,bT a 2,Mk,Md⟩ (ji (d6.o.trans f7)));have E:=A (dE y {x with kv:=P,K:=s} ⟨k,d,⟨f,i,Mk,c,l,g,a⟩,a,cn a,bT a 2,Mk,Md⟩ wq (u.o.aD n.o) f2.o e3.o (C.o.length f3.o) (λe o=>(C.o.ub o).elim (λe1=>by rw[e1];exact⟨⟨Ns k,g2⟩,HG.o⟩) (λh1=>g1.o e h1)) (by show 0<f.size;omega) z4 z5 (by show f.size+i.size+g.size+a.size<=10000;omega));simp only[an]at E;go_wp2_with fail
         refine E.o.mono ?_;rintro e H ⟨lv,o,b2,J⟩;have D:=c2.o;rw[iP]at o b2;obtain⟨X,F⟩:=UX ((if(mJ x.P s ⟨k,d,⟨f,i,Mk,c,l,g,a⟩,a,cn a,bT a 2,Mk,Md⟩).length=0 then 8 else 0):Int);rw[<-F]at o D;subst o;have B:=A (dw b4.o c1.o u.o a5.o n.o J b2 D C.o.ne);clear b2 J F D;go_wp2;go_ret2;exact B.o
        |true=>
         have f8:iJ Fs R ⟨k,d,⟨f,i,Mk,c,l,g,a⟩,a,cn a,bT a 2,Mk,Md⟩=jh Fs R ⟨k,d,⟨f,i,Mk,c,l,g,a⟩,a,cn a,bT a 2,Mk,Md⟩:=lM l2.o (d6.o.trans f7);have c9:=A d5.o;rw[f8]at c9;have CR:=A (iZ p5 y bf {x with kv:=P,K:=s} ⟨k,d,⟨f,i,Mk,c,l,g,a⟩,a,cn a,bT a 2,Mk,Md⟩ Fs R wq (u.o.aD n.o) m.o Z.o h7.o (λ_=>⟨rfl,t0,by show a.size<=1000;omega⟩));clear f8;go_wp2_with fail
         refine CR.o.mono ?_;rintro e H ⟨r,rfl,F⟩;rcases F with⟨l3,Y,J⟩|⟨rfl,q,Y,G,d0⟩
         ·have z0:(r !=0)=true:=by rw[bne_iff_ne];exact l3
          have B:=A (dl b4.o c1.o u.o a5.o (n.o.trans (J.mono n.o.size)) (c9.o.1 r Y) C.o.ne);clear Y J CR;go_wp2;go_ret2;exact B.o
         ·have v:=sX h7.o Z.o Y;have c2:=A (c9.o.2 q Y);have d1:=aT.DU (u.o.aD n.o) HX.o d0 f6.o (λb hb=>(a5.o b hb).imp id λe=>by have:=s6.o;omega);have E:=A (dE y {x with kv:=P,K:=s} q H d1 f2.o e3.o (C.o.length f3.o) (λe o=>(C.o.ub o).elim (λe1=>by rw[e1];exact⟨⟨Ns k,g2⟩,HG.o⟩) (λh1=>g1.o e h1)) (by rw[v.2.2.1];decide) v.2.2.2.1 (by rw[v.2.2.2.2.1];decide) (by rw[v.2.2.1,v.2.2.2.2.2.1,v.2.2.2.2.2.2.1,v.2.2.2.2.2.2.2];show 6+6+g.size+a.size<=10000;omega));rw[v.1,v.2.1]at E;simp only[an]at E;have l4:=A d1;have l5:=A d0;clear Y v d1 d0 CR k0 k1 k2 k3 k4 k5 k6;have m0:=aB (j:=0) G rfl;have m1:=aB (j:=1) G rfl;have m2:=aB (j:=2) G rfl;have m3:=aB (j:=3) G rfl;have m4:=aB (j:=4) G rfl;have m5:=aB (j:=5) G rfl;have m6:=aB (j:=6) G rfl;clear G;go_wp2_with fail
          refine E.o.mono ?_;rintro e W7 ⟨lv,o,d2,f9⟩;have D:=c2.o;rw[iP]at o d2;obtain⟨X,F⟩:=UX ((if(mJ x.P s q).length=0 then 8 else 0):Int);rw[<-F]at o D;subst o;have B:=A (fA b4.o c1.o l4.o a5.o n.o f6.o l5.o f9 d2 D C.o.ne);clear d2 f9 F D;go_wp2;go_ret2;exact B.o
end
end Go.Proofs.YtnjalelblbjfiaaGreatDoor
