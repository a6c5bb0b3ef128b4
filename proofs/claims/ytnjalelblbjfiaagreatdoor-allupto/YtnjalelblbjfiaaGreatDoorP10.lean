import Derived.Test.YtnjalelblbjfiaaGreatDoorP9
import Derived.Deep.WholeRow
namespace Go.Proofs.YtnjalelblbjfiaaGreatDoor
set_option maxRecDepth 100000
set_option maxHeartbeats 16000000
open Go.RowKit
open Go.Proofs.Tryz
open Go.Sort (grow)
open Go renaming Value→Ma,TypeId→NL,World→MV,block_lt_of_cell→MO,run_loadAt_mid→NW,wp_region_quiet_below→Mg,wpQuiet_nil→M3,run_storeAt_mid→QQ,binOp→Tt,cell_later→MW
open Go.IntKind renaming i64→I,wrap_i64→Mm
open Go.Obj renaming cells→MY
open Go.Proofs.Tryz renaming prog→MT
open Go.RowKit.Below renaming refl→MU
open Go.Value renaming pointer→MQ,agg→M1,int→Q,slice→MR,string→MS,bool→M0
open List renaming getElem_mem→Ms,length_set→Mw,getElem_set_self→Nt,getElem_set_ne→Rz
open Nat renaming le_refl→MP,lt_irrefl→Ry
open Option renaming none→S,some→N
variable {c:List Ma}{W d w:MV}{v:Ma}{t:NL}{a b g o s x:Nat}
section
def kZ(v:Ma):Sem Value:=Instr.loadAt 37 v
theorem ia(v:Ma):Instr.loadAt 37 v=kZ v:=rfl
def pj(p v:Ma):Sem Unit:=Instr.storeAt 37 p v
theorem qT(p v:Ma):Instr.storeAt 37 p v=pj p v:=rfl
def nl(a:Array NL)(b:NL)(c:Array Ma):Sem Next:=do pure (.value (<-Builtin.append_ a b c))
theorem fj(a:Array NL)(b:NL)(d:Array Bool)(c:Array Ma):builtin .append a b d c=nl a b c:=rfl
theorem e9{P:Program}{a:Array NL}{b:NL}{c:Array Ma}(h:(Builtin.append_ a b c).run P w=.ok v d):(nl a b c).run P w=.ok (.value v) d:=by
 simp[nl,h,Result.andThen]
theorem wS{d:List Ma}(e:b≠g)(h:W.rangeAt b a d):(W.setCells g o c).drew.rangeAt b a d:=λi u f=>(aV c o W ⟨b,a+i,S⟩ e).1.trans (h i u f)
theorem zj(d:b≠g)(h:W.cell? ⟨b,a,S⟩=N v):(W.drew.setCells g o c).cell? ⟨b,a,S⟩=N v:=(aV c o W.drew ⟨b,a,S⟩ d).1.trans h
theorem Ah{n:Nat}(h:W.there g o n):W.drew.there g o n:=h
theorem zr{B y j:Nat}{a:List Rl}{r q:Rl}{c:MV}(h:fG B y o g b a r w (j+1) W)(f:j+1<=a.length)(i:q=a[j]'O)(k:r.al q=true)(l:c=W.setCells g ((j+1)*19) q.cells.toList)(m:d=c.drew.setCells g (j*19) r.cells.toList):fG B y o g b a r w j d:=by
 subst i;have e:=h.Jv f k;rw[<-l]at e;rw[m,gK];exact e.aD (MU _ _).drew
attribute [local go_sem] Oper.semAt_some aI
attribute [local go_sem high] tj
attribute [local go_sem ↓ high] ia qT fj
theorem qV(B y o:Nat)(v:Ma)(c:List Rl)(r:Rl)(w:MV)(h:iB B w y o v c)(hB:0<B/\B<=w.heap.size):Calls MT 67 #[MQ (N ⟨y,o,S⟩),M1 #[Q I r.id,Q I r.pr,Q I r.k0,Q I r.v0,Q I r.m0,Q I r.k1,Q I r.v1,Q I r.m1,Q I r.k2,Q I r.v2,Q I r.m2,Q I r.k3,Q I r.v3,Q I r.m3,Q I r.k4,Q I r.v4,Q I r.m4,Q I r.ac,Q I r.po]] w (uB B y o v c r w):=by
 obtain⟨p,s,t⟩:=dJ;have h0:=h.1;have K:=MO h0;have a9:Below w.heap.size w (w.alloc (MY #[Q I r.id,Q I r.pr,Q I r.k0,Q I r.v0,Q I r.m0,Q I r.k1,Q I r.v1,Q I r.m1,Q I r.k2,Q I r.v2,Q I r.m2,Q I r.k3,Q I r.v3,Q I r.m3,Q I r.k4,Q I r.v4,Q I r.m4,Q I r.ac,Q I r.po] 37)):=(MU _ w).alloc (MP _) _;have CR:=A (qU r (w.alloc (MY #[Q I r.id,Q I r.pr,Q I r.k0,Q I r.v0,Q I r.m0,Q I r.k1,Q I r.v1,Q I r.m1,Q I r.k2,Q I r.v2,Q I r.m2,Q I r.k3,Q I r.v3,Q I r.m3,Q I r.k4,Q I r.v4,Q I r.m4,Q I r.ac,Q I r.po] 37)));have X:(w.alloc (MY #[Q I r.id,Q I r.pr,Q I r.k0,Q I r.v0,Q I r.m0,Q I r.k1,Q I r.v1,Q I r.m1,Q I r.k2,Q I r.v2,Q I r.m2,Q I r.k3,Q I r.v3,Q I r.m3,Q I r.k4,Q I r.v4,Q I r.m4,Q I r.ac,Q I r.po] 37)).rangeAt w.heap.size 0 [Q I r.id,Q I r.pr,Q I r.k0,Q I r.v0,Q I r.m0,Q I r.k1,Q I r.v1,Q I r.m1,Q I r.k2,Q I r.v2,Q I r.m2,Q I r.k3,Q I r.v3,Q I r.m3,Q I r.k4,Q I r.v4,Q I r.m4,Q I r.ac,Q I r.po]:=aN _ _ _;have f0:(kZ (MQ (N ⟨w.heap.size,0,S⟩))).run MT (w.alloc (MY #[Q I r.id,Q I r.pr,Q I r.k0,Q I r.v0,Q I r.m0,Q I r.k1,Q I r.v1,Q I r.m1,Q I r.k2,Q I r.v2,Q I r.m2,Q I r.k3,Q I r.v3,Q I r.m3,Q I r.k4,Q I r.v4,Q I r.m4,Q I r.ac,Q I r.po] 37))=.ok (M1 #[Q I r.id,Q I r.pr,Q I r.k0,Q I r.v0,Q I r.m0,Q I r.k1,Q I r.v1,Q I r.m1,Q I r.k2,Q I r.v2,Q I r.m2,Q I r.k3,Q I r.v3,Q I r.m3,Q I r.k4,Q I r.v4,Q I r.m4,Q I r.ac,Q I r.po]) (w.alloc (MY #[Q I r.id,Q I r.pr,Q I r.k0,Q I r.v0,Q I r.m0,Q I r.k1,Q I r.v1,Q I r.m1,Q I r.k2,Q I r.v2,Q I r.m2,Q I r.k3,Q I r.v3,Q I r.m3,Q I r.k4,Q I r.v4,Q I r.m4,Q I r.ac,Q I r.po] 37)):=NW _ w.heap.size 0 37 [Q I r.id,Q I r.pr,Q I r.k0,Q I r.v0,Q I r.m0,Q I r.k1,Q I r.v1,Q I r.m1,Q I r.k2,Q I r.v2,Q I r.m2,Q I r.k3,Q I r.v3,Q I r.m3,Q I r.k4,Q I r.v4,Q I r.m4,Q I r.ac,Q I r.po] p X s t ay;have HH:=A h;have HB:=A hB;have b4:=A a9;have b5:=A X;clear h hB a9 X;go_enter func67,ntmps67;go_wp2_with fail
 refine CR.o.mono ?_;rintro e n ⟨rfl,L⟩;have b6:=L.size;rw[World.size_alloc]at b6;have b9:Below w.heap.size w n:=b4.o.trans (L.mono (by simp));have Y:n.rangeAt w.heap.size 0 [Q I r.id,Q I r.pr,Q I r.k0,Q I r.v0,Q I r.m0,Q I r.k1,Q I r.v1,Q I r.m1,Q I r.k2,Q I r.v2,Q I r.m2,Q I r.k3,Q I r.v3,Q I r.m3,Q I r.k4,Q I r.v4,Q I r.m4,Q I r.ac,Q I r.po]:=aO b5.o L;have x:=A b9;have c1:=A Y;have c0:n.cell? ⟨w.heap.size,0,S⟩=N (Q I r.id):=bz Y;clear L b9 Y b4 b5 CR f0;cases M:r.ok with
 |false=>
  have C:=A M;clear M;go_wp2;go_ret;exact .inl ⟨rfl,C.o,x.o⟩
 |true=>
  have C:=A M;have f:=A (HH.o.aD x.o);have CF:=A (rn B y o v c r.id n f.o);have f1:w.heap.size<n.heap.size:=MO c0;clear M;go_wp2_with fail
  refine CF.o.mono ?_;rintro e W ⟨c4,z,rfl,hz⟩;rw[c4];clear c4 W CF;rcases hz with⟨rfl,c5⟩|⟨k,l,rfl,c6,-⟩
  ·have Z:=A c5;clear c5;obtain⟨a1,h6,g1,hv,_⟩:=f.o.slice;have D:=f.o.1;have kf:=f.o.2.1;have c9:=MO D;have f3:=f.o.2.2.2.1;by_cases d0:200<=c.length
   ·have f4:(200:Int)<=c.length:=by omega
    have HF:=A d0;subst hv;clear d0;go_wp2;go_ret;exact .inr (.inr (.inl ⟨rfl,C.o,Z.o,HF.o,x.o⟩))
   ·have f4:¬(200:Int)<=c.length:=by omega
    have f6:(kZ (MQ (N ⟨w.heap.size,0,S⟩))).run MT n.drew=.ok (M1 #[Q I r.id,Q I r.pr,Q I r.k0,Q I r.v0,Q I r.m0,Q I r.k1,Q I r.v1,Q I r.m1,Q I r.k2,Q I r.v2,Q I r.m2,Q I r.k3,Q I r.v3,Q I r.m3,Q I r.k4,Q I r.v4,Q I r.m4,Q I r.ac,Q I r.po]) n.drew:=NW n.drew w.heap.size 0 37 [Q I r.id,Q I r.pr,Q I r.k0,Q I r.v0,Q I r.m0,Q I r.k1,Q I r.v1,Q I r.m1,Q I r.k2,Q I r.v2,Q I r.m2,Q I r.k3,Q I r.v3,Q I r.m3,Q I r.k4,Q I r.v4,Q I r.m4,Q I r.ac,Q I r.po] p c1.o s t ay;obtain⟨g,u,w9,d2,d3,P,d4⟩:=AA (r:=r) f.o.2.2.1 (by have:=HB.o.2;omega) O;have f7:=e9 d2;have y9:=P.block.cell (f.o.ne) D;have f9:w9.frozen? ⟨y,o,S⟩=false:=(World.frozen?_of_block (a:=⟨y,o,S⟩) (P.block y c9 f.o.ne)).trans kf;have f8:=MO y9;subst hv;have BS:=A (fG.oX f.o.2.2.2.2 d3 y9 f9);have e0:=A λ(i:Nat) (W:MV)=>uB.AN (B:=B) (y:=y) (o:=o) (i:=i) (W:=W) (cap:=u) f.o.2.2.2.2 K f.o.ne O C.o Z.o x.o P d4;clear d2 d3 P d4 HH HB x c1 C f Z f3;go_wp2_with fail
    go_region
    have b0:=BS.o.cell;have g0:=MO b0;go_wp2_with fail
    generalize w9.setCell ⟨y,o,S⟩ (MR (N ⟨g,0,S⟩) (c.length+1) u)=W2 at*;clear f6 f7 y9 f9 f8 b0 g0 h0 K c0 f1 D kf c9 b6;go_loopw [7] (λi wr=>∃k:Nat,k<=c.length/\i=Q I k/\fG B y o g u c r W2 k wr) (λi _=>(intOf i).toNat)
    case atStart=>exact⟨c.length,MP _,rfl,BS.o⟩
    case round=>
     obtain⟨k,l,rfl,e3⟩:=hrel;have E:=A e3;clear e3;cases k with
     |zero=>
      go_wp2;go_ret;exact e0.o 0 wr E.o (Nat.zero_le _) (λh=>absurd h (Ry 0))
     |succ j=>
      obtain⟨q,hq⟩:=UX (c[j]'O);have a3:wr.rangeAt g ((j+1)*19) [Q I r.id,Q I r.pr,Q I r.k0,Q I r.v0,Q I r.m0,Q I r.k1,Q I r.v1,Q I r.m1,Q I r.k2,Q I r.v2,Q I r.m2,Q I r.k3,Q I r.v3,Q I r.m3,Q I r.k4,Q I r.v4,Q I r.m4,Q I r.ac,Q I r.po]:=E.o.range l;have e4:wr.rangeAt g (j*19) [Q I q.id,Q I q.pr,Q I q.k0,Q I q.v0,Q I q.m0,Q I q.k1,Q I q.v1,Q I q.m1,Q I q.k2,Q I q.v2,Q I q.m2,Q I q.k3,Q I q.v3,Q I q.m3,Q I q.k4,Q I q.v4,Q I q.m4,Q I q.ac,Q I q.po]:=by have:=E.o.re l;rw[<-hq]at this;exact this
      have D:=E.o.cell;have K:y<wr.heap.size:=MO D;have g2:g<wr.heap.size:=MO (bz a3);have h8:(j:Int)+1<c.length+1:=O;have h9:(j:Int)<c.length:=O;have i0:j<c.length:=O;have i1:(0:Int)<=(j:Int)+1:=O;have g3:j<=c.length:=O;have i2:(j:Int)<=c.length:=O;have i3:j<c.length+1:=O;have i4:IntKind.i64.wrap (j:Int)=j:=by rw[Mm];omega
      have i5:¬(j:Int)+1<0:=O;have i6:(j:Int)<c.length+1:=O;have i8:c.length<=200:=O;have CA:=A λd os=>AV r q (grow (redrawn wr d) os);have R:=A hq;clear hq;go_wp2_with fail
      refine Mg UR UR ?_
      repeat(first|(refine cA rfl 37 _ rfl g ((j+1)*19) rfl [Q I r.id,Q I r.pr,Q I r.k0,Q I r.v0,Q I r.m0,Q I r.k1,Q I r.v1,Q I r.m1,Q I r.k2,Q I r.v2,Q I r.m2,Q I r.k3,Q I r.v3,Q I r.m3,Q I r.k4,Q I r.v4,Q I r.m4,Q I r.ac,Q I r.po] p (λw' h=>dQ a3 h) s t ay ?_)|(refine cA rfl 37 _ rfl g (j*19) rfl [Q I q.id,Q I q.pr,Q I q.k0,Q I q.v0,Q I q.m0,Q I q.k1,Q I q.v1,Q I q.m1,Q I q.k2,Q I q.v2,Q I q.m2,Q I q.k3,Q I q.v3,Q I q.m3,Q I q.k4,Q I q.v4,Q I q.m4,Q I q.ac,Q I q.po] p (λw' h=>dQ e4 h) s t ay ?_)|quiet_step (exact Calls.regrown_of (CA.o _ _)))
      refine M3 ?_;intro b F;replace F:=aE F;obtain⟨g6,g7⟩:=aW F;have g8:=F.size;have G:=A (E.o.aD F);have kq:b.cell? ⟨y,o,S⟩=N (MR (N ⟨g,0,S⟩) (c.length+1) u):=G.o.cell;have i9:y<b.heap.size:=MO kq;have a4:b.rangeAt g ((j+1)*19) [Q I r.id,Q I r.pr,Q I r.k0,Q I r.v0,Q I r.m0,Q I r.k1,Q I r.v1,Q I r.m1,Q I r.k2,Q I r.v2,Q I r.m2,Q I r.k3,Q I r.v3,Q I r.m3,Q I r.k4,Q I r.v4,Q I r.m4,Q I r.ac,Q I r.po]:=G.o.range l;clear a3 e4 D K g2 g6 g7 g8 F CA E;cases T:r.al q with
      |false=>
       have U:=A T;clear T;go_wp2;go_ret;exact e0.o (j+1) b G.o l (λ_=>by show r.al (c[j]'_)=false;rw[<-R.o];exact U.o)
      |true=>
       have U:=A T;clear T;have j0:(kZ (MQ (N ⟨g,(j+1)*19,S⟩))).run MT b=.ok (M1 #[Q I r.id,Q I r.pr,Q I r.k0,Q I r.v0,Q I r.m0,Q I r.k1,Q I r.v1,Q I r.m1,Q I r.k2,Q I r.v2,Q I r.m2,Q I r.k3,Q I r.v3,Q I r.m3,Q I r.k4,Q I r.v4,Q I r.m4,Q I r.ac,Q I r.po]) b:=NW b g ((j+1)*19) 37 [Q I r.id,Q I r.pr,Q I r.k0,Q I r.v0,Q I r.m0,Q I r.k1,Q I r.v1,Q I r.m1,Q I r.k2,Q I r.v2,Q I r.m2,Q I r.k3,Q I r.v3,Q I r.m3,Q I r.k4,Q I r.v4,Q I r.m4,Q I r.ac,Q I r.po] p a4 s t ay;have j1:(pj (MQ (N ⟨b.heap.size,0,S⟩)) (M1 #[Q I r.id,Q I r.pr,Q I r.k0,Q I r.v0,Q I r.m0,Q I r.k1,Q I r.v1,Q I r.m1,Q I r.k2,Q I r.v2,Q I r.m2,Q I r.k3,Q I r.v3,Q I r.m3,Q I r.k4,Q I r.v4,Q I r.m4,Q I r.ac,Q I r.po])).run MT (b.alloc (MY #[Q I 0,Q I 0,Q I 0,Q I 0,Q I 0,Q I 0,Q I 0,Q I 0,Q I 0,Q I 0,Q I 0,Q I 0,Q I 0,Q I 0,Q I 0,Q I 0,Q I 0,Q I 0,Q I 0] 37))=.ok () (b.alloc (MY #[Q I r.id,Q I r.pr,Q I r.k0,Q I r.v0,Q I r.m0,Q I r.k1,Q I r.v1,Q I r.m1,Q I r.k2,Q I r.v2,Q I r.m2,Q I r.k3,Q I r.v3,Q I r.m3,Q I r.k4,Q I r.v4,Q I r.m4,Q I r.ac,Q I r.po] 37)):=run_storeAt_new b 37 #[Q I 0,Q I 0,Q I 0,Q I 0,Q I 0,Q I 0,Q I 0,Q I 0,Q I 0,Q I 0,Q I 0,Q I 0,Q I 0,Q I 0,Q I 0,Q I 0,Q I 0,Q I 0,Q I 0] #[Q I r.id,Q I r.pr,Q I r.k0,Q I r.v0,Q I r.m0,Q I r.k1,Q I r.v1,Q I r.m1,Q I r.k2,Q I r.v2,Q I r.m2,Q I r.k3,Q I r.v3,Q I r.m3,Q I r.k4,Q I r.v4,Q I r.m4,Q I r.ac,Q I r.po] ay rfl (A4 r);have H:=A (G.o.aD (W':=(b.alloc (MY #[Q I r.id,Q I r.pr,Q I r.k0,Q I r.v0,Q I r.m0,Q I r.k1,Q I r.v1,Q I r.m1,Q I r.k2,Q I r.v2,Q I r.m2,Q I r.k3,Q I r.v3,Q I r.m3,Q I r.k4,Q I r.v4,Q I r.m4,Q I r.ac,Q I r.po] 37)).drew) (((MU _ b).alloc (MP _) _).drew));have e6:(b.alloc (MY #[Q I r.id,Q I r.pr,Q I r.k0,Q I r.v0,Q I r.m0,Q I r.k1,Q I r.v1,Q I r.m1,Q I r.k2,Q I r.v2,Q I r.m2,Q I r.k3,Q I r.v3,Q I r.m3,Q I r.k4,Q I r.v4,Q I r.m4,Q I r.ac,Q I r.po] 37)).drew.rangeAt b.heap.size 0 [Q I r.id,Q I r.pr,Q I r.k0,Q I r.v0,Q I r.m0,Q I r.k1,Q I r.v1,Q I r.m1,Q I r.k2,Q I r.v2,Q I r.m2,Q I r.k3,Q I r.v3,Q I r.m3,Q I r.k4,Q I r.v4,Q I r.m4,Q I r.ac,Q I r.po]:=aN _ _ _;have e7:(b.alloc (MY #[Q I r.id,Q I r.pr,Q I r.k0,Q I r.v0,Q I r.m0,Q I r.k1,Q I r.v1,Q I r.m1,Q I r.k2,Q I r.v2,Q I r.m2,Q I r.k3,Q I r.v3,Q I r.m3,Q I r.k4,Q I r.v4,Q I r.m4,Q I r.ac,Q I r.po] 37)).cell? ⟨y,o,S⟩=N (MR (N ⟨g,0,S⟩) (c.length+1) u):=H.o.cell;have j2:y<(b.alloc (MY #[Q I r.id,Q I r.pr,Q I r.k0,Q I r.v0,Q I r.m0,Q I r.k1,Q I r.v1,Q I r.m1,Q I r.k2,Q I r.v2,Q I r.m2,Q I r.k3,Q I r.v3,Q I r.m3,Q I r.k4,Q I r.v4,Q I r.m4,Q I r.ac,Q I r.po] 37)).heap.size:=MO e7;have e8:(b.alloc (MY #[Q I r.id,Q I r.pr,Q I r.k0,Q I r.v0,Q I r.m0,Q I r.k1,Q I r.v1,Q I r.m1,Q I r.k2,Q I r.v2,Q I r.m2,Q I r.k3,Q I r.v3,Q I r.m3,Q I r.k4,Q I r.v4,Q I r.m4,Q I r.ac,Q I r.po] 37)).drew.rangeAt g (j*19) [Q I q.id,Q I q.pr,Q I q.k0,Q I q.v0,Q I q.m0,Q I q.k1,Q I q.v1,Q I q.m1,Q I q.k2,Q I q.v2,Q I q.m2,Q I q.k3,Q I q.v3,Q I q.m3,Q I q.k4,Q I q.v4,Q I q.m4,Q I q.ac,Q I q.po]:=by have h:=H.o.re l;rw[<-R.o]at h;exact h
       have j3:(kZ (MQ (N ⟨g,j*19,S⟩))).run MT (b.alloc (MY #[Q I r.id,Q I r.pr,Q I r.k0,Q I r.v0,Q I r.m0,Q I r.k1,Q I r.v1,Q I r.m1,Q I r.k2,Q I r.v2,Q I r.m2,Q I r.k3,Q I r.v3,Q I r.m3,Q I r.k4,Q I r.v4,Q I r.m4,Q I r.ac,Q I r.po] 37)).drew=.ok (M1 #[Q I q.id,Q I q.pr,Q I q.k0,Q I q.v0,Q I q.m0,Q I q.k1,Q I q.v1,Q I q.m1,Q I q.k2,Q I q.v2,Q I q.m2,Q I q.k3,Q I q.v3,Q I q.m3,Q I q.k4,Q I q.v4,Q I q.m4,Q I q.ac,Q I q.po]) (b.alloc (MY #[Q I r.id,Q I r.pr,Q I r.k0,Q I r.v0,Q I r.m0,Q I r.k1,Q I r.v1,Q I r.m1,Q I r.k2,Q I r.v2,Q I r.m2,Q I r.k3,Q I r.v3,Q I r.m3,Q I r.k4,Q I r.v4,Q I r.m4,Q I r.ac,Q I r.po] 37)).drew:=NW _ g (j*19) 37 [Q I q.id,Q I q.pr,Q I q.k0,Q I q.v0,Q I q.m0,Q I q.k1,Q I q.v1,Q I q.m1,Q I q.k2,Q I q.v2,Q I q.m2,Q I q.k3,Q I q.v3,Q I q.m3,Q I q.k4,Q I q.v4,Q I q.m4,Q I q.ac,Q I q.po] p e8 s t ay;obtain⟨m,J⟩:=UX ((b.alloc (MY #[Q I r.id,Q I r.pr,Q I r.k0,Q I r.v0,Q I r.m0,Q I r.k1,Q I r.v1,Q I r.m1,Q I r.k2,Q I r.v2,Q I r.m2,Q I r.k3,Q I r.v3,Q I r.m3,Q I r.k4,Q I r.v4,Q I r.m4,Q I r.ac,Q I r.po] 37)).drew.setCells g ((j+1)*19) q.cells.toList);have j4:(pj (MQ (N ⟨g,(j+1)*19,S⟩)) (M1 #[Q I q.id,Q I q.pr,Q I q.k0,Q I q.v0,Q I q.m0,Q I q.k1,Q I q.v1,Q I q.m1,Q I q.k2,Q I q.v2,Q I q.m2,Q I q.k3,Q I q.v3,Q I q.m3,Q I q.k4,Q I q.v4,Q I q.m4,Q I q.ac,Q I q.po])).run MT (b.alloc (MY #[Q I r.id,Q I r.pr,Q I r.k0,Q I r.v0,Q I r.m0,Q I r.k1,Q I r.v1,Q I r.m1,Q I r.k2,Q I r.v2,Q I r.m2,Q I r.k3,Q I r.v3,Q I r.m3,Q I r.k4,Q I r.v4,Q I r.m4,Q I r.ac,Q I r.po] 37)).drew=.ok () m:=by
        rw[J];exact QQ _ g ((j+1)*19) 37 q.cells (H.o.there l l) ay (A4 q)
       have h1:b.heap.size≠g:=λe=>by
        have:=MO (bz a4);rw[e]at this;exact Ry _ this
       have a5:m.drew.rangeAt b.heap.size 0 [Q I r.id,Q I r.pr,Q I r.k0,Q I r.v0,Q I r.m0,Q I r.k1,Q I r.v1,Q I r.m1,Q I r.k2,Q I r.v2,Q I r.m2,Q I r.k3,Q I r.v3,Q I r.m3,Q I r.k4,Q I r.v4,Q I r.m4,Q I r.ac,Q I r.po]:=by
        rw[J];exact wS h1 e6
       have h2:m.cell? ⟨y,o,S⟩=N (MR (N ⟨g,0,S⟩) (c.length+1) u):=by
        rw[J];exact zj (Ne.symm G.o.ne) e7
       have j5:y<m.heap.size:=MO h2;have j6:b.heap.size<m.heap.size:=MO (bz a5);have k1:(kZ (MQ (N ⟨b.heap.size,0,S⟩))).run MT m.drew=.ok (M1 #[Q I r.id,Q I r.pr,Q I r.k0,Q I r.v0,Q I r.m0,Q I r.k1,Q I r.v1,Q I r.m1,Q I r.k2,Q I r.v2,Q I r.m2,Q I r.k3,Q I r.v3,Q I r.m3,Q I r.k4,Q I r.v4,Q I r.m4,Q I r.ac,Q I r.po]) m.drew:=NW _ b.heap.size 0 37 [Q I r.id,Q I r.pr,Q I r.k0,Q I r.v0,Q I r.m0,Q I r.k1,Q I r.v1,Q I r.m1,Q I r.k2,Q I r.v2,Q I r.m2,Q I r.k3,Q I r.v3,Q I r.m3,Q I r.k4,Q I r.v4,Q I r.m4,Q I r.ac,Q I r.po] p a5 s t ay;obtain⟨V,a6⟩:=UX (m.drew.setCells g (j*19) r.cells.toList);have k2:(pj (MQ (N ⟨g,j*19,S⟩)) (M1 #[Q I r.id,Q I r.pr,Q I r.k0,Q I r.v0,Q I r.m0,Q I r.k1,Q I r.v1,Q I r.m1,Q I r.k2,Q I r.v2,Q I r.m2,Q I r.k3,Q I r.v3,Q I r.m3,Q I r.k4,Q I r.v4,Q I r.m4,Q I r.ac,Q I r.po])).run MT m.drew=.ok () V:=by
        rw[a6];refine QQ _ g (j*19) 37 r.cells ?_ ay (A4 r);have h:=H.o.AH l;rw[<-R.o]at h;rw[J];exact Ah h
       have BC:aA (fG B y o g u c r W2 j V):=A (zr H.o l R.o U.o J a6);clear J a6 e8 e6 a5 a4 H G U;go_wp2_with fail
       go_region
       go_wp2_with fail
       go_region
       go_wp2_with fail
       go_roundw
       case rel=>exact⟨j,g3,by go_num,BC.o⟩
       case measure=>simp[intOf]
  ·have HX:aA (∃q∈c,q.id=r.id):=A ⟨_,Ms l,c6⟩;have k3:(0:Int)<=k:=O;clear l c6;go_wp2;go_ret;exact .inr (.inl ⟨rfl,C.o,HX.o,x.o⟩)
end
theorem dB.iW{w:MV}(M:cP w)(h:dB w x):dg w x:=by
 refine⟨?_,λr P=>h.vk P,λa n c j=>?_,λf l bl u h2 h3=>?_,λe r j P=>?_⟩
 ·rintro rfl;have t:=M.1;have c1:=M.2.1;have c2:=M.2.2.1;rcases h with⟨R,q,v,f,c,b,g,s⟩|⟨v,f,c,a,l,k,b,g⟩|⟨n,p,b,g⟩|⟨n,m,p,b,g,s⟩|⟨o,y,F⟩|⟨K,T,U,V,W,Y,Z,gd,gh,gs,b,g,s,L⟩
  ·rw[b]at t;cases t
  ·rw[b]at t;cases t
  ·rw[g]at c1;cases c1
  ·rw[s]at c2;cases c2
  ·rw[dL y F]at t;cases t
  ·exact K rfl
 ·rcases h with⟨R,q,v,f,c,b,g,s⟩|⟨v,f,c,a,l,k,b,g⟩|⟨n,p,b,g⟩|⟨n,m,p,b,g,s⟩|⟨o,y,F⟩|⟨K,T,U,V,W,Y,Z,gd,gh,gs,b,g,s,L⟩<;>first|(rw[b]at j;cases j)|(rw[dL y F]at j;cases j)
 ·rcases h with⟨R,q,v,f,c,b,g,s⟩|⟨v,f,c,a,l,k,b,g⟩|⟨n,p,b,g⟩|⟨n,m,p,b,g,s⟩|⟨o,y,F⟩|⟨K,T,U,V,W,Y,Z,gd,gh,gs,b,g,s,L⟩
  ·rw[g]at u;cases u
  ·rw[g]at u;cases u
  ·rw[g]at u;cases u
  ·rw[s]at h2;cases h2
  ·rw[dL y F]at u;cases u
  ·rw[L]at h3;cases h3
 ·rcases h with⟨R,q,v,f,c,b,g,s⟩|⟨v,f,c,a,l,k,b,g⟩|⟨n,p,b,g⟩|⟨n,m,p,b,g,s⟩|⟨o,y,F⟩|⟨K,T,U,V,W,Y,Z,gd,gh,gs,b,g,s,L⟩
  ·rw[b]at j;cases j;have t:=P.c0;rw[s]at t;cases t
  ·rw[b]at j;cases j
  ·rw[b]at j;cases j
  ·rw[b]at j;cases j
  ·rw[dL y F]at j;cases j
  ·rw[b]at j;cases j
theorem bQ.rl{w:MV}{t:Nat}{F:Nat->Prop}{L:List af}(h:bQ w t F L)(a:F x):dB w x:=by
 obtain⟨b,c,e,f,g,T,_,_,rfl⟩:=h;exact T.lE a
structure aL where
 p:Nat
 t:Nat
 y:Nat
 F:Nat->Prop
 L:List af
 v:Ma
 rs:List Rl
structure aL.Ok (w:MV) (z:Nat->Nat) (i:Nat) (d:aL):Prop where
 c0:w.cell? ⟨d.p,0,S⟩=N (MQ (N ⟨d.t,0,S⟩))
 c1:w.cell? ⟨d.p,1,S⟩=N (MQ (N ⟨d.y,0,S⟩))
 cp:z d.p=4
 tab:bQ w d.t d.F d.L
 cF:∀x,d.F x->z x=3*i+5
 ref:iB 1 w d.y 0 d.v d.rs
 one:w.cell? ⟨d.y,1,S⟩=S/\w.cell? ⟨d.y,3,S⟩=S
 cy:z d.y=3*i+6
 cv:∀x,d.v.ownBlock=N x->z x=3*i+6
section
variable {w C:World}{z col':Nat->Nat}{i:Nat}{d:aL}{X:Nat->Prop}
theorem aL.Ok.aj(h:d.Ok w z i)(b:aH X w C)(p:∀x,X x->dg w x)(c:∀x,X x->x<w.heap.size->z x≠4/\z x≠3*i+5/\z x≠3*i+6)(e:∀x,x<w.heap.size->z x≠0->col' x=z x):d.Ok C col' i:=by
 have k:d.p<w.heap.size:=MO h.c0;have f:d.y<w.heap.size:=MO h.ref.1;have l:¬X d.p:=λa=>(c _ a k).1 h.cp;have m:¬X d.y:=λa=>(c _ a f).2.2 h.cy;have g:∀x,d.v.ownBlock=N x->x<w.heap.size:=λx a=>h.ref.2.2.1.lt a;have j:=b.block d.y f m;refine⟨b.block.cell l h.c0,b.block.cell l h.c1,(e _ k (by rw[h.cp];omega)).trans h.cp,h.tab.iW b p λx o a=>(c x a (h.tab.lt o)).2.1 (h.cF x o),λx a=>(e _ (h.tab.lt a) (by rw[h.cF x a];omega)).trans (h.cF x a),⟨b.block.cell m h.ref.1,(jr.aS j 0).2.trans h.ref.2.1,h.ref.2.2.1.same λx a=>b.block x (g x a) λq=>(c _ q (g x a)).2.2 (h.cv x a),h.ref.2.2.2⟩,⟨(jr.aS j 1).1.trans h.one.1,(jr.aS j 3).1.trans h.one.2⟩,(e _ f (by rw[h.cy];omega)).trans h.cy,λx a=>(e _ (g x a) (by rw[h.cv x a];omega)).trans (h.cv x a)⟩
end
structure au where
 n:Nat
 vr:Ma
 vo:Ma
 vm:Ma
 vi:Ma
def au.cells(k:au):List Value:=[Q I k.n,k.vr,k.vo,k.vm,k.vi]
def eO(E:List au):List Value:=E.flatMap au.cells
def Gc(n:Nat):Rl:=⟨-(n:Int),0,0,0,0,0,0,0,0,0,0,0,0,0,0,0,0,0,0⟩
def Jq(n:Nat):List Value:=[Q I (-(n:Int)),MS ⟨#[]⟩]
def Jr(n:Nat):List Value:=[Q I 0,MS ⟨#[]⟩,Q I (-(n:Int)),Q I 0]
def nU(n:Nat):List Value:=[Q I (-(n:Int))]
def qN(w:MV)(z:Nat->Nat)(s:Nat)(v:Ma)(c:List Ma):Prop:=∃a b e,v=MR a b e/\b<=1000000000/\∀k,k<b->∃g,a=N ⟨g,0,S⟩/\z g=4/\g<w.heap.size/\w.rangeAt g (k*s) c
structure au.Ok (w:MV) (z:Nat->Nat) (k:au):Prop where
 le:k.n<=100000000000
 r:qN w z 19 k.vr (Gc k.n).cells.toList
 o:qN w z 2 k.vo (Jq k.n)
 m:qN w z 4 k.vm (Jr k.n)
 i:qN w z 1 k.vi (nU k.n)
section
variable {w C:World}{z col':Nat->Nat}{X:Nat->Prop}
theorem qN.nil(s:Nat)(a:List Ma):qN w z s (MR S 0 0) a:=⟨S,0,0,rfl,O,λk b=>absurd b (Nat.not_lt_zero k)⟩
theorem qN.aj{f:List Ma}(h:qN w z s v f)(l:aH X w C)(m:∀x,X x->x<w.heap.size->z x≠4)(o:∀x,x<w.heap.size->z x≠0->col' x=z x):qN C col' s v f:=by
 obtain⟨a,p,q,e,r,h⟩:=h;refine⟨a,p,q,e,r,λk t=>?_⟩;obtain⟨g,y,b,c,F⟩:=h k t;exact⟨g,y,(o g c (by rw[b];omega)).trans b,Nat.lt_of_lt_of_le c l.size,λj u K=>l.block.cell (λL=>m g L c b) (F j u K)⟩
theorem au.Ok.aj{k:au}(h:k.Ok w z)(a:aH X w C)(b:∀x,X x->x<w.heap.size->z x≠4)(c:∀x,x<w.heap.size->z x≠0->col' x=z x):k.Ok C col':=
 ⟨h.le,h.r.aj a b c,h.o.aj a b c,h.m.aj a b c,h.i.aj a b c⟩
end
def iX(w:MV)(t:NL)(s:Nat)(v:Ma)(n:Nat)(a:List Ma):Prop:=w.ownsRow 1 t s v n a/\(n=0->v=MR S 0 0)
theorem iX.lt{w:MV}{n:Nat}{a:List Ma}(h:iX w t s v n a)(b:v.ownBlock=N x):x<w.heap.size:=(h.1.lt x b).2
theorem iX.aj{w C:MV}{n:Nat}{a:List Ma}(h:iX w t s v n a)(b:∀x,v.ownBlock=N x->C.heap[x]?=w.heap[x]?):iX C t s v n a:=by
 refine⟨⟨h.1.1,?_⟩,h.2⟩;rcases h.1.2 with c|⟨g,f,j,e,k,l,r⟩
 ·exact .inl c
 ·exact .inr ⟨g,f,j,e,k,(b g (by rw[e];rfl)).trans l,r⟩
structure LW (w:MV) (D:Nat) (G J H:Ma) (n:Nat) (B:List aL) (E:List au) (z:Nat->Nat):Prop where
 laid:cP w
 c0:w.cell? ⟨D,0,S⟩=N G
 c1:w.cell? ⟨D,1,S⟩=N J
 c2:w.cell? ⟨D,2,S⟩=N (Q I n)
 c3:w.cell? ⟨D,3,S⟩=N H
 sS:∃a m c,J=MR a m c
 frz:∀j,w.frozen? ⟨D,j,S⟩=false
 rT:iX w 44 1 G B.length (B.map λd=>MQ (N ⟨d.p,0,S⟩))
 rK:iX w 78 5 H E.length (eO E)
 cw:z D=1
 cT:∀x,G.ownBlock=N x->z x=2
 pT:∀x j u,G.ownBlock=N x->w.cell? ⟨x,j,S⟩=N u->∃q,u=MQ q
 cK:∀x,H.ownBlock=N x->z x=3
 tab:∀i (hi:i<B.length),(B[i]).Ok w z i
 kept:∀k∈E,k.Ok w z
section
variable {w C:World}{D n:Nat}{G J H:Value}{B:List aL}{E:List au}{z col':Nat->Nat}{X:Nat->Prop}
theorem LW.aj(h:LW w D G J H n B E z)(b:aH X w C)(p:∀x,X x->dg w x)(c:∀x,X x->x<w.heap.size->z x=0\/5<=z x)(l:∀x,x<w.heap.size->z x≠0->col' x=z x){e:List aL}(o:e.map (λd=>MQ (N ⟨d.p,0,S⟩))=B.map λd=>MQ (N ⟨d.p,0,S⟩))(q:∀i (y:i<e.length),(e[i]).Ok C col' i):LW C D G J H n e E col':=by
 have m:D<w.heap.size:=MO h.c0;have f:¬X D:=λa=>by have:=c _ a m;rw[h.cw]at this;omega
 have r:e.length=B.length:=by have:=congrArg List.length o;simpa using this
 refine⟨h.laid.iW b.block p,b.block.cell f h.c0,b.block.cell f h.c1,b.block.cell f h.c2,b.block.cell f h.c3,h.sS,λj=>(jr.aS (b.block D m f) j).2.trans (h.frz j),?_,h.rK.aj λx a=>b.block x (h.rK.lt a) λg=>?_,(l _ m (by rw[h.cw];omega)).trans h.cw,λx a=>(l _ (h.rT.lt a) (by rw[h.cT x a];omega)).trans (h.cT x a),λx j u a s=>h.pT x j u a (by rwa[(jr.aS (b.block x (h.rT.lt a) λg=>by have:=c _ g (h.rT.lt a);rw[h.cT x a]at this;omega) j).1]at s),λx a=>(l _ (h.rK.lt a) (by rw[h.cK x a];omega)).trans (h.cK x a),q,λk t=>(h.kept k t).aj b (λx a v=>by have:=c x a v;omega) l⟩
 ·rw[r,o];refine h.rT.aj λx a=>b.block x (h.rT.lt a) λg=>?_;have:=c _ g (h.rT.lt a);rw[h.cT x a]at this;omega
 ·have:=c _ g (h.rK.lt a);rw[h.cK x a]at this;omega
theorem LW.aD(h:LW w D G J H n B E z)(b:Below w.heap.size w C)(c:∀x,x<w.heap.size->z x≠0->col' x=z x):LW C D G J H n B E col':=
 h.aj (X:=λ_=>False) (aH.aG b) (λ_ a=>a.elim) (λ_ a=>a.elim) c rfl λi e=>(h.tab i e).aj (X:=λ_=>False) (aH.aG b) (λ_ a=>a.elim) (λ_ a=>a.elim) c
def kc(z:Nat->Nat)(s c:Nat):Nat->Nat:=λx=>if x<s then z x else c
theorem cE{z:Nat->Nat}{c:Nat}(h:x<s):kc z s c x=z x:=by unfold kc;rw[if_pos h]
theorem pD{z:Nat->Nat}{c:Nat}(h:s<=x):kc z s c x=c:=by unfold kc;rw[if_neg O]
theorem lU{b c:Type}(f:b->c){l:List b}{i:Nat}(e:i<l.length){a:b}(h:f a=f l[i]):(l.set i a).map f=l.map f:=by
 rw[List.map_set,h,<-List.getElem_map f (h:=by simpa using e),List.set_getElem_self]
theorem LW.Ic(h:LW w D G J H n B E z){i:Nat}(g:i<B.length){e:Nat->Prop}{k:List af}(u:bQ C B[i].t e k)(v:∀x,e x->B[i].F x\/w.heap.size<=x)(c:aH B[i].F w C):LW C D G J H n (B.set i {B[i]with F:=e,L:=k}) E (kc z w.heap.size (3*i+5)):=by
 have a:=h.tab i g;have l:∀x,B[i].F x->dg w x:=λx b=>(a.tab.rl b).iW h.laid;refine h.aj c l (λx b _=>by rw[a.cF x b];omega) (λx b _=>cE b) (lU _ g rfl) λj m=>?_;rw[Mw]at m;by_cases o:i=j
 ·subst o;rw[Nt];have y:B[i].p<w.heap.size:=MO a.c0;have p:B[i].y<w.heap.size:=MO a.ref.1;have q:¬B[i].F B[i].p:=λb=>by have:=a.cF _ b;rw[a.cp]at this;omega
  have r:¬B[i].F B[i].y:=λb=>by have:=a.cF _ b;rw[a.cy]at this;omega
  have s:∀x,B[i].v.ownBlock=N x->x<w.heap.size:=λx b=>a.ref.2.2.1.lt b;have f:=c.block B[i].y p r;refine⟨c.block.cell q a.c0,c.block.cell q a.c1,(cE y).trans a.cp,u,λx b=>?_,⟨c.block.cell r a.ref.1,(jr.aS f 0).2.trans a.ref.2.1,a.ref.2.2.1.same λx b=>c.block x (s x b) λK=>?_,a.ref.2.2.2⟩,⟨(jr.aS f 1).1.trans a.one.1,(jr.aS f 3).1.trans a.one.2⟩,(cE p).trans a.cy,λx b=>(cE (s x b)).trans (a.cv x b)⟩
  ·by_cases M:x<w.heap.size
   ·rw[cE M];rcases v x b with t|t
    ·exact a.cF x t
    ·omega
   ·exact pD O
  ·have P:=a.cF x K;rw[a.cv x b]at P;omega
 ·rw[Rz o];exact(h.tab j m).aj c l (λx b _=>by rw[a.cF x b];omega) (λx b _=>cE b)
theorem LW.Ck(h:LW w D G J H n B E z){i:Nat}(m:i<B.length){v':Ma}{rs':List Rl}(t:iB 1 C B[i].y 0 v' rs')(u:∀x,v'.ownBlock=N x->B[i].v.ownBlock=N x\/w.heap.size<=x)(f:aH (λb=>b=B[i].y\/B[i].v.ownBlock=N b) w C)(o:jr w C B[i].y 0):LW C D G J H n (B.set i {B[i]with v:=v',rs:=rs'}) E (kc z w.heap.size (3*i+6)):=by
 have e:=h.tab i m;obtain⟨a,R,g,y,_⟩:=e.ref.slice;have l:∀x,(x=B[i].y\/B[i].v.ownBlock=N x)->dg w x:=λx c=>by
  rcases c with rfl|c
  ·exact DK (e.ref.1.trans (by rw[y])) e.one.1 e.one.2 h.laid
  ·exact nH e.ref.2.2.1 c
 have k:∀x,(x=B[i].y\/B[i].v.ownBlock=N x)->z x=3*i+6:=λx c=>by
  rcases c with rfl|c
  ·exact e.cy
  ·exact e.cv x c
 refine h.aj f l (λx c _=>by rw[k x c];omega) (λx c _=>cE c) (lU _ m rfl) λj p=>?_;rw[Mw]at p;by_cases q:i=j
 ·subst q;rw[Nt];have F:B[i].p<w.heap.size:=MO e.c0;have K:B[i].y<w.heap.size:=MO e.ref.1;have r:¬(B[i].p=B[i].y\/B[i].v.ownBlock=N B[i].p):=λc=>by have:=k _ c;rw[e.cp]at this;omega
  refine⟨f.block.cell r e.c0,f.block.cell r e.c1,(cE F).trans e.cp,e.tab.iW f l λx L c=>?_,λx c=>(cE (e.tab.lt c)).trans (e.cF x c),t,⟨(o 1 US).1.trans e.one.1,(o 3 US).1.trans e.one.2⟩,(cE K).trans e.cy,λx c=>?_⟩
  ·have M:=k x c;rw[e.cF x L]at M;omega
  ·by_cases P:x<w.heap.size
   ·rw[cE P];rcases u x c with s|s
    ·exact e.cv x s
    ·omega
   ·exact pD O
 ·rw[Rz q];exact(h.tab j p).aj f l (λx c _=>by rw[k x c];omega) (λx c _=>cE c)
end
theorem wF:prog.underlying 35=N (.array 5 34):=UR
theorem zW(d:Nat)(r:Rl)(w:MV):(Op.equalIn (d+3) 35 (M1 #[Q I r.k0,Q I r.v0,Q I r.m0,Q I r.k1,Q I r.v1,Q I r.m1,Q I r.k2,Q I r.v2,Q I r.m2,Q I r.k3,Q I r.v3,Q I r.m3,Q I r.k4,Q I r.v4,Q I r.m4]) (M1 #[Q I r.k0,Q I r.v0,Q I r.m0,Q I r.k1,Q I r.v1,Q I r.m1,Q I r.k2,Q I r.v2,Q I r.m2,Q I r.k3,Q I r.v3,Q I r.m3,Q I r.k4,Q I r.v4,Q I r.m4])).run MT w=.ok true w:=by
 obtain⟨i,a⟩:∃i,prog.info? 34=N i:=by
  cases h:prog.info? 34 with
  |none=>exact absurd (show(prog.info? 34).isSome=true by kernel_rfl) (by rw[h];simp)
  |some i=>exact⟨i,rfl⟩
 have b:prog.cellsOf 34=3:=UR;have c:List.range 5=[0,1,2,3,4]:=rfl;rw[run_equalIn_array w (d+2) _ _ wF a,b,c];simp[go_sem,Op.eqItems]
theorem GW(r:Rl)(w:MV):(Tt .neq 37 (M1 #[Q I r.id,Q I r.pr,Q I r.k0,Q I r.v0,Q I r.m0,Q I r.k1,Q I r.v1,Q I r.m1,Q I r.k2,Q I r.v2,Q I r.m2,Q I r.k3,Q I r.v3,Q I r.m3,Q I r.k4,Q I r.v4,Q I r.m4,Q I r.ac,Q I r.po]) (M1 #[Q I r.id,Q I r.pr,Q I r.k0,Q I r.v0,Q I r.m0,Q I r.k1,Q I r.v1,Q I r.m1,Q I r.k2,Q I r.v2,Q I r.m2,Q I r.k3,Q I r.v3,Q I r.m3,Q I r.k4,Q I r.v4,Q I r.m4,Q I r.ac,Q I r.po])).run MT w=.ok (M0 false) w:=by
 have h:=zW 9996 r;simp[go_sem,h]
theorem Hv(r:Rl)(w:MV):(Tt .eql 37 (M1 #[Q I r.id,Q I r.pr,Q I r.k0,Q I r.v0,Q I r.m0,Q I r.k1,Q I r.v1,Q I r.m1,Q I r.k2,Q I r.v2,Q I r.m2,Q I r.k3,Q I r.v3,Q I r.m3,Q I r.k4,Q I r.v4,Q I r.m4,Q I r.ac,Q I r.po]) (M1 #[Q I r.id,Q I r.pr,Q I r.k0,Q I r.v0,Q I r.m0,Q I r.k1,Q I r.v1,Q I r.m1,Q I r.k2,Q I r.v2,Q I r.m2,Q I r.k3,Q I r.v3,Q I r.m3,Q I r.k4,Q I r.v4,Q I r.m4,Q I r.ac,Q I r.po])).run MT w=.ok (M0 true) w:=by
 have h:=zW 9996 r;simp[go_sem,h]
theorem GX(n:Int)(w:MV):(Tt .neq 37 (M1 #[Q I n,Q I 0,Q I 0,Q I 0,Q I 0,Q I 0,Q I 0,Q I 0,Q I 0,Q I 0,Q I 0,Q I 0,Q I 0,Q I 0,Q I 0,Q I 0,Q I 0,Q I 0,Q I 0]) (M1 #[Q I n,Q I 0,Q I 0,Q I 0,Q I 0,Q I 0,Q I 0,Q I 0,Q I 0,Q I 0,Q I 0,Q I 0,Q I 0,Q I 0,Q I 0,Q I 0,Q I 0,Q I 0,Q I 0])).run MT w=.ok (M0 false) w:=GW ⟨n,0,0,0,0,0,0,0,0,0,0,0,0,0,0,0,0,0,0⟩ w
theorem GY(n:Int)(w:MV):(Tt .neq 66 (M1 #[Q I n,MS ⟨#[]⟩]) (M1 #[Q I n,MS ⟨#[]⟩])).run MT w=.ok (M0 false) w:=by
 simp[go_sem]
theorem GZ(n:Int)(w:MV):(Tt .neq 68 (M1 #[Q I 0,MS ⟨#[]⟩,Q I n,Q I 0]) (M1 #[Q I 0,MS ⟨#[]⟩,Q I n,Q I 0])).run MT w=.ok (M0 false) w:=by
 simp[go_sem]
section
theorem kA(a:List au):(eO a).length=a.length*5:=by
 induction a with
 |nil=>rfl
 |cons e t b=>
  have:eO (e::t)=e.cells++eO t:=rfl;rw[this,List.length_append,b,List.length_cons];show 5+t.length*5=_;omega
theorem qi(a b:List au):eO (a++b)=eO a++eO b:=List.flatMap_append
theorem yF:∀(b:List au) (k:Nat) (a:k<b.length) (j:Nat),j<5->(eO b)[k*5+j]?=b[k].cells[j]?
 |[],k,a,_,_=>absurd a (by simp)
 |e::t,k,a,j,d=>by
  have h:eO (e::t)=e.cells++eO t:=rfl;have c:e.cells.length=5:=rfl;rw[h];match k,a with
  |0,_=>rw[List.getElem?_append_left (by rw[c];omega)];simp
  |k+1,a=>
   rw[List.getElem?_append_right (by rw[c];omega),c,show(k+1)*5+j-5=k*5+j by omega,yF t k (by simpa using a) j d];rfl
theorem iX.kept{e:Ma}{b:List au}(h:iX w 78 5 e b.length (eO b)):∃a d g,e=MR a b.length d/\∀k (f:k<b.length),a=N ⟨g,0,S⟩/\w.rangeAt g (k*5) (b[k]).cells:=by
 rcases h.1.2 with⟨c,n⟩|⟨g,d,o,c,_⟩
 ·exact⟨S,0,0,by rw[c,n],λj i=>O⟩
 ·refine⟨_,d,g,c,λk f=>⟨rfl,λj u l=>?_⟩⟩;have m:=h.1;rw[c]at m;have i:j<5:=(List.getElem?_eq_some_iff.1 l).1;rw[m.cellAt _ O,yF b k f j i];exact l
attribute [local go_sem] aI GY GZ
attribute [local go_sem ↓ high] GX
theorem BM(w:MV)(V:Nat)(tv sv kv:Ma)(n:Nat)(Ts:List aL)(s:List au)(b9:Nat->Nat)(h:LW w V tv sv kv n Ts s b9)(hn:s.length<=100000000000):Calls MT 11 #[MQ (N ⟨V,0,S⟩)] w λe w'=>e=.returned (M0 true)/\Below w.heap.size w w':=by
 obtain⟨dr,f2,f3⟩:=dJ;obtain⟨a,i2,g,rfl,c1⟩:=h.rK.kept;have h3:=h.c3;have i3:V<w.heap.size:=MO h3;have HH:=A h;have f5:=A c1;clear h c1;go_enter func11,ntmps11;go_wp2_with fail
 go_loopw [3] (λi wr=>∃k:Nat,k<=s.length/\i=Q I k/\Below w.heap.size w wr) (λi _=>s.length- (intOf i).toNat)
 case atStart=>exact⟨0,O,rfl,MU _ _⟩
 case round=>
  obtain⟨k,hk,rfl,L⟩:=hrel;have k3:=MW L h3;have f6:V<wr.heap.size:=MO k3;have HB:=A L;by_cases c4:k<s.length
  ·obtain⟨K,hK⟩:∃K,K=s[k]:=⟨_,rfl⟩;obtain⟨rfl,hr⟩:=f5.o k c4;rw[<-hK]at hr;have ok:K.Ok wr b9:=(HH.o.kept K (by rw[hK];exact Ms c4)).aj (X:=λ_=>False) (aH.aG L) (λ_ hx=>hx.elim) (λ_ _ _=>rfl);have G:wr.rangeAt g (k*5) K.cells:=aO hr L;obtain⟨m,vr,vo,vm,vi⟩:=K;have q0:wr.cell? ⟨g,k*5,S⟩=N (Q I m):=G 0 _ rfl;have q1:wr.cell? ⟨g,k*5+1,S⟩=N vr:=G 1 _ rfl;have q2:wr.cell? ⟨g,k*5+2,S⟩=N vo:=G 2 _ rfl;have q3:wr.cell? ⟨g,k*5+3,S⟩=N vm:=G 3 _ rfl;have q4:wr.cell? ⟨g,k*5+4,S⟩=N vi:=G 4 _ rfl;have M:g<wr.heap.size:=MO q0;have g6:(k:Int)<s.length:=O;have H:=A ok;clear ok hr G L hK;obtain⟨ar,t,cr,rfl,i5,c7⟩:=H.o.r;obtain⟨ao,u,co,rfl,i6,c8⟩:=H.o.o;obtain⟨am,v,cm,rfl,i8,c9⟩:=H.o.m;obtain⟨ai,x,ci,rfl,i9,d0⟩:=H.o.i;have hm:m<=100000000000:=H.o.le;have g7:=A c7;have g8:=A c8;have g9:=A c9;have h0:=A d0;clear H c7 c8 c9 d0;obtain⟨f,Y⟩:=UX (wr.alloc (MY #[Q I m,MR ar t cr,MR ao u co,MR am v cm,MR ai x ci] 78));have b1:=UY Y;obtain⟨l,b2⟩:=UX wr.heap.size;have J:f.rangeAt l 0 [Q I m,MR ar t cr,MR ao u co,MR am v cm,MR ai x ci]:=by rw[Y,b2];exact aN _ _ _
   have p0:f.cell? ⟨l,0,S⟩=N (Q I m):=J 0 _ rfl;have p1:f.cell? ⟨l,1,S⟩=N (MR ar t cr):=J 1 _ rfl;have p2:f.cell? ⟨l,2,S⟩=N (MR ao u co):=J 2 _ rfl;have p3:f.cell? ⟨l,3,S⟩=N (MR am v cm):=J 3 _ rfl;have p4:f.cell? ⟨l,4,S⟩=N (MR ai x ci):=J 4 _ rfl;have j1:IntKind.i64.wrap (-(m:Int))= -(m:Int):=by rw[Mm];omega
   have y:=A b1;have d6:=A (HB.o.trans (b1.mono HB.o.size));have Z:=A p0;have P1:=A p1;have P2:=A p2;have P3:=A p3;have P4:=A p4;go_wp2_with fail
   rw[<-Y,<-b2];clear Y b2 J b1 p0 p1 p2 p3 p4 q0 q1 q2 q3 q4 k3 f6 M;go_loopw [5] (λi W=>∃j:Nat,j<=t/\i=Q I j/\Below f.heap.size f W) (λi _=>t- (intOf i).toNat)
   case atStart=>exact⟨0,O,rfl,MU _ _⟩
   case round=>
    obtain⟨j,o,rfl,c⟩:=hrel;have p:=MW c Z.o;have e1:=MW c P1.o;have b3:l<wr.heap.size:=MO p;have P:=A c;clear c;by_cases z:j<t
    ·obtain⟨d,rfl,-,b4,q⟩:=g7.o j z;have r:wr.rangeAt d (j*19) [Q I (-(m:Int)),Q I 0,Q I 0,Q I 0,Q I 0,Q I 0,Q I 0,Q I 0,Q I 0,Q I 0,Q I 0,Q I 0,Q I 0,Q I 0,Q I 0,Q I 0,Q I 0,Q I 0,Q I 0]:=aO (aO q y.o) P.o;have M:d<wr.heap.size:=by have:=y.o.size;have:=P.o.size;omega
     have B:(j:Int)<t:=O;clear q;go_wp2_with fail
     refine Mg UR UR ?_
     repeat(first|(refine cA rfl 37 _ rfl d (j*19) rfl [Q I (-(m:Int)),Q I 0,Q I 0,Q I 0,Q I 0,Q I 0,Q I 0,Q I 0,Q I 0,Q I 0,Q I 0,Q I 0,Q I 0,Q I 0,Q I 0,Q I 0,Q I 0,Q I 0,Q I 0] dr (λw' h=>dQ r h) f2 f3 ay ?_)|quiet_step (fail))
     refine M3 ?_;intro wq b;replace b:=aE b;obtain⟨C,D⟩:=aW b;have E:=b.size;have F:=A b;clear b C D E p e1;go_wp2_with fail
     go_roundw
     case rel=>exact⟨j+1,O,by go_num,P.o.trans (F.o.mono P.o.size)⟩
     case measure=>simp[intOf];omega
    ·have B:¬(j:Int)<t:=by omega
     have HJ:=A o;clear o;go_wp2_with fail
     go_loopw [6] (λi W=>∃j:Nat,j<=u/\i=Q I j/\Below f.heap.size f W) (λi _=>u- (intOf i).toNat)
     case atStart=>exact⟨0,O,rfl,P.o⟩
     case round=>
      obtain⟨j,o,rfl,c⟩:=hrel;have p:=MW c Z.o;have e2:=MW c P2.o;have b3:l<wr.heap.size:=MO p;have R:=A c;clear c;by_cases z:j<u
      ·obtain⟨d,rfl,-,b4,q⟩:=g8.o j z;have r:wr.rangeAt d (j*2) [Q I (-(m:Int)),MS ⟨#[]⟩]:=aO (aO q y.o) R.o;have M:d<wr.heap.size:=by have:=y.o.size;have:=R.o.size;omega
       have B:(j:Int)<u:=O;clear q;have r0:wr.cell? ⟨d,j*2,S⟩=N (Q I (-(m:Int))):=r 0 _ rfl;have r1:wr.cell? ⟨d,j*2+1,S⟩=N (MS ⟨#[]⟩):=r 1 _ rfl;go_wp2_with fail
       refine Mg UR UR ?_
       repeat(quiet_step (fail))
       refine M3 ?_;intro wq b;replace b:=aE b;obtain⟨C,D⟩:=aW b;have E:=b.size;have F:=A b;clear b C D E p e2;go_wp2_with fail
       go_roundw
       case rel=>exact⟨j+1,O,by go_num,R.o.trans (F.o.mono R.o.size)⟩
       case measure=>simp[intOf];omega
      ·have B:¬(j:Int)<u:=by omega
       have HJ:=A o;clear o;go_wp2_with fail
       go_loopw [7] (λi W=>∃j:Nat,j<=v/\i=Q I j/\Below f.heap.size f W) (λi _=>v- (intOf i).toNat)
       case atStart=>exact⟨0,O,rfl,R.o⟩
       case round=>
        obtain⟨j,o,rfl,c⟩:=hrel;have p:=MW c Z.o;have e3:=MW c P3.o;have b3:l<wr.heap.size:=MO p;have T:=A c;clear c;by_cases z:j<v
        ·obtain⟨d,rfl,-,b4,q⟩:=g9.o j z;have r:wr.rangeAt d (j*4) [Q I 0,MS ⟨#[]⟩,Q I (-(m:Int)),Q I 0]:=aO (aO q y.o) T.o;have M:d<wr.heap.size:=by have:=y.o.size;have:=T.o.size;omega
         have B:(j:Int)<v:=O;clear q;have r0:wr.cell? ⟨d,j*4,S⟩=N (Q I 0):=r 0 _ rfl;have r1:wr.cell? ⟨d,j*4+1,S⟩=N (MS ⟨#[]⟩):=r 1 _ rfl;have r2:wr.cell? ⟨d,j*4+2,S⟩=N (Q I (-(m:Int))):=r 2 _ rfl;have r3:wr.cell? ⟨d,j*4+3,S⟩=N (Q I 0):=r 3 _ rfl;go_wp2_with fail
         refine Mg UR UR ?_
         repeat(quiet_step (fail))
         refine M3 ?_;intro wq b;replace b:=aE b;obtain⟨C,D⟩:=aW b;have E:=b.size;have F:=A b;clear b C D E p e3;go_wp2_with fail
         go_roundw
         case rel=>exact⟨j+1,O,by go_num,T.o.trans (F.o.mono T.o.size)⟩
         case measure=>simp[intOf];omega
        ·have B:¬(j:Int)<v:=by omega
         have HJ:=A o;clear o;go_wp2_with fail
         go_loopw [8] (λi W=>∃j:Nat,j<=x/\i=Q I j/\Below f.heap.size f W) (λi _=>x- (intOf i).toNat)
         case atStart=>exact⟨0,O,rfl,T.o⟩
         case round=>
          obtain⟨j,o,rfl,c⟩:=hrel;have p:=MW c Z.o;have e4:=MW c P4.o;have b3:l<wr.heap.size:=MO p;have U:=A c;clear c;by_cases z:j<x
          ·obtain⟨d,rfl,-,b4,q⟩:=h0.o j z;have r:wr.rangeAt d (j*1) [Q I (-(m:Int))]:=aO (aO q y.o) U.o;have M:d<wr.heap.size:=by have:=y.o.size;have:=U.o.size;omega
           have B:(j:Int)<x:=O;clear q;have r0:wr.cell? ⟨d,j,S⟩=N (Q I (-(m:Int))):=by have h:=r 0 _ rfl;rwa[Nat.mul_one,Nat.add_zero]at h
           go_wp2_with fail
           refine Mg UR UR ?_
           repeat(quiet_step (fail))
           refine M3 ?_;intro wq b;replace b:=aE b;obtain⟨C,D⟩:=aW b;have E:=b.size;have F:=A b;clear b C D E p e4;go_wp2_with fail
           go_roundw
           case rel=>exact⟨j+1,O,by go_num,U.o.trans (F.o.mono U.o.size)⟩
           case measure=>simp[intOf];omega
          ·have B:¬(j:Int)<x:=by omega
           have HJ:=A o;clear o;go_wp2_with fail
           go_roundw
           case rel=>exact⟨k+1,O,by go_num,d6.o.trans (U.o.mono d6.o.size)⟩
           case measure=>simp[intOf];omega
  ·have g6:¬(k:Int)<s.length:=by omega
   go_wp2;go_ret;exact⟨rfl,HB.o⟩
end
end Go.Proofs.YtnjalelblbjfiaaGreatDoor
