import Derived.Test.YtnjalelblbjfiaaGreatDoorP38
import Derived.Test.YtnjalelblbjfiaaGreatDoorP34
namespace Go.Proofs.YtnjalelblbjfiaaGreatDoor
set_option maxRecDepth 100000
set_option maxHeartbeats 16000000
open Go.RowKit
open Go.Proofs.Tryz
open Go renaming block_lt_of_cell→MO,Value→Ma,cell_later→MW
open Go.Value renaming pointer→MQ,int→Q,string→MS,map→N4,slice→MR
open Option renaming none→S,some→N
open Or renaming inl→Mf,inr→MX
open Go.IntKind renaming i64→I
open List renaming getElem_mem→Ms,length_map→ND,any_eq_true→P7,mem_map→OD,length_set→Mw
open Bool renaming true→Mk,and_eq_true→NH,false→Md,true_and→O5
open Go.RowKit renaming Below→Mb
variable {e:Ending}{l p v:Int}{j:Ma}{b i x y:Nat}
open Classical in
noncomputable def wK(k:Nat->Nat)(s i:Nat)(a B:Nat->Prop):Nat->Nat:=λx=>if x<s then k x else if a x then 6*i+10 else if B x then 6*i+13 else 0
section
variable {w f g:World}{t n:Nat}{r l p:Value}{o:List aL}{c:List aC}{m:List au}{k:Nat->Nat}{M M':Int}
theorem pO(h:LW w t r l p n o m k)(Z:LS w l c k M)(hi:i<c.length){d1:aC}{x2:aK}{D X2:Nat->Prop}(K:d1.p=c[i].p)(es:d1.s=c[i].s)(R:d1.y=c[i].y)(ek:d1.k=c[i].k)(eP:d1.P=c[i].P)(eK:d1.K=c[i].K)(hI:d1.aP f)(L:∀b,d1.bV b->c[i].bV b\/w.heap.size<=b)(G:aH D w f)(T:∀b,D b->b<w.heap.size->c[i].bV b/\dg w b/\b≠c[i].k)(b0:aT g c[i].y x2)(U:∀b,x2.cR c[i].y b->c[i].x.cR c[i].y b\/f.heap.size<=b)(H:aH X2 f g)(B:∀b,X2 b->b<f.heap.size->c[i].x.cR c[i].y b/\dg w b/\dg f b)(E:x2.Q=c[i].x.Q)(J:x2.K=c[i].x.K)(b1:x2.kv=c[i].x.kv)(b2:x2.now=c[i].x.now)(vs:(dG f d1.vb:Int)<=M')(hM:M<=M'):∃y,LW g t r l p n o m y/\LS g l (c.set i {d1 with x:=x2}) y M'/\cz w g k y:=by
 have s:=Z.sw i hi;obtain⟨d,b4⟩:=UX (c[i]);rw[<-b4]at s K es R ek eP eK L T b0 U B E J b1 b2;have s1:=G.size;have s2:=H.size;obtain⟨y,a1⟩:=UX (wK k w.heap.size i d1.bV (x2.cR d.y));have V:∀x,x<w.heap.size->y x=k x:=λx u=>by rw[a1];unfold wK;rw[if_pos u]
 have W:∀x,x<w.heap.size->k x≠0->y x=k x:=λx u _=>V x u;have X:∀b,d.x.cR d.y b->b<w.heap.size:=λb v=>s.ref.AG v;have c1:aH (λx=>D x/\x<w.heap.size) w f:=⟨G.os,G.tape,G.output,G.size,λb v a2=>G.block b v λu=>a2 ⟨u,v⟩⟩;have a3:aH (λx=>X2 x/\x<f.heap.size) f g:=⟨H.os,H.tape,H.output,H.size,λb v a2=>H.block b v λu=>a2 ⟨u,v⟩⟩;have F:aH (λb=>(D b/\b<w.heap.size)\/(X2 b/\b<f.heap.size)) w g:=(c1.mono λx _ u=>Mf u).trans (a3.mono λx _ u=>MX u);have a4:∀x,((D x/\x<w.heap.size)\/(X2 x/\x<f.heap.size))->dg w x:=λx u=>by
  rcases u with e|e
  ·exact(T x e.1 e.2).2.1
  ·exact(B x e.1 e.2).2.1
 have P:∀x,((D x/\x<w.heap.size)\/(X2 x/\x<f.heap.size))->k x=6*i+10\/k x=6*i+13:=λx u=>by
  rcases u with e|e
  ·exact Mf (s.cI x (T x e.1 e.2).1)
  ·exact MX (s.cX x (B x e.1 e.2).1)
 have c2:d.p<w.heap.size:=MO s.c0;have hp:¬((D d.p/\d.p<w.heap.size)\/(X2 d.p/\d.p<f.heap.size)):=λe=>by have:=P _ e;rw[s.cp]at this;omega
 have c3:∀b,d1.bV b->y b=6*i+10:=λb v=>by
  rcases L b v with e|e
  ·rw[V b (s.imp.lt e)];exact s.cI b e
  ·rw[a1];unfold wK;rw[if_neg O,if_pos v]
 have c4:∀b,d1.bV b->¬x2.cR d.y b:=λb h1 h2=>by
  rcases L b h1 with e|e
  ·have z:=s.cI b e;rcases U b h2 with C|C
   ·rw[s.cX b C]at z;omega
   ·have:=s.imp.lt e;omega
  ·rcases U b h2 with C|C
   ·have:=X b C;omega
   ·have:=hI.lt h1;omega
 have c5:∀b,x2.cR d.y b->y b=6*i+13:=λb v=>by
  rcases U b v with e|e
  ·rw[V b (X b e)];exact s.cX b e
  ·rw[a1];unfold wK;rw[if_neg O,if_neg (λz=>c4 b z v),if_pos v]
 have c6:d.k<w.heap.size:=s.imp.lt (MX (Mf rfl));have Y:d1.aP g:=by
  refine hI.aj a3 (λe=>?_) λx u _=>⟨(B x u.1 u.2).2.2,λc7=>?_⟩
  ·have:=s.cX 1 (B 1 e.1 e.2).1;rw[Z.c1]at this;omega
  ·have z:=s.cX x (B x u.1 u.2).1;rcases L x c7 with e|e
   ·rw[s.cI x e]at z;omega
   ·have:=X x (B x u.1 u.2).1;omega
 have c8:¬(X2 d1.vb/\d1.vb<f.heap.size):=λe=>by
  have c9:d1.bV d1.vb:=MX (MX (MX (MX (MX (MX (MX (MX (Mf rfl))))))));have z:=B _ e.1 e.2;rcases L _ c9 with C|C
  ·have e3:=s.cX _ z.1;rw[s.cI _ C]at e3;omega
  ·have:=X _ z.1;omega
 refine⟨y,h.aj F a4 (λx u _=>by have:=P x u;omega) W rfl λj hj=>(h.tab j hj).aj F a4 (λx u _=>by have:=P x u;omega) W,Z.nL hi (by rw[<-b4];exact K) F (λx u _=>⟨a4 x u,by have:=P x u;omega⟩) W hM ?_,⟨_,F,λx u _=>by have:=P x u;omega⟩,W⟩;refine⟨?_,?_,?_,⟨Y.p,Y.r,Y.h,Y.o⟩,c3,?_,?_,?_,?_,?_,?_,?_,?_,?_,?_,?_,?_,?_,?_,?_⟩
 ·show g.cell? ⟨d1.p,0,S⟩=N (MQ (N ⟨d1.s,0,S⟩));rw[K,es];exact F.block.cell hp s.c0
 ·show g.cell? ⟨d1.p,1,S⟩=N (MQ (N ⟨d1.y,0,S⟩));rw[K,R];exact F.block.cell hp s.c1
 ·show y d1.p=4;rw[K,V _ c2];exact s.cp
 ·show g.cell? ⟨d1.k,1,S⟩=S;rw[ek,World.cell?_of_block (a:=⟨d.k,1,S⟩) (F.block d.k c6 λe=>?_)]
  ·exact s.one
  ·rcases e with e|e
   ·exact(T _ e.1 e.2).2.2 rfl
   ·have z:=s.cX _ (B _ e.1 e.2).1;rw[s.cI d.k (MX (Mf rfl))]at z;omega
 ·show aT g d1.y x2;rw[R];exact b0
 ·show∀b,x2.cR d1.y b->_;rw[R];exact c5
 ·show d1.P=x2.P;rw[eP,s.eP];unfold aK.P;rw[E]
 ·show d1.K=x2.K;rw[eK,s.eK,J]
 ·show 0<x2.Q.length;rw[E];exact s.n0
 ·show x2.Q.length<=8;rw[E];exact s.n8
 ·show x2.K.length<=64;rw[J];exact s.k64
 ·show∀q∈x2.Q,_;rw[E];exact s.tl
 ·show∀e∈x2.K,(0<=e.port/\e.port<x2.Q.length)/\_;rw[J,E];exact s.kp
 ·show∀q∈x2.Q,_;rw[E];exact s.nt
 ·show∀e∈x2.K,_;rw[J];exact s.yg
 ·show x2.K=[]->x2.kv=_;rw[J,b1];exact s.nil
 ·show 0<=x2.now/\x2.now<=M';rw[b2];exact⟨s.now.1,Int.le_trans s.now.2 hM⟩
 ·show(dG g d1.vb:Int)<=M';rw[dZ (a3.block d1.vb (hI.lt (MX (MX (MX (MX (MX (MX (MX (MX (Mf rfl)))))))))) c8)];exact vs
end
section
variable {w W:World}{d:aC}{X:Nat->Prop}
theorem zU{a:Int}{v:ByteArray}(i:cP w)(g:w.cell? ⟨x,0,S⟩=N (Q I a))(b:w.cell? ⟨x,3,S⟩=N (MS v)):dg w x where
 zero:=by rintro rfl;have:=i.2.2.2.1;rw[b]at this;cases this
 ent r j:=by have:=j 3 US;rw[b]at this;cases this
 leaf a n c h:=by rw[g]at h;cases h
 node f l k _ _ h:=by rw[b]at h;cases h
 bunch e r h _:=by rw[g]at h;cases h
theorem aC.aP.Kd(h:d.aP w)(c:(∃q∈d.Q,q.2=N4 (N b))\/b=d.vb):∃o,w.heap[b]?=N o/\o.isCells=false:=by
 rcases c with⟨q,f,e⟩|rfl
 ·obtain⟨j,i,rfl⟩:=List.getElem_of_mem f;rcases(h.o.each j (by have:=h.o.len;omega)).2 with⟨a,-⟩|⟨k,n,D,a,⟨l,m,g,p⟩,r⟩
  ·rw[e]at a;cases a
  ·rw[e]at a;cases a;exact⟨_,g,rfl⟩
 ·exact h.r.hV.AK
theorem aC.aP.rh(h:d.aP w){v:Ma}(a:w.cell? ⟨b,0,S⟩=N v):(∀q∈d.Q,q.2≠N4 (N b))/\b≠d.vb:=by
 constructor
 ·intro q g e;obtain⟨o,c,f⟩:=h.Kd (Mf ⟨q,g,e⟩);rw[dL c f]at a;cases a
 ·intro e;obtain⟨o,c,f⟩:=h.Kd (MX e);rw[dL c f]at a;cases a
theorem aC.aP.FU(h:d.aP w)(a:aH X w W)(i:¬X d.s)(l:∀b,(b=d.k\/KX d.m d.sv b)->¬X b)(c:¬X 1)(m:∀b,d.pv.ownBlock=N b->¬X b)(nq:∀b q,q∈d.Q->q.2=N4 (N b)->¬X b):bW W d.s d.pv d.P d.k d.m d.sv d.K/\aQ W d.pv d.P d.Q:=by
 have k:aQ W d.pv d.P d.Q:=⟨h.o.len,ap h.o.own λb f=>a.block b (ae h.o.own f).2 (m b f),λj g=>⟨(h.o.each j g).1,(h.o.each j g).2.lw λb e=>a.block b ((h.o.each j g).2.lt e) (nq b _ (Ms _) e)⟩⟩;refine⟨⟨a.block.cell i h.p.h0,k.at,a.block.cell i h.p.h5,h.p.hK.aj λb f e=>a.block b f (l b ?_),a.block.cell c h.p.hm.1,a.block.cell c h.p.hm.2.1,a.block.cell c h.p.hm.2.2.1,a.block.cell c h.p.hm.2.2.2⟩,k⟩;rcases e with e|e|e
 ·exact Mf e
 ·exact MX (Mf e)
 ·exact MX (MX e)
theorem aC.aP.laid(h:d.aP w):cP w:=h.r.hT.laid
theorem aC.aP.Cm(h:d.aP w)(f:b=d.fm\/d.fsv.ownBlock=N b):dg w b/\((∃a n c,w.cell? ⟨b,0,S⟩=N (.func (.func 33) #[] #[])/\w.cell? ⟨b,1,S⟩=N (MR a n c))\/∃n v,w.cell? ⟨b,0,S⟩=N (.int I n)/\w.cell? ⟨b,1,S⟩=N (MS v)):=by
 rcases f with rfl|f
 ·obtain⟨a,l,g,e,-⟩:=eI h.r.hF.2.2.1;have i:=h.r.hF.2.1;rw[e]at i;exact⟨(qI h.laid h.r.hF.1 i).iW,Mf ⟨_,_,_,h.r.hF.1,i⟩⟩
 ·obtain⟨n,v,j,k⟩:=h.r.hH b f;exact⟨xE h.laid j k,MX ⟨n,v,j,k⟩⟩
theorem aC.aP.xS(h:d.aP w)(f:b=d.hb\/d.hsv.ownBlock=N b):dg w b/\((∃a n c,w.cell? ⟨b,0,S⟩=N (.func (.func 101) #[] #[])/\w.cell? ⟨b,1,S⟩=N (MR a n c))\/∃n m k v,w.cell? ⟨b,0,S⟩=N (.int I n)/\w.cell? ⟨b,1,S⟩=N (.int I m)/\w.cell? ⟨b,2,S⟩=N (.int I k)/\w.cell? ⟨b,3,S⟩=N (MS v)):=by
 rcases f with rfl|f
 ·obtain⟨a,q,g,e,-⟩:=gY h.h.hM.1.2.2.1;have i:=h.h.hM.1.2.1;rw[e]at i;exact⟨(qI h.laid h.h.hM.1.1 i).iW,Mf ⟨_,_,_,h.h.hM.1.1,i⟩⟩
 ·obtain⟨n,m,k,v,j,o,p,l⟩:=h.h.hM.xT f;exact⟨zU h.laid j l,MX ⟨n,m,k,v,j,o,p,l⟩⟩
theorem aC.aP.iu(h:d.aP w)(o:0<d.P.length)(r:w.cell? ⟨d.k,1,S⟩=S)(k:b=d.fm\/d.fsv.ownBlock=N b):b≠d.s/\(∀x,(x=d.k\/KX d.m d.sv x)->x≠b)/\d.pv.ownBlock≠N b/\((∀q∈d.Q,q.2≠N4 (N b))/\b≠d.vb)/\¬d.F b/\b≠d.rb/\b≠d.hb/\d.hsv.ownBlock≠N b/\b≠1:=by
 obtain⟨-,f⟩:=h.Cm k;obtain⟨t,u,v,l⟩:=h.p.vd;have m:=h.h.h0;have n:=h.p.hm.1;have p:=λe=>(h.xS (b:=b) e).2;refine⟨λe=>?_,λx s e=>?_,λe=>?_,?_,λe=>?_,λe=>?_,λe=>?_,λe=>?_,λe=>?_⟩
 ·rw[<-e]at l;rcases f with⟨_,_,_,a,-⟩|⟨_,_,a,-⟩<;>(rw[a]at l;cases l)
 ·have:=h.kP o r x s;rw[e]at this;rcases k with c|c
  ·exact this.2.2.2.1 c
  ·exact this.2.2.2.2.1 c
 ·have:=h.lB o e;rcases k with c|c
  ·exact this.2.2.2.1 c
  ·exact this.2.2.2.2.1 c
 ·rcases f with⟨_,_,_,a,-⟩|⟨_,_,a,-⟩<;>exact h.rh a
 ·rcases k with c|c
  ·rw[c]at e;exact h.r.hD.1 e
  ·exact h.r.hD.2 b c e
 ·rw[<-e]at m;rcases f with⟨_,_,_,a,-⟩|⟨_,_,a,-⟩<;>(rw[a]at m;cases m)
 ·rcases p (Mf e)with⟨_,_,_,g,-⟩|⟨_,_,_,_,g,i,-⟩
  ·rcases f with⟨_,_,_,a,-⟩|⟨_,_,a,-⟩<;>(rw[a]at g;cases g)
  ·rcases f with⟨_,_,_,a,j⟩|⟨_,_,a,j⟩<;>(rw[j]at i;cases i)
 ·rcases p (MX e)with⟨_,_,_,g,-⟩|⟨_,_,_,_,g,i,-⟩
  ·rcases f with⟨_,_,_,a,-⟩|⟨_,_,a,-⟩<;>(rw[a]at g;cases g)
  ·rcases f with⟨_,_,_,a,j⟩|⟨_,_,a,j⟩<;>(rw[j]at i;cases i)
 ·rw[<-e]at n;rcases f with⟨_,_,_,a,-⟩|⟨_,_,a,-⟩<;>(rw[a]at n;cases n)
theorem aC.aP.xU(h:d.aP w)(o:0<d.P.length)(p:w.cell? ⟨d.k,1,S⟩=S)(c:aH (λb=>b=d.fm\/d.fsv.ownBlock=N b) w W){l:List Fc}(r:iR W d.fm j l)(s:bt l)(t:gC W j)(u:∀b,j.ownBlock=N b->d.fsv.ownBlock=N b\/w.heap.size<=b):aC.aP W {d with fsv:=j,Fs:=l}:=by
 have a:=λb f=>h.iu (b:=b) o p f;have i:¬(d.s=d.fm\/d.fsv.ownBlock=N d.s):=λe=>(a _ e).1 rfl;obtain⟨v,y⟩:=h.FU c i (λb f e=>(a b e).2.1 b f rfl) (λe=>(a _ e).2.2.2.2.2.2.2.2 rfl) (λb f e=>(a b e).2.2.1 f) (λb q z e B=>(a b B).2.2.2.1.1 q z e);refine⟨v,⟨c.block.cell i h.r.h1,r,s,t,c.block.cell i h.r.h3,h.r.hT.iW c (λx m=>(h.Cm m).1) (λx k m=>(a x m).2.2.2.2.1 k),c.block.cell i h.r.h4,h.r.hV.same (c.block d.vb (h.lt (MX (MX (MX (MX (MX (MX (MX (MX (Mf rfl)))))))))) λe=>(a _ e).2.2.2.1.2 rfl),h.r.hD.1,λg n k=>?_⟩,h.h.aj c i (λe=>(a _ e).2.2.2.2.2.1 rfl) (λe=>(a _ e).2.2.2.2.2.2.1 rfl) (λg n e=>(a _ e).2.2.2.2.2.2.2.1 n),y⟩;rcases u g n with e|e
 ·exact h.r.hD.2 g e k
 ·have:=h.r.hT.lt k;omega
theorem aC.aP.lD(h:d.aP w)(f:0<d.P.length)(k:w.cell? ⟨d.k,1,S⟩=S)(g:b=d.hb\/d.hsv.ownBlock=N b):b≠d.s/\(∀x,(x=d.k\/KX d.m d.sv x)->x≠b)/\d.pv.ownBlock≠N b/\((∀q∈d.Q,q.2≠N4 (N b))/\b≠d.vb)/\¬d.F b/\b≠d.rb/\b≠d.fm/\d.fsv.ownBlock≠N b/\b≠1:=by
 obtain⟨-,i⟩:=h.xS g;obtain⟨B,C,D,m⟩:=h.p.vd;have o:=h.h.h0;have r:=h.p.hm.1;refine⟨λe=>?_,λx v e=>?_,λe=>?_,?_,λe=>?_,λe=>?_,λe=>?_,λe=>?_,λe=>?_⟩
 ·rw[<-e]at m;rcases i with⟨_,_,_,a,-⟩|⟨_,_,_,_,a,-⟩<;>(rw[a]at m;cases m)
 ·have:=h.kP f k x v;rw[e]at this;rcases g with c|c
  ·exact this.2.2.2.2.2.2.2.2.1 c
  ·exact this.2.2.2.2.2.2.2.2.2.1 c
 ·have:=h.lB f e;rcases g with c|c
  ·exact this.2.2.2.2.2.2.2.2.1 c
  ·exact this.2.2.2.2.2.2.2.2.2.1 c
 ·rcases i with⟨_,_,_,a,-⟩|⟨_,_,_,_,a,-⟩<;>exact h.rh a
 ·obtain⟨E,F,G,H,J,T,_,_,c⟩:=h.r.hT;rw[c]at e;rcases i with⟨_,_,_,a,s⟩|⟨_,_,_,_,a,s,y,K⟩
  ·rcases e with e|(e|e)|(e|e)
   ·have:=T.c0;rw[<-e,a]at this;cases this
   ·have:=T.mI.1;rw[<-e,a]at this;cases this
   ·obtain⟨n,p,j,_⟩:=T.hI _ e;rw[a]at j;cases j
   ·have:=T.mR.1;rw[<-e,a]at this;cases this
   ·obtain⟨n,z,p,j,_,_⟩:=T.hR _ e;rw[a]at j;cases j
  ·rcases e with e|(e|e)|(e|e)
   ·have:=T.c0;rw[<-e,a]at this;cases this
   ·have:=T.mI.1;rw[<-e,a]at this;cases this
   ·obtain⟨n,p,_,t⟩:=T.hI _ e;rw[s]at t;cases t
   ·have:=T.mR.1;rw[<-e,a]at this;cases this
   ·obtain⟨n,z,p,_,_,u⟩:=T.hR _ e;rw[y]at u;cases u
 ·rw[<-e]at o;rcases i with⟨_,_,_,a,-⟩|⟨_,_,_,_,a,-⟩<;>(rw[a]at o;cases o)
 ·exact(h.iu f k (Mf e)).2.2.2.2.2.2.1|>λl=>by
   rcases g with c|c
   ·exact l c
   ·exact(h.iu f k (Mf e)).2.2.2.2.2.2.2.1 c
 ·have l:=(h.iu f k (MX e)).2.2.2.2.2.2;rcases g with c|c
  ·exact l.1 c
  ·exact l.2.1 c
 ·rw[<-e]at r;rcases i with⟨_,_,_,a,-⟩|⟨_,_,_,_,a,-⟩<;>(rw[a]at r;cases r)
theorem aC.aP.routed(h:d.aP w)(y:0<d.P.length)(z:w.cell? ⟨d.k,1,S⟩=S)(c:aH (λb=>b=d.hb\/d.hsv.ownBlock=N b) w W){s:Ma}{m:List Rt}(B:dx W d.hb s m)(C:dA m):aC.aP W {d with hsv:=s,R:=m}:=by
 have f:=λb k=>h.lD (b:=b) y z k;have l:¬(d.s=d.hb\/d.hsv.ownBlock=N d.s):=λe=>(f _ e).1 rfl;obtain⟨D,E⟩:=h.FU c l (λb k e=>(f b e).2.1 b k rfl) (λe=>(f _ e).2.2.2.2.2.2.2.2 rfl) (λb k e=>(f b e).2.2.1 k) (λb q F e G=>(f b G).2.2.2.1.1 q F e);obtain⟨t,H,u,J,K⟩:=h.r.hF;have o:¬(d.fm=d.hb\/d.hsv.ownBlock=N d.fm):=λe=>(f _ e).2.2.2.2.2.2.1 rfl;have p:∀g,d.fsv.ownBlock=N g->¬(g=d.hb\/d.hsv.ownBlock=N g):=λg i e=>(f _ e).2.2.2.2.2.2.2.1 i;refine⟨D,⟨c.block.cell l h.r.h1,⟨c.block.cell o t,c.block.cell o H,ap u λg i=>c.block g (ae u i).2 (p g i),λj=>(World.frozen?_of_block (a:=⟨d.fm,j,S⟩) (c.block d.fm (MO t) o)).trans (J j),K⟩,h.r.sF,λg i=>?_,c.block.cell l h.r.h3,h.r.hT.iW c (λx r=>(h.xS r).1) (λx L r=>(f x r).2.2.2.2.1 L),c.block.cell l h.r.h4,h.r.hV.same (c.block d.vb (h.lt (MX (MX (MX (MX (MX (MX (MX (MX (Mf rfl)))))))))) λe=>(f _ e).2.2.2.1.2 rfl),h.r.hD⟩,⟨c.block.cell l h.h.h2,c.block.cell (λe=>(f _ e).2.2.2.2.2.1 rfl) h.h.h0,B,C⟩,E⟩;obtain⟨n,v,M,P⟩:=h.r.hH g i;exact⟨n,v,c.block.cell (p g i) M,c.block.cell (p g i) P⟩
end
structure aC.cN (d:aC):Prop where
 f:dD d.Fs d.x.Fl
 h:de d.R d.x.Hl
 v:fY d.x.Q.length d.L d.x.rs d.V
 q:∀q∈d.Q,q.2≠N4 (N d.vb)
theorem aC.iC.Lp{d a:aC}(s:d.iC a)(h:d.cN):a.cN:=⟨by rw[s.fs,s.xf];exact h.f,by rw[s.r,s.xh];exact h.h,by rw[s.l,s.xr,s.v,s.q];exact h.v,s.nq h.q⟩
section
variable {w W k m:World}{d:aC}{i:Nat}{r:Nat->Nat}{M:Int}
theorem aT.FW{x:aK}(h:aT w y x)(l:cP w)(f:x.rv.ownBlock=N b):dg w b:=by
 obtain⟨a,E,g,e,p⟩:=h.oY;have q:0<x.Hl.length:=by
  rcases Nat.eq_zero_or_pos x.Hl.length with j|j
  ·rw[h.rr.2 (List.length_eq_zero_iff.1 j)]at f;cases f
  ·exact j
 obtain⟨s,v,F,G,D⟩:=p 0 q;rw[e,s]at f;obtain rfl:g=b:=by simpa[Value.ownBlock]using f
 exact zU l v D
theorem aC.Ok.uF{X:Nat->Prop}(a:d.Ok w r i M)(g:aH X w k)(h:∀b,X b->b<w.heap.size->d.bV b):aT k d.y d.x:=a.ref.aj λb j f=>g.block b f λe=>by
 have l:=a.cI b (h b e f);rw[a.cX b j]at l;omega
end
section
variable {w k W m:World}{C n:Nat}{B o z:Value}{u:List aL}{c:List aC}{t:List au}{r:Nat->Nat}{M:Int}
theorem tX{d:aC}{b:ByteArray}(D:d.aP w)(q:dD d.Fs d.x.Fl)(h:it d.fm d.fsv d.Fs v b w k):∃f l,iR k d.fm f l/\bt l/\gC k f/\(∀b,f.ownBlock=N b->d.fsv.ownBlock=N b\/w.heap.size<=b)/\aH (λb=>b=d.fm\/d.fsv.ownBlock=N b) w k/\dD l (if fV d.Fs v b=0 then nX d.x.Fl v b else d.x.Fl):=by
 unfold it at h;by_cases a:fV d.Fs v b=0
 ·rw[if_pos a]at h⊢;by_cases e:b.size=0
  ·rw[if_pos e]at h;obtain⟨f,E,y,F,G⟩:=h;exact⟨f,_,E,(q.KQ v e).s,y,λx P=>Mf (by rw[<-F];exact P),G,q.KQ v e⟩
  ·rw[if_neg e]at h;obtain⟨f,l,E,y,F,G,R,T,U⟩:=h;have H:js v=Mk/\fQ b=Mk/\l.length<=16:=by
    unfold fV at a;split at a
    ·cases a
    ·rename_i V
     try rw[if_neg e]at a
     split at a
     ·cases a
     ·rename_i X
      refine⟨by simpa using V,by simpa using X,?_⟩;split at a
      ·rename_i s
       rw[R];rw[Bool.or_eq_true,decide_eq_true_eq]at s;have:=q.n;split
       ·omega
       ·rename_i Y
        rcases s with s|s
        ·exact absurd s Y
        ·omega
      ·cases a
   exact⟨f,l,E,y,F,T,U,q.put e y G H.1 H.2.1 H.2.2⟩
 ·rw[if_neg a]at h⊢;obtain⟨K,Z,L,c3,c4⟩:=D.r.hF;have l0:=MO K;refine⟨d.fsv,d.Fs,⟨MW h K,MW h Z,ap L λg J=>h.block g (ae L J).2,λj=>(h.frozen (p:=⟨d.fm,j,S⟩) l0).trans (c3 j),c4⟩,D.r.sF,λg J=>?_,λb e=>Mf e,aH.aG h,q⟩;obtain⟨n,p,q0,q1⟩:=D.r.hH g J;exact⟨n,p,MW h q0,MW h q1⟩
theorem Hu(h:LW w C B o z n u t r)(y:LS w o c r M){i:Nat}(D:i<c.length)(g:c[i].cN){b:ByteArray}(hF:it c[i].fm c[i].fsv c[i].Fs v b w k)(s:Mb k.heap.size k W)(hX:qK c[i].y c[i].x v b W m):∃j P,LW m C B o z n u t j/\LS m o (c.set i P) j (M+1000000)/\P.cN/\cz w m r j:=by
 have a:=y.sw i D;have E:0<c[i].P.length:=by rw[a.eP];unfold aK.P;rw[ND];exact a.n0
 obtain⟨F,G,hm,a3,hh,R,l,p⟩:=tX a.imp g.f hF;have T:=a.imp.xU E a.one l hm a3 hh R;have s1:=l.size;have sb:=s.size;have U:∀b,(b=c[i].fm\/c[i].fsv.ownBlock=N b)->c[i].bV b:=λb e=>by
  rcases e with e|e
  ·exact MX (MX (MX (MX (MX (MX (Mf e))))))
  ·exact MX (MX (MX (MX (MX (MX (MX (Mf e)))))))
 have a5:cP k:=h.laid.iW l.block λx hx=>(a.imp.Cm hx).1;have V:aT k c[i].y c[i].x:=a.uF l λb f _=>U b f;have X:∀b,aC.bV {c[i]with fsv:=F,Fs:=G} b->c[i].bV b\/w.heap.size<=b:=λb f=>by
  rcases f with e|e|e|e|e|e|e|e|e
  ·exact Mf (Mf e)
  ·exact Mf (MX (Mf e))
  ·exact Mf (MX (MX (Mf e)))
  ·exact Mf (MX (MX (MX (Mf e))))
  ·exact Mf (MX (MX (MX (MX (Mf e)))))
  ·exact Mf (MX (MX (MX (MX (MX (Mf e))))))
  ·exact Mf (MX (MX (MX (MX (MX (MX (Mf e)))))))
  ·rcases R b e with q|q
   ·exact Mf (MX (MX (MX (MX (MX (MX (MX (Mf q))))))))
   ·exact MX q
  ·exact Mf (MX (MX (MX (MX (MX (MX (MX (MX e))))))))
 have Y:∀b,(b=c[i].fm\/c[i].fsv.ownBlock=N b)->b<w.heap.size->c[i].bV b/\dg w b/\b≠c[i].k:=λb e _=>⟨U b e,(a.imp.Cm e).1,λq=>(a.imp.iu E a.one e).2.1 c[i].k (Mf rfl) q.symm⟩;have Z:(dG k c[i].vb:Int)<=M+1000000:=by
  rw[dZ (l.block _ (a.imp.lt (MX (MX (MX (MX (MX (MX (MX (MX (Mf rfl)))))))))) λe=>(a.imp.iu E a.one e).2.2.2.1.2 rfl)];have:=a.vs;omega
 rw[g.f.Ka]at p;rcases hX with⟨H,rfl⟩|⟨H,b2,a7,a8,a9⟩
 ·rw[if_neg H]at p;obtain⟨j,J,K,L⟩:=pO (M':=M+1000000) h y D (d1:={c[i]with fsv:=F,Fs:=G}) (X2:=λ_=>False) rfl rfl rfl rfl rfl rfl T X l Y (V.aD s) (λb f=>Mf f) (aH.aG s) (λb f=>f.elim) rfl rfl rfl rfl Z O;exact⟨j,_,J,K,⟨p,g.h,g.v,g.q⟩,L⟩
 ·rw[if_pos H]at p;obtain⟨j,J,K,L⟩:=pO (M':=M+1000000) h y D (d1:={c[i]with fsv:=F,Fs:=G}) (X2:=λb=>b=c[i].y) rfl rfl rfl rfl rfl rfl T X l Y a7 (λb f=>by
   rcases f with e|e|e|e
   ·exact Mf (Mf e)
   ·exact Mf (MX (Mf e))
   ·exact MX (by have:=a9 b e;omega)
   ·exact Mf (MX (MX (MX e)))) ((aH.aG s).trans a8) (λb f _=>by rw[f];exact⟨Mf rfl,a.uG h.laid,V.uG a5⟩) rfl rfl rfl rfl Z O
  exact⟨j,_,J,K,⟨p,g.h,g.v,g.q⟩,L⟩
theorem rY(h:LW w C B o z n u t r)(E:LS w o c r M){i:Nat}(F:i<c.length)(y:c[i].cN){v:Ma}{q:List Rt}{f:aK}(P:dx k c[i].hb v q)(T:dA q)(U:∀b,v.ownBlock=N b->c[i].hsv.ownBlock=N b\/w.heap.size<=b)(p:aH (λb=>b=c[i].hb\/c[i].hsv.ownBlock=N b) w k)(G:Mb k.heap.size k W)(V:aT m c[i].y f)(l:f={c[i].x with rv:=f.rv,Hl:=f.Hl})(X:∀b,f.rv.ownBlock=N b->c[i].x.rv.ownBlock=N b\/k.heap.size<=b)(Y:aH (λb=>b=c[i].y\/c[i].x.rv.ownBlock=N b) W m)(Z:de q f.Hl):∃s H,LW m C B o z n u t s/\LS m o (c.set i H) s (M+1000000)/\H.cN/\cz w m r s:=by
 have a:=E.sw i F;have D:0<c[i].P.length:=by rw[a.eP];unfold aK.P;rw[ND];exact a.n0
 have hI:=a.imp.routed D a.one p P T;have s1:=p.size;have sb:=G.size;have J:∀b,(b=c[i].hb\/c[i].hsv.ownBlock=N b)->c[i].bV b:=λb e=>by
  rcases e with e|e
  ·exact MX (MX (MX (MX (MX (MX (MX (MX (MX (MX (MX (Mf e)))))))))))
  ·exact MX (MX (MX (MX (MX (MX (MX (MX (MX (MX (MX (MX e)))))))))))
 have K:cP k:=h.laid.iW p.block λx hx=>(a.imp.xS hx).1;have L:aT k c[i].y c[i].x:=a.uF p λb j _=>J b j;have a2:∀b,aC.bV {c[i]with hsv:=v,R:=q} b->c[i].bV b\/w.heap.size<=b:=λb j=>by
  rcases j with e|e|e|e|e|e|e|e|e|e|e|e|e
  ·exact Mf (Mf e)
  ·exact Mf (MX (Mf e))
  ·exact Mf (MX (MX (Mf e)))
  ·exact Mf (MX (MX (MX (Mf e))))
  ·exact Mf (MX (MX (MX (MX (Mf e)))))
  ·exact Mf (MX (MX (MX (MX (MX (Mf e))))))
  ·exact Mf (MX (MX (MX (MX (MX (MX (Mf e)))))))
  ·exact Mf (MX (MX (MX (MX (MX (MX (MX (Mf e))))))))
  ·exact Mf (MX (MX (MX (MX (MX (MX (MX (MX (Mf e)))))))))
  ·exact Mf (MX (MX (MX (MX (MX (MX (MX (MX (MX (Mf e))))))))))
  ·exact Mf (MX (MX (MX (MX (MX (MX (MX (MX (MX (MX (Mf e)))))))))))
  ·exact Mf (MX (MX (MX (MX (MX (MX (MX (MX (MX (MX (MX (Mf e))))))))))))
  ·rcases U b e with g|g
   ·exact Mf (MX (MX (MX (MX (MX (MX (MX (MX (MX (MX (MX (MX g))))))))))))
   ·exact MX g
 have a3:∀b,(b=c[i].hb\/c[i].hsv.ownBlock=N b)->b<w.heap.size->c[i].bV b/\dg w b/\b≠c[i].k:=λb e _=>⟨J b e,(a.imp.xS e).1,λg=>(a.imp.lD D a.one e).2.1 c[i].k (Mf rfl) g.symm⟩;have a4:(dG k c[i].vb:Int)<=M+1000000:=by
  rw[dZ (p.block _ (a.imp.lt (MX (MX (MX (MX (MX (MX (MX (MX (Mf rfl)))))))))) λe=>(a.imp.lD D a.one e).2.2.2.1.2 rfl)];have:=a.vs;omega
 have eQ:f.Q=c[i].x.Q:=by rw[l]
 have eK:f.K=c[i].x.K:=by rw[l]
 have a7:f.kv=c[i].x.kv:=by rw[l]
 have a8:f.now=c[i].x.now:=by rw[l]
 obtain⟨s,f1,f2,f3⟩:=pO (M':=M+1000000) h E F (d1:={c[i]with hsv:=v,R:=q}) (x2:=f) (X2:=λb=>b=c[i].y\/c[i].x.rv.ownBlock=N b) rfl rfl rfl rfl rfl rfl hI a2 p a3 V (λb j=>by
   rw[l]at j;rcases j with e|e|e|e|e
   ·exact Mf (Mf e)
   ·exact Mf (MX (Mf e))
   ·exact Mf (MX (MX (Mf e)))
   ·rcases X b e with g|g
    ·exact Mf (MX (MX (MX (Mf g))))
    ·exact MX g
   ·exact Mf (MX (MX (MX (MX e))))) ((aH.aG G).trans Y) (λb j _=>by
   rcases j with rfl|e
   ·exact⟨Mf rfl,a.uG h.laid,L.uG K⟩
   ·exact⟨MX (MX (MX (Mf e))),a.ref.FW h.laid e,L.FW K e⟩) eQ eK a7 a8 a4 O
 refine⟨s,_,f1,f2,⟨?_,Z,?_,y.q⟩,f3⟩
 ·show dD c[i].Fs f.Fl;rw[l];exact y.f
 ·show fY f.Q.length c[i].L f.rs c[i].V;rw[l];exact y.v
theorem D7(h:LW w C B o z n u t r)(s:LS w o c r M){i:Nat}(x:i<c.length)(g:c[i].cN){b:ByteArray}(f:fD c[i].hb c[i].hsv c[i].R ⟨p,l,v,b⟩ (gZ c[i].R p l v b) w k)(j:Mb k.heap.size k W)(L:jZ c[i].y c[i].x p l v b W m):∃y F,LW m C B o z n u t y/\LS m o (c.set i F) y (M+1000000)/\F.cN/\cz w m r y:=by
 have D:=s.sw i x;have E:=g.h.Ka p l v b;unfold fD at f;rcases L with⟨q,G⟩|⟨q,a7,P,R,T⟩
 ·rw[if_neg (by rw[E];exact q)]at f;have U:aT k c[i].y c[i].x:=D.ref.aD f;exact rY h s x g (D.imp.h.hM.aD f) D.imp.h.hS (λ_ e=>Mf e) (aH.aG f) j ((U.aD j).aD G) rfl (λ_ e=>Mf e) (aH.aG G) g.h
 ·rw[if_pos (by rw[E];exact q)]at f;obtain⟨a8,V,X,H,Y,Z,h5,h6⟩:=f;have J:(jV p l=Mk/\js v=Mk/\fQ b=Mk)/\V.length<=100:=by
   have a:=E.trans q;unfold gZ at a;split at a
   ·cases a
   ·rename_i g1
    split at a
    ·cases a
    ·rename_i g2
     split at a
     ·cases a
     ·rename_i g3
      split at a
      ·cases a
      ·rename_i K
       refine⟨⟨by simpa using g1,by simpa using g2,by simpa using g3⟩,?_⟩;rw[Z];have:=g.h.n;split
       ·omega
       ·rename_i g5
        rw[NH,decide_eq_true_eq,<-Option.not_isSome,Bool.not_eq_true']at K;have a6:(cM c[i].R p l).isSome=false:=by simpa using g5
        have:¬100<=c[i].R.length:=λe=>K ⟨a6,e⟩;omega
  have sb:=j.size;exact rY h s x g X H h5 h6 j P rfl (λb e=>(T b e).imp id O) R (g.h.put (e0:=⟨p,l,v,b⟩) H Y J.1 J.2)
theorem xa(h:LW w C B o z n u t r)(v:LS w o c r M){i:Nat}(x:i<c.length)(j:c[i].cN)(a:ec c[i].hb c[i].hsv c[i].R p l w k)(q:Mb k.heap.size k W)(G:ky c[i].y c[i].x p l W m):∃y E,LW m C B o z n u t y/\LS m o (c.set i E) y (M+1000000)/\E.cN/\cz w m r y:=by
 have D:=v.sw i x;have F:=j.h.DV p l;unfold ec at a;rcases G with⟨f,rfl⟩|⟨f,U,H,J,K⟩
 ·have s:(Ug c[i].x.Hl p l).isSome=false:=by
   unfold jN at f;split at f
   ·exact absurd rfl f
   ·rename_i g;simpa using g
  rw[if_neg (by rw[F,s];decide)]at a;have L:aT k c[i].y c[i].x:=D.ref.aD a;exact rY h v x j (D.imp.h.hM.aD a) D.imp.h.hS (λ_ e=>Mf e) (aH.aG a) q (L.aD q) rfl (λ_ e=>Mf e) (aH.refl _ _) j.h
 ·have s:(Ug c[i].x.Hl p l).isSome=true:=by
   unfold jN at f;split at f
   ·rename_i g;exact g
   ·cases f
  rw[if_pos (by rw[F,s])]at a;obtain⟨V,P,R,T⟩:=a;have X:=q.size;have hrel:=j.h.KQ p l s;exact rY h v x j P hrel.s (λb e=>Mf (by rw[<-R];exact e)) T q H rfl (λb e=>MX (by have:=K b e;omega)) (J.mono λ_ _ e=>Mf e) hrel
end
section
variable {w W p u:World}{d:aC}{X:Nat->Prop}
theorem JL{o:Obj}(a:cP w)(h:w.heap[x]?=N o)(b:o.isCells=Md):dg w x:=(tr a h b).iW
theorem aC.aP.Cj(h:d.aP w)(a:0<d.P.length)(g:w.cell? ⟨d.k,1,S⟩=S)(F:∀q∈d.Q,q.2≠N4 (N d.vb))(J:d.F b\/b=d.vb):b≠d.s/\(∀x,(x=d.k\/KX d.m d.sv x)->x≠b)/\d.pv.ownBlock≠N b/\(∀q∈d.Q,q.2≠N4 (N b))/\(b≠d.fm/\d.fsv.ownBlock≠N b)/\b≠d.rb/\b≠d.hb/\d.hsv.ownBlock≠N b/\b≠1:=by
 obtain⟨R,T,U,t⟩:=h.p.vd;have o:=h.h.h0;have K:=h.h.hM.1.1;have y:=h.p.hm.1;rcases J with i|rfl
 ·obtain⟨v,k,L,P⟩:=h.r.hT.AJ i;refine⟨λe=>?_,λx r e=>?_,λe=>?_,(h.rh k).1,⟨λe=>?_,λe=>?_⟩,λe=>?_,λe=>?_,λe=>?_,λe=>?_⟩
  ·rw[e,t]at k;exact L _ _ _ (Option.some.inj k).symm
  ·exact(h.kP a g x r).2.2.2.2.2.2.1 (by rw[e];exact i)
  ·exact(h.lB a e).2.2.2.2.2.2.1 i
  ·exact(h.iu a g (Mf e)).2.2.2.2.1 i
  ·exact(h.iu a g (MX e)).2.2.2.2.1 i
  ·rw[e]at i;rcases h.r.hT.qP i with⟨V,j,B⟩|⟨Y,f,c,j⟩|⟨m,j,-⟩
   ·rw[o]at j;cases j;rw[K]at B;cases B
   ·rw[o]at j;cases j
   ·rw[o]at j;cases j
  ·exact(h.lD a g (Mf e)).2.2.2.2.1 i
  ·exact(h.lD a g (MX e)).2.2.2.2.1 i
  ·rw[e,y]at k;exact P _ (Option.some.inj k).symm
 ·have s:∀{v:Ma},w.cell? ⟨d.vb,0,S⟩=N v->False:=λk=>(h.rh k).2 rfl;refine⟨λe=>?_,λx r e=>?_,λe=>?_,F,⟨λe=>?_,λe=>?_⟩,λe=>?_,λe=>?_,λe=>?_,λe=>?_⟩
  ·exact s (by rw[e];exact t)
  ·exact(h.kP a g x r).2.2.2.2.2.1 e
  ·exact(h.lB a e).2.2.2.2.2.1 rfl
  ·exact(h.iu a g (Mf e)).2.2.2.1.2 rfl
  ·exact(h.iu a g (MX e)).2.2.2.1.2 rfl
  ·exact s (by rw[e];exact o)
  ·exact(h.lD a g (Mf e)).2.2.2.1.2 rfl
  ·exact(h.lD a g (MX e)).2.2.2.1.2 rfl
  ·exact s (by rw[e];exact y)
theorem aC.aP.KZ(h:d.aP w)(R:0<d.P.length)(T:w.cell? ⟨d.k,1,S⟩=S)(U:∀q∈d.Q,q.2≠N4 (N d.vb))(f:aH (λb=>d.F b\/b=d.vb) w W){o:Nat->Prop}{B:List af}{J:Int->Int×Int}(Y:bQ W d.t o B)(K:∀x,o x->d.F x\/w.heap.size<=x)(Z:dc W d.vb 0 J):aC.aP W {d with F:=o,L:=B,V:=J}:=by
 have i:=λb k=>h.Cj (b:=b) R T U k;have m:¬(d.F d.s\/d.s=d.vb):=λe=>(i _ e).1 rfl;obtain⟨hp,po⟩:=h.FU f m (λb k e=>(i b e).2.1 b k rfl) (λe=>(i _ e).2.2.2.2.2.2.2.2 rfl) (λb k e=>(i b e).2.2.1 k) (λb q a2 e e'=>(i b e').2.2.2.1 q a2 e);obtain⟨P,f1,r,f3,f4⟩:=h.r.hF;have s:¬(d.F d.fm\/d.fm=d.vb):=λe=>(i _ e).2.2.2.2.1.1 rfl;have t:∀g,d.fsv.ownBlock=N g->¬(d.F g\/g=d.vb):=λg c e=>(i _ e).2.2.2.2.1.2 c;have lf:d.fm<w.heap.size:=MO P;refine⟨hp,⟨f.block.cell m h.r.h1,⟨f.block.cell s P,f.block.cell s f1,ap r λg c=>f.block g (ae r c).2 (t g c),λj=>(World.frozen?_of_block (a:=⟨d.fm,j,S⟩) (f.block d.fm lf s)).trans (f3 j),f4⟩,h.r.sF,λg c=>?_,f.block.cell m h.r.h3,Y,f.block.cell m h.r.h4,Z,λy=>?_,λg c y=>?_⟩,h.h.aj f m (λe=>(i _ e).2.2.2.2.2.1 rfl) (λe=>(i _ e).2.2.2.2.2.2.1 rfl) (λg c e=>(i _ e).2.2.2.2.2.2.2.1 c),po⟩
 ·obtain⟨n,v,d0,d1⟩:=h.r.hH g c;exact⟨n,v,f.block.cell (t g c) d0,f.block.cell (t g c) d1⟩
 ·rcases K _ y with e|e
  ·exact h.r.hD.1 e
  ·exact absurd e (show¬w.heap.size<=d.fm by omega)
 ·rcases K _ y with e|e
  ·exact h.r.hD.2 g c e
  ·have:=(ae r c).2;omega
end
theorem aT.DT{w W:World}{x:aK}(h:aT w y x){k:List Rl}(F:aH (λb=>b=y\/x.tv.ownBlock=N b) w W)(J:Ju w W y)(a:jr w W y 3)(m:iB 1 W y 3 j k):aT W y {x with tv:=j,rs:=k}:=by
 obtain⟨K,o⟩:=h.blk;have c:∀{t:TypeId} {s n B:Nat} {v:Ma} {L:List Ma},w.ownsRow B t s v n L->t≠90->t≠37->∀g,v.ownBlock=N g->W.heap[g]?=w.heap[g]?:=λf P R g i=>F.block g (f.lt g i).2 λe=>by
  rcases e with e|e
  ·exact dq f o P (i.trans (congrArg N e))
  ·exact kd f h.rt.1 R i e
 exact⟨J K _ o,(a 0 US).1.trans h.c0,(a 1 US).1.trans h.c1,(a 2 US).1.trans h.c2,m.1,(a 4 US).1.trans h.c4,(a 5 US).1.trans h.c5,h.rp.same (c h.rp.1 US US),h.rf.same (c h.rf.1 US US),h.rr.same (c h.rr.1 US US),m.2.2.1,h.rk.same (c h.rk.1 US US),λq r=>aY (h.tg q r) (c (h.tg q r) US US)⟩
section
variable {w p W u:World}{H n:Nat}{tv z G:Value}{E:List aL}{l:List aC}{D:List au}{C:Nat->Nat}{M:Int}
theorem mQ(h:LW w H tv z G n E D C)(y:LS w z l C M)(B:i<l.length)(k:l[i].cN){t:Nat->Prop}{m:List af}{q:Int->Int×Int}{a:aK}(Z:bQ p l[i].t t m)(J:∀x,t x->l[i].F x\/w.heap.size<=x)(hV:dc p l[i].vb 0 q)(r:aH (λb=>l[i].F b\/b=l[i].vb) w p)(hz:(dG p l[i].vb:Int)<=M+1000000)(K:Mb p.heap.size p W)(a2:aT u l[i].y a)(j:a={l[i].x with tv:=a.tv,rs:=a.rs})(a3:∀b,a.tv.ownBlock=N b->l[i].x.tv.ownBlock=N b\/p.heap.size<=b)(a4:aH (λb=>b=l[i].y\/l[i].x.tv.ownBlock=N b) W u)(a5:fY l[i].x.Q.length m a.rs q):∃s P,LW u H tv z G n E D s/\LS u z (l.set i P) s (M+1000000)/\P.cN/\cz w u C s:=by
 have c:=y.sw i B;have R:0<l[i].P.length:=by rw[c.eP];unfold aK.P;rw[ND];exact c.n0
 have hI:=c.imp.KZ R c.one k.q r Z J hV;have s1:=r.size;have sb:=K.size;have v:∀b,(l[i].F b\/b=l[i].vb)->l[i].bV b:=λb e=>by
  rcases e with e|e
  ·exact MX (MX (MX (MX (MX (MX (MX (MX (MX (Mf e)))))))))
  ·exact MX (MX (MX (MX (MX (MX (MX (MX (Mf e))))))))
 have T:∀b,(l[i].F b\/b=l[i].vb)->dg w b:=λb e=>by
  rcases e with e|rfl
  ·exact(c.imp.r.hT.rl e).iW h.laid
  ·obtain⟨o,ho,a8⟩:=c.imp.r.hV.AK;exact JL h.laid ho a8
 have a9:cP p:=h.laid.iW r.block T;have U:aT p l[i].y l[i].x:=c.uF r λb g _=>v b g;have b0:∀b,aC.bV {l[i]with F:=t,L:=m,V:=q} b->l[i].bV b\/w.heap.size<=b:=λb g=>by
  rcases g with e|e|e|e|e|e|e|e|e|e|e
  ·exact Mf (Mf e)
  ·exact Mf (MX (Mf e))
  ·exact Mf (MX (MX (Mf e)))
  ·exact Mf (MX (MX (MX (Mf e))))
  ·exact Mf (MX (MX (MX (MX (Mf e)))))
  ·exact Mf (MX (MX (MX (MX (MX (Mf e))))))
  ·exact Mf (MX (MX (MX (MX (MX (MX (Mf e)))))))
  ·exact Mf (MX (MX (MX (MX (MX (MX (MX (Mf e))))))))
  ·exact Mf (MX (MX (MX (MX (MX (MX (MX (MX (Mf e)))))))))
  ·rcases J b e with f|f
   ·exact Mf (v b (Mf f))
   ·exact MX f
  ·exact Mf (MX (MX (MX (MX (MX (MX (MX (MX (MX (MX e))))))))))
 have b1:∀b,(l[i].F b\/b=l[i].vb)->b<w.heap.size->l[i].bV b/\dg w b/\b≠l[i].k:=λb e _=>⟨v b e,T b e,λf=>(c.imp.Cj R c.one k.q e).2.1 l[i].k (Mf rfl) f.symm⟩;have Y:a.Q=l[i].x.Q:=by rw[j]
 have eK:a.K=l[i].x.K:=by rw[j]
 have b3:a.kv=l[i].x.kv:=by rw[j]
 have b4:a.now=l[i].x.now:=by rw[j]
 obtain⟨s,f1,f2,f3⟩:=pO (M':=M+1000000) h y B (d1:={l[i]with F:=t,L:=m,V:=q}) (x2:=a) (X2:=λb=>b=l[i].y\/l[i].x.tv.ownBlock=N b) rfl rfl rfl rfl rfl rfl hI b0 r b1 a2 (λb g=>by
   rw[j]at g;rcases g with e|e|e|e|e|e
   ·exact Mf (Mf e)
   ·exact Mf (MX (Mf e))
   ·exact Mf (MX (MX (Mf e)))
   ·exact Mf (MX (MX (MX (Mf e))))
   ·rcases a3 b e with f|f
    ·exact Mf (MX (MX (MX (MX (Mf f)))))
    ·exact MX f
   ·exact Mf (MX (MX (MX (MX (MX e)))))) ((aH.aG K).trans a4) (λb g _=>by
   rcases g with rfl|e
   ·exact⟨Mf rfl,c.uG h.laid,U.uG a9⟩
   ·exact⟨MX (MX (MX (MX (Mf e)))),nH c.ref.rt e,nH U.rt e⟩) Y eK b3 b4 hz O
 refine⟨s,_,f1,f2,⟨?_,?_,?_,k.q⟩,f3⟩
 ·show dD l[i].Fs a.Fl;rw[j];exact k.f
 ·show de l[i].R a.Hl;rw[j];exact k.h
 ·show fY a.Q.length m a.rs q;rw[Y];exact a5
theorem JD(h:LW w H tv z G n E D C)(y:LS w z l C M)(B:i<l.length)(o:l[i].cN){r:Rl}(hw:(Lit.int I r.id).wf=Mk)(f:if ij r l[i].P.length then Mb w.heap.size w p else rJ l[i].t l[i].vb l[i].F l[i].L l[i].V r w p)(s:Mb p.heap.size p W)(K:uA l[i].y l[i].x r W e u):e=.returned (Q I (if ij r l[i].P.length then 1 else ah l[i].L r))/\∃t v,LW u H tv z G n E D t/\LS u z (l.set i v) t (M+1000000)/\v.cN/\cz w u C t:=by
 have j:=y.sw i B;have hP:l[i].P.length=l[i].x.Q.length:=by rw[j.eP];unfold aK.P;rw[ND]
 rw[hP,Bb]at f⊢;have sb:=s.size;have c7:=j.vs;rcases K with⟨x,rfl,V⟩|⟨x,K⟩
 ·rw[if_pos x]at f⊢;have F:aT p l[i].y l[i].x:=j.ref.aD f;obtain⟨ov,b1,-⟩:=j.imp.r.hV.AK;have Y:=aJ b1;exact⟨rfl,mQ h y B o (j.imp.r.hT.still f) (λ_ e=>Mf e) (j.imp.r.hV.same (f.block _ Y)) (aH.aG f) (by rw[dZ (f.block _ Y)];omega) s ((F.aD s).aD V) rfl (λ_ e=>Mf e) (aH.aG V) o.v⟩
 ·rw[if_neg (by rw[x];decide)]at f⊢;obtain⟨F',L',L,Z,P,J⟩:=f;have a0:=o.v.r;have d1:l[i].x.rs.length=l[i].L.length:=by rw[a0];exact ND _
  have F:aT p l[i].y l[i].x:=j.uF P λb hb _=>by
   rcases hb with e|e
   ·exact MX (MX (MX (MX (MX (MX (MX (MX (MX (Mf e)))))))))
   ·exact MX (MX (MX (MX (MX (MX (MX (MX (Mf e))))))))
  have a1:(∃q∈l[i].x.rs,q.id=r.id)↔(l[i].L.any λa=>a.2.id==r.id)=true:=by
   rw[a0,P7];constructor
   ·rintro⟨q,c,e⟩;obtain⟨a,R,rfl⟩:=OD.1 c;exact⟨a,R,by rw[beq_iff_eq];exact e⟩
   ·rintro⟨a,R,e⟩;exact⟨a.2,OD.2 ⟨a,R,rfl⟩,by rwa[beq_iff_eq]at e⟩
  have T:ah l[i].L r≠0->Mb W.heap.size W u->∃t v,LW u H tv z G n E D t/\LS u z (l.set i v) t (M+1000000)/\v.cN/\cz w u C t:=λh0 m=>by
   rw[if_neg h0]at J;obtain⟨rfl,U,hz⟩:=J;exact mQ h y B o L Z U P O s ((F.aD s).aD m) rfl (λ_ e=>Mf e) (aH.aG m) o.v
  have a3:(∀q∈l[i].x.rs,q.id≠r.id)->(l[i].L.any λa=>a.2.id==r.id)=false:=λc=>by
   rw[<-Bool.not_eq_true,<-a1];rintro⟨q,h1,h2⟩;exact c q h1 h2
  rcases K with⟨rfl,g,m⟩|⟨rfl,g,c,m⟩|⟨rfl,g,c,d2,m⟩|⟨rfl,g,c,d3,k,hk,b9,c0,v',c1,a4,c2,c3,c4⟩
  ·have e4:ah l[i].L r=4:=by unfold ah;rw[g];rfl
   exact⟨by rw[e4],T (by rw[e4];decide) m⟩
  ·have e5:ah l[i].L r=5:=by unfold ah;rw[g,a1.1 c];rfl
   exact⟨by rw[e5],T (by rw[e5];decide) m⟩
  ·have e6:ah l[i].L r=6:=by unfold ah;rw[g,a3 c];simp[show 200<=l[i].L.length by omega]
   exact⟨by rw[e6],T (by rw[e6];decide) m⟩
  ·have e0:ah l[i].L r=0:=by unfold ah;rw[g,a3 c];simp[show¬200<=l[i].L.length by omega]
   rw[if_pos e0]at J;obtain⟨⟨b,hm⟩,U,hz⟩:=J;refine⟨by rw[e0],mQ h y B o L Z U P O s ((F.aD s).DT a4 c4 c2 c1) rfl (λb e=>(c3 b e).imp id O) a4 ?_⟩;refine o.v.MG j.imp.r.hT.jw L.jw hm c hk b9 c0 (λe=>?_) hw;have h0:=Cy g e;unfold lG at x;rw[g,O5,show(r.ac==2)=Mk by rw[beq_iff_eq];exact e,O5,decide_eq_false_iff_not]at x;omega
theorem JN(h:LW w H tv z G n E D C)(g:LS w z l C M)(j:i<l.length)(c:l[i].cN){x:Int}(P:DS l[i].t l[i].vb l[i].F l[i].L l[i].V x w p)(f:Mb p.heap.size p W)(R:FK 1 l[i].y 3 l[i].x.rs x W e u):e=.returned (Q I (if(l[i].L.any λa=>a.2.id==x)then 0 else 7))/\∃m v,LW u H tv z G n E D m/\LS u z (l.set i v) m (M+1000000)/\v.cN/\cz w u C m:=by
 have o:=g.sw i j;obtain⟨y,B,q,hz⟩:=P;have r:=c.v.r;have sb:=f.size;have a5:=o.vs;have F:aT p l[i].y l[i].x:=o.uF q λb T _=>by
  rcases T with e|e
  ·exact MX (MX (MX (MX (MX (MX (MX (MX (MX (Mf e)))))))))
  ·exact MX (MX (MX (MX (MX (MX (MX (MX (Mf e))))))))
 rcases R with⟨rfl,rfl,J⟩|⟨k,s,K,rfl,v',U,L,V,Y,Z⟩
 ·have t:(l[i].L.any λa=>a.2.id==x)=false:=by
   rw[List.any_eq_false];intro a h1;rw[beq_iff_eq];exact J a.2 (by rw[r];exact OD.2 ⟨a,h1,rfl⟩)
  exact⟨by rw[t];rfl,mQ h g j c y (λ_ e=>Mf e) B q O f (F.aD f) rfl (λ_ e=>Mf e) (aH.refl _ _) (c.v.Ih J)⟩
 ·have t:(l[i].L.any λa=>a.2.id==x)=true:=by
   have a1:k<l[i].L.length:=by rw[r]at s;simpa using s
   have e1:l[i].x.rs[k]=l[i].L[k].2:=by simp only[r,List.getElem_map]
   rw[P7];exact⟨_,Ms a1,by rw[beq_iff_eq,<-e1];exact K⟩
  exact⟨by rw[t];rfl,mQ h g j c y (λ_ e=>Mf e) B q O f ((F.aD f).DT (L.mono λ_ _ e=>Mf e) Z V U) rfl (λb e=>MX (by have:=Y b e;omega)) (L.mono λ_ _ e=>Mf e) (c.v.KQ s K o.imp.r.hT.Lt)⟩
end
def mJ(P:List b7)(K:List Mc)(q:Pg):List (Int×ByteArray):=fS P q (iL (az K q.f.vlan q.f.to)) (az K q.f.vlan q.f.to).isSome P.length
def IX(f:Int->List (Int×ByteArray)->List Mc->Prop)(P:List b7)(L:List af)(V:Int->Int×Int)(a:List Fc)(R:List Rt)(K:List Mc)(u:Pg):Prop:=
 (∀r m,kj L V P u=N (r,m)->f r m K)/\(kj L V P u=S->(∀r,iJ a R u=.inl r->f r [] K)/\∀q,iJ a R u=.inr q->f (if(mJ P K q).length=0 then 8 else 0) (mJ P K q) K)
theorem iP(x:aK)(b:Ma)(K:List Mc)(q:Pg):zk {x with kv:=b,K:=K} q=mJ x.P K q:=by
 have e:x.P.length=x.Q.length:=by unfold aK.P;rw[ND]
 unfold zk mJ;rw[e];rfl
section
variable {L:List af}{V:Int->Int×Int}{P:List b7}{a:List Fc}{s:List (Int×ByteArray)}{R:List Rt}{z:List bq}{p q:Pg}
theorem lX(h:p.right=Md):kj L V P p=none:=by
 unfold kj;rw[if_neg];rintro⟨b,-⟩;rw[h]at b;cases b
theorem wN(h:(cj p.f.ty==2)=Md):iJ a R p=.inr p:=by unfold iJ;rw[if_pos h]
theorem ji(h:dU a p=Md):iJ a R p=.inr p:=by
 unfold iJ;split
 ·rfl
 ·first|rfl|(rw[if_pos h])
theorem lM(h:(cj p.f.ty==2)=Mk)(b:dU a p=Mk):iJ a R p=jh a R p:=by
 unfold iJ jh;rw[if_neg (by rw[h];decide),if_neg (by rw[b];decide)];rfl
theorem tB(b:ByteArray):b.toList.length=b.size:=by rw[ByteArray.toList_eq,Array.length_toList];rfl
theorem fT(l:dD a s)(u:p.f.to.size=6):dU a p=(p.f.to.toList==(cH s p.f.vlan).toList):=by
 obtain⟨B,C,F⟩:=l.Ig p.f.vlan;unfold dU;rw[<-B];cases b:(bG a p.f.vlan).isSome with
 |true=>rw[O5]
 |false=>
  rw[Bool.false_and];symm;rw[beq_eq_false_iff_ne];intro e;have D:(cH s p.f.vlan).size=0:=Decidable.byContradiction λE=>by rw[C.2 E]at b;cases b
  have h:=tB p.f.to;rw[e,tB,D,u]at h;cases h
theorem Eu(b:ByteArray):(qC b).size=b.size:=by
 unfold qC;have:∀l:List UInt8,(ce l).size=l.length:=λl=>by simp[ce,ByteArray.size]
 rw[this,Mw,Mw,Mw,tB]
theorem sX(B:de R z)(C:dD a s)(h:jh a R p=.inr q):q.port=p.port/\q.routed=Mk/\q.f.to.size=6/\(0<=q.f.vlan/\q.f.vlan<4096)/\q.f.mark=0/\q.f.fr.size=6/\q.f.ty=p.f.ty/\q.f.rest.size=p.pb.size:=by
 unfold jh at h;split at h
 ·cases h
 ·split at h
  ·cases h
  ·split at h
   ·cases h
   ·rename_i e b
    split at h
    ·rename_i D
     cases h;have l:=B.z e (List.mem_of_find?_eq_some (by unfold fU at b;exact b));have u:=l.2.1;unfold js bD at u;simp only[NH,decide_eq_true_eq]at u;obtain⟨E,-,F⟩:=C.Ig e.vlan;refine⟨rfl,rfl,(zA l.2.2).1,?_,rfl,?_,rfl,Eu _⟩
     ·show 0<=e.vlan/\e.vlan<4096;omega
     ·show(jT a e.vlan).size=6;rw[<-E];exact F D
    ·cases h
end
section
variable {y:Nat}{x:aK}{f:Int->List (Int×ByteArray)->List Mc->Prop}{w n i j k t:World}{g v:Value}{d:List Mc}{r:Int}{m:List (Int×ByteArray)}{o:Nat}
theorem dl(e:Mb w.heap.size w n)(h:aH (λb=>b=y\/x.kv.ownBlock=N b) n i)(l:aT i y {x with kv:=g,K:=d})(u:∀b,g.ownBlock=N b->x.kv.ownBlock=N b\/n.heap.size<=b)(B:Mb i.heap.size i j)(C:f r [] d)(D:d≠[]):gV y x f w (.returned (.tuple #[MR S 0 0,Q I r])) j:=
 dw e h l u B (Below.refl _ j) (aX.nil _ _ _ _ _) C D
theorem fA(l:Mb w.heap.size w n)(u:aH (λb=>b=y\/x.kv.ownBlock=N b) n i)(D:aT k y {x with kv:=g,K:=d})(E:∀b,g.ownBlock=N b->x.kv.ownBlock=N b\/n.heap.size<=b)(B:Mb i.heap.size i j)(U:w.heap.size<=o)(C:aH (λb=>b=o) j k)(h:Mb k.heap.size k t)(F:aX eY k.heap.size t 66 2 v m)(G:f r m d)(H:d≠[]):gV y x f w (.returned (.tuple #[v,Q I r])) t:=by
 have W:=l.size;have X:=u.size;have Y:=B.size;have Z:=C.size;have s7:=h.size;refine⟨v,r,m,g,d,rfl,G,F.uc O,D.aD h,⟨?_,?_,?_,O,λb J M=>?_⟩,λb T=>(E b T).imp id O,λe=>absurd e H⟩
 ·rw[h.os,C.os,B.os,u.os,l.os]
 ·rw[h.tape,C.tape,B.tape,u.tape,l.tape]
 ·rw[h.output,C.output,B.output,u.output,l.output]
 ·rw[h.block b O,C.block b O O,B.block b O,u.block b O M,l.block b J]
theorem aT.DU(h:aT j y {x with kv:=g,K:=d})(B:aT w y x)(C:aH (λb=>b=o) j k)(G:w.heap.size<=o)(D:∀b,g.ownBlock=N b->x.kv.ownBlock=N b\/o<b):aT k y {x with kv:=g,K:=d}:=by
 refine h.aj λb E F=>C.block b F λe=>?_;subst e;have l:x.cR y b->False:=λe=>by have:=B.AG e;omega
 rcases E with e|e|e|e|e|e|e
 ·exact l (Mf e)
 ·exact l (MX (Mf e))
 ·exact l (MX (MX (Mf e)))
 ·exact l (MX (MX (MX (Mf e))))
 ·exact l (MX (MX (MX (MX (Mf e)))))
 ·rcases D b e with u|u
  ·exact l (MX (MX (MX (MX (MX (Mf u))))))
  ·omega
 ·exact l (MX (MX (MX (MX (MX (MX e))))))
end
section
attribute [local go_sem] Oper.semAt_some aI
theorem yn(w:World)(o i:Nat)(p f q:Ma)(n:Nat)(s:List aL)(c:List aC)(t:List au)(g:Nat->Nat)(M:Int)(a u v x y:Int)(z:ByteArray)(B:Option Addr)(C D:Nat)(r:Rl)(E F G H J:Int)(h:LW w o p f q n s t g)(K:LS w f c g M){Z:i<c.length}(L:c[i].cN)(V:15<a):Calls prog 29 #[MQ (N ⟨c[i].p,0,S⟩),.agg #[Q I a,Q I u,Q I v,Q I x,Q I y,MS z,MR B C D,Q I r.id,Q I r.pr,Q I r.k0,Q I r.v0,Q I r.m0,Q I r.k1,Q I r.v1,Q I r.m1,Q I r.k2,Q I r.v2,Q I r.m2,Q I r.k3,Q I r.v3,Q I r.m3,Q I r.k4,Q I r.v4,Q I r.m4,Q I r.ac,Q I r.po,Q I E,Q I F,Q I G,Q I H,Q I J]] w λe W=>e=.returned (.bool Mk)/\∃d j,LW W o p f q n s t d/\LS W f (c.set i j) d (M+1000000)/\j.cN/\cz w W g d:=by
 obtain⟨b,l⟩:=UX (w.alloc (.cells #[Q I a,Q I u,Q I v,Q I x,Q I y,MS z,MR B C D,Q I r.id,Q I r.pr,Q I r.k0,Q I r.v0,Q I r.m0,Q I r.k1,Q I r.v1,Q I r.m1,Q I r.k2,Q I r.v2,Q I r.m2,Q I r.k3,Q I r.v3,Q I r.m3,Q I r.k4,Q I r.v4,Q I r.m4,Q I r.ac,Q I r.po,Q I E,Q I F,Q I G,Q I H,Q I J] 41));obtain⟨k,P⟩:=UX w.heap.size;have m:=UY l;have R:b.rangeAt k 0 [Q I a,Q I u,Q I v,Q I x,Q I y,MS z,MR B C D,Q I r.id,Q I r.pr,Q I r.k0,Q I r.v0,Q I r.m0,Q I r.k1,Q I r.v1,Q I r.m1,Q I r.k2,Q I r.v2,Q I r.m2,Q I r.k3,Q I r.v3,Q I r.m3,Q I r.k4,Q I r.v4,Q I r.m4,Q I r.ac,Q I r.po,Q I E,Q I F,Q I G,Q I H,Q I J]:=by rw[l,P];exact aN _ _ _
 have X:b.cell? ⟨k,0,S⟩=N (Q I a):=R 0 _ rfl;have a0:k<b.heap.size:=MO X;have Y:aA (∃d j,LW b o p f q n s t d/\LS b f (c.set i j) d (M+1000000)/\j.cN/\cz w b g d):=A ⟨g,c[i],h.still m,by rw[List.set_getElem_self];exact(K.still m).later O,L,cz.aG m⟩;have m8:¬a=8:=O;have m9:¬a=9:=O;have a3:¬a=10:=O;have a4:¬a=11:=O;have a5:¬a=12:=O;have a6:¬a=13:=O;have T:=A (eZ 0 b);clear h K L V m R;go_enter func29,ntmps29;go_wp2_with fail
 rw[<-l];clear l P;refine T.o.mono ?_;rintro e W ⟨rfl,U⟩;rw[U];clear U W T;go_wp2;go_ret;exact⟨rfl,Y.o⟩
end
end Go.Proofs.YtnjalelblbjfiaaGreatDoor
