import Derived.Test.YtnjalelblbjfiaaGreatDoorP30
import Derived.Deep.CutRange
namespace Go.Proofs.YtnjalelblbjfiaaGreatDoor
set_option maxRecDepth 100000
set_option maxHeartbeats 16000000
open Go.RowKit
open Go.Proofs.Tryz
open Go.Sort (grow)
open Bool renaming false→Md,true→Mk
open Go renaming Value→Ma,World→MV,Calls→Mo,cell_later→MW,block_lt_of_cell→MO
open Go.IntKind renaming i64→I
open Go.Proofs.Tryz renaming prog→MT,func62→QM
open Go.RowKit.Below renaming trans→NA
open Go.Value renaming int→Q,pointer→MQ,string→MS,bool→M0
open Go.World renaming cell?_setCell_other→NT,cell?_setCell_same→Nf
open Option renaming none→S,some→N
section
attribute [local go_sem] aI
def iJ(a:List Fc)(R:List Rt)(p:Pg):Int⊕Pg:=
 if(cj p.f.ty==2)=Md then .inr p
 else if dU a p=Md then .inr p
 else if p.right=Md then .inl 5
 else if b8 p.pb 8<=1 then .inl 6
 else match fU R (i7 p.pb 16)with
  |none=>.inl 7
  |some e=>if(bG a e.vlan).isSome=Mk then .inr (o3 p e.vlan e.mac (jT a e.vlan))else .inl 7
def IY(g:Nat)(p:Pg)(b:Ma)(o:Int⊕Pg)(w:MV)(e:Ending)(a:MV):Prop:=
 ∃r:Int,e=.returned (Q I r)/\((r= -1/\∃q,o=.inr q/\cJ a g q b/\dn g w a)\/(r≠ -1/\o=.inl r/\cJ a g p b/\dn g w a))
theorem tL{W:MV}{B:Nat}{x y a b:Ma}(c:W.cell? ⟨B,0,S⟩=N a)(d:W.cell? ⟨B,1,S⟩=N b):((W.setCell ⟨B,0,S⟩ x).setCell ⟨B,1,S⟩ y).cell? ⟨B,0,S⟩=N x/\((W.setCell ⟨B,0,S⟩ x).setCell ⟨B,1,S⟩ y).cell? ⟨B,1,S⟩=N y:=by
 refine⟨?_,?_⟩
 ·rw[NT _ _ _ _ (by simp)];exact Nf _ _ _ c
 ·exact Nf _ _ _ (show(W.setCell ⟨B,0,S⟩ x).cell? ⟨B,1,S⟩=N b by rw[NT _ _ _ _ (by simp)];exact d)
theorem xn(s g H T c:Nat)(U b9:Ma)(a:List Fc)(R:List Rt)(p:Pg)(r:Ma)(w:MV)(V:w.cell? ⟨s,1,S⟩=N (MQ (N ⟨H,0,S⟩)))(X:iR w H U a)(Y:bt a)(h2:w.cell? ⟨s,2,S⟩=N (MQ (N ⟨T,0,S⟩)))(h0:w.cell? ⟨T,0,S⟩=N (MQ (N ⟨c,0,S⟩)))(hM:dx w c b9 R)(hL:∀e∈R,kO e)(u:cJ w g p r)(hm:fE w)(Z:(cj p.f.ty==2)=Mk)(hf:dU a p=Mk)(hr:p.right=Mk)(J:20<=p.pb.size)(a2:p.pb.size<=1000)(h8:1<b8 p.pb 8):Mo MT 62 #[MQ (N ⟨s,0,S⟩),MQ (N ⟨g,0,S⟩)] w (IY g p r (iJ a R p) w):=by
 have C:=ge g p r w u hm;rw[Z]at C;have CF:=A λ(W:MV) (c:Below w.heap.size w W)=>kT s g H U a p r W (MW c V) (X.aD c) Y (u.aD c);rw[hf]at CF;have CT:=A λ(W:MV)=>yZ p.pb p.ph p.pt W J;have CD:=A λ(W:MV)=>vA p.pb p.ph p.pt W J a2;have CR:=A λ(W:MV) (c7:Below w.heap.size w W)=>EB T c b9 R (i7 p.pb 16) W (MW c7 h0) (hM.vt c7) hL (xO _ _);have CG:=A λ(x:Int) (W:MV) (c:Below w.heap.size w W)=>vP H U a x W (X.aD c) Y;have CA:=A λ(v:Int) (m g0:ByteArray) (W:MV) (c:Below w.heap.size w W)=>uK g p r v m g0 W (u.aD c) J a2 O;obtain⟨i,y,z,e1,e2,a5⟩:∃(i:Int) (y:ByteArray) (z:Bool),KF (fU R (i7 p.pb 16))=.agg #[Q I i,MS y]/\(fU R (i7 p.pb 16)).isSome=z/\aA (iJ a R p=if z=Mk/\(bG a i).isSome=Mk then .inr (o3 p i y (jT a i))else .inl 7):=by
  have K:iJ a R p=match fU R (i7 p.pb 16)with|none=>.inl 7|some e=>if(bG a e.vlan).isSome=Mk then .inr (o3 p e.vlan e.mac (jT a e.vlan))else .inl 7:=by
   unfold iJ;rw[if_neg (by rw[Z];decide),if_neg (by rw[hf];decide),if_neg (by rw[hr];decide),if_neg O]
  cases hx:fU R (i7 p.pb 16)with
  |none=>
   rw[hx]at K;exact⟨0,⟨#[]⟩,Md,rfl,rfl,A (by rw[K,if_neg (by rintro⟨h,_⟩;cases h)])⟩
  |some e=>
   rw[hx]at K;refine⟨e.vlan,e.mac,Mk,rfl,rfl,A ?_⟩;rw[K];show(if(bG a e.vlan).isSome=Mk then _ else _)=_;by_cases L:(bG a e.vlan).isSome=Mk
   ·rw[if_pos L,if_pos ⟨rfl,L⟩]
   ·rw[if_neg L,if_neg (λh=>L h.2)]
 rw[e1,e2]at CR;clear e1 e2;have HC:=A C;have HG:=A u;have i4:¬((b8 p.pb 8:Int)<=1):=O;have H1:=A V;have H2:=A h2;have g1:=hr;clear C u hm X Y V h2 h0 hM hL Z hf J a2 h8 hr;go_enter QM,ntmps62;go_wp2_with fail
 refine HC.o.mono ?_;rintro e w1 ⟨rfl,M⟩;go_wp2_with fail
 refine(CF.o _ M).mono ?_;rintro e P ⟨rfl,d5⟩;have a8:=M.trans (d5.mono M.size);have D:=HG.o.aD a8;have g2:P.cell? ⟨g,12,S⟩=N (M0 Mk):=by rw[<-g1];exact D.cell rfl
 have g9:P.cell? ⟨g,9,S⟩=N (MS p.pb):=D.cell rfl;have e0:P.cell? ⟨g,10,S⟩=N (Q I p.ph):=D.cell rfl;have e3:P.cell? ⟨g,11,S⟩=N (Q I p.pt):=D.cell rfl;have a9:=A a8;clear M d5 a8 D HC CF;go_wp2_with fail
 refine(CT.o _).mono ?_;rintro e j ⟨rfl,E⟩;have b0:=a9.o.trans (E.mono a9.o.size);have k9:=MW E g9;have g3:=MW E e0;have g4:=MW E e3;have s2:=MW b0 H2.o;have i6:=MO s2;have i8:=MO k9;have e6:=b0.size;clear E g2 g9 e0 e3 a9 CT;go_upto_region 7 with fail
 go_cut [5,6]from 29 to 41 (λb t wx=>∃B,b=MQ (N ⟨B,0,S⟩)/\t=M0 z/\Below w.heap.size w wx/\wx.cell? ⟨B,0,S⟩=N (Q I i)/\wx.cell? ⟨B,1,S⟩=N (MS y))
 case first=>
  go_region_with
   (first|(go_at_call 115;refine(CD.o _).mono ?_;rintro e f ⟨rfl,o⟩;have e7:Below w.heap.size w f:=NA UQ (o.mono SZ);have s5:=MW e7 H2.o;have i9:=MO s5;have e8:=e7.size;(try(have u0:f.cell? ⟨j.heap.size,0,S⟩=N (Q I 0):=MW o (aB (aU _ _) rfl);have u1:f.cell? ⟨j.heap.size,1,S⟩=N (MS ⟨#[]⟩):=MW o (aB (aU _ _) rfl);have u2:f.frozen? ⟨j.heap.size,0,S⟩=false:=(o.frozen (p:=⟨j.heap.size,0,S⟩) (by simp)).trans (bC (aU _ _) 0);have u3:f.frozen? ⟨j.heap.size,1,S⟩=false:=(o.frozen (p:=⟨j.heap.size,1,S⟩) (by simp)).trans (bC (aU _ _) 1);have u4:=MO u0));clear o)|(go_at_call 114;refine(CR.o _ ?_).mono ?_;(exact UQ);rintro e n ⟨rfl,k⟩;have b2:Below w.heap.size w n:=NA UQ (k.mono SZ);have h3:=b2.size;(first|(have F:n.cell? ⟨f.heap.size,0,S⟩=N (Q I 0):=MW k (aB (aU _ _) rfl);have v1:n.cell? ⟨f.heap.size,1,S⟩=N (MS ⟨#[]⟩):=MW k (aB (aU _ _) rfl);have v2:n.frozen? ⟨f.heap.size,0,S⟩=false:=(k.frozen (p:=⟨f.heap.size,0,S⟩) (by simp)).trans (bC (aU _ _) 0);have v3:n.frozen? ⟨f.heap.size,1,S⟩=false:=(k.frozen (p:=⟨f.heap.size,1,S⟩) (by simp)).trans (bC (aU _ _) 1);have v4:=MO F)|(have F:=MW k u0;have v1:=MW k u1;have v2:n.frozen? ⟨j.heap.size,0,S⟩=false:=(k.frozen (p:=⟨j.heap.size,0,S⟩) u4).trans u2;have v3:n.frozen? ⟨j.heap.size,1,S⟩=false:=(k.frozen (p:=⟨j.heap.size,1,S⟩) u4).trans u3;have v4:=MO F)|skip);clear k))
  all_goals go_wp2_with fail
  all_goals go_meet
  all_goals first
   |exact⟨_,rfl,rfl,b2.alloc h3 _,aB (aU _ _) rfl,aB (aU _ _) rfl⟩
   |exact⟨_,rfl,rfl,(b2.setCell (by first|exact e8|exact e6) _).setCell (by first|exact e8|exact e6) _,(tL F v1).1,(tL F v1).2⟩
 case rest=>
  obtain⟨B,rfl,rfl,G,b4,f2⟩:=hcut;have s1:=MW G H1.o;have j0:=MO s1;have j1:=MO b4;have f3:=A λ(d:Nat) (os:Array Obj)=>CG.o i (grow (redrawn wc d) os) (G.trans ((below_regrown wc d os).mono G.size));have f5:=A G;clear G CG CR CD k9 g3 g4 s2 H1 H2 b0;go_wp2_with fail
  refine wp_region_quiet_below UR UR ?_
  repeat(first|go_big_quiet_skip|quiet_step (exact Calls.regrown_of (f3.o _ _)))
  refine wpQuiet_nil ?_;intro wq l;replace l:=aE l;obtain⟨h9,i0⟩:=aW l;have j3:=l.size;have q0:=MW l b4;have q1:=MW l f2;have j5:=MO q0;have q:=A (f5.o.trans (l.mono f5.o.size));clear h9 i0 l f3 b4 f2;cases z with
  |false=>
   go_wp2;go_ret;exact⟨7,rfl,.inr ⟨US,by rw[a5.o,if_neg (by rintro⟨h,_⟩;cases h)],HG.o.aD q.o,dn.aG q.o⟩⟩
  |true=>
   cases b5:(bG a i).isSome with
   |false=>
    have b6:=A b5;go_wp2;go_ret;exact⟨7,rfl,.inr ⟨US,by rw[a5.o,if_neg (by rintro⟨_,h⟩;rw[b6.o]at h;cases h)],HG.o.aD q.o,dn.aG q.o⟩⟩
   |true=>
    have b6:=A b5;have f6:=A (CA.o i y (jT a i) _ q.o);clear b5 CA;go_wp2_with fail
    refine f6.o.mono ?_;rintro e w9 ⟨rfl,f7,f8⟩;have i2:=A f7;have i3:=A f8;clear f7 f8 f6;go_wp2;go_ret;exact⟨-1,rfl,.inl ⟨rfl,_,by rw[a5.o,if_pos ⟨by trivial,b6.o⟩],i2.o,(dn.aG q.o).trans i3.o⟩⟩
end
theorem Al(s g q:Nat)(v:Ma)(m:List Fc)(p:Pg)(r:Ma)(w:MV)(x:w.cell? ⟨s,1,S⟩=N (MQ (N ⟨q,0,S⟩)))(y:iR w q v m)(z:bt m)(n:cJ w g p r)(B:fE w)(D:(cj p.f.ty==2)=Mk)(E:dU m p=Mk)(F:p.right=Mk->20<=p.pb.size)(t:p.right=Md\/b8 p.pb 8<=1):Mo MT 62 #[MQ (N ⟨s,0,S⟩),MQ (N ⟨g,0,S⟩)] w λe L=>e=.returned (Q I (if p.right=Md then 5 else 6))/\Below w.heap.size w L:=by
 have C:=ge g p r w n B;rw[D]at C;have i:=A λ(W:MV) (u:Below w.heap.size w W)=>kT s g q v m p r W (MW u x) (y.aD u) z (n.aD u);rw[E]at i;have o:=A C;have G:=A n;have H:=A F;clear C n B y z x D E F;cases d:p.right with
 |false=>
  have j:=d;clear t H;go_enter QM,ntmps62;go_wp2_with fail
  refine o.o.mono ?_;rintro e M ⟨rfl,a⟩;go_wp2_with fail
  refine(i.o _ a).mono ?_;rintro e f ⟨rfl,k⟩;have c:=a.trans (k.mono a.size);have b:=G.o.aD c;have J:f.cell? ⟨g,12,S⟩=N (M0 Md):=by rw[<-j];exact b.cell rfl
  have l:=A c;clear a k c b o i d j;go_wp2;go_ret;exact⟨rfl,l.o⟩
 |true=>
  have j:=d;have X:(b8 p.pb 8:Int)<=1:=by
   rcases t with h|h
   ·rw[d]at h;cases h
   ·omega
  have P:=A λ(W:MV)=>yZ p.pb p.ph p.pt W (H.o d);clear t;go_enter QM,ntmps62;go_wp2_with fail
  refine o.o.mono ?_;rintro e M ⟨rfl,a⟩;go_wp2_with fail
  refine(i.o _ a).mono ?_;rintro e f ⟨rfl,k⟩;have c:=a.trans (k.mono a.size);have b:=G.o.aD c;have J:f.cell? ⟨g,12,S⟩=N (M0 Mk):=by rw[<-j];exact b.cell rfl
  have R:f.cell? ⟨g,9,S⟩=N (MS p.pb):=b.cell rfl;have T:f.cell? ⟨g,10,S⟩=N (Q I p.ph):=b.cell rfl;have U:f.cell? ⟨g,11,S⟩=N (Q I p.pt):=b.cell rfl;have l:=A c;clear a k c b o i d j;go_wp2_with fail
  refine(P.o _).mono ?_;rintro e Y ⟨rfl,K⟩;have V:=A (l.o.trans (K.mono l.o.size));clear K J R T U l;go_wp2;go_ret;exact⟨rfl,V.o⟩
theorem wH(s g:Nat)(p:Pg)(a:Ma)(w:MV)(b:cJ w g p a)(c:fE w)(d:(cj p.f.ty==2)=Md):Mo MT 62 #[MQ (N ⟨s,0,S⟩),MQ (N ⟨g,0,S⟩)] w λe f=>e=.returned (Q I (-1))/\Below w.heap.size w f:=by
 have C:=ge g p a w b c;rw[d]at C;have h:=A C;clear C b c d;go_enter QM,ntmps62;go_wp2_with fail
 refine h.o.mono ?_;rintro e j ⟨rfl,i⟩;go_wp2;go_ret;exact⟨rfl,i⟩
theorem Am(s g j o a:Nat)(l v:Ma)(c:List Fc)(R:List Rt)(p:Pg)(f:Ma)(w:MV)(q:w.cell? ⟨s,1,S⟩=N (MQ (N ⟨j,0,S⟩)))(r:iR w j l c)(t:bt c)(x:w.cell? ⟨s,2,S⟩=N (MQ (N ⟨o,0,S⟩)))(y:w.cell? ⟨o,0,S⟩=N (MQ (N ⟨a,0,S⟩)))(z:dx w a v R)(B:∀e∈R,kO e)(d:cJ w g p f)(m:fE w)(u:p.right=Mk->20<=p.pb.size/\p.pb.size<=1000):Mo MT 62 #[MQ (N ⟨s,0,S⟩),MQ (N ⟨g,0,S⟩)] w (IY g p f (iJ c R p) w):=by
 cases i:(cj p.f.ty==2)with
 |false=>
  refine(wH s g p f w d m i).mono ?_;rintro e W ⟨rfl,a⟩;exact⟨-1,rfl,.inl ⟨rfl,p,by unfold iJ;rw[if_pos i],d.aD a,dn.aG a⟩⟩
 |true=>
  cases k:dU c p with
  |false=>
   refine(Ay s g j l c p f w q r t d m k).mono ?_;rintro e W ⟨rfl,a⟩;exact⟨-1,rfl,.inl ⟨rfl,p,by unfold iJ;rw[if_neg (by rw[i];decide),if_pos k],d.aD a,dn.aG a⟩⟩
  |true=>
   by_cases n:p.right=Md\/b8 p.pb 8<=1
   ·refine(Al s g j l c p f w q r t d m i k (λh=>(u h).1) n).mono ?_;rintro e W ⟨rfl,a⟩;refine⟨_,rfl,.inr ⟨by split<;>decide,?_,d.aD a,dn.aG a⟩⟩;unfold iJ;rw[if_neg (by rw[i];decide),if_neg (by rw[k];decide)];by_cases b:p.right=Md
    ·rw[if_pos b,if_pos b]
    ·rw[if_neg b,if_neg b,if_pos (n.resolve_left b)]
   ·have b:p.right=true:=by
     cases b:p.right
     ·exact absurd (.inl b) n
     ·rfl
    have C:1<b8 p.pb 8:=by
     have:¬b8 p.pb 8<=1:=λh=>n (.inr h);omega
    exact xn s g j o a l v c R p f w q r t x y z B d m i k b (u b).1 (u b).2 C
theorem I8(s k m D t E G H:Nat)(J o M T:Ma)(P:List b7)(K:List Mc)(j:List Fc)(F:Nat->Prop)(L:List af)(V:Int->Int×Int)(R:List Rt)(i:Int)(d:ByteArray)(w:MV)(h:bW w s J P k m o K)(U:be w s D t E M j F L V)(Y:∀W,aH (KX m o) w W->jA W s G H T R)(Z:∀e∈R,kO e)(a0:∀p∈P,(Lit.int I p.nat).wf=Mk)(a1:∀u,(V u).1=2->0<=(V u).2/\(V u).2<P.length)(a2:∀b,(Lit.int I (ju L b).1).wf=Mk)(a3:∀f q,bd d=N f->(0<=i/\i<P.length)->d.size<=600->iJ j R (gI (ja P i d f))=.inr q->Jf q):kW w s k m o P i d gI (kj L V P) (iJ j R):=by
 refine⟨λf X W g _ v a=>?_,λf X W g x v a=>?_,λf X W g x v a=>?_⟩
 ·obtain⟨_,_,_,l⟩:=h.kept a.ch;have y:=lO g;exact Ad w.heap.size _ _ W a.pg l (by show f.rest.size<=1000;omega)
 ·obtain⟨c0,cp,_,l⟩:=h.kept a.ch;have c:=U.kept h a.ch;have y:=lO g;refine Ed s w.heap.size t E L.length J P F L V _ W c0 cp c.h3 c.hT c.h4 c.hV a.pg (ue rfl (by show f.rest.size<=1000;omega)) a1 (a2 _) ?_ ?_
  ·rw[wE];exact pk x a0 y.1
  ·rw[wE];show f.to.size+f.fr.size+f.ty.size+f.rest.size<=1000;omega
 ·obtain⟨_,_,_,l⟩:=h.kept a.ch;have c:=U.kept h a.ch;have z:=Y W a.ch;have y:=lO g;refine(Am s w.heap.size D G H M T j R _ _ W c.h1 c.hF c.sF z.h2 z.h0 z.hM Z a.pg l (λh'=>?_)).mono ?_
  ·have:=ue (p:=ja P i d f) rfl (by show f.rest.size<=1000;omega) h';exact⟨this.1,this.2.1⟩
  ·rintro e W' ⟨r,rfl,⟨rfl,q,n,B,C⟩|⟨n,B,C,e4⟩⟩
   ·exact⟨-1,rfl,.inl ⟨rfl,q,n,a3 f q g x v n,B,C⟩⟩
   ·exact⟨r,rfl,.inr ⟨n,B,C,e4⟩⟩
end Go.Proofs.YtnjalelblbjfiaaGreatDoor
