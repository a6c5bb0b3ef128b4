import Derived.Test.YtnjalelblbjfiaaGreatDoorP31
import Derived.Test.YtnjalelblbjfiaaGreatDoorP32
namespace Go.Proofs.YtnjalelblbjfiaaGreatDoor
set_option maxRecDepth 100000
set_option maxHeartbeats 16000000
open Go.RowKit
open Go.Proofs.Tryz
open Go renaming World→MV,Value→Ma,block_lt_of_cell→MO,cell_later→MW,info_parts→Ob,Addr→Oz,run_append_own→QF,maxLen→Nj
open Go.Value renaming slice→MR,map→N4,int→Q,string→MS,pointer→MQ
open Go.World renaming cell?_of_block→Mj,frozen?_of_block→NJ
open List renaming length_map→ND,getElem_mem→Ms,length_append→Mz,getElem?_map→Oh,getElem?_eq_getElem→NZ,getElem?_append_right→OP,mem_or_eq_of_mem_set→Pe,length_set→Mw
open Option renaming none→S,some→N
open Or renaming inr→MX,inl→Mf
open Go.RowKit renaming Below→Mb
open Nat renaming lt_of_lt_of_le→Mi,not_lt_zero→OV,le_refl→MP,le_trans→Mx,zero_add→NO
open Go.IntKind renaming i64→I
open Go.Proofs.Tryz renaming prog→MT,func19→Th,func29→Px
open Go.RowKit.Below renaming refl→MU
open Go.Addr renaming add_mid→Nx
open Go.Builtin renaming append_→Na
open Go.Obj renaming cells→MY
variable {M a:Int}{L:List (Int×ByteArray)}{T:List Int}{K:List Mc}{P:List b7}{W w:MV}{B i j y:Nat}{c:Nat->Nat}{x:aK}
theorem aT.uG{w:MV}(h:aT w y x)(j:cP w):dg w y:=by
 obtain⟨a,q,g,e,-⟩:=h.jd;obtain⟨r,s,v,l,-⟩:=h.oc;obtain⟨B,C,D,m,-⟩:=h.rt.row;have b:=h.c0;have d:=h.c1;have i:=h.c3;rw[e]at b;rw[l]at d;rw[m]at i;exact qE b d ⟨_,_,_,i⟩ j
theorem aT.Ie{w:MV}(h:aT w y x)(j:cP w)(l:x.K=[]->x.kv=MR S 0 0){b:Nat}(d:x.kv.ownBlock=N b):dg w b:=by
 obtain⟨a,B,g,e,m⟩:=h.pe;have q:0<x.K.length:=by
  rcases Nat.eq_zero_or_pos x.K.length with i|i
  ·rw[l (List.length_eq_zero_iff.1 i)]at d;cases d
  ·exact i
 obtain⟨r,s,v,-⟩:=m 0 q;rw[e,r]at d;obtain rfl:g=b:=by simpa[Value.ownBlock]using d
 exact xE j s v
structure aC.qQ (d:aC):Prop where
 fs:d.Fs=[]
 l:d.L=[]
 v:d.V=LF
 r:d.R=[]
 xf:d.x.Fl=[]
 xr:d.x.rs=[]
 xh:d.x.Hl=[]
structure aC.iC (d d':aC):Prop where
 fs:d'.Fs=d.Fs
 l:d'.L=d.L
 v:d'.V=d.V
 r:d'.R=d.R
 xf:d'.x.Fl=d.x.Fl
 xr:d'.x.rs=d.x.rs
 xh:d'.x.Hl=d.x.Hl
 q:d'.x.Q.length=d.x.Q.length
 nq:(∀q∈d.Q,q.2≠N4 (N d.vb))->∀q∈d'.Q,q.2≠N4 (N d'.vb)
def aC.mz(d:aC)(b:Nat)(e g:Ma)(a:List Mc)(h:Int):aC:={d with m:=b,sv:=e,K:=a,x:={d.x with kv:=g,K:=a,now:=h}}
def dO(f:Nat->Nat)(s i a:Nat)(b d:Ma):Nat->Nat:=λx=>if x<s then f x else if x=a\/b.ownBlock=N x then 6*i+10 else if d.ownBlock=N x then 6*i+13 else 0
section
variable {w k o:World}{p n:Nat}{u sv kv:Value}{t:List aL}{c:List aC}{z:List au}{f:Nat->Nat}{M M':Int}
theorem xJ(h:LW w p u sv kv n t z f)(T:LS w sv c f M)(X:i<c.length){q:Nat}{r s:Ma}{v:List Mc}{H:Int}(J:bB k c[i].k q r v)(Y:q=c[i].m\/w.heap.size<=q)(Z:∀b,r.ownBlock=N b->c[i].sv.ownBlock=N b\/w.heap.size<=b)(E:aH (λb=>b=c[i].k\/KX c[i].m c[i].sv b) w k)(a0:k.cell? ⟨c[i].k,1,S⟩=S)(a1:aT o c[i].y {c[i].x with kv:=s,K:=v,now:=H})(a2:∀b,s.ownBlock=N b->c[i].x.kv.ownBlock=N b\/k.heap.size<=b)(L:aH (λb=>b=c[i].y\/c[i].x.kv.ownBlock=N b) k o)(b3:v.length<=64)(kp:∀e∈v,(0<=e.port/\e.port<c[i].x.Q.length)/\dH e.mac=false)(yg:∀e∈v,iQ e)(b5:v=[]->s=MR S 0 0)(b6:0<=H/\H<=M')(hM:M<=M'):LW o p u sv kv n t z (dO f w.heap.size i q r s)/\LS o sv (c.set i (c[i].mz q r s v H)) (dO f w.heap.size i q r s) M':=by
 have g:=T.sw i X;obtain⟨d,a5⟩:=UX (c[i]);rw[<-a5]at g J Y Z E a0 a1 a2 L kp⊢;have hP:d.P.length=d.x.Q.length:=by rw[g.eP];unfold aK.P;rw[ND]
 have a6:0<d.P.length:=by rw[hP];exact g.n0
 have s1:=E.size;have s2:=L.size;have U:∀x,x<w.heap.size->f x≠0->dO f w.heap.size i q r s x=f x:=λx l _=>by unfold dO;rw[if_pos l]
 have V:∀x,x<w.heap.size->dO f w.heap.size i q r s x=f x:=λx l=>by unfold dO;rw[if_pos l]
 have mX:∀b,(b=d.k\/KX d.m d.sv b)->d.bV b:=λb B=>by
  rcases B with e|e|e
  ·exact MX (Mf e)
  ·exact MX (MX (Mf e))
  ·exact MX (MX (MX (Mf e)))
 have F:∀b,(b=d.y\/d.x.kv.ownBlock=N b)->d.x.cR d.y b:=λb B=>by
  rcases B with e|e
  ·exact Mf e
  ·exact MX (MX (MX (MX (MX (Mf e)))))
 have a8:cP k:=h.laid.iW E.block λx l=>g.vn h.laid l;have a9:aT k d.y d.x:=g.ref.aj λb B c0=>E.block b c0 λe=>by
  have C:=g.cI b (mX b e);rw[g.cX b B]at C;omega
 have c1:aC.aP k {d with m:=q,sv:=r,K:=v}:=g.imp.Kg a6 g.one E J;have b0:∀b,aC.bV {d with m:=q,sv:=r,K:=v} b->d.bV b\/(w.heap.size<=b/\(b=q\/r.ownBlock=N b)):=λb B=>by
  rcases B with e|e|e|e|e
  ·exact Mf (Mf e)
  ·exact Mf (MX (Mf e))
  ·rcases Y with y|y
   ·exact Mf (MX (MX (Mf (e.trans y))))
   ·exact MX ⟨by rw[show b=q from e];exact y,Mf e⟩
  ·rcases Z b e with y|y
   ·exact Mf (MX (MX (MX (Mf y))))
   ·exact MX ⟨y,MX e⟩
  ·exact Mf (MX (MX (MX (MX e))))
 have c2:∀b,aC.bV {d with m:=q,sv:=r,K:=v} b->dO f w.heap.size i q r s b=6*i+10:=λb B=>by
  rcases b0 b B with e|⟨e,y⟩
  ·rw[V b (g.imp.lt e)];exact g.cI b e
  ·unfold dO;rw[if_neg O,if_pos y]
 have d3:q<k.heap.size:=MO J.2.2.1.1.1;have c3:∀b,r.ownBlock=N b->b<k.heap.size:=λb e=>(ae J.2.2.1.1.2.2.1 e).2;have c4:∀b,aK.cR {d.x with kv:=s,K:=v,now:=H} d.y b->dO f w.heap.size i q r s b=6*i+13:=λb B=>by
  have D:d.x.cR d.y b->dO f w.heap.size i q r s b=6*i+13:=λe=>by
   rw[V b (g.ref.AG e)];exact g.cX b e
  rcases B with e|e|e|e|e|e|e
  ·exact D (Mf e)
  ·exact D (MX (Mf e))
  ·exact D (MX (MX (Mf e)))
  ·exact D (MX (MX (MX (Mf e))))
  ·exact D (MX (MX (MX (MX (Mf e)))))
  ·rcases a2 b e with y|y
   ·exact D (MX (MX (MX (MX (MX (Mf y))))))
   ·unfold dO;rw[if_neg O,if_neg (by rintro(C|C);omega;have:=c3 b C;omega),if_pos e]
  ·exact D (MX (MX (MX (MX (MX (MX e))))))
 have G:aH (λb=>(b=d.k\/KX d.m d.sv b)\/(b=d.y\/d.x.kv.ownBlock=N b)) w o:=(E.mono λx _ l=>Mf l).trans (L.mono λx _ l=>MX l);have W:∀x,((x=d.k\/KX d.m d.sv x)\/(x=d.y\/d.x.kv.ownBlock=N x))->dg w x:=λx l=>by
  rcases l with e|e|e
  ·exact g.vn h.laid e
  ·rw[e];exact g.uG h.laid
  ·exact g.Ie h.laid e
 have P:∀x,((x=d.k\/KX d.m d.sv x)\/(x=d.y\/d.x.kv.ownBlock=N x))->f x=6*i+10\/f x=6*i+13:=λx l=>by
  rcases l with e|e
  ·exact Mf (g.cI x (mX x e))
  ·exact MX (g.cX x (F x e))
 have c5:d.p<w.heap.size:=MO g.c0;have hp:¬((d.p=d.k\/KX d.m d.sv d.p)\/(d.p=d.y\/d.x.kv.ownBlock=N d.p)):=λe=>by have:=P _ e;rw[g.cp]at this;omega
 have c6:(dG o d.vb:Int)<=M':=by
  have b2:d.bV d.vb:=MX (MX (MX (MX (MX (MX (MX (MX (Mf rfl))))))));rw[dZ (G.block d.vb (g.imp.lt b2) λe=>?_)]
  ·exact Int.le_trans g.vs hM
  ·rcases e with e|e
   ·exact(g.imp.kP a6 g.one _ e).2.2.2.2.2.1 rfl
   ·have C:=g.cX _ (F _ e);rw[g.cI _ b2]at C;omega
 refine⟨h.aj G W (λx l _=>by have:=P x l;omega) U rfl λj hj=>(h.tab j hj).aj G W (λx l _=>by have:=P x l;omega) U,T.nL X (by rw[<-a5];rfl) G (λx l _=>⟨W x l,by have:=P x l;omega⟩) U hM ?_⟩;refine⟨G.block.cell hp g.c0,G.block.cell hp g.c1,(V _ c5).trans g.cp,?_,c2,?_,a1,c4,g.eP,rfl,g.n0,g.n8,b3,g.tl,kp,g.nt,yg,b5,b6,c6⟩
 ·have c8:∀x,(x=d.y\/d.x.kv.ownBlock=N x)->¬aC.bV {d with m:=q,sv:=r,K:=v} x:=λx l hm=>by
   have C:=g.cX x (F x l);have d4:=g.ref.AG (F x l);rcases b0 x hm with e|⟨e,-⟩
   ·rw[g.cI x e]at C;omega
   ·omega
  have h1:¬(1=d.y\/d.x.kv.ownBlock=N 1):=λe=>by
   have:=g.cX 1 (F 1 e);rw[T.c1]at this;omega
  have R:=c1.aj L h1 λx l _=>⟨by
   rcases l with e|e
   ·rw[e];exact a9.uG a8
   ·exact a9.Ie a8 g.nil e,c8 x l⟩
  exact⟨R.p,R.r,R.h,R.o⟩
 ·refine(Mj (a:=⟨d.k,1,S⟩) (L.block d.k ?_ λe=>?_)).trans a0
  ·exact MO J.1
  ·have C:=g.cX d.k (F _ e);rw[g.cI d.k (MX (Mf rfl))]at C;omega
end
section
variable {w W:World}{d:aC}{X:Nat->Prop}
theorem aC.aP.J1(h:d.aP w)(hn:0<d.P.length)(R:w.cell? ⟨d.k,1,S⟩=S)(c:aH X w W)(T:∀x,X x->x<w.heap.size->(x=d.k\/KX d.m d.sv x)\/(dg w x/\¬d.bV x/\x≠1)){U:Nat}{V:Ma}{Y:List Mc}(hk:bB W d.k U V Y):aC.aP W {d with m:=U,sv:=V,K:=Y}:=by
 have u:=h.kP hn R;have C:∀b,(d.bV b\/b=1)->((b=d.k\/KX d.m d.sv b)->False)->¬X b:=λb Z a7 D=>by
  have a8:b<w.heap.size:=Z.elim h.lt λe=>by rw[e];exact jH h.p.hm
  rcases T b D a8 with e|⟨_,e,e1⟩
  ·exact a7 e
  ·exact Z.elim e e1
 have E:¬X d.s:=C _ (Mf (Mf rfl)) λe=>(u _ e).1 rfl;have G:¬X 1:=C _ (MX rfl) λe=>(u _ e).2.2.2.2.2.2.2.2.2.2 rfl;have J:¬X d.fm:=C _ (Mf (MX (MX (MX (MX (MX (MX (Mf rfl)))))))) λe=>(u _ e).2.2.2.1 rfl;have L:∀g,d.fsv.ownBlock=N g->¬X g:=λg i=>C _ (Mf (MX (MX (MX (MX (MX (MX (MX (Mf i))))))))) λe=>(u _ e).2.2.2.2.1 i;have nv:¬X d.vb:=C _ (Mf (MX (MX (MX (MX (MX (MX (MX (MX (Mf rfl)))))))))) λe=>(u _ e).2.2.2.2.2.1 rfl;have nF:∀b,d.F b->¬X b:=λb H=>C _ (Mf (MX (MX (MX (MX (MX (MX (MX (MX (MX (Mf H))))))))))) λe=>(u _ e).2.2.2.2.2.2.1 H;have nr:¬X d.rb:=C _ (Mf (MX (MX (MX (MX (MX (MX (MX (MX (MX (MX (Mf rfl)))))))))))) λe=>(u _ e).2.2.2.2.2.2.2.1 rfl;have nh:¬X d.hb:=C _ (Mf (MX (MX (MX (MX (MX (MX (MX (MX (MX (MX (MX (Mf rfl))))))))))))) λe=>(u _ e).2.2.2.2.2.2.2.2.1 rfl;have b4:∀g,d.hsv.ownBlock=N g->¬X g:=λg i=>C _ (Mf (MX (MX (MX (MX (MX (MX (MX (MX (MX (MX (MX (MX i))))))))))))) λe=>(u _ e).2.2.2.2.2.2.2.2.2.1 i;have np:∀g,d.pv.ownBlock=N g->¬X g:=λg i=>C _ (Mf (MX (MX (MX (MX (Mf i)))))) λe=>(u _ e).2.1 i;have nt:∀g q,q∈d.Q->q.2=N4 (N g)->¬X g:=λg q hq e=>C _ (Mf (MX (MX (MX (MX (MX (Mf ⟨q,hq,e⟩))))))) λe'=>(u _ e').2.2.1 q hq e;have hl:=h.r.hT.laid;have c0:aH (λx=>X x/\x<w.heap.size) w W:=⟨c.os,c.tape,c.output,c.size,λb F c1=>c.block b F λD=>c1 ⟨D,F⟩⟩;have c2:∀x,(X x/\x<w.heap.size)->dg w x:=λx D=>by
  rcases T x D.1 D.2 with e|⟨e,_⟩
  ·rcases e with rfl|e
   ·exact qF hl h.p.hK.1 R h.p.hK.2.2.1.1.1
   ·exact(lW hl h.p.hK x e).iW
  ·exact e
 obtain⟨ov,c3,-⟩:=h.r.hV.AK;have po:aQ W d.pv d.P d.Q:=⟨h.o.len,ap h.o.own λb F=>c.block b (ae h.o.own F).2 (np b F),λj P=>⟨(h.o.each j P).1,(h.o.each j P).2.lw λb e=>c.block b ((h.o.each j P).2.lt e) (nt b _ (Ms _) e)⟩⟩;obtain⟨f0,f1,f2,f3,f4⟩:=h.r.hF;refine⟨⟨c.block.cell E h.p.h0,po.at,c.block.cell E h.p.h5,hk,c.block.cell G h.p.hm.1,c.block.cell G h.p.hm.2.1,c.block.cell G h.p.hm.2.2.1,c.block.cell G h.p.hm.2.2.2⟩,⟨c.block.cell E h.r.h1,⟨c.block.cell J f0,c.block.cell J f1,ap f2 λg i=>c.block g (ae f2 i).2 (L g i),λj=>(NJ (a:=⟨d.fm,j,S⟩) (c.block d.fm (MO f0) J)).trans (f3 j),f4⟩,h.r.sF,λg i=>?_,c.block.cell E h.r.h3,h.r.hT.iW c0 c2 λx H D=>nF x H D.1,c.block.cell E h.r.h4,h.r.hV.same (c.block d.vb (aJ c3) nv),h.r.hD⟩,h.h.aj c E nr nh b4,po⟩;obtain⟨n,v,d0,d1⟩:=h.r.hH g i;exact⟨n,v,c.block.cell (L g i) d0,c.block.cell (L g i) d1⟩
end
section
variable {w W:World}{o n y:Nat}{p sv kv t:Value}{r:List aL}{l:List aC}{B s:List au}{f k:Nat->Nat}{M z:Int}{X:Nat->Prop}
theorem LW.whole(h:LW w o p sv kv n r B f)(e:aH X w W)(c:∀x,X x->dg w x/\(f x=1\/f x=3\/(7<=f x/\f x%3=1)))(m:∀x,x<w.heap.size->f x≠0->k x=f x)(b:WS W o p sv t y s k):LW W o p sv t y r s k:=by
 refine⟨h.laid.iW e.block λx a=>(c x a).1,b.c0,b.c1,b.c2,b.c3,h.sS,b.frz,h.rT.aj λx a=>e.block x (h.rT.lt a) λg=>?_,b.rK,b.cw,λx a=>(m _ (h.rT.lt a) (by rw[h.cT x a];omega)).trans (h.cT x a),λx j u a q=>h.pT x j u a (by rwa[(jr.aS (e.block x (h.rT.lt a) λg=>by have:=(c x g).2;rw[h.cT x a]at this;omega) j).1]at q),b.cK,λi v=>(h.tab i v).aj e (λx a=>(c x a).1) (λx a _=>by have:=(c x a).2;omega) m,b.kept⟩;have:=(c x g).2;rw[h.cT x a]at this;omega
theorem FC(h:LW w o p sv kv n r B f)(J:LS w sv l f M)(hi:i<l.length){C D:Ma}{E:List Mc}{L:Int}(hk:bB W l[i].k j C E)(a4:j=l[i].m\/w.heap.size<=j)(a5:∀b,C.ownBlock=N b->l[i].sv.ownBlock=N b\/w.heap.size<=b)(a6:W.cell? ⟨l[i].k,1,S⟩=S)(a7:aT W l[i].y {l[i].x with kv:=D,K:=E,now:=L})(a8:∀b,D.ownBlock=N b->l[i].x.kv.ownBlock=N b\/(w.heap.size<=b/\b≠j/\C.ownBlock≠N b))(F:aH (λb=>((b=l[i].k\/KX l[i].m l[i].sv b)\/(b=l[i].y\/l[i].x.kv.ownBlock=N b))\/(b=o\/kv.ownBlock=N b)) w W)(hW:WS W o p sv t y s k)(V:∀x,x<w.heap.size->f x≠0->k x=f x)(a9:∀x,w.heap.size<=x->dO f w.heap.size i j C D x≠0->k x=dO f w.heap.size i j C D x)(c0:E.length<=64)(kp:∀e∈E,(0<=e.port/\e.port<l[i].x.Q.length)/\dH e.mac=false)(yg:∀e∈E,iQ e)(c2:E=[]->D=MR S 0 0)(c3:0<=L/\L<=z)(hM:M<=z):LW W o p sv t y r s k/\LS W sv (l.set i (l[i].mz j C D E L)) k z:=by
 have a:=J.sw i hi;obtain⟨d,b2⟩:=UX (l[i]);rw[<-b2]at a hk a4 a5 a6 a7 a8 F kp⊢;have hP:d.P.length=d.x.Q.length:=by rw[a.eP];unfold aK.P;rw[ND]
 have b3:0<d.P.length:=by rw[hP];exact a.n0
 have mX:∀b,(b=d.k\/KX d.m d.sv b)->d.bV b:=λb m=>by
  rcases m with e|e|e
  ·exact MX (Mf e)
  ·exact MX (MX (Mf e))
  ·exact MX (MX (MX (Mf e)))
 have P:∀b,(b=d.y\/d.x.kv.ownBlock=N b)->d.x.cR d.y b:=λb m=>by
  rcases m with e|e
  ·exact Mf e
  ·exact MX (MX (MX (MX (MX (Mf e)))))
 have R:∀x,(((x=d.k\/KX d.m d.sv x)\/(x=d.y\/d.x.kv.ownBlock=N x))\/(x=o\/kv.ownBlock=N x))->dg w x:=λx u=>by
  rcases u with(e|e|e)|(e|e)
  ·exact a.vn h.laid e
  ·rw[e];exact a.uG h.laid
  ·exact a.Ie h.laid e
  ·rw[e];exact h.uH
  ·exact h.vn e
 have Y:∀x,(((x=d.k\/KX d.m d.sv x)\/(x=d.y\/d.x.kv.ownBlock=N x))\/(x=o\/kv.ownBlock=N x))->f x=6*i+10\/f x=6*i+13\/f x=1\/f x=3:=λx u=>by
  rcases u with(e|e)|(e|e)
  ·exact Mf (a.cI x (mX x e))
  ·exact MX (Mf (a.cX x (P x e)))
  ·rw[e];exact MX (MX (Mf h.cw))
  ·exact MX (MX (MX (h.cK x e)))
 have c6:d.p<w.heap.size:=MO a.c0;have hp:¬(((d.p=d.k\/KX d.m d.sv d.p)\/(d.p=d.y\/d.x.kv.ownBlock=N d.p))\/(d.p=o\/kv.ownBlock=N d.p)):=λe=>by have:=Y _ e;rw[a.cp]at this;omega
 have Z:∀b c,b<w.heap.size->f b=c->c≠0->k b=c:=λb c m e h0=>(V b m (by rw[e];exact h0)).trans e;have c8:(dG W d.vb:Int)<=z:=by
  have b5:d.bV d.vb:=MX (MX (MX (MX (MX (MX (MX (MX (Mf rfl))))))));rw[dZ (F.block d.vb (a.imp.lt b5) λe=>?_)]
  ·exact Int.le_trans a.vs hM
  ·have e0:=a.cI _ b5;rcases e with(e|e)|(e|e)
   ·exact(a.imp.kP b3 a.one _ e).2.2.2.2.2.1 rfl
   ·have g:=a.cX _ (P _ e);rw[e0]at g;omega
   ·have g:=h.cw;rw[<-e,e0]at g;omega
   ·have g:=h.cK _ e;rw[e0]at g;omega
 refine⟨h.whole F (λx u=>⟨R x u,by have:=Y x u;omega⟩) V hW,J.nL hi (by rw[<-b2];rfl) F (λx u _=>⟨R x u,Y x u⟩) V hM ?_⟩;refine⟨F.block.cell hp a.c0,F.block.cell hp a.c1,Z _ _ c6 a.cp O,?_,λb m=>?_,a6,a7,λb m=>?_,a.eP,rfl,a.n0,a.n8,c0,a.tl,kp,a.nt,yg,c2,c3,c8⟩
 ·have T:=a.imp.J1 b3 a.one F (λx u d1=>?_) hk
  ·exact⟨T.p,T.r,T.h,T.o⟩
  ·rcases u with(e|e)|e
   ·exact Mf e
   ·refine MX ⟨R x (Mf (MX e)),λhm=>?_,λg=>?_⟩
    ·have g:=a.cX x (P x e);rw[a.cI x hm]at g;omega
    ·have U:=a.cX x (P x e);rw[g,J.c1]at U;omega
   ·have U:f x=1\/f x=3:=by
     rcases e with e|e
     ·rw[e];exact Mf h.cw
     ·exact MX (h.cK x e)
    refine MX ⟨R x (MX e),λhm=>?_,λg=>?_⟩
    ·rw[a.cI x hm]at U;omega
    ·rw[g,J.c1]at U;omega
 ·have b6:w.heap.size<=b->(b=j\/C.ownBlock=N b)->k b=6*i+10:=λm e=>by
   have g:dO f w.heap.size i j C D b=6*i+10:=by unfold dO;rw[if_neg O,if_pos e]
   rw[a9 b m (by rw[g];omega),g]
  have H:d.bV b->k b=6*i+10:=λe=>Z b _ (a.imp.lt e) (a.cI b e) O;rcases m with e|e|e|e|e
  ·exact H (Mf e)
  ·exact H (MX (Mf e))
  ·rcases a4 with v|v
   ·exact H (MX (MX (Mf (e.trans v))))
   ·exact b6 (by rw[show b=j from e];exact v) (Mf e)
  ·rcases a5 b e with v|v
   ·exact H (MX (MX (MX (Mf v))))
   ·exact b6 v (MX e)
  ·exact H (MX (MX (MX (MX e))))
 ·have G:d.x.cR d.y b->k b=6*i+13:=λe=>Z b _ (a.ref.AG e) (a.cX b e) O;rcases m with e|e|e|e|e|e|e
  ·exact G (Mf e)
  ·exact G (MX (Mf e))
  ·exact G (MX (MX (Mf e)))
  ·exact G (MX (MX (MX (Mf e))))
  ·exact G (MX (MX (MX (MX (Mf e)))))
  ·rcases a8 b e with v|⟨v,n1,n2⟩
   ·exact G (MX (MX (MX (MX (MX (Mf v))))))
   ·have g:dO f w.heap.size i j C D b=6*i+13:=by unfold dO;rw[if_neg O,if_neg (by rintro(q|q);exact n1 q;exact n2 q),if_pos (show D.ownBlock=N b from e)]
    rw[a9 b v (by rw[g];omega),g]
  ·exact G (MX (MX (MX (MX (MX (MX e))))))
end
structure cz (w W:MV) (f k:Nat->Nat):Prop where
 chg:∃X,aH X w W/\∀x,X x->x<w.heap.size->f x≠4
 ink:∀x,x<w.heap.size->f x≠0->k x=f x
theorem cz.iF{w c W:MV}{f k:Nat->Nat}(h:cz c W f k)(a:Mb w.heap.size w c):cz w W f k:=by
 obtain⟨⟨X,e,g⟩,i⟩:=h;exact⟨⟨X,(aH.aG a).trans e,λx b j=>g x b (Mi j a.size)⟩,λx b=>i x (Mi b a.size)⟩
section
attribute [local go_sem] Oper.semAt_some aI
theorem xA{m:Pg->Pg}{n:Pg->Option (Int×List (Int×ByteArray))}{o:Pg->Int⊕Pg}{g:Int}{d:ByteArray}{r:Int}{i:List Mc}(h:aR P K m n o g d r L i):i=K\/((0<=g/\g<P.length)/\∃v k,dy K ⟨v,k,g,0⟩ i/\dH k=false):=by
 have j:∀f,aq d= -1->bd d=N f->dH f.fr=false:=λf a b=>by
  unfold aq at a;rw[if_neg (by have:=gQ a;omega),b]at a;cases p:dH f.fr with
  |false=>rfl
  |true=>simp only[p]at a;cases a
 cases h with
 |unknown=>exact Mf rfl
 |bad=>exact Mf rfl
 |barred=>exact Mf rfl
 |judged f _ _ _ c a b l e=>exact MX ⟨c,_,_,e,j f a b⟩
 |stopped f _ _ c a b l e=>exact MX ⟨c,_,_,e,j f a b⟩
 |out f _ q c a b l e=>exact MX ⟨c,_,_,e,j f a b⟩
theorem I1{v:Ma}(h:w.ownsRow B 66 2 v L.length (lK L)):∃a c g,v=MR a L.length c/\∀k (b:k<L.length),a=N ⟨g,0,S⟩/\w.cell? ⟨g,k*2,S⟩=N (Q I L[k].1)/\w.cell? ⟨g,k*2+1,S⟩=N (MS L[k].2):=by
 by_cases f:L=[]
 ·subst f;rcases h.2 with⟨e,-⟩|⟨g,c,j,e,-⟩
  ·exact⟨S,0,0,e,λk b=>absurd b (OV k)⟩
  ·exact⟨_,_,0,e,λk b=>absurd b (OV k)⟩
 ·have i:aX eY B w 66 2 v L:=⟨h,λe=>absurd e f⟩;obtain⟨a,c,g,e,d⟩:=i.row iy;exact⟨a,c,g,e,λk b=>⟨(d k b).1,(d k b).2 0 _ rfl,(d k b).2 1 _ rfl⟩⟩
theorem tA(w:MV)(p i:Nat)(B l G:Ma)(n:Nat)(T:List aL)(t:List aC)(u:List au)(m:Nat->Nat)(M:Int)(h:LW w p B l G n T u m)(U:LS w l t m M)(hi:i<t.length)(_hM:M<=1000000000000000000)(hn:n<100000000000)(hK:u.length+4<=100000000000):Calls MT 13 #[MQ (N ⟨p,0,S⟩),MQ (N ⟨t[i].p,0,S⟩)] w λe W=>e=.returned (.bool true)/\∃C q k,q.length=u.length+4/\LW W p B l C (n+1) T q k/\LS W l t k M/\cz w W m k:=by
 have c:=U.sw i hi;obtain⟨d,c4⟩:=UX (t[i]);rw[<-c4]at c⊢;have q0:=c.c0;have q1:=c.c1;have g5:d.p<w.heap.size:=MO q0;obtain⟨a2,i8,g2,c7,H⟩:=c.ref.pe;have J:=c.ref.c4;have V:=c.ref.c5;have g7:d.y<w.heap.size:=c.ref.lt;rw[c7]at J;obtain⟨K,Y⟩:=UX d.x.K;have Z:=um d.s d.k d.m d.sv d.K w c.imp.p.h5 c.imp.p.hK;rw[c.eK,<-Y]at Z;have c8:=A Z;obtain⟨L,c9⟩:=UX d.x.now;have g8:=c.now;have a0:=c.yg;have g9:=c.k64;rw[<-c9]at V g8 H;rw[<-Y]at J H a0 g9;have f:=A h;have HS:=A U;have HN:=A hn;have HK:=A hK;have d0:=A H;have HY:=A a0;have i9:(K.length:Int)<=64:=O;clear h U c hn hK H c7 c4 a0 Z Y c9;go_enter func13,ntmps13;go_wp2_with fail
 refine c8.o.mono ?_;rintro e D ⟨g,a1,rfl,d2,E⟩;have p1:=MW E q1;have y4:=MW E J;have y5:=MW E V;have h4:d.p<D.heap.size:=MO p1;have h5:d.y<D.heap.size:=MO y4;have v:=A d2;have r:=A E;clear c8 d2 E q0 q1 J V g5 g7;go_wp2_with fail
 go_loopw [7,8] (λo i wr=>o=.bool true/\∃j:Nat,j<=K.length/\i=Q I j/\Mb D.heap.size D wr) (λ_ i _=>K.length- (intOf i).toNat)
 case atStart=>exact⟨by simp,0,O,rfl,MU _ _⟩
 case round=>
  obtain⟨rfl,j,hj,rfl,b⟩:=hrel;by_cases F:j<K.length
  ·have h6:(j:Int)<K.length:=by omega
   have p2:=MW b p1;have z4:=MW b y4;have z5:=MW b y5;have j1:d.p<wr.heap.size:=MO p2;have j2:d.y<wr.heap.size:=MO z4;obtain⟨rfl,x0,x1,x2,x3⟩:=d0.o j F;have d6:aX (d8 0) w.heap.size D 68 4 (MR (N ⟨g,0,S⟩) K.length a1) (K.map λe=>{e with age:= -e.age}):=by
    refine⟨?_,λe=>by rw[List.map_eq_nil_iff]at e;rw[e]at F;exact absurd F (OV j)⟩;have e:ed (d8 0) (K.map λe=>{e with age:= -e.age})=fH K:=by
     unfold ed fH d8;rw[List.flatMap_map];simp
    rw[e,ND];exact v.o
   obtain⟨a3,j4,g3,e3,e1⟩:=d6.row (dF 0);obtain⟨ha,s⟩:=e1 j (by rw[ND];exact F);rw[ND]at e3;cases e3;cases ha;rw[List.getElem_map]at s;obtain⟨z,hz⟩:=UX (K[j]);have P:=HY.o K[j] (Ms F);rw[<-hz]at x0 x1 x2 x3 s P;have R:=MW b (s 0 _ rfl);have f1:=MW b (s 1 _ rfl);have f2:=MW b (s 2 _ rfl);have f3:=MW b (s 3 _ rfl);simp only[Int.zero_sub,Int.neg_neg,Nat.add_zero]at R f1 f2 f3;have v0:=MW b (MW r.o x0);have v1:=MW b (MW r.o x1);have v2:=MW b (MW r.o x2);have v3:=MW b (MW r.o x3);have j6:g<wr.heap.size:=MO R;have k0:g2<wr.heap.size:=MO v0;obtain⟨zv,zm,zp,za⟩:=z;obtain⟨tm,e7⟩:=UX (L-za);simp only at R f1 f2 f3 v0 v1 v2 v3;rw[<-e7]at v3;have k4:IntKind.i64.wrap (L-tm)=za:=by
    unfold iQ at P;rw[IntKind.wrap_i64];simp only at P;omega
   have e8:=A b;clear b hz d6 e1 s P e7 x0 x1 x2 x3 d0 v HY;go_wp2_with fail
   refine wp_region_quiet_below UR UR ?_
   repeat(quiet_step (fail))
   refine wpQuiet_nil ?_;intro wq y;replace y:=aE y;obtain⟨h9,i0⟩:=aW y;have i1:=y.size;have HQ:=A y;clear y h9 i0 i1 p2 z4 z5 R f1 f2 f3 v0 v1 v2 v3;go_wp2_with fail
   go_roundw
   case rel=>exact⟨by simp,j+1,O,by go_num,e8.o.trans (HQ.o.mono e8.o.size)⟩
   case measure=>simp[intOf];omega
  ·have h6:¬(j:Int)<K.length:=by omega
   have hb:Mb w.heap.size w wr:=r.o.trans (b.mono r.o.size);have ws:WS wr p B l G n u (kc m w.heap.size 0):=f.o.ws.aj (X:=λ_=>False) (aH.aG hb) (λ_ a=>a.elim) (λx a _=>cE a);have f5:KP wr 68 4 (MR (N ⟨g,0,S⟩) K.length a1) K.length:=mT (aY v.o λx a=>b.block x (v.o.lt x a).2);have i3:w.heap.size<=g:=(v.o.lt g rfl).1;have CL:=A (EY wr p B l G (MR (N ⟨g,0,S⟩) K.length a1) n K.length u (kc m w.heap.size 0) ws f5 (λx a=>by cases a;exact pD i3) O HN.o HK.o);have HB:=A hb;clear ws f5 hb b p1 y4 y5 h4 h5;go_wp2_with fail
   refine CL.o.mono ?_;rintro e W ⟨rfl,C,q,k,hk,f8,f9,g0⟩;have g1:∃C q k,q.length=u.length+4/\LW W p B l C (n+1) T q k/\LS W l t k M/\cz w W m k:=by
    have c0:∀x,x<w.heap.size->m x≠0->k x=m x:=λx a h0=>by
     have:=g0 x (Mi a HB.o.size) (by rw[cE a];exact h0);rwa[cE a]at this
    have c1:aH (λx=>x=p\/G.ownBlock=N x) w W:=((aH.aG HB.o).trans f9).mono λx a h=>by
     rcases h with h|h|h
     ·exact Mf h
     ·exact MX h
     ·have k6:g=x:=Option.some.inj h;omega
    refine⟨C,q,k,hk,f.o.FN c1 c0 f8,HS.o.aj c1 (λx a _=>?_) c0,⟨_,c1,λx a _=>?_⟩,c0⟩;rotate_left
    ·rcases a with rfl|a
     ·rw[f.o.cw];omega
     ·rw[f.o.cK x a];omega
    rcases a with rfl|a
    ·exact⟨f.o.uH,by rw[f.o.cw];omega,by rw[f.o.cw];omega,λj=>by rw[f.o.cw];omega⟩
    ·exact⟨f.o.vn a,by rw[f.o.cK x a];omega,by rw[f.o.cK x a];omega,λj=>by rw[f.o.cK x a];omega⟩
   have HF:=A g1;clear g1 g0 f9 f8 hk CL HB v r;go_wp2;go_ret;exact⟨rfl,HF.o⟩
end
theorem Fp(n:Int)(w:MV)(a:n<1\/8<n):Calls MT 19 #[Q I n] w λe W=>e=.returned (.tuple #[MQ S,Q I 1])/\W=w:=by
 by_cases h:n<1
 ·go_enter Th,ntmps19;go_wp2;go_ret2;exact⟨rfl,rfl⟩
 ·have b:8<n:=by omega
  clear a;go_enter Th,ntmps19;go_wp2;go_ret2;exact⟨rfl,rfl⟩
section
variable {w W:World}{d:aC}{X:Nat->Prop}
theorem aC.aP.Ua(h:d.aP w)(L:0<d.P.length)(c:aH X w W)(R:∀x,X x->x<w.heap.size->d.pv.ownBlock=N x\/(dg w x/\¬d.bV x/\x≠1)){T:List b7}{U:List (Int×Ma)}(V:aQ W d.pv T U):aC.aP W {d with P:=T,Q:=U}:=by
 have q:=λb (D:d.pv.ownBlock=N b)=>h.lB L D;have C:∀b,(d.bV b\/b=1)->(d.pv.ownBlock=N b->False)->¬X b:=λb Y a1 E=>by
  have a2:b<w.heap.size:=Y.elim h.lt λe=>by rw[e];exact jH h.p.hm
  rcases R b E a2 with e|⟨_,e,e1⟩
  ·exact a1 e
  ·exact Y.elim e e1
 have F:¬X d.s:=C _ (Mf (Mf rfl)) λe=>(q _ e).1 rfl;have nk:¬X d.k:=C _ (Mf (MX (Mf rfl))) λe=>(q _ e).2.1 rfl;have nm:∀b,KX d.m d.sv b->¬X b:=λb D=>C b (Mf (by
  rcases D with e|e
  ·exact MX (MX (Mf e))
  ·exact MX (MX (MX (Mf e))))) λe=>(q _ e).2.2.1 D
 have G:¬X 1:=C _ (MX rfl) λe=>(q _ e).2.2.2.2.2.2.2.2.2.2 rfl;have J:¬X d.fm:=C _ (Mf (MX (MX (MX (MX (MX (MX (Mf rfl)))))))) λe=>(q _ e).2.2.2.1 rfl;have K:∀g,d.fsv.ownBlock=N g->¬X g:=λg i=>C _ (Mf (MX (MX (MX (MX (MX (MX (MX (Mf i))))))))) λe=>(q _ e).2.2.2.2.1 i;have nv:¬X d.vb:=C _ (Mf (MX (MX (MX (MX (MX (MX (MX (MX (Mf rfl)))))))))) λe=>(q _ e).2.2.2.2.2.1 rfl;have nF:∀b,d.F b->¬X b:=λb H=>C _ (Mf (MX (MX (MX (MX (MX (MX (MX (MX (MX (Mf H))))))))))) λe=>(q _ e).2.2.2.2.2.2.1 H;have nr:¬X d.rb:=C _ (Mf (MX (MX (MX (MX (MX (MX (MX (MX (MX (MX (Mf rfl)))))))))))) λe=>(q _ e).2.2.2.2.2.2.2.1 rfl;have nh:¬X d.hb:=C _ (Mf (MX (MX (MX (MX (MX (MX (MX (MX (MX (MX (MX (Mf rfl))))))))))))) λe=>(q _ e).2.2.2.2.2.2.2.2.1 rfl;have b0:∀g,d.hsv.ownBlock=N g->¬X g:=λg i=>C _ (Mf (MX (MX (MX (MX (MX (MX (MX (MX (MX (MX (MX (MX i))))))))))))) λe=>(q _ e).2.2.2.2.2.2.2.2.2.1 i;have hl:=h.r.hT.laid;have b2:aH (λx=>X x/\x<w.heap.size) w W:=⟨c.os,c.tape,c.output,c.size,λb D b3=>c.block b D λE=>b3 ⟨E,D⟩⟩;have b4:∀x,(X x/\x<w.heap.size)->dg w x:=λx E=>by
  rcases R x E.1 E.2 with e|⟨e,_⟩
  ·obtain⟨n,z,p0,p1⟩:=h.p.Jh L e;exact tW hl p0 p1
  ·exact e
 obtain⟨ov,b9,-⟩:=h.r.hV.AK;obtain⟨Z,f1,f2,f3,f4⟩:=h.r.hF;refine⟨⟨c.block.cell F h.p.h0,V.at,c.block.cell F h.p.h5,h.p.hK.aj λb D e=>c.block b D ?_,c.block.cell G h.p.hm.1,c.block.cell G h.p.hm.2.1,c.block.cell G h.p.hm.2.2.1,c.block.cell G h.p.hm.2.2.2⟩,⟨c.block.cell F h.r.h1,⟨c.block.cell J Z,c.block.cell J f1,ap f2 λg i=>c.block g (ae f2 i).2 (K g i),λj=>(NJ (a:=⟨d.fm,j,S⟩) (c.block d.fm (MO Z) J)).trans (f3 j),f4⟩,h.r.sF,λg i=>?_,c.block.cell F h.r.h3,h.r.hT.iW b2 b4 λx H E=>nF x H E.1,c.block.cell F h.r.h4,h.r.hV.same (c.block d.vb (aJ b9) nv),h.r.hD⟩,h.h.aj c F nr nh b0,V⟩
 ·rcases e with rfl|e
  ·exact nk
  ·exact nm b e
 ·obtain⟨n,v,d0,d1⟩:=h.r.hH g i;exact⟨n,v,c.block.cell (K g i) d0,c.block.cell (K g i) d1⟩
end
section
variable {w W:World}{m n u:Nat}{r p o s:Value}{t:List aL}{f:List aC}{B y:List au}{k l:Nat->Nat}{M:Int}
theorem uy(h:LW w m r p o n t B k)(H:LS w p f k M)(hi:i<f.length){R:List b7}{T:List (Int×Ma)}{XQ:List ee}(hp:aQ W f[i].pv R T)(hq:∀q∈T,q∈f[i].Q\/∃b,q.2=N4 (N b)/\l b=6*i+10)(a8:aT W f[i].y {f[i].x with Q:=XQ})(a9:∀q∈XQ,q∈f[i].x.Q\/∀b,q.tv.ownBlock=N b->l b=6*i+13)(z:aH (λb=>(f[i].pv.ownBlock=N b\/f[i].x.pv.ownBlock=N b)\/(b=m\/o.ownBlock=N b)) w W)(hW:WS W m r p s u y l)(U:∀x,x<w.heap.size->k x≠0->l x=k x)(eP:R=XQ.map ee.FQ)(J:XQ.length=f[i].x.Q.length)(tl:∀q∈XQ,q.T.length<=1000000000)(nt:∀q∈XQ,0<=q.nat/\q.nat<4096):LW W m r p s u t y l/\LS W p (f.set i {f[i]with P:=R,Q:=T,x:={f[i].x with Q:=XQ}}) l M:=by
 have g:=H.sw i hi;obtain⟨d,b0⟩:=UX (f[i]);rw[<-b0]at g hp hq a8 a9 z J⊢;have hP:d.P.length=d.x.Q.length:=by rw[g.eP];unfold aK.P;rw[ND]
 have V:0<d.P.length:=by rw[hP];exact g.n0
 have mX:∀b,d.pv.ownBlock=N b->d.bV b:=λb e=>MX (MX (MX (MX (Mf e))));have F:∀b,d.x.pv.ownBlock=N b->d.x.cR d.y b:=λb e=>MX (Mf e);have Y:∀x,((d.pv.ownBlock=N x\/d.x.pv.ownBlock=N x)\/(x=m\/o.ownBlock=N x))->dg w x:=λx v=>by
  rcases v with(e|e)|(e|e)
  ·exact g.LO h.laid e
  ·exact g.Kh h.laid e
  ·rw[e];exact h.uH
  ·exact h.vn e
 have Z:∀x,((d.pv.ownBlock=N x\/d.x.pv.ownBlock=N x)\/(x=m\/o.ownBlock=N x))->k x=6*i+10\/k x=6*i+13\/k x=1\/k x=3:=λx v=>by
  rcases v with(e|e)|(e|e)
  ·exact Mf (g.cI x (mX x e))
  ·exact MX (Mf (g.cX x (F x e)))
  ·rw[e];exact MX (MX (Mf h.cw))
  ·exact MX (MX (MX (h.cK x e)))
 have c2:d.p<w.heap.size:=MO g.c0;have b1:¬((d.pv.ownBlock=N d.p\/d.x.pv.ownBlock=N d.p)\/(d.p=m\/o.ownBlock=N d.p)):=λe=>by have:=Z _ e;rw[g.cp]at this;omega
 have a0:∀b c,b<w.heap.size->k b=c->c≠0->l b=c:=λb c G e h0=>(U b G (by rw[e];exact h0)).trans e;have D:∀b,d.bV b->l b=6*i+10:=λb e=>a0 b _ (g.imp.lt e) (g.cI b e) O;have E:∀b,d.x.cR d.y b->l b=6*i+13:=λb e=>a0 b _ (g.ref.AG e) (g.cX b e) O;have c4:d.k<w.heap.size:=g.imp.lt (MX (Mf rfl));have c5:¬((d.pv.ownBlock=N d.k\/d.x.pv.ownBlock=N d.k)\/(d.k=m\/o.ownBlock=N d.k)):=λe=>by
  have e7:=g.cI d.k (MX (Mf rfl));rcases e with(e|e)|(e|e)
  ·exact(g.imp.lB V e).2.1 rfl
  ·have j:=g.cX d.k (F _ e);rw[e7]at j;omega
  ·have j:=h.cw;rw[<-e,e7]at j;omega
  ·have j:=h.cK _ e;rw[e7]at j;omega
 have c6:(dG W d.vb:Int)<=M:=by
  have b2:d.bV d.vb:=MX (MX (MX (MX (MX (MX (MX (MX (Mf rfl))))))));rw[dZ (z.block d.vb (g.imp.lt b2) λe=>?_)]
  ·exact g.vs
  ·have e0:=g.cI _ b2;rcases e with(e|e)|(e|e)
   ·exact(g.imp.lB V e).2.2.2.2.2.1 rfl
   ·have j:=g.cX _ (F _ e);rw[e0]at j;omega
   ·have j:=h.cw;rw[<-e,e0]at j;omega
   ·have j:=h.cK _ e;rw[e0]at j;omega
 refine⟨h.whole z (λx v=>⟨Y x v,by have:=Z x v;omega⟩) U hW,H.nL hi (by rw[<-b0]) z (λx v _=>⟨Y x v,Z x v⟩) U (Int.le_refl _) ?_⟩;refine⟨z.block.cell b1 g.c0,z.block.cell b1 g.c1,a0 _ _ c2 g.cp O,?_,λb G=>?_,?_,a8,λb G=>?_,eP,g.eK,?_,?_,g.k64,tl,?_,nt,g.yg,g.nil,g.now,c6⟩
 ·have K:=g.imp.Ua V z (λx v c9=>?_) hp
  ·exact⟨K.p,K.r,K.h,K.o⟩
  ·have b3:=Y x v;rcases v with(e|e)|e
   ·exact Mf e
   ·refine MX ⟨b3,λhm=>?_,λj=>?_⟩
    ·have j:=g.cX x (F x e);rw[g.cI x hm]at j;omega
    ·have L:=g.cX x (F x e);rw[j,H.c1]at L;omega
   ·have L:k x=1\/k x=3:=by
     rcases e with e|e
     ·rw[e];exact Mf h.cw
     ·exact MX (h.cK x e)
    refine MX ⟨b3,λhm=>?_,λj=>?_⟩
    ·rw[g.cI x hm]at L;omega
    ·rw[j,H.c1]at L;omega
 ·rcases G with e|e|e|e|e|⟨q,a4,e⟩|e
  ·exact D b (Mf e)
  ·exact D b (MX (Mf e))
  ·exact D b (MX (MX (Mf e)))
  ·exact D b (MX (MX (MX (Mf e))))
  ·exact D b (MX (MX (MX (MX (Mf e)))))
  ·rcases hq q a4 with C|⟨b',C,c8⟩
   ·exact D b (MX (MX (MX (MX (MX (Mf ⟨q,C,e⟩))))))
   ·rw[e]at C;obtain rfl:b=b':=by simpa using C
    exact c8
  ·exact D b (MX (MX (MX (MX (MX (MX e))))))
 ·exact(Mj (a:=⟨d.k,1,S⟩) (z.block d.k c4 c5)).trans g.one
 ·rcases G with e|e|e|e|e|e|⟨q,a4,e⟩
  ·exact E b (Mf e)
  ·exact E b (MX (Mf e))
  ·exact E b (MX (MX (Mf e)))
  ·exact E b (MX (MX (MX (Mf e))))
  ·exact E b (MX (MX (MX (MX (Mf e)))))
  ·exact E b (MX (MX (MX (MX (MX (Mf e))))))
  ·rcases a9 q a4 with C|C
   ·exact E b (MX (MX (MX (MX (MX (MX ⟨q,C,e⟩))))))
   ·exact C b e
 ·show 0<XQ.length;rw[J];exact g.n0
 ·show XQ.length<=8;rw[J];exact g.n8
 ·show∀e∈d.x.K,(0<=e.port/\e.port<XQ.length)/\dH e.mac=false;rw[J];exact g.kp
end
theorem xM{w:MV}{i:Ma}{q N:List au}{A:Array Ma}(h:iX w 78 5 i q.length (eO q))(W:q.length+1<=100000000000)(X:1<=w.heap.size)(c:N.length=1)(J:A.toList=eO N)(k:∀u∈eO N,u.oneCell'=true):∃g f a,(Na #[29,29] 29 #[i,MR (some ⟨w.heap.size,0,S⟩) 1 1]).run MT (w.alloc (MY A 78)).drew=.ok (MR (some ⟨g,0,S⟩) (q.length+1) f) a/\a.ownsRow 1 78 5 (MR (some ⟨g,0,S⟩) (q.length+1) f) (q.length+1) (eO (q++N))/\aH (λx=>i.ownBlock=some x) w a/\(i.ownBlock=some g\/w.heap.size<=g):=by
 obtain⟨l,o,p,t,B⟩:=Ob zH;have E:(w.alloc (MY A 78)).drew.ownsRow 1 78 5 i q.length (eO q):=h.1.alloc _;have F:∀j u,(eO N)[j]?=some u->(w.alloc (MY A 78)).drew.cell? ((⟨w.heap.size,0,S⟩:Oz).add j)=some u:=λj u K=>by
  rw[Nx];exact aN w A 78 j u (by rw[J];exact K)
 have Y:(w.alloc (MY A 78)).drew.heap.size=w.heap.size+1:=by simp
 obtain⟨L,a,G,H,M,Z⟩:=QF (P:=MT) (w.alloc (MY A 78)).drew 1 29 29 78 l _ 5 104 lJ o p t B rfl US i q.length (eO q) E ⟨w.heap.size,0,S⟩ 1 1 (eO N) (by rw[kA,c]) F k UT O O;have R:=gA (P:=MT) (w.alloc (MY A 78)).drew 1 29 29 78 l _ 5 104 lJ o p t B i q.length (eO q) E ⟨w.heap.size,0,S⟩ 1 1 (eO N) (by rw[kA,c]) F k UT O G;have T:∃g f,L=MR (some ⟨g,0,S⟩) (q.length+1) f:=by
  rcases H.2 with⟨e,e2⟩|⟨g,f,_,e,_⟩
  ·omega
  ·exact⟨g,f,e⟩
 obtain⟨g,f,rfl⟩:=T;refine⟨g,f,a,G,?_,?_,?_⟩
 ·rw[qi];exact H
 ·have U:aH (λb=>i.ownBlock=some b) w (w.alloc (MY A 78)).drew:=aH.aG (((MU _ w).alloc (MP _) _).drew);exact U.trans (aH.grown M λ_ V=>V)
 ·rcases R g rfl with h|h
  ·exact Mf h
  ·exact MX O
def vG(m:Nat)(u:Ma):au:=⟨m,MR S 0 0,MR S 0 0,MR S 0 0,u⟩
theorem tn(x:Int)(a:Option Oz)(l c:Nat)(w:MV):(Instr.buildSlice 29 1 #[(0,.agg #[Q I x,MR S 0 0,MR S 0 0,MR S 0 0,MR a l c])]).run MT w=.ok (MR (N ⟨w.heap.size,0,S⟩) 1 1) (w.alloc (MY #[Q I x,MR S 0 0,MR S 0 0,MR S 0 0,MR a l c] 78)):=UR
section
variable {w r z:World}{d n m g v f:Nat}{C D i s:Value}{q:List au}{y:Nat->Nat}
theorem Gy(h:WS w d C D i n q y)(l:y g=0)(b1:g<w.heap.size)(F:aH (λx=>x=d\/x=g) w r)(W:r.cell? ⟨d,0,S⟩=N C)(X:r.cell? ⟨d,1,S⟩=N D)(Y:r.cell? ⟨d,2,S⟩=N (Q I m))(Z:r.cell? ⟨d,3,S⟩=N i)(G:∀j,r.frozen? ⟨d,j,S⟩=false)(hl:v<=1000000000)(hm:m<=100000000000)(hf:∀k,k<v->r.rangeAt g (k*1) (nU m))(B:aH (λx=>i.ownBlock=N x) r z)(H:∀x,s.ownBlock=N x->i.ownBlock=N x\/r.heap.size<=x)(hr:z.ownsRow 1 78 5 s (q.length+1) (eO (q++[vG m (MR (N ⟨g,0,S⟩) v f)]))):aH (λx=>x=d\/i.ownBlock=N x\/x=g) w (z.setCell ⟨d,3,S⟩ s)/\WS (z.setCell ⟨d,3,S⟩ s) d C D s m (q++[vG m (MR (N ⟨g,0,S⟩) v f)]) (jJ y (MR (N ⟨g,0,S⟩) v f) w.heap.size w.heap.size)/\∀x,x<w.heap.size->y x≠0->jJ y (MR (N ⟨g,0,S⟩) v f) w.heap.size w.heap.size x=y x:=by
 have J:d<w.heap.size:=MO h.c0;have t:∀x,(MR (N ⟨g,0,S⟩) v f).ownBlock=N x->x=g:=λx a=>(Option.some.inj a).symm;have a4:g≠d:=λe=>by rw[e,h.cw]at l;omega
 have K:(MR (N ⟨g,0,S⟩) v f).ownBlock≠N d:=λe=>a4 (t _ e).symm;have L:i.ownBlock≠N d:=λe=>by have:=h.cK d e;rw[h.cw]at this;omega
 have M:∀x,i.ownBlock=N x->x<w.heap.size:=λx a=>h.rK.lt a;have a5:i.ownBlock≠N g:=λe=>by have:=h.cK g e;rw[l]at this;omega
 have P:∀x,i.ownBlock=N x->(MR (N ⟨g,0,S⟩) v f).ownBlock≠N x:=λx a e=>a5 (by rw[a,t x e]);have s6:=F.size;have s8:=B.size;have a6:s.ownBlock≠N d:=λe=>by rcases H d e with e|e;exact L e;omega
 have R:∀x,x<w.heap.size->y x≠0->jJ y (MR (N ⟨g,0,S⟩) v f) w.heap.size w.heap.size x=y x:=λx a h0=>gP (λe=>h0 (by rw[t x e];exact l)) a;have T:aH (λx=>x=d\/i.ownBlock=N x) r (z.setCell ⟨d,3,S⟩ s):=aH.setCell (p:=⟨d,3,S⟩) (B.mono λx _ a=>.inr a) (.inl (.inl rfl)) s;have U:aH (λx=>x=d\/i.ownBlock=N x\/x=g) w (z.setCell ⟨d,3,S⟩ s):=(F.mono λx _ a=>a.imp id .inr).trans (T.mono λx _ a=>a.imp id .inl);have E:∀j,z.cell? ⟨d,j,S⟩=r.cell? ⟨d,j,S⟩/\z.frozen? ⟨d,j,S⟩=r.frozen? ⟨d,j,S⟩:=λj=>jr.aS (B.block d O L) j;have u:=jr.set (o:=3) E s;refine⟨U,⟨(u 0 US).1.trans W,(u 1 US).1.trans X,(u 2 US).1.trans Y,?_,λj=>?_,⟨?_,λe=>by simp at e⟩,?_,λx a=>?_,λk c=>?_⟩,R⟩
 ·exact World.cell?_setCell_same _ _ _ ((E 3).1.trans Z)
 ·by_cases V:j=3
  ·subst V;rw[World.frozen?_setCell];exact(E 3).2.trans (G 3)
  ·exact(u j V).2.trans (G j)
 ·have a8:=aY (w':=z.setCell ⟨d,3,S⟩ s) hr λg hg=>Below.heap_setCell _ _ _ _ λe=>a6 (by rw[hg];exact congrArg N e);rw[Mz];exact a8
 ·rw[gP K J,h.cw]
 ·rcases H x a with e|e
  ·rw[gP (P x e) (M x e),h.cK x e]
  ·exact zG (λe'=>by have:=t x e';omega) O O
 ·rcases List.mem_append.1 c with c|c
  ·refine(h.kept k c).aj U (λx a _=>?_) R;rcases a with rfl|a|rfl
   ·rw[h.cw];omega
   ·rw[h.cK x a];omega
   ·rw[l];omega
  ·rw[List.mem_singleton]at c;subst c;refine⟨hm,qN.nil _ _,qN.nil _ _,qN.nil _ _,(ww (b:=g) hl (qB rfl) O hf).aj T (λx a _=>?_) λ_ _ _=>rfl⟩;rcases a with rfl|a
   ·rw[gP K J,h.cw];omega
   ·rw[gP (P x a) (M x a),h.cK x a];omega
end
theorem IR{w:MV}{a:Option Oz}{c:Nat}(h:w.ownsRow B 3 1 (MR a T.length c) T.length (T.map λt=>Q I t))(k:B<=w.heap.size)(_hB1:0<B)(X:T.length<=1000000000):∃g f b,(Na #[32,32] 32 #[MR a T.length c,MR (N ⟨w.heap.size,0,S⟩) 2 2]).run MT (w.alloc (MY #[Q I 77,Q I 77] 3))=.ok (MR (N ⟨g,0,S⟩) (T.length+2) f) b/\b.ownsRow B 3 1 (MR (N ⟨g,0,S⟩) (T.length+2) f) (T.length+2) ((T++[77,77]).map λt=>Q I t)/\Mb B w b:=by
 obtain⟨p,E,F,G,H⟩:=Ob pJ;have l:Mb w.heap.size w (w.alloc (MY #[Q I 77,Q I 77] 3)):=(MU _ w).alloc (MP _) _;have J:(w.alloc (MY #[Q I 77,Q I 77] 3)).ownsRow B 3 1 (MR a T.length c) T.length (T.map λt=>Q I t):=h.alloc _;have K:∀j u,[Q I 77,Q I 77][j]?=N u->(w.alloc (MY #[Q I 77,Q I 77] 3)).cell? ((⟨w.heap.size,0,S⟩:Oz).add j)=N u:=λj u L=>by
  rw[Nx];exact aN w #[Q I 77,Q I 77] 3 j u L
 obtain⟨M,b,R,o,U,Y⟩:=QF (P:=MT) (w.alloc (MY #[Q I 77,Q I 77] 3)) B 32 32 3 p _ 1 8 fl E F G H rfl US (MR a T.length c) T.length (T.map λt=>Q I t) J ⟨w.heap.size,0,S⟩ 2 2 [Q I 77,Q I 77] rfl K oc UT O (Mx k l.size);have V:∃g f,M=MR (N ⟨g,0,S⟩) (T.length+2) f:=by
  rcases o.2 with⟨e,Z⟩|⟨g,f,_,e,_⟩
  ·omega
  ·exact⟨g,f,e⟩
 obtain⟨g,f,rfl⟩:=V;refine⟨g,f,b,R,?_,?_⟩
 ·rw[List.map_append];exact o
 ·exact(l.mono k).trans (bj U (Mx k l.size) λx W=>(h.lt x W).1)
theorem AB{w:MV}{C:Ma}(h:iY w C T)(hl:T.length<=1000000000)(_hp:0<w.heap.size):∃k c l,(Na #[32,32] 32 #[MR (N ⟨w.heap.size,0,S⟩) 0 0,C]).run MT (w.alloc (MY #[] 3))=.ok (MR k T.length c) l/\l.ownsRow w.heap.size 3 1 (MR k T.length c) T.length (T.map λt=>Q I t)/\Mb w.heap.size w l:=by
 obtain⟨L,E,M,R,U⟩:=Ob pJ;have o:Mb w.heap.size w (w.alloc (MY #[] 3)):=(MU _ w).alloc (MP _) _;have F:(w.alloc (MY #[] 3)).ownsRow w.heap.size 3 1 (MR (N ⟨w.heap.size,0,S⟩) 0 0) 0 []:=⟨rfl,MX ⟨w.heap.size,0,#[],rfl,MP _,heap_alloc_new w _,MP _,by unfold Nj;omega,rfl,rfl⟩⟩;obtain⟨a,f,b,G,rfl,H⟩:=h;by_cases J:T=[]
 ·subst J;refine⟨N ⟨w.heap.size,0,S⟩,0,(w.alloc (MY #[] 3)),?_,F,o⟩;cases a<;>simp[Na,run_underlying fl,sizeOf,typeInfo,E,Builtin.lenOf,Builtin.firstCells,loadCells,loadCellsFrom,storeCells]
 ·have V:0<T.length:=List.length_pos_iff.2 J;obtain⟨rfl,-⟩:=H 0 V;have W:∀j u,(T.map λt=>Q I t)[j]?=N u->(w.alloc (MY #[] 3)).cell? ((⟨b,G,S⟩:Oz).add j)=N u:=λj u p=>by
   have K:j<T.length:=by have:=(List.getElem?_eq_some_iff.1 p).1;rwa[ND]at this
   rw[Oh,NZ K]at p;cases p;rw[Nx];exact MW o (H j K).2
  obtain⟨X,l,Y,B,Z,a3⟩:=QF (P:=MT) (w.alloc (MY #[] 3)) w.heap.size 32 32 3 L _ 1 8 fl E M R U rfl US (MR (N ⟨w.heap.size,0,S⟩) 0 0) 0 [] F ⟨b,G,S⟩ T.length f (T.map λt=>Q I t) (by simp) W oc UT O (by simp);rw[NO,List.nil_append]at B;have a0:∃k c,X=MR k T.length c:=by
   rcases B.2 with⟨e,e2⟩|⟨g,f,_,e,_⟩
   ·omega
   ·exact⟨_,_,e⟩
  obtain⟨k,c,rfl⟩:=a0;exact⟨k,c,l,Y,B,o.trans (bj Z o.size λx hx=>by cases hx;exact MP _)⟩
section
attribute [local go_sem] Oper.semAt_some aI
attribute [local go_sem ↓ high] tn
attribute [local go_sem ↓ high] fj
theorem BD{T:List Int}(h:du a T=true):0<=a/\a<4096:=by
 unfold du at h;rw[Bool.and_eq_true,Bool.or_eq_true,beq_iff_eq]at h;rcases h.1 with e|e
 ·omega
 ·have b:(decide (1<=a)&&decide (a<=4094))=true:=e;rw[Bool.and_eq_true,decide_eq_true_eq,decide_eq_true_eq]at b;omega
theorem BB{q:Int}{T:List Int}(h:eJ P q a T=0):du a T=true:=by
 unfold eJ at h;split at h
 ·split at h
  ·assumption
  ·cases h
 ·cases h
def rV(f:Nat->Nat)(s a i:Nat):Nat->Nat:=λx=>if x<s then f x else if x<a then 0 else 6*i+10
theorem BI{w:MV}{g o:Nat}{T:List Int}(h:w.ownsRow B 3 1 (MR (N ⟨g,0,S⟩) (T.length+2) o) (T.length+2) ((T++[77,77]).map λt=>Q I t)):(∀j (b:j<T.length),w.cell? ⟨g,j,S⟩=N (Q I T[j]))/\w.cell? ⟨g,T.length,S⟩=N (Q I 77)/\w.cell? ⟨g,T.length+1,S⟩=N (Q I 77)/\T.length+2<=o/\B<=g/\g<w.heap.size/\∃a,w.heap[g]?=N (MY a 3 (0,0))/\a.size=o*1:=by
 have k:∀j u,((T++[77,77]).map λt=>Q I t)[j]?=N u->w.cell? ⟨g,j,S⟩=N u:=λj u s=>by
  have:=h.cells (g:=g) rfl j u s;rwa[Nx,NO]at this
 refine⟨λj b=>k j _ ?_,k _ _ ?_,k _ _ ?_,?_⟩
 ·rw[Oh,List.getElem?_append_left b,NZ b];rfl
 ·rw[Oh,OP (MP _),Nat.sub_self];rfl
 ·rw[Oh,OP (Nat.le_succ _),show T.length+1-T.length=1 by omega];rfl
 ·rcases h.2 with⟨e,_⟩|⟨U,V,a,e,x,q,P,W,R,X⟩
  ·cases e
  ·cases e;exact⟨P,x,aJ q,a,q,R⟩
theorem iY.Ji{w:MV}{k:Option Oz}{s t:Nat}{T:List Int}(h:iY w (MR k s t) T)(P:∀b,(MR k s t).ownBlock=N b->0<T.length->b<w.heap.size->W.heap[b]?=w.heap[b]?):iY W (MR k s t) T:=by
 obtain⟨a,o,b,u,e,x⟩:=h;refine⟨a,o,b,u,e,λj B=>⟨(x j B).1,?_⟩⟩;obtain⟨R,q⟩:=x j B;have U:(MR k s t).ownBlock=N b:=by rw[e,R];rfl
 exact(Mj (a:=⟨b,u+j,S⟩) (P b U O (MO q))).trans q
theorem AD.put{wr b:MV}{g o a m:Nat}(h:AD wr 3 1 (nU m) (MR (N ⟨g,0,S⟩) a o) a j)(q:Mb wr.heap.size wr b)(P:j<a):b.frozen? ⟨g,j,S⟩=false/\(∃u,b.cell? ⟨g,j,S⟩=N u)/\AD (b.setCell ⟨g,j,S⟩ (Q I (-(m:Int)))) 3 1 (nU m) (MR (N ⟨g,0,S⟩) a o) a (j+1):=by
 have R:AD b 3 1 (nU m) (MR (N ⟨g,0,S⟩) a o) a j:=by
  rcases h with h|⟨s,U,V,e,t,W,X,Y⟩
  ·exact Mf h
  ·exact MX ⟨s,U,V,e,(q.block s (aJ t)).trans t,W,X,λk Z=>aO (Y k Z) q⟩
 obtain⟨x,B⟩:=R.nL rfl P;rw[Nat.mul_one]at x B;obtain⟨t1,t2⟩:=x 0 O;exact⟨t2,Option.isSome_iff_exists.1 t1,B⟩
section
variable {w C l v K p:World}{d n m g H o i:Nat}{J E D kv':Value}{L:List aL}{c:List aC}{F:List au}{f:Nat->Nat}{M y z:Int}{T:List Int}{G:List (Int×Value)}
theorem EU(h:LW w d J E D n L F f)(hs:LS w E c f M)(hi:i<c.length)(k4:T.length<=100000000)(hm:m=n+1)(hn:n<100000000000)(h6:H<=1000000000)(e6:Mb w.heap.size w C)(k6:w.heap.size<=g)(h8:g<C.heap.size)(Y:aQ l c[i].pv (eT c[i].P y z T) G)(c4:nK C c[i].Q G)(e7:aH (λb=>c[i].pv.ownBlock=N b) C l)(c6:aH (λx=>x=d\/x=g) l v)(o6:jr l v d 2)(d2:v.cell? ⟨d,2,S⟩=N (Q I m))(f2:v.frozen? ⟨d,2,S⟩=false)(hf:∀k,k<H->v.rangeAt g (k*1) (nU m))(c8:aH (λx=>D.ownBlock=N x) v K)(i1:∀x,kv'.ownBlock=N x->D.ownBlock=N x\/v.heap.size<=x)(hr:K.ownsRow 1 78 5 kv' (F.length+1) (eO (F++[vG m (MR (N ⟨g,0,S⟩) H o)])))(i3:p=K.setCell ⟨d,3,S⟩ kv'):(aT p c[i].y c[i].x/\∀b,b<w.heap.size->f b=4->p.heap[b]?=w.heap[b]?)/\∀U,lq c[i].y c[i].x y z T p (eJ c[i].x.P y z T) U->∃kv' f3 c5 d',f3.length=F.length+1/\LW U d J E kv' (n+1) L f3 c5/\LS U E (c.set i d') c5 M/\c[i].iC d'/\cz w U f c5:=by
 have t:=hs.sw i hi;have s3:=e6.size;have s4:=e7.size;have s6:=c6.size;have s7:=c8.size;have f5:d<w.heap.size:=MO h.c0;have W:∀b,c[i].pv.ownBlock=N b->b<w.heap.size/\f b=6*i+10:=λb a=>⟨t.imp.lt (MX (MX (MX (MX (Mf a))))),t.cI b (MX (MX (MX (MX (Mf a)))))⟩;have i4:c[i].pv.ownBlock≠N d:=λe=>by have:=(W _ e).2;rw[h.cw]at this;omega
 have a8:aH (λb=>c[i].pv.ownBlock=N b) w l:=(aH.aG e6).trans e7;obtain⟨R,c7⟩:=UX (rV f w.heap.size C.heap.size i);have B:∀x,x<w.heap.size->R x=f x:=λx s=>by rw[c7];unfold rV;rw[if_pos s]
 have ig:R g=0:=by rw[c7];unfold rV;rw[if_neg O,if_pos h8]
 have c9:∀x,C.heap.size<=x->R x=6*i+10:=λx s=>by rw[c7];unfold rV;rw[if_neg O,if_neg O]
 have a9:WS l d J E D n F R:=h.ws.aj a8 (λx s _=>by have:=(W x s).2;omega) λx s _=>B x s;have ob:∀j,l.cell? ⟨d,j,S⟩=w.cell? ⟨d,j,S⟩/\l.frozen? ⟨d,j,S⟩=w.frozen? ⟨d,j,S⟩:=λj=>jr.aS (a8.block d f5 i4) j;have df:∀j,v.frozen? ⟨d,j,S⟩=false:=λj=>by
  by_cases e:j=2
  ·rw[e];exact f2
  ·exact((o6 j e).2.trans (ob j).2).trans (h.frz j)
 obtain⟨b0,d0,b1⟩:=Gy a9 ig O c6 ((o6 0 US).1.trans a9.c0) ((o6 1 US).1.trans a9.c1) d2 ((o6 3 US).1.trans a9.c3) df h6 O hf c8 i1 hr;rw[<-i3]at b0 d0;obtain⟨cq,i8⟩:=UX (jJ R (MR (N ⟨g,0,S⟩) H o) l.heap.size l.heap.size);rw[<-i8]at d0 b1;have s8:=b0.size;have d1:∀b,c[i].x.pv.ownBlock=N b->b<w.heap.size/\f b=6*i+13:=λb a=>⟨t.ref.AG (MX (Mf a)),t.cX b (MX (Mf a))⟩;have f7:∀b,b<l.heap.size->R b≠0->R b≠1->R b≠3->p.heap[b]?=l.heap[b]?:=λb a h0 Z h3=>b0.block b a (by
  rintro(e|e|e)
  ·exact Z (by rw[e,B _ f5];exact h.cw)
  ·exact h3 (by rw[B _ (h.rK.lt e)];exact h.cK b e)
  ·exact h0 (by rw[e];exact ig))
 have f8:∀b,b<w.heap.size->f b≠0->f b≠1->f b≠3->f b≠6*i+10->p.heap[b]?=w.heap[b]?:=λb a h0 Z h3 h7=>(f7 b O (by rw[B b a];exact h0) (by rw[B b a];exact Z) (by rw[B b a];exact h3)).trans (a8.block b a λe=>h7 (W b e).2);have f9:aT p c[i].y c[i].x:=t.ref.aj λb a b3=>f8 b b3 (by rw[t.cX b a];omega) (by rw[t.cX b a];omega) (by rw[t.cX b a];omega) (by rw[t.cX b a];omega);refine⟨⟨f9,λb a h4=>f8 b a O O O O⟩,λU hX=>?_⟩;have b4:c[i].P=c[i].x.P:=t.eP;obtain⟨V,g1⟩:=UX (λx=>if x<p.heap.size then cq x else 6*i+13:Nat->Nat);have d4:∀x,x<p.heap.size->V x=cq x:=λx s=>by rw[g1];exact if_pos s
 have j0:∀x,p.heap.size<=x->V x=6*i+13:=λx s=>by rw[g1];exact if_neg O
 have d5:∀x,x<w.heap.size->f x≠0->V x=f x:=λx s h0=>by
  rw[d4 x O,b1 x O (by rw[B x s];exact h0),B x s]
 have b5:aH (λb=>c[i].x.pv.ownBlock=N b) p U:=by
  rcases hX with⟨-,a⟩|⟨-,-,d6,-,hc,-⟩
  ·exact aH.aG a
  ·exact hc
 have s9:=b5.size;have g2:WS U d J E kv' m (F++[vG m (MR (N ⟨g,0,S⟩) H o)]) V:=d0.aj b5 (λx s hl=>by
  obtain⟨a1,a2⟩:=d1 x s;rw[b1 x O (by rw[B x a1];omega),B x a1];omega) λx s _=>d4 x s
 have j2:aH (λb=>(c[i].pv.ownBlock=N b\/c[i].x.pv.ownBlock=N b)\/(b=d\/D.ownBlock=N b)) w p:=aH.vZ (X:=λb=>(c[i].pv.ownBlock=N b\/c[i].x.pv.ownBlock=N b)\/(b=d\/D.ownBlock=N b)) (a8.mono λx _ s=>Mf (Mf s)) b0 λx s l7=>by
  rcases s with e|e|e
  ·exact MX (Mf e)
  ·exact MX (MX e)
  ·omega
 have e0:aH (λb=>(c[i].pv.ownBlock=N b\/c[i].x.pv.ownBlock=N b)\/(b=d\/D.ownBlock=N b)) w U:=j2.trans (b5.mono λx _ s=>Mf (MX s));have j3:∀b,C.heap.size<=b->b<l.heap.size->V b=6*i+10:=λb Z h2=>by
  rw[d4 b O,b1 b h2 (by rw[c9 b Z];omega),c9 b Z]
 have g3:∀b,b<l.heap.size->R b=6*i+10->U.heap[b]?=l.heap[b]?:=λb a he=>by
  rw[b5.block b O (λe=>by
   obtain⟨a1,a2⟩:=d1 b e;rw[B b a1,a2]at he;omega),f7 b a O O O]
 have g4:∀q∈G,∀b,q.2=N4 (N b)->b<l.heap.size/\R b=6*i+10/\(q∈c[i].Q\/C.heap.size<=b):=λq u b e=>by
  obtain⟨j,hj,rfl⟩:=List.getElem_of_mem u;have b3:=(Y.each j (by have:=Y.len;omega)).2.lt e;rcases c4 _ u with e'|⟨b',e1,e2⟩
  ·have g5:c[i].bV b:=MX (MX (MX (MX (MX (Mf ⟨_,e',e⟩)))));refine⟨b3,?_,Mf e'⟩;rw[B b (t.imp.lt g5)];exact t.cI b g5
  ·rw[e]at e1;obtain rfl:b=b':=by simpa using e1
   exact⟨b3,c9 b e2,MX e2⟩
 have g6:aQ U c[i].pv (eT c[i].P y z T) G:=⟨Y.len,ap Y.own λb a=>g3 b (by have:=(W b a).1;omega) (by rw[B b (W b a).1];exact(W b a).2),λj hj=>⟨(Y.each j hj).1,(Y.each j hj).2.lw λb e=>by
  obtain⟨a1,a2,-⟩:=g4 _ (Ms _) b e;exact g3 b a1 a2⟩⟩
 have g7:∀q∈G,q∈c[i].Q\/∃b,q.2=N4 (N b)/\V b=6*i+10:=λq u=>by
  rcases c4 q u with e|⟨b,e1,e2⟩
  ·exact Mf e
  ·exact MX ⟨b,e1,j3 b e2 (g4 q u b e1).1⟩
 have g8:cz w U f V:=⟨⟨_,e0,λx s _=>by
  rcases s with(e|e)|(e|e)
  ·have:=(W x e).2;omega
  ·have:=(d1 x e).2;omega
  ·rw[e,h.cw];omega
  ·rw[h.cK x e];omega⟩,d5⟩
 have g9:∀(P':List b7) (XQ:List ee),XQ.length=c[i].x.Q.length->aC.iC c[i] {c[i]with P:=P',Q:=G,x:={c[i].x with Q:=XQ}}:=λ_ _ e=>⟨rfl,rfl,rfl,rfl,rfl,rfl,rfl,e,λu q k1=>by
  rcases c4 q k1 with e|⟨b,e,a⟩
  ·exact u q e
  ·rw[e];intro e';have e1:b=c[i].vb:=by simpa using e'
   have:=t.imp.lt (b:=c[i].vb) (MX (MX (MX (MX (MX (MX (MX (MX (Mf rfl)))))))));omega⟩
 rcases hX with⟨c1,a⟩|⟨c1,l8,d6,k2,-,k3⟩
 ·have e4:eT c[i].P y z T=c[i].x.Q.map ee.FQ:=by
   unfold eT;rw[if_neg (by rw[b4];exact c1)];exact b4
  obtain⟨f1,f2⟩:=uy h hs hi g6 g7 (XQ:=c[i].x.Q) (f9.aD a) (λq u=>Mf u) e0 g2 d5 e4 rfl t.tl t.nt;rw[hm]at f1;exact⟨_,_,_,_,by rw[Mz];rfl,f1,f2,g9 _ _ rfl,g8⟩
 ·have e4:eT c[i].P y z T=(c[i].x.Q.set y.toNat ⟨z,d6,T⟩).map ee.FQ:=by
   unfold eT;rw[if_pos (by rw[b4];exact c1),List.map_set,b4];rfl
  obtain⟨f1,f2⟩:=uy h hs hi g6 g7 (XQ:=c[i].x.Q.set y.toNat ⟨z,d6,T⟩) k2 (λq u=>by
   rcases Pe u with e|e
   ·exact Mf e
   ·exact MX λb a=>j0 b (k3 b (by rw[e]at a;exact a))) e0 g2 d5 e4 (Mw ..) (λq u=>by
   rcases Pe u with e|e
   ·exact t.tl q e
   ·rw[e];show T.length<=1000000000;omega) (λq u=>by
   rcases Pe u with e|e
   ·exact t.nt q e
   ·rw[e];exact BD (BB c1))
  rw[hm]at f1;exact⟨_,_,_,_,by rw[Mz];rfl,f1,f2,g9 _ _ (Mw ..),g8⟩
end
end
section
attribute [local go_sem] Oper.semAt_some aI
theorem ug{e:Mc}(h:e∈eF a K):e.age<=300/\∃q∈K,e.vlan=q.vlan/\e.mac=q.mac/\e.port=q.port/\e.age=q.age+a:=by
 unfold eF at h;rw[List.mem_filter,List.mem_map,decide_eq_true_eq]at h;obtain⟨⟨q,b,rfl⟩,c⟩:=h;exact⟨c,q,b,rfl,rfl,rfl,rfl⟩
theorem LW.still{a n:Nat}{b c d:Ma}{e:List aL}{f:List au}{g:Nat->Nat}(h:LW w a b c d n e f g)(i:Mb w.heap.size w W):LW W a b c d n e f g:=h.aD i λ_ _ _=>rfl
theorem LS.still{a:Ma}{b:List aC}(h:LS w a b c M)(d:Mb w.heap.size w W):LS W a b c M:=h.aj (X:=λ_=>False) (aH.aG d) (λ_ e=>e.elim) λ_ _ _=>rfl
theorem LS.later{a:Ma}{b:List aC}{d:Int}(h:LS w a b c M)(e:M<=d):LS w a b c d:=⟨h.mean,h.c1,h.row,h.cS,h.pS,λi f=>(h.sw i f).later e⟩
theorem BP(w:MV)(G i:Nat)(H p J:Ma)(n:Nat)(K:List aL)(j:List aC)(L:List au)(u:Nat->Nat)(M:Int)(Y g Z oK:Int)(oS:ByteArray)(la:Option Oz)(ll lc:Nat)(r:Rl)(x0 x1 x2 x3 x4:Int)(h:LW w G H p J n K L u)(v:LS w p j u M)(P:i<j.length)(hM:M<=1000000000000000000):Calls MT 29 #[MQ (N ⟨j[i].p,0,S⟩),.agg #[Q I 13,Q I Y,Q I g,Q I Z,Q I oK,MS oS,MR la ll lc,Q I r.id,Q I r.pr,Q I r.k0,Q I r.v0,Q I r.m0,Q I r.k1,Q I r.v1,Q I r.m1,Q I r.k2,Q I r.v2,Q I r.m2,Q I r.k3,Q I r.v3,Q I r.m3,Q I r.k4,Q I r.v4,Q I r.m4,Q I r.ac,Q I r.po,Q I x0,Q I x1,Q I x2,Q I x3,Q I x4]] w λe W=>e=.returned (.bool true)/\∃k s,LW W G H p J n K L k/\LS W p (j.set i s) k (M+1000000)/\j[i].iC s/\cz w W u k:=by
 obtain⟨c,y⟩:=UX (w.alloc (MY #[Q I 13,Q I Y,Q I g,Q I Z,Q I oK,MS oS,MR la ll lc,Q I r.id,Q I r.pr,Q I r.k0,Q I r.v0,Q I r.m0,Q I r.k1,Q I r.v1,Q I r.m1,Q I r.k2,Q I r.v2,Q I r.m2,Q I r.k3,Q I r.v3,Q I r.m3,Q I r.k4,Q I r.v4,Q I r.m4,Q I r.ac,Q I r.po,Q I x0,Q I x1,Q I x2,Q I x3,Q I x4] 41));obtain⟨m,B⟩:=UX w.heap.size;have t:=UY y;have R:c.rangeAt m 0 [Q I 13,Q I Y,Q I g,Q I Z,Q I oK,MS oS,MR la ll lc,Q I r.id,Q I r.pr,Q I r.k0,Q I r.v0,Q I r.m0,Q I r.k1,Q I r.v1,Q I r.m1,Q I r.k2,Q I r.v2,Q I r.m2,Q I r.k3,Q I r.v3,Q I r.m3,Q I r.k4,Q I r.v4,Q I r.m4,Q I r.ac,Q I r.po,Q I x0,Q I x1,Q I x2,Q I x3,Q I x4]:=by rw[y,B];exact aN _ _ _
 have k0:c.cell? ⟨m,0,S⟩=N (Q I 13):=R 0 _ rfl;have k2:c.cell? ⟨m,2,S⟩=N (Q I g):=R 2 _ rfl;have b1:m<c.heap.size:=MO k0;have hA:=(h.still t).still ((MU _ c).drew);have T:=(v.still t).still ((MU _ c).drew);have a:=T.sw i P;obtain⟨d,o⟩:=UX (j[i]);rw[<-o]at a⊢;have q0:c.cell? ⟨d.p,0,S⟩=N (MQ (N ⟨d.s,0,S⟩)):=a.c0;have q1:c.cell? ⟨d.p,1,S⟩=N (MQ (N ⟨d.y,0,S⟩)):=a.c1;have g1:d.p<c.heap.size:=MO q0;have hP:d.P.length=d.x.Q.length:=by rw[a.eP];unfold aK.P;rw[ND]
 have d0:0<d.P.length:=by rw[hP];exact a.n0
 have b4:Mb w.heap.size w c.drew:=t.drew;have g2:d.k<w.heap.size:=by rw[o];exact(v.sw i P).imp.lt (MX (Mf rfl))
 have g3:d.y<w.heap.size:=by rw[o];exact(v.sw i P).ref.lt
 have g4:¬m=d.k:=O;have g5:¬d.p=d.k:=λe=>by have:=a.cI d.k (MX (Mf rfl));rw[<-e,a.cp]at this;omega
 by_cases C:0<=g/\g<=1000000
 ·have U:=A (m8 d.s d.k d.m d.sv d.K g c.drew a.imp.p.h5 a.imp.p.hK (by rw[a.eK];have:=a.k64;omega) C (by rw[a.eK];exact a.yg));have HA:=A hA;have HS:=A T;have HD:=A a;have d4:=A o;have V:=A C;have d5:=A b4;have HQ:=A (And.intro k2 q1);have HM:=A hM;clear h v hA T a o C t b4 R hM hP d0;go_enter Px,ntmps29;go_wp2_with fail
  rw[<-y,<-B];clear y B;go_region_with
   (first|(go_at_call 82;refine U.o.mono ?_;rintro e f ⟨rfl,hI⟩;have HI:=A hI;clear hI))
  all_goals
   obtain⟨m1,g7,e6,e7,e8,z,f0⟩:=HI.o;have a:=HD.o;have c2:f.cell? ⟨m,2,S⟩=N (Q I g):=z.block.cell g4 HQ.o.1;have p1:f.cell? ⟨d.p,1,S⟩=N (MQ (N ⟨d.y,0,S⟩)):=z.block.cell g5 HQ.o.2;have g8:m<f.heap.size:=MO c2;have g9:d.p<f.heap.size:=MO p1;have b6:u d.k=6*i+10:=a.cI d.k (MX (Mf rfl));have f3:aT f.drew d.y d.x:=(a.ref.aj λb D b1=>z.block b b1 λe=>by
    have e1:=a.cX b D;rw[e,b6]at e1;omega).aD ((MU _ f).drew)
   have X:=A (Da d.y d.x g f.drew f3 V.o a.k64 ⟨a.now.1,Int.le_trans a.now.2 HM.o⟩ a.yg);have f4:aA (∀W,xP d.y d.x g f.drew W->∃k s,LW W G H p J n K L k/\LS W p (j.set i s) k (M+1000000)/\d.iC s/\cz w W u k):=A (by
    rintro W ⟨h9,h0,h1,h2,h4⟩;have f5:aH (λb=>b=d.y) f W:=(aH.aG ((MU _ f).drew)).trans h1;have o:=d4.o;subst o;have h5:f.cell? ⟨j[i].k,1,S⟩=none:=f0.trans a.one;have h6:bB f j[i].k m1 g7 (eF g j[i].x.K):=by rw[<-a.eK];exact e6
    have f6:=xJ (M':=M+1000000) HA.o HS.o P h6 (MX e7) (λb D=>MX (e8 b D)) (z.mono λ_ _ e=>Mf e) h5 h0 (λb D=>MX (h2 b D)) (f5.mono λ_ _ e=>Mf e) (Mx (wG _ _) a.k64) (λe he=>by
     obtain⟨-,q,hq,e1,e2,e3,e4⟩:=ug he;rw[e2,e3];exact a.kp q hq) (λe he=>by
     obtain⟨h3,q,hq,e1,e2,e3,e4⟩:=ug he;have hy:=a.yg q hq;have:=V.o;unfold iQ at hy⊢;omega) h4 (by have:=a.now;have:=V.o;omega) O
    refine⟨_,_,f6.1,f6.2,⟨rfl,rfl,rfl,rfl,rfl,rfl,rfl,rfl,λh=>h⟩,cz.iF ⟨⟨λb=>b=j[i].k\/b=j[i].y,(z.mono λ_ _ e=>Mf e).trans (f5.mono λ_ _ e=>MX e),λx E _=>?_⟩,λx E _=>?_⟩ d5.o⟩
    ·rcases E with rfl|rfl
     ·rw[b6];omega
     ·rw[a.cX _ (Mf rfl)];omega
    ·unfold dO;rw[if_pos E])
   clear e6 e7 e8 z f0 a f3 HI HA HS HD d4 V d5 HQ HM U b6 g2 g3 q0 q1 k0 k2 b1 g1;go_wp2_with fail
   go_region_with
    (first|(go_at_call 83;refine X.o.mono ?_;rintro e W ⟨rfl,hX⟩;have HF:=A (f4.o W hX);clear hX))
   all_goals
    clear X f4 c2 p1 g8 g9;have F:=A (eZ 0 W);go_wp2_with fail
    refine F.o.mono ?_;rintro e W' ⟨rfl,l⟩;rw[l];clear l W' F;go_wp2;go_ret;exact⟨rfl,HF.o⟩
 ·have U:=A (Fo d.s g c.drew C);have g0:g<0\/1000000<g:=O;have X:=A (DZ d.y g c.drew.drew g0);have HF:aA (∀W,Mb c.heap.size c W->∃k s,LW W G H p J n K L k/\LS W p (j.set i s) k (M+1000000)/\d.iC s/\cz w W u k):=A λW hW=>by
   refine⟨u,j[i],(h.still t).still hW,?_,by rw[<-o];exact⟨rfl,rfl,rfl,rfl,rfl,rfl,rfl,rfl,λh=>h⟩,cz.iF ⟨⟨λ_=>False,aH.aG hW,λ_ E=>E.elim⟩,λ_ _ _=>rfl⟩ t⟩;rw[List.set_getElem_self];exact((v.still t).still hW).later O
  clear h v hA T a o C g0 t b4 R hM hP d0;go_enter Px,ntmps29;go_wp2_with fail
  rw[<-y,<-B];clear y B;go_region_with
   (first|(go_at_call 82;refine U.o.mono ?_;rintro e f ⟨rfl,l⟩;rw[l];clear l f))
  all_goals
   go_wp2_with fail
   go_region_with
    (first|(go_at_call 83;refine X.o.mono ?_;rintro e f ⟨rfl,l⟩;rw[l];clear l f))
   all_goals
    have F:=A (eZ 9 c.drew.drew);go_wp2_with fail
    refine F.o.mono ?_;rintro e W' ⟨rfl,l⟩;rw[l];clear l W' F;go_wp2;go_ret;exact⟨rfl,HF.o _ ((MU _ c).drew.drew)⟩
end
end Go.Proofs.YtnjalelblbjfiaaGreatDoor
