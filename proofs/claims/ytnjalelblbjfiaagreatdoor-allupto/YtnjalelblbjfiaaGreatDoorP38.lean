import Derived.Test.YtnjalelblbjfiaaGreatDoorP37
import Derived.Test.YtnjalelblbjfiaaGreatDoorP12
namespace Go.Proofs.YtnjalelblbjfiaaGreatDoor
set_option maxRecDepth 100000
set_option maxHeartbeats 16000000
open Go.RowKit
open Go.Proofs.Tryz
open Go.Sort (grow)
open Bool renaming true→Mk,and_eq_true→NH,false→Md,true_and→O5,not_eq_true→NB
open Go.IntKind renaming i64→I
open List renaming mem_map→OD,mem_filter→Nc
open Option renaming none→S,some→N
open Go renaming World→MV,Calls→Mo,cell_later→MW,run_loadAt_mid→NW,block_lt_of_cell→MO
open Go.Ending renaming returned→MZ
open Go.Proofs.Tryz renaming prog→MT,func149→SA,func79→Tl
open Go.RowKit renaming Below→Mb
open Go.RowKit.Below renaming refl→MU
open Go.Value renaming pointer→MQ,agg→M1,int→Q,map→N4
open Nat renaming le_trans→Mx,lt_of_lt_of_le→Mi,le_refl→MP
variable {x:Int}{V:Int->Int×Int}{L:List af}{c w:MV}{a b n t:Nat}{F:Nat->Prop}{r:Rl}
structure fY (n:Nat) (L:List af) (c:List Rl) (V:Int->Int×Int):Prop where
 r:c=n9 L
 i:∀e∈L,V e.2.id=(e.2.ac,e.2.po)
 o:∀id,(∀e∈L,e.2.id≠id)->V id=(0,0)
 p:∀e∈L,e.2.ac=2->0<=e.2.po/\e.2.po<n
 w:∀e∈L,(Lit.int I e.2.id).wf=Mk
def xH(V:Int->Int×Int)(x:Int):Int->Int×Int:=λa=>if a=x then(0,0)else V a
section
variable {n:Nat}{L d:List af}{c:List Rl}{V:Int->Int×Int}
theorem fY.port(h:fY n L c V):∀a,(V a).1=2->0<=(V a).2/\(V a).2<n:=λa e=>by
 by_cases f:∃q∈L,q.2.id=a
 ·obtain⟨q,b,rfl⟩:=f;rw[h.i q b]at e⊢;exact h.p q b e
 ·rw[h.o a λq b g=>f ⟨q,b,g⟩]at e;exact absurd e (show¬(0:Int)=2 by decide)
theorem DD(b:ByteArray):iE (i7 b 12) (i7 b 16) (b8 b 9) (pB b) (pA b)=true:=by
 have a:=xO b 12;have e:=xO b 16;have f:=rG b 9;have g:pB b<65536:=by unfold pB;split<;>first|exact eN _ _|omega
 have h:pA b<65536:=by unfold pA;split<;>first|exact eN _ _|omega
 unfold iE bD;simp only[NH,decide_eq_true_eq];omega
theorem fY.Lr(h:fY n L c V)(f:cC L)(P:List b7){p:Pg}(g:p.right=Mk){z:Int}(i:qJ c (i7 p.pb 12) (i7 p.pb 16) (b8 p.pb 9) (pB p.pb) (pA p.pb) z):(z= -1->kj L V P p=S)/\∀k (a:k<c.length),z=k->kj L V P p=if c[k].ac=1 then N (4,[])else if c[k].ac=2 then N (if(eG P p c[k].po).length=0 then 8 else 0,eG P p c[k].po)else none:=by
 have j:=h.i;obtain rfl:=h.r;obtain⟨l,m⟩:=tU f (DD p.pb) i;constructor
 ·intro e;have:=tT (l e);unfold kj;rw[if_neg];rintro⟨-,b⟩;unfold ju at b;rw[this]at b;exact absurd b US
 ·intro k a e;have o:=tT (m k a e);have q:k<L.length:=by simpa using a
  have r:(n9 L)[k]=L[k].2:=by simp
  have s:=j L[k] (List.getElem_mem q);unfold kj ju;rw[o,if_pos ⟨g,rfl⟩];simp only[r];rw[s]
theorem fY.MG(h:fY n L c V)(l:cC L)(m:cC d){i:Nat}(f:∀x,x∈d↔x=(b,r)\/x∈L)(g:∀x∈c,x.id≠r.id)(o:i<=c.length)(p:∀j (C:j<c.length),i<=j->r.al c[j]=Mk)(q:∀(h:0<i),r.al (c[i-1]'O)=Md)(s:r.ac=2->0<=r.po/\r.po<n)(t:(Lit.int I r.id).wf=Mk):fY n d (c.take i++r::c.drop i) (A9 V r.id r.ac r.po):=by
 obtain⟨rfl,u,v,w,y⟩:=h;have z:∀e∈L,e.2.id≠r.id:=λe a=>g e.2 (OD.2 ⟨e,a,rfl⟩);refine⟨(zF l m f (by simpa using o) g p q).symm,λe a=>?_,λB k=>?_,λe a=>?_,λe a=>?_⟩
 ·unfold A9;rcases(f e).1 a with rfl|a
  ·rw[if_pos rfl]
  ·rw[if_neg (z e a)];exact u e a
 ·unfold A9;rw[if_neg λe=>k (b,r) ((f _).2 (.inl rfl)) e.symm];exact v B λe a=>k e ((f e).2 (.inr a))
 ·rcases(f e).1 a with rfl|a
  ·exact s
  ·exact w e a
 ·rcases(f e).1 a with rfl|a
  ·exact t
  ·exact y e a
theorem fY.KQ(h:fY n L c V){k:Nat}(l:k<c.length)(m:c[k].id=x)(o:∀i j (B:i<L.length) (C:j<L.length),L[i].2.id=L[j].2.id->i=j):fY n (L.filter λa=>a.2.id !=x) (c.take k++c.drop (k+1)) (xH V x):=by
 obtain⟨rfl,p,q,r,s⟩:=h;have t:k<L.length:=by simpa using l
 have u:L[k].2.id=x:=by rw[<-m];simp
 refine⟨(zX t u o).symm,λe b=>?_,λv w=>?_,λe b=>r e (Nc.1 b).1,λe b=>s e (Nc.1 b).1⟩
 ·obtain⟨y,f⟩:=Nc.1 b;rw[bne_iff_ne]at f;unfold xH;rw[if_neg f];exact p e y
 ·unfold xH;split
  ·rfl
  ·rename_i z
   exact q v λe b g=>w e (Nc.2 ⟨b,by rw[bne_iff_ne,g];exact z⟩) g
theorem fY.Ih(h:fY n L c V)(g:∀q∈c,q.id≠x):fY n (L.filter λa=>a.2.id !=x) c (xH V x):=by
 obtain⟨rfl,i,j,k,l⟩:=h;have b:∀a∈L,a.2.id≠x:=λa m=>g a.2 (OD.2 ⟨a,m,rfl⟩);rw[zY b];refine⟨rfl,λe f=>?_,λo p=>?_,k,l⟩
 ·unfold xH;rw[if_neg (b e f)];exact i e f
 ·unfold xH;split
  ·rfl
  ·exact j o p
end
section
open Go.RowKit Go.Maps
attribute [local go_sem] Oper.semAt_some aI
attribute [local go_sem ↓ high] lV
def ij(r:Rl)(n:Nat):Bool:=r.ok&&((r.ac==2)&&!(decide (0<=r.po)&&decide (r.po<n)))
theorem Cy(h:r.ok=Mk)(e:r.ac=2):0<=r.po:=by
 unfold Rl.ok fM at h;simp only[NH]at h;have a:=h.2.2.2.2.2.2.2.2;unfold AC at a;rw[if_neg O,if_neg O,if_pos e]at a;simp only[NH,decide_eq_true_eq]at a;exact a.1
theorem Bb(r:Rl)(n:Nat):ij r n=lG r n:=by
 unfold ij lG;cases h:r.ok with
 |false=>rfl
 |true=>
  rw[O5,O5];by_cases e:r.ac=2
  ·have b:=Cy h e;rw[show(r.ac==2)=Mk by rw[beq_iff_eq];exact e,O5,O5,decide_eq_true b,O5];by_cases a:r.po<n
   ·rw[decide_eq_true a,decide_eq_false O];rfl
   ·rw[decide_eq_false a,decide_eq_true O];rfl
  ·rw[show(r.ac==2)=Md by rw[beq_eq_false_iff_ne];exact e];rfl
theorem JC(r:Rl):ah [] r=if r.ok then 0 else 4:=by
 unfold ah;cases r.ok<;>rfl
def rJ(t a:Nat)(F:Nat->Prop)(L:List af)(V:Int->Int×Int)(r:Rl)(w c:MV):Prop:=
 ∃e d,bQ c t e d/\(∀x,e x->F x\/w.heap.size<=x)/\aH (λx=>F x\/x=a) w c/\(if ah L r=0 then(∃b,∀x,x∈d↔x=(b,r)\/x∈L)/\dc c a 0 (A9 V r.id r.ac r.po)/\dG c a<=dG w a+1 else d=L/\dc c a 0 V/\dG c a<=dG w a)
def DS(t c:Nat)(F:Nat->Prop)(L:List af)(V:Int->Int×Int)(x:Int)(w d:MV):Prop:=
 bQ d t F (L.filter λa=>a.2.id !=x)/\dc d c 0 (xH V x)/\aH (λb=>F b\/b=c) w d/\dG d c<=dG w c
theorem Bd(s:Nat)(H:Value)(P:List b7)(r:Rl)(w:MV)(J:cP w)(U:w.cell? ⟨s,0,S⟩=N H)(V:eM w H P)(m:r.ac=2)(X:¬(0<=r.po/\r.po<P.length)):Mo MT 149 #[MQ (N ⟨s,0,S⟩),M1 #[Q I r.id,Q I r.pr,Q I r.k0,Q I r.v0,Q I r.m0,Q I r.k1,Q I r.v1,Q I r.m1,Q I r.k2,Q I r.v2,Q I r.m2,Q I r.k3,Q I r.v3,Q I r.m3,Q I r.k4,Q I r.v4,Q I r.m4,Q I r.ac,Q I r.po]] w λe c=>e=MZ (.bool r.ok)/\Mb w.heap.size w c:=by
 obtain⟨dr,a5,a6⟩:=dJ;obtain⟨a,i⟩:=UX (w.alloc (.cells #[Q I r.id,Q I r.pr,Q I r.k0,Q I r.v0,Q I r.m0,Q I r.k1,Q I r.v1,Q I r.m1,Q I r.k2,Q I r.v2,Q I r.m2,Q I r.k3,Q I r.v3,Q I r.m3,Q I r.k4,Q I r.v4,Q I r.m4,Q I r.ac,Q I r.po] 37));obtain⟨f,n⟩:=UX w.heap.size;have Y:a.cell? ⟨f,17,S⟩=N (Q I r.ac):=by rw[i,n];exact mr rfl
 have y:a.cell? ⟨f,18,S⟩=N (Q I r.po):=by rw[i,n];exact mr rfl
 have p:=UY i;have Z:a.rangeAt f 0 [Q I r.id,Q I r.pr,Q I r.k0,Q I r.v0,Q I r.m0,Q I r.k1,Q I r.v1,Q I r.m1,Q I r.k2,Q I r.v2,Q I r.m2,Q I r.k3,Q I r.v3,Q I r.m3,Q I r.k4,Q I r.v4,Q I r.m4,Q I r.ac,Q I r.po]:=by rw[i,n];exact aN _ _ _
 have b6:f<a.heap.size:=by rw[i,n];simp
 have CP:aA (∀W:MV,Mb a.heap.size a W->Mo MT 65 #[MQ (N ⟨s,0,S⟩),Q I r.po] W λe c=>e=MZ (.bool Md)/\c=W):=A λW d=>by
  refine(kJ s H P r.po W (MW d (MW p U)) ((V.aD p).aD d)).mono ?_;rintro e c ⟨o,m⟩;refine⟨?_,m⟩;rw[o,show(decide (0<=r.po)&&decide (r.po<P.length))=Md by rw[<-NB,NH,decide_eq_true_eq,decide_eq_true_eq];exact X]
 have CN:aA (∀W:MV,Mb a.heap.size a W->Mo MT 14 #[] W λe c=>∃t F,e=MZ (MQ (N ⟨t,0,S⟩))/\bQ c t F []/\(∀x,F x->a.heap.size<=x)/\Mb a.heap.size a c):=A λW d=>by
  refine(oj W ((J.aD p (cP.uE J)).aD d O)).mono ?_;rintro e c ⟨t,F,o,m,h3,h4⟩;exact⟨t,F,o,m,λx K=>Mx d.size (h3 x K),d.trans (h4.mono d.size)⟩
 have z:aA (∀(W:MV) (t:Nat) (F:Nat->Prop),bQ W t F []->(∀x,F x->a.heap.size<=x)->Mb a.heap.size a W->Mo MT 15 #[MQ (N ⟨t,0,S⟩),M1 #[Q I r.id,Q I r.pr,Q I r.k0,Q I r.v0,Q I r.m0,Q I r.k1,Q I r.v1,Q I r.m1,Q I r.k2,Q I r.v2,Q I r.m2,Q I r.k3,Q I r.v3,Q I r.m3,Q I r.k4,Q I r.v4,Q I r.m4,Q I r.ac,Q I r.po]] W λe c=>e=MZ (Q I (if r.ok then 0 else 4))/\Mb a.heap.size a c):=A λW t F j k d=>by
  refine(ka t r W F [] j).mono ?_;rintro e c ⟨o,F',L',c1,c2,q,-⟩;rw[JC]at o;refine⟨o,q.os.trans d.os,q.tape.trans d.tape,q.output.trans d.output,Mx d.size q.size,λb hb=>?_⟩;rw[q.block b (Mi hb d.size) λK=>by have:=k b K;omega];exact d.block b hb
 have L:∀W,Mb a.heap.size a W->(mC (MQ (N ⟨f,0,S⟩))).run MT W=.ok (M1 #[Q I r.id,Q I r.pr,Q I r.k0,Q I r.v0,Q I r.m0,Q I r.k1,Q I r.v1,Q I r.m1,Q I r.k2,Q I r.v2,Q I r.m2,Q I r.k3,Q I r.v3,Q I r.m3,Q I r.k4,Q I r.v4,Q I r.m4,Q I r.ac,Q I r.po]) W:=λW d=>NW W f 0 37 [Q I r.id,Q I r.pr,Q I r.k0,Q I r.v0,Q I r.m0,Q I r.k1,Q I r.v1,Q I r.m1,Q I r.k2,Q I r.v2,Q I r.m2,Q I r.k3,Q I r.v3,Q I r.m3,Q I r.k4,Q I r.v4,Q I r.m4,Q I r.ac,Q I r.po] dr (aO Z d) a5 a6 ay;have B:=A p;have C:=A i;have a3:=A n;clear i p U V n Z J X;have D:a.cell? ⟨f,17,S⟩=N (Q I 2):=by rw[Y,m]
 clear Y m;have a9:Mb a.heap.size a a.drew:=(MU _ a).drew;have c3:=L a.drew a9;have E:=A L;clear L;cases G:r.ok with
 |false=>
  have u:(if r.ok then(0:Int)else 4)=4:=by rw[G];rfl
  rw[u]at z;clear u G;go_enter SA,ntmps149;go_wp2_with fail
  rw[<-C.o,<-a3.o];clear C;go_region_held3 (λc=>(mC (MQ (N ⟨f,0,S⟩))).run MT c=.ok (M1 #[Q I r.id,Q I r.pr,Q I r.k0,Q I r.v0,Q I r.m0,Q I r.k1,Q I r.v1,Q I r.m1,Q I r.k2,Q I r.v2,Q I r.m2,Q I r.k3,Q I r.v3,Q I r.m3,Q I r.k4,Q I r.v4,Q I r.m4,Q I r.ac,Q I r.po]) c/\c.cell? ⟨f,17,S⟩=N (Q I 2)/\c.cell? ⟨f,18,S⟩=N (Q I r.po)) (go_keep)
   (first|(go_at_call 65;refine(CP.o _ ?_).mono ?_;(exact(MU _ a).drew);rintro e c ⟨rfl,v⟩;rw[v];clear v c)|(go_at_call 14;refine(CN.o _ ?_).mono ?_;(exact(MU _ a).drew);rintro e M ⟨t,F,rfl,j,k,g⟩;have l:=A (And.intro j (And.intro k g));clear j k;have b0:=MW g D;have b1:=MW g y;have b2:=E.o M g)|(go_at_call 15;refine(z.o _ _ _ l.o.1 l.o.2.1 l.o.2.2).mono ?_;rintro e R ⟨rfl,h⟩;have b3:=MW h D;have b4:=MW h y;have b5:=E.o R h))
  all_goals
   have T:=A (B.o.trans (h.mono B.o.size));clear g h;go_wp2;go_ret;exact⟨rfl,T.o⟩
 |true=>
  have u:(if r.ok then(0:Int)else 4)=0:=by rw[G];rfl
  rw[u]at z;clear u G;go_enter SA,ntmps149;go_wp2_with fail
  rw[<-C.o,<-a3.o];clear C;go_region_held3 (λc=>(mC (MQ (N ⟨f,0,S⟩))).run MT c=.ok (M1 #[Q I r.id,Q I r.pr,Q I r.k0,Q I r.v0,Q I r.m0,Q I r.k1,Q I r.v1,Q I r.m1,Q I r.k2,Q I r.v2,Q I r.m2,Q I r.k3,Q I r.v3,Q I r.m3,Q I r.k4,Q I r.v4,Q I r.m4,Q I r.ac,Q I r.po]) c/\c.cell? ⟨f,17,S⟩=N (Q I 2)/\c.cell? ⟨f,18,S⟩=N (Q I r.po)) (go_keep)
   (first|(go_at_call 65;refine(CP.o _ ?_).mono ?_;(exact(MU _ a).drew);rintro e c ⟨rfl,v⟩;rw[v];clear v c)|(go_at_call 14;refine(CN.o _ ?_).mono ?_;(exact(MU _ a).drew);rintro e M ⟨t,F,rfl,j,k,g⟩;have l:=A (And.intro j (And.intro k g));clear j k;have b0:=MW g D;have b1:=MW g y;have b2:=E.o M g)|(go_at_call 15;refine(z.o _ _ _ l.o.1 l.o.2.1 l.o.2.2).mono ?_;rintro e R ⟨rfl,h⟩;have b3:=MW h D;have b4:=MW h y;have b5:=E.o R h))
  all_goals
   have T:=A (B.o.trans (h.mono B.o.size));clear g h;go_wp2;go_ret;exact⟨rfl,T.o⟩
theorem bQ.AL(h:bQ w t F L):L.length<=200:=by
 obtain⟨a,b,c,d,e,T,_,_,_⟩:=h;exact T.mR.2.2.2.2
theorem dc.drop(h:dc w b n V)(c:Int)(j:(Lit.int I c).wf=Mk):∃a,(∀f,(Builtin.delete_ #[135,3] f #[N4 (N b),Q I c]).run MT w=.ok (.tuple #[]) a)/\dc a b 0 (xH V c)/\aH (λx=>x=b) w a/\dG a b<=dG w b:=by
 obtain⟨D,k,l⟩:=h;obtain⟨a,m,i,o⟩:=k.drop Bh pl (keyOf_int_mk underlying3 j) 0;have d:=o.grown;refine⟨a,λf=>(show(Builtin.delete_ #[135,3] f #[N4 (N b),Q I c]).run MT w=_ from m),⟨_,gw i rfl,λx g=>?_⟩,⟨d.os,d.tape,d.output,d.size,λx g p=>d.block x g (by simpa using p)⟩,sh i⟩;unfold xH;by_cases e:x=c
 ·subst e;rw[if_pos rfl];exact atKey_del_same _
 ·rw[if_neg e,atKey_del_other (by intro h;cases h;exact e rfl)];exact l x g
theorem bQ.rh{o:Obj}(h:bQ w t F L)(c:w.heap[b]?=N o)(d:o.isCells=Md):¬F b:=λe=>by
 obtain⟨v,a,-⟩:=h.AJ e;rw[dL c d]at a;cases a
theorem Aw(s t d:Nat)(F:Nat->Prop)(L:List af)(V:Int->Int×Int)(x:Int)(w:MV)(p:w.cell? ⟨s,3,S⟩=N (MQ (N ⟨t,0,S⟩)))(h:bQ w t F L)(U:w.cell? ⟨s,4,S⟩=N (N4 (N d)))(q:dc w d n V)(y:(Lit.int I x).wf=Mk):Mo MT 81 #[MQ (N ⟨s,0,S⟩),Q I x] w λe K=>e=MZ (Q I (if(L.any λa=>a.2.id==x)then 0 else 7))/\DS t d F L V x w K:=by
 obtain⟨o,i,j⟩:=q.AK;have z:s≠d:=by
  rintro rfl;rw[dL i j]at p;cases p
 have r:=h.rh i j;obtain⟨k,M,u,l,B⟩:=q.drop x y;have W:=l.block.cell z p;obtain⟨X,C,P⟩:=u.AK;have D:bQ k t F L:=h.nc l (by rintro b rfl;exact tr h.laid i j) (λb R e=>r (by rw[<-e];exact R));have v:=sJ t x k F L D;obtain⟨c,E⟩:=UX (if(L.any λa=>a.2.id==x)then 0 else 7:Int);rw[<-E]at v⊢;have G:=A v;clear v E;have H:aA (∀f,bQ f t F (L.filter λa=>a.2.id !=x)->aH F k f->DS t d F L V x w f):=A λf m g=>by
  have J:f.heap[d]?=k.heap[d]?:=g.block d (aJ C) r;refine⟨m,u.same J,(l.mono λ_ _ e=>.inr e).trans (g.mono λ_ _ e=>.inl e),?_⟩;rw[dZ J];exact B
 clear h q i j z r u l B C P D y;go_enter func81,ntmps81;go_wp2_with fail
 refine G.o.mono ?_;rintro e f ⟨rfl,m,g⟩;have T:=A (H.o f m g);clear m g H G M;go_wp2;go_ret;exact⟨rfl,T.o⟩
end
section
open Go.RowKit Go.Maps
attribute [local go_sem ↓ high] lV
theorem Gl(s:Nat)(a:Value)(P:List b7)(r:Rl)(w:MV)(j:cP w)(f:w.cell? ⟨s,0,S⟩=N a)(g:eM w a P):Mo MT 149 #[MQ (N ⟨s,0,S⟩),M1 #[Q I r.id,Q I r.pr,Q I r.k0,Q I r.v0,Q I r.m0,Q I r.k1,Q I r.v1,Q I r.m1,Q I r.k2,Q I r.v2,Q I r.m2,Q I r.k3,Q I r.v3,Q I r.m3,Q I r.k4,Q I r.v4,Q I r.m4,Q I r.ac,Q I r.po]] w λe b=>e=MZ (.bool (ij r P.length))/\Mb w.heap.size w b:=by
 by_cases h:r.ac=2/\¬(0<=r.po/\r.po<P.length)
 ·refine(Bd s a P r w j f g h.1 h.2).mono ?_;rintro e b ⟨c,d⟩;refine⟨?_,d⟩;rw[c];congr 2;unfold ij;rw[show(r.ac==2)=Mk by rw[beq_iff_eq];exact h.1,O5,show(decide (0<=r.po)&&decide (r.po<P.length))=Md by rw[<-NB,NH,decide_eq_true_eq,decide_eq_true_eq];exact h.2,Bool.not_false,Bool.and_true]
 ·have i:r.ac=2->0<=r.po/\r.po<P.length:=λe=>Decidable.byContradiction λk=>h ⟨e,k⟩;refine(Bc s a P r w f g i).mono ?_;rintro e b ⟨c,d⟩;refine⟨?_,d⟩;rw[c];congr 2;unfold ij;by_cases e:r.ac=2
  ·obtain⟨l,m⟩:=i e;rw[decide_eq_true l,decide_eq_true m];simp
  ·rw[show(r.ac==2)=Md by rw[beq_eq_false_iff_ne];exact e];simp
theorem go.same{W:MV}(b:Mb w.heap.size w W)(k:go W c t F L r)(d:ah L r≠0)(e:dc w a 0 V)(l:¬F a):rJ t a F L V r w c:=by
 obtain⟨m,n,p,q,f,g⟩:=k;rw[if_neg d]at g;obtain⟨o,s,v⟩:=e.AK;have i:=aJ s;have j:c.heap[a]?=w.heap[a]?:=(f.block a (Mi i b.size) l).trans (b.block a i);refine⟨m,n,p,λx u=>(q x u).imp id (Mx b.size),(aH.aG b).trans (f.mono λ_ _ h=>.inl h),?_⟩;rw[if_neg d];exact⟨g,e.same j,by rw[dZ j];exact MP _⟩
theorem K8.all(h:K8 t a n F L V r w c)(d:dG c a<=dG w a+1)(e:ah L r=0):rJ t a F L V r w c:=by
 obtain⟨f,g,b,i,j,k,l,o,m⟩:=h;refine⟨f,g,i,j,k,?_⟩;rw[if_pos e];exact⟨⟨b,l⟩,m,d⟩
theorem Au(s t j:Nat)(Z:Value)(P:List b7)(F:Nat->Prop)(L:List af)(V:Int->Int×Int)(r:Rl)(w:MV)(i:w.cell? ⟨s,0,S⟩=N Z)(hp:eM w Z P)(H:w.cell? ⟨s,3,S⟩=N (MQ (N ⟨t,0,S⟩)))(l:bQ w t F L)(h4:w.cell? ⟨s,4,S⟩=N (N4 (N j))){n0:Nat}(b3:dc w j n0 V)(hn:dG w j<maxLen)(hi:(Lit.int I r.id).wf=Mk):Mo MT 79 #[MQ (N ⟨s,0,S⟩),M1 #[Q I r.id,Q I r.pr,Q I r.k0,Q I r.v0,Q I r.m0,Q I r.k1,Q I r.v1,Q I r.m1,Q I r.k2,Q I r.v2,Q I r.m2,Q I r.k3,Q I r.v3,Q I r.m3,Q I r.k4,Q I r.v4,Q I r.m4,Q I r.ac,Q I r.po]] w λe J=>e=MZ (Q I (if ij r P.length then 1 else ah L r))/\if ij r P.length then Mb w.heap.size w J else rJ t j F L V r w J:=by
 have hV:dc w j 0 V:=b3;obtain⟨o,ho,b5⟩:=hV.AK;have K:¬F j:=l.rh ho b5;have a4:∀x,F x->x<w.heap.size:=λx hx=>l.lt hx;have a5:¬F s:=λM=>by
  obtain⟨v,hv,ns,-⟩:=l.AJ M;obtain⟨a,e8,b,e,-⟩:=hp;rw[i,e]at hv;exact ns _ _ _ (Option.some.inj hv).symm
 clear ho b5 b3;obtain⟨dr,c0,c1⟩:=dJ;obtain⟨n,p⟩:=UX (w.alloc (.cells #[Q I r.id,Q I r.pr,Q I r.k0,Q I r.v0,Q I r.m0,Q I r.k1,Q I r.v1,Q I r.m1,Q I r.k2,Q I r.v2,Q I r.m2,Q I r.k3,Q I r.v3,Q I r.m3,Q I r.k4,Q I r.v4,Q I r.m4,Q I r.ac,Q I r.po] 37));have B:=UY p;have c2:n.heap[w.heap.size]?=N (.cells #[Q I r.id,Q I r.pr,Q I r.k0,Q I r.v0,Q I r.m0,Q I r.k1,Q I r.v1,Q I r.m1,Q I r.k2,Q I r.v2,Q I r.m2,Q I r.k3,Q I r.v3,Q I r.m3,Q I r.k4,Q I r.v4,Q I r.m4,Q I r.ac,Q I r.po] 37 (0,0)):=by rw[p];exact aU _ _
 have c3:n.rangeAt w.heap.size 0 [Q I r.id,Q I r.pr,Q I r.k0,Q I r.v0,Q I r.m0,Q I r.k1,Q I r.v1,Q I r.m1,Q I r.k2,Q I r.v2,Q I r.m2,Q I r.k3,Q I r.v3,Q I r.m3,Q I r.k4,Q I r.v4,Q I r.m4,Q I r.ac,Q I r.po]:=by rw[p];exact aN _ _ _
 have q:=A (Gl s Z P r n (l.laid.aD B (cP.uE l.laid)) (MW B i) (hp.aD B));have c4:(w.alloc (.cells #[Q I r.id,Q I r.pr,Q I r.k0,Q I r.v0,Q I r.m0,Q I r.k1,Q I r.v1,Q I r.m1,Q I r.k2,Q I r.v2,Q I r.m2,Q I r.k3,Q I r.v3,Q I r.m3,Q I r.k4,Q I r.v4,Q I r.m4,Q I r.ac,Q I r.po] 37)).rangeAt w.heap.size 0 [Q I r.id,Q I r.pr,Q I r.k0,Q I r.v0,Q I r.m0,Q I r.k1,Q I r.v1,Q I r.m1,Q I r.k2,Q I r.v2,Q I r.m2,Q I r.k3,Q I r.v3,Q I r.m3,Q I r.k4,Q I r.v4,Q I r.m4,Q I r.ac,Q I r.po]:=by rw[<-p];exact c3
 have C:=A p;have u:=A B;have HT:=A l;have R:=A hV;have T:=A c2;have H3:=A H;have H4:=A h4;clear p B i hp l hV c2 H h4 c3;have c8:(mC (MQ (N ⟨w.heap.size,0,S⟩))).run MT (w.alloc (.cells #[Q I r.id,Q I r.pr,Q I r.k0,Q I r.v0,Q I r.m0,Q I r.k1,Q I r.v1,Q I r.m1,Q I r.k2,Q I r.v2,Q I r.m2,Q I r.k3,Q I r.v3,Q I r.m3,Q I r.k4,Q I r.v4,Q I r.m4,Q I r.ac,Q I r.po] 37))=.ok (M1 #[Q I r.id,Q I r.pr,Q I r.k0,Q I r.v0,Q I r.m0,Q I r.k1,Q I r.v1,Q I r.m1,Q I r.k2,Q I r.v2,Q I r.m2,Q I r.k3,Q I r.v3,Q I r.m3,Q I r.k4,Q I r.v4,Q I r.m4,Q I r.ac,Q I r.po]) (w.alloc (.cells #[Q I r.id,Q I r.pr,Q I r.k0,Q I r.v0,Q I r.m0,Q I r.k1,Q I r.v1,Q I r.m1,Q I r.k2,Q I r.v2,Q I r.m2,Q I r.k3,Q I r.v3,Q I r.m3,Q I r.k4,Q I r.v4,Q I r.m4,Q I r.ac,Q I r.po] 37)):=NW _ w.heap.size 0 37 [Q I r.id,Q I r.pr,Q I r.k0,Q I r.v0,Q I r.m0,Q I r.k1,Q I r.v1,Q I r.m1,Q I r.k2,Q I r.v2,Q I r.m2,Q I r.k3,Q I r.v3,Q I r.m3,Q I r.k4,Q I r.v4,Q I r.m4,Q I r.ac,Q I r.po] dr c4 c0 c1 ay;clear c4;cases U:ij r P.length with
 |true=>
  rw[U]at q;clear U;go_enter Tl,ntmps79;go_wp2_with fail
  rw[<-C.o];refine q.o.mono ?_;rintro e f ⟨rfl,m⟩;have D:=A (u.o.trans (m.mono u.o.size));clear m q C u T c8 hn hi K a4 R H3 H4 HT;go_wp2;go_ret;exact⟨rfl,D.o⟩
 |false=>
  rw[U]at q;clear U;obtain⟨c,E⟩:=UX (ah L r);have c9:(if Md=Mk then(1:Int)else ah L r)=c:=by rw[if_neg US,E]
  rw[c9];clear c9;go_enter Tl,ntmps79;go_wp2_with fail
  rw[<-C.o];refine q.o.mono ?_;rintro e f ⟨rfl,m⟩;have y:Mb w.heap.size w f:=u.o.trans (m.mono u.o.size);have X:f.heap[w.heap.size]?=N (.cells #[Q I r.id,Q I r.pr,Q I r.k0,Q I r.v0,Q I r.m0,Q I r.k1,Q I r.v1,Q I r.m1,Q I r.k2,Q I r.v2,Q I r.m2,Q I r.k3,Q I r.v3,Q I r.m3,Q I r.k4,Q I r.v4,Q I r.m4,Q I r.ac,Q I r.po] 37 (0,0)):=(m.block _ (aJ T.o)).trans T.o;have k3:=MW y H3.o;have k4:=MW y H4.o;have d0:f.rangeAt w.heap.size 0 [Q I r.id,Q I r.pr,Q I r.k0,Q I r.v0,Q I r.m0,Q I r.k1,Q I r.v1,Q I r.m1,Q I r.k2,Q I r.v2,Q I r.m2,Q I r.k3,Q I r.v3,Q I r.m3,Q I r.k4,Q I r.v4,Q I r.m4,Q I r.ac,Q I r.po]:=by
   have h:=aN w #[Q I r.id,Q I r.pr,Q I r.k0,Q I r.v0,Q I r.m0,Q I r.k1,Q I r.v1,Q I r.m1,Q I r.k2,Q I r.v2,Q I r.m2,Q I r.k3,Q I r.v3,Q I r.m3,Q I r.k4,Q I r.v4,Q I r.m4,Q I r.ac,Q I r.po] 37;rw[<-C.o]at h;exact aO h m
  have d1:(mC (MQ (N ⟨w.heap.size,0,S⟩))).run MT f.drew=.ok (M1 #[Q I r.id,Q I r.pr,Q I r.k0,Q I r.v0,Q I r.m0,Q I r.k1,Q I r.v1,Q I r.m1,Q I r.k2,Q I r.v2,Q I r.m2,Q I r.k3,Q I r.v3,Q I r.m3,Q I r.k4,Q I r.v4,Q I r.m4,Q I r.ac,Q I r.po]) f.drew:=NW f.drew w.heap.size 0 37 [Q I r.id,Q I r.pr,Q I r.k0,Q I r.v0,Q I r.m0,Q I r.k1,Q I r.v1,Q I r.m1,Q I r.k2,Q I r.v2,Q I r.m2,Q I r.k3,Q I r.v3,Q I r.m3,Q I r.k4,Q I r.v4,Q I r.m4,Q I r.ac,Q I r.po] dr d0 c0 c1 ay;have Y:aA (∀W:MV,Mb f.heap.size f W->Mo MT 15 #[MQ (N ⟨t,0,S⟩),M1 #[Q I r.id,Q I r.pr,Q I r.k0,Q I r.v0,Q I r.m0,Q I r.k1,Q I r.v1,Q I r.m1,Q I r.k2,Q I r.v2,Q I r.m2,Q I r.k3,Q I r.v3,Q I r.m3,Q I r.k4,Q I r.v4,Q I r.m4,Q I r.ac,Q I r.po]] W λe J=>e=MZ (Q I c)/\go W J t F L r):=A λW hb=>by
   have h:=ka t r W F L ((HT.o.still y).still hb);rw[<-E]at h;exact h
  have f0:=MO k3;have a7:aA (∀d,go f.drew d t F L r->d.cell? ⟨s,4,S⟩=N (N4 (N j))/\d.cell? ⟨w.heap.size,0,S⟩=N (Q I r.id)/\d.cell? ⟨w.heap.size,17,S⟩=N (Q I r.ac)/\d.cell? ⟨w.heap.size,18,S⟩=N (Q I r.po)/\s<d.heap.size/\w.heap.size<d.heap.size):=A λd g=>by
   obtain⟨_,_,_,_,k,_⟩:=g;have a8:¬F w.heap.size:=λh=>by have:=a4 _ h;omega
   have e4:d.cell? ⟨s,4,S⟩=N (N4 (N j)):=k.block.cell a5 k4;have e0:d.cell? ⟨w.heap.size,0,S⟩=N (Q I r.id):=k.block.cell a8 (show f.cell? _=_ from aB X rfl);exact⟨e4,e0,k.block.cell a8 (show f.cell? _=_ from aB X rfl),k.block.cell a8 (show f.cell? _=_ from aB X rfl),MO e4,MO e0⟩
  have a9:aA (c=0->∀d,go f.drew d t F L r->∃G,(Instr.mapUpdate 135 (N4 (N j)) (Q I r.id) (M1 #[Q I r.ac,Q I r.po])).run MT d.drew=.ok () G/\rJ t j F L V r w G):=A λi d g=>by
   have d4:ah L r=0:=by rw[<-E];exact i
   obtain⟨G,h1,h2,H⟩:=JE y g R.o hn hi K d4;exact⟨G,h1,h2.all H d4⟩
  have b0:aA (c≠0->∀d,go f.drew d t F L r->rJ t j F L V r w d):=A λi d g=>g.same y.drew (by rw[<-E];exact i) R.o K;clear m y X d0 q C u T c8 hn hi K a4 R E;by_cases i:c=0
  ·subst i;go_wp2_with fail
   go_region_with
    (first|(go_at_call 15;refine(Y.o _ ?_).mono ?_;(exact(MU _ f).drew);rintro e d ⟨rfl,g⟩;have z:=A g;have z3:d.cell? ⟨s,3,S⟩=N (MQ (N ⟨t,0,S⟩)):=(by obtain⟨_,_,_,_,k,_⟩:=g;exact k.block.cell a5 k3);clear g))
   all_goals
    obtain⟨z4,y0,f3,f4,f5,f6⟩:=a7.o _ z.o;obtain⟨G,f7,M⟩:=a9.o (by first|rfl|trivial) _ z.o;have D:=A M;clear M a7 a9 b0 z d1 Y z3;go_wp2;go_region_with (fail)
    all_goals
     go_wp2;go_ret;exact⟨rfl,D.o⟩
  ·have f8:(c==0)=false:=by rw[beq_eq_false_iff_ne];exact i
   have e7:=A i;clear i;go_wp2_with fail
   go_region_with
    (first|(go_at_call 15;refine(Y.o _ ?_).mono ?_;(exact(MU _ f).drew);rintro e d ⟨rfl,g⟩;have z:=A g;have z3:d.cell? ⟨s,3,S⟩=N (MQ (N ⟨t,0,S⟩)):=(by obtain⟨_,_,_,_,k,_⟩:=g;exact k.block.cell a5 k3);clear g))
   all_goals
    have D:=A (b0.o e7.o _ z.o);clear a7 a9 b0 z d1 Y z3;go_wp2;go_ret;exact⟨rfl,D.o⟩
end
end Go.Proofs.YtnjalelblbjfiaaGreatDoor
