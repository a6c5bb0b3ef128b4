import Derived.Test.YtnjalelblbjfiaaGreatDoorP18
import Derived.Test.YtnjalelblbjfiaaGreatDoorP8
namespace Go.Proofs.YtnjalelblbjfiaaGreatDoor
set_option maxRecDepth 100000
set_option maxHeartbeats 16000000
open Go.RowKit
open Go.Sort (grow)
open Go.Proofs.Tryz
open Bool renaming false→Md,false_eq_true→SH
open Go renaming World→MV,Value→Ma,Calls→Mo,block_lt_of_cell→MO
open Go.Ending renaming returned→MZ
open Go.IntKind renaming i64→I
open Go.Proofs.Tryz renaming prog→MT,func82→Ro
open Go.Value renaming pointer→MQ,int→Q,slice→MR,tuple→Nn,func→Nm,map→N4
open Nat renaming le_refl→MP,zero_le→NG
open Option renaming some→N,none→S
open Or renaming inl→Mf,inr→MX
open Go.Obj renaming cells→MY
open Go.RowKit.Below renaming refl→MU
open Go.World renaming size_alloc→N3,alloc_heap_new→Ng,cell?→M7
open Go.ByteArray renaming toList_eq→No
open List renaming take_append→SW,take_of_length_le→NN,replicate→Nv
open Go.Fn renaming func→OO
variable {K c:List Mc}{P:List b7}{W w:MV}{k m n s:Nat}
structure kW (w:MV) (s k m:Nat) (sv:Ma) (P:List b7) (port:Int) (d:ByteArray) (unp:Pg->Pg) (jud:Pg->Option (Int×List (Int×ByteArray))) (rou:Pg->Int⊕Pg):Prop where
 hU:∀f K' W,bd d=N f->(0<=port/\port<P.length)->d.size<=600->eR w s k m sv (ja P port d f) K' W->Mo MT 60 #[MQ (N ⟨w.heap.size,0,S⟩)] W λe W'=>e=MZ (Q I (-1))/\cJ W' w.heap.size (unp (ja P port d f)) (MR S 0 0)/\dn w.heap.size W W'
 hJ:∀f K' W,bd d=N f->(0<=port/\port<P.length)->d.size<=600->eR w s k m sv (unp (ja P port d f)) K' W->Mo MT 61 #[MQ (N ⟨s,0,S⟩),MQ (N ⟨w.heap.size,0,S⟩)] W λe W'=>∃r:Int,e=MZ (Q I r)/\
   ((r= -1/\jud (unp (ja P port d f))=S/\cJ W' w.heap.size (unp (ja P port d f)) (MR S 0 0)/\dn w.heap.size W W')\/
    (r≠ -1/\∃L ov,jud (unp (ja P port d f))=N (r,L)/\cJ W' w.heap.size (unp (ja P port d f)) ov/\W'.ownsRow W.heap.size 66 2 ov L.length (lK L)/\dn w.heap.size W W'))
 hR:∀f K' W,bd d=N f->(0<=port/\port<P.length)->d.size<=600->eR w s k m sv (unp (ja P port d f)) K' W->Mo MT 62 #[MQ (N ⟨s,0,S⟩),MQ (N ⟨w.heap.size,0,S⟩)] W λe W'=>∃r:Int,e=MZ (Q I r)/\
   ((r= -1/\∃q,rou (unp (ja P port d f))=.inr q/\Jf q/\cJ W' w.heap.size q (MR S 0 0)/\dn w.heap.size W W')\/
    (r≠ -1/\rou (unp (ja P port d f))=.inl r/\cJ W' w.heap.size (unp (ja P port d f)) (MR S 0 0)/\dn w.heap.size W W'))
theorem sj{f:MV}{g h:Ma}{i:List Mc}(_h:bW w s h P k m g i){a:Ma}{j:List Ma}{c:Ma}(d:bB W k m c K)(l:f.ownsRow W.heap.size 66 2 a n j):∀b,a.ownBlock=N b->c.ownBlock≠N b/\b≠m:=by
 intro b o;have p:=(ae l o).1;refine⟨λe=>?_,?_⟩
 ·have:=(d.2.2.1.fB e).2.1;omega
 ·have:m<W.heap.size:=MO d.2.2.1.1.1;omega
theorem Ak(s k m:Nat)(pv sv:Ma)(P:List b7)(K:List Mc)(u:Int)(d:ByteArray)(w W0:MV)(h:bW w s pv P k m sv K)(hP:P.length<=8)(hn:K.length<=64)(c1:∀p∈P,(Lit.int I p.nat).wf=true)(a6:Pg->Pg)(a7:Pg->Option (Int×List (Int×ByteArray)))(a8:Pg->Int⊕Pg)(hM:kW w s k m sv P u d a6 a7 a8)(h0:eR w s k m sv ⟨u,d,gD,⟨#[]⟩,0,0,Md,Md⟩ K W0):Mo MT 55 #[MQ (N ⟨w.heap.size,0,S⟩),MR (N ⟨w.heap.size+1,0,S⟩) 8 8] W0 λe w'=>∃r:Int,e=MZ (Q I r)/\uD w k m sv (aR P K a6 a7 a8 u d) r w':=by
 refine GG s w.heap.size (w.heap.size+1) (MA w s k m sv P K u d a6 a7 a8) _ W0 h0 J5 ?_ ?_ ?_ ?_ ?_ ?_ ?_ ?_ ?_
 ·
  intro W c;obtain⟨M,R,Y,cm⟩:=h.kept c.ch;refine(Ez s w.heap.size pv P _ _ W M R c.pg).mono ?_;rintro e G ⟨rfl,rfl⟩;by_cases z:0<=u/\u<P.length
  ·refine⟨-1,?_,Mf ⟨rfl,z,c⟩⟩;simp[z.1,z.2]
  ·refine⟨9,?_,MX ⟨US,uD.none (.unknown z) c.pg c.kn c.ch⟩⟩;have:(decide (0<=u)&&decide (u<P.length))=false:=by
    rw[<-Bool.not_eq_true,Bool.and_eq_true,decide_eq_true_eq,decide_eq_true_eq];exact z
   show MZ (Q I (if(decide (0<=u)&&decide (u<P.length))=true then -1 else 9))=_;rw[this];rfl
 ·
  rintro W ⟨z,c⟩;obtain⟨M,R,Y,cm⟩:=h.kept c.ch;refine(BG w.heap.size _ _ W c.pg cm).mono ?_;rintro e G ⟨rfl,o,j,t⟩;refine⟨_,rfl,?_⟩;by_cases E:aq d= -1
  ·obtain⟨f,J,c4⟩:=o E;exact Mf ⟨E,z,E,f,J,c.only h t c4⟩
  ·exact MX ⟨E,uD.none (.bad z E) (j E) (mV h c.kn t) (c.ch.only t)⟩
 ·
  rintro W ⟨z,E,f,J,c⟩;obtain⟨M,R,Y,cm⟩:=h.kept c.ch;have B:u.toNat<P.length:=O;have c6:s≠w.heap.size:=by have:s<w.heap.size:=MO h.h0;omega
  refine(FJ s w.heap.size pv P _ _ u.toNat W M R c.pg B (by show u=_;omega) c6 (lO J).1 (c1 _ (List.getElem_mem B))).mono ?_;rintro e G ⟨rfl,o,j⟩;rw[<-we B]at o⊢;cases D:cG (iD P u.toNat) f with
  |true=>exact⟨3,rfl,MX ⟨US,uD.none (.barred f z E J D) o (mV h c.kn j) (c.ch.only j)⟩⟩
  |false=>exact⟨-1,rfl,Mf ⟨rfl,z,E,f,J,D,c.only h j o⟩⟩
 ·
  rintro W ⟨z,E,f,J,D,c⟩;obtain⟨M,R,Y,cm⟩:=h.kept c.ch;obtain⟨C,B,F⟩:=c.kn;have e2:s<w.heap.size:=MO h.h0;have e3:m<w.heap.size:=MO h.hK.2.2.1.1.1;have nS:¬(s=m\/C.ownBlock=N s):=by
   rintro(e|e)
   ·exact h.Cl (Mf e)
   ·rcases F _ e with y|y
    ·exact h.Cl (MX y)
    ·omega
  have nG:∀x,w.heap.size<=x->x<=w.heap.size+1->¬(x=m\/C.ownBlock=N x):=by
   rintro x o j (e|e)
   ·omega
   ·rcases F _ e with y|y
    ·have:=(h.hK.2.2.1.fB y).2.1;omega
    ·omega
  have e4:=c.size;refine(Ba s w.heap.size k m C K _ _ W Y B c.pg (by have:=(lO J).2.1;show f.fr.size<=1000;omega) hn nS (nG _ (MP _) O)).mono ?_;rintro e G ⟨rfl,hq⟩;obtain⟨b4,l,q1,q2,q3,T⟩:=hq.J0;refine⟨-1,rfl,Mf ⟨rfl,f,l,⟨z,E,J,D,q2⟩,?_⟩⟩;refine⟨(T.block _ O (nG _ (MP _) O)).trans c.pg,(T.block _ O (nG _ O (MP _))).trans c.st,⟨b4,q1,λb a4=>?_⟩,?_⟩
  ·rcases q3 b a4 with e|e
   ·exact F b e
   ·exact MX O
  ·refine⟨T.os.trans c.ch.os,T.tape.trans c.ch.tape,T.output.trans c.ch.output,Nat.le_trans c.ch.size T.size,λb a4 U=>(T.block b O ?_).trans (c.ch.block b a4 U)⟩;rintro(e|e)
   ·exact U (Mf e)
   ·rcases F _ e with y|y
    ·exact U (MX y)
    ·omega
 ·
  rintro W ⟨f,l,i,c⟩;refine(hM.hU f l W i.2.2.1 i.1 (gQ i.2.1) c).mono ?_;rintro e G ⟨rfl,o,j⟩;exact⟨-1,rfl,Mf ⟨rfl,f,l,i,c.only h j o⟩⟩
 ·
  rintro W ⟨f,l,i,c⟩;refine(hM.hJ f l W i.2.2.1 i.1 (gQ i.2.1) c).mono ?_;rintro e G ⟨r,rfl,⟨rfl,o,j,t⟩|⟨V,L,ov,o,j,t,H⟩⟩
  ·exact⟨-1,rfl,Mf ⟨rfl,f,l,i,o,c.only h t j⟩⟩
  ·obtain⟨C,B,F⟩:=c.kn;obtain⟨b4,e5,a4⟩:=mV h ⟨C,B,F⟩ H;have b2:bB G k m C l:=B.aj λb D U=>H.2.2.2.2 b D (by
    rintro rfl;rcases U with e|e|e
    ·have:k<w.heap.size:=MO h.hK.1;omega
    ·have:m<w.heap.size:=MO h.hK.2.2.1.1.1;omega
    ·rcases F _ e with y|y
     ·have:=(h.hK.2.2.1.fB y).2.1;omega
     ·omega)
   exact⟨r,rfl,MX ⟨V,L,l,_,ov,C,.judged f l r L i.1 i.2.1 i.2.2.1 i.2.2.2.1 i.2.2.2.2 o,j,lR t (by have:=c.size;omega),b2,λb D=>(F b D).imp id O,sj h B t,c.ch.only H⟩⟩
 ·
  rintro W ⟨f,l,i,Z,c⟩;refine(hM.hR f l W i.2.2.1 i.1 (gQ i.2.1) c).mono ?_;rintro e G ⟨r,rfl,⟨rfl,q,o,j,t,H⟩|⟨V,o,j,t⟩⟩
  ·exact⟨-1,rfl,Mf ⟨rfl,f,l,q,i,Z,o,j,c.only h H t⟩⟩
  ·exact⟨r,rfl,MX ⟨V,uD.none (.stopped f l r i.1 i.2.1 i.2.2.1 i.2.2.2.1 i.2.2.2.2 Z o) j (mV h c.kn t) (c.ch.only t)⟩⟩
 ·
  rintro W ⟨f,l,q,i,Z,V,hq,c⟩;obtain⟨M,R,Y,cm⟩:=h.kept c.ch;obtain⟨C,B,F⟩:=c.kn;refine(zO s w.heap.size k m pv C P l q W M Y R B c.pg hP hq.1 hq.2).mono ?_;rintro e G ⟨rfl,v,o,j,t,H⟩;have hG:=H.xR;have b2:bB G k m C l:=B.aj λb D U=>hG.2.2.2.2 b D (by
    rintro rfl;rcases U with e|e|e
    ·have:k<w.heap.size:=MO h.hK.1;omega
    ·have:m<w.heap.size:=MO h.hK.2.2.1.1.1;omega
    ·rcases F _ e with y|y
     ·have:=(h.hK.2.2.1.fB y).2.1;omega
     ·omega)
  have d1:∃a X,v=MR a (fS P q (iL (az l q.f.vlan q.f.to)) (az l q.f.vlan q.f.to).isSome P.length).length X:=by
   rcases j.2 with⟨e,e0⟩|⟨g,X,e6,e,_⟩
   ·exact⟨S,0,by rw[e,e0]⟩
   ·exact⟨_,X,e⟩
  obtain⟨a,X,rfl⟩:=d1;refine⟨-1,rfl,Mf ⟨rfl,(hG.2.2.2.2 _ (by have:=c.size;omega) O).trans c.st,f,l,q,a,_,X,i,Z,V,rfl,o,_,l,q,_,C,⟨rfl,rfl,rfl⟩,o,lR j (by have:=c.size;omega),b2,λb D=>(F b D).imp id O,sj h B j,c.ch.only hG⟩⟩
 ·
  rintro W ⟨_,f,l,q,a,n,X,i,Z,V,d3,d4,L,K2,p2,ov,C,⟨_,rfl,rfl⟩,o,j,t,H,h5,h6⟩;refine(yu w.heap.size n X a q W d4).mono ?_;rintro e G ⟨rfl,rfl⟩;refine⟨_,rfl,_,K2,p2,ov,C,?_,o,j,t,H,h5,h6⟩;rw[d3];exact .out f K2 q i.1 i.2.1 i.2.2.1 i.2.2.2.1 i.2.2.2.2 Z V
def iS(w:MV)(k m:Nat)(d:Ma)(R:Int->List (Int×ByteArray)->List Mc->Prop)(e:Ending)(W:MV):Prop:=
 ∃r L f a c,e=MZ (Nn #[a,Q I r])/\R r L f/\W.ownsRow w.heap.size 66 2 a L.length (lK L)/\bB W k m c f/\(∀b,c.ownBlock=N b->d.ownBlock=N b\/w.heap.size<=b)/\(∀b,a.ownBlock=N b->c.ownBlock≠N b/\b≠m)/\aH (KX m d) w W
theorem un(s k m:Nat)(q c:Ma)(P:List b7)(K:List Mc)(a:Int)(d:ByteArray)(w:MV)(h:bW w s q P k m c K)(H:P.length<=8)(J:K.length<=64)(M:∀p∈P,(Lit.int I p.nat).wf=true)(i:Pg->Pg)(j:Pg->Option (Int×List (Int×ByteArray)))(l:Pg->Int⊕Pg)(t:kW w s k m c P a d i j l):Mo MT 20 #[MQ (N ⟨s,0,S⟩),Q I a,.string d] w (iS w k m c (aR P K i j l a d)):=by
 obtain⟨g,f⟩:=UX ((w.alloc (MY (en ⟨a,d,gD,⟨#[]⟩,0,0,Md,Md⟩ (MR S 0 0)) 150)).alloc (MY (cV s) 217));have n:Below w.heap.size w g:=by rw[f];exact((MU _ w).alloc (MP _) _).alloc (by simp) _
 have u:eR w s k m c ⟨a,d,gD,⟨#[]⟩,0,0,Md,Md⟩ K g:=by
  refine⟨?_,?_,⟨c,h.hK.aD n,λb R=>Mf R⟩,aH.aG n⟩
  ·rw[f];exact(((MU _ (w.alloc _)).alloc (MP _) _).block _ (by simp)).trans (aU _ _)
  ·rw[f];have:=aU (w.alloc (MY (en ⟨a,d,gD,⟨#[]⟩,0,0,Md,Md⟩ (MR S 0 0)) 150)) (MY (cV s) 217);rwa[N3]at this
 have C:=A (Ak s k m q c P K a d w g h H J M i j l t u);simp only[en,gD,cV]at f;have v:=A f;clear f n u t h;go_enter func20,ntmps20;go_wp2_with fail
 rw[<-v.o];refine C.o.mono ?_;rintro e x ⟨r,rfl,L,T,p,o,U,y,z,B,D,E,F,G⟩;have W:x.cell? ⟨w.heap.size,14,S⟩=N o:=z.cell rfl;have V:aA (iS w k m c (aR P K i j l a d) (MZ (Nn #[o,Q I r])) x):=A ⟨r,L,T,o,U,rfl,y,B,D,E,F,G⟩;clear y z B D E F G C v;go_wp2;go_ret2;exact V.o
theorem I9(s k m:Nat)(o i:Ma)(P:List b7)(K:List Mc)(q:Int)(d:ByteArray)(w:MV)(h:bW w s o P k m i K)(r:∀p∈P,(Lit.int I p.nat).wf=true)(j:∀f,bd d=N f->(cj f.ty==2)=Md):kW w s k m i P q d id (λ_=>S) .inr:=by
 refine⟨λf l W b _ _ a=>?_,λf l W b _ _ a=>?_,λf l W b t v a=>?_⟩
 ·obtain⟨_,_,_,g⟩:=h.kept a.ch;refine(qY w.heap.size _ _ W a.pg g (j f b)).mono ?_;rintro e n ⟨rfl,c⟩;exact⟨rfl,a.pg.aD c,dn.aG c⟩
 ·refine(tI s w.heap.size _ _ W a.pg rfl).mono ?_;rintro e n ⟨rfl,rfl⟩;exact⟨-1,rfl,Mf ⟨rfl,rfl,a.pg,dn.aG (MU _ _)⟩⟩
 ·obtain⟨_,_,_,g⟩:=h.kept a.ch;refine(Az s w.heap.size _ _ W a.pg g (j f b)).mono ?_;rintro e n ⟨rfl,c⟩;have u:=lO b;refine⟨-1,rfl,Mf ⟨rfl,_,rfl,⟨pk t r u.1,?_⟩,a.pg.aD c,dn.aG c⟩⟩;show f.to.size+f.fr.size+f.ty.size+f.rest.size<=1000;omega
def ce(l:List UInt8):ByteArray:=⟨l.toArray⟩
theorem cY(l:List UInt8):(ce l).toList=l:=by rw[No];simp[ce]
theorem dv(a b:List UInt8):ce a++ce b=ce (a++b):=by
 refine jo ?_;rw[cY,No];simp[ce]
theorem pF(l:List UInt8):(ce l).size=l.length:=by simp[ce,ByteArray.size]
theorem kE(l:List UInt8)(i j:Nat):(ce l).extract i j=ce ((l.take j).drop i):=by
 refine jo ?_;rw[cY,No];simp[ce,ByteArray.data_extract,List.extract_eq_take_drop,List.drop_take]
theorem C9(l:List UInt8)(i:Nat)(h:i<(ce l).size):(ce l)[i]=l[i]'(by rw[pF]at h;exact h):=by
 simp[ce,ByteArray.getElem_eq_getElem_data]
theorem oD(c d e:List UInt8)(a b:UInt8)(f:c.length=6)(g:d.length=6)(h:¬(a=129/\b=0)):bd (ce (c++d++[a,b]++e))=N ⟨ce c,ce d,Md,0,0,ce [a,b],ce e⟩:=by
 have i:(ce (c++d++[a,b]++e)).size=14+e.length:=by rw[pF];simp;omega
 have j:(ce (c++d++[a,b]++e)).extract 0 6=ce c:=by
  rw[kE];simp[f]
 have k:(ce (c++d++[a,b]++e)).extract 6 12=ce d:=by
  rw[kE];simp[SW,f,g,NN]
 have l:(ce (c++d++[a,b]++e)).extract 12 14=ce [a,b]:=by
  rw[kE];simp[SW,List.drop_append,f,g,NN,List.drop_eq_nil_of_le]
 have m:(ce (c++d++[a,b]++e)).extract 14 (ce (c++d++[a,b]++e)).size=ce e:=by
  rw[i,kE,NN UU,List.drop_left' (by simp[f,g])]
 have n:cj (ce [a,b])≠1:=by
  unfold cj kG;rw[cY];have:((⟨#[129,0]⟩:ByteArray).toList==[a,b])=false:=by
   rw[show(⟨#[129,0]⟩:ByteArray)=ce [129,0]from rfl,cY];simp only[beq_eq_false_iff_ne,ne_eq,List.cons.injEq,and_true];rintro⟨rfl,rfl⟩;exact h ⟨rfl,rfl⟩
  rw[this];simp only[SH,if_false];split<;>decide
 unfold bd;rw[l,if_neg O,if_neg n,j,k,m]
theorem vB(p:b7)(f:Fr)(a:f.vlan=p.nat):jF p f=f.to++f.fr++f.ty++f.rest:=by
 unfold jF iq;have:(f.vlan !=p.nat)=false:=by rw[a];simp
 rw[this];show f.to++f.fr++ce []++f.ty++f.rest=_;refine jo ?_;simp[No,ce]
section
open Go.RowKit Go.Maps
theorem EK(w:MV):Mo MT 52 #[Nm (OO 33) #[] #[]] w λe a=>e=MZ (MQ (N ⟨w.heap.size,0,S⟩))/\a=w.alloc (MY #[Nm (OO 33) #[] #[],MR S 0 0] 201):=by
 go_enter func52,ntmps52;go_wp2;go_ret;exact⟨rfl,rfl⟩
theorem GV(w:MV):Mo MT 100 #[Nm (OO 101) #[] #[]] w λe a=>e=MZ (MQ (N ⟨w.heap.size,0,S⟩))/\a=w.alloc (MY #[Nm (OO 101) #[] #[],MR S 0 0] 284):=by
 go_enter func100,ntmps100;go_wp2;go_ret;exact⟨rfl,rfl⟩
theorem Fy(w:MV):Mo MT 53 #[] w λe a=>e=MZ (MQ (N ⟨w.heap.size+1,0,S⟩))/\a=(w.alloc (MY #[Nm (OO 101) #[] #[],MR S 0 0] 284)).alloc (MY #[MQ (N ⟨w.heap.size,0,S⟩)] 211):=by
 have C:=A (GV w);go_enter func53,ntmps53;go_wp2_with fail
 refine C.o.mono ?_;rintro e b ⟨rfl,rfl⟩;go_wp2;go_ret;exact⟨rfl,rfl⟩
def jy(a:Ma)(b c t d k:Nat):Array Value:=#[a,MQ (N ⟨b,0,S⟩),MQ (N ⟨c,0,S⟩),MQ (N ⟨t,0,S⟩),N4 (N d),MQ (N ⟨k,0,S⟩)]
structure bF (w:MV) (fb rb hb t vb k m:Nat) (F:Nat->Prop) (W:MV):Prop where
 nf:W.heap[fb]?=N (MY #[Nm (OO 33) #[] #[],MR S 0 0] 201 (0,0))
 nr:W.heap[rb]?=N (MY #[MQ (N ⟨hb,0,S⟩)] 211 (0,0))
 nh:W.heap[hb]?=N (MY #[Nm (OO 101) #[] #[],MR S 0 0] 284 (0,0))
 nt:bQ W t F []
 nv:W.heap[vb]?=N (.map #[] 0)
 nk:bB W k m (MR S 0 0) []
 lo:Below w.heap.size w W
 lf:w.heap.size<=fb
 lr:w.heap.size<=rb
 lh:w.heap.size<=hb
 lt:∀x,F x->w.heap.size<=x
 lv:w.heap.size<=vb
 lk:w.heap.size<=k
 lm:w.heap.size<=m
 tw:∃W0,bQ W0 t F []/\Below W0.heap.size W0 W/\W0.heap.size<=k/\W0.heap.size<=m
 lg:∀x,F x->fb<x
 k1:W.cell? ⟨k,1,S⟩=S
structure bu (w:MV) (fb rb hb t vb k m:Nat) (F:Nat->Prop) (Wb:MV) (j:Nat) (W:MV):Prop where
 n:bF w fb rb hb t vb k m F Wb
 s:∃pv,W.heap[Wb.heap.size]?=N (MY (jy pv fb rb t vb k) 140 (0,0))/\W.ownsRow (Wb.heap.size+1) 143 2 pv j (py (Nv j (1,N4 S)))
 lo:Below Wb.heap.size Wb W
theorem Hd:(prog.info? 143).map (λi=>(i.zero,i.size,i.bytes))=N (N (.agg #[Q I 0,N4 S]),2,16):=UR
theorem xw(n:Nat)(w:MV)(hn:1<=n)(c8:n<=8)(K:cP w):Mo MT 19 #[Q I n] w λe w'=>∃fb rb v t vb k m F L,e=MZ (Nn #[MQ (N ⟨L.heap.size,0,S⟩),Q I 0])/\bu w fb rb v t vb k m F L n w':=by
 have M:=A EK;have P:=A Fy;have R:=A oj;have T:=A Ge;obtain⟨i0,hi,b0,b1,b2⟩:=info_parts Hd;have c9:=@run_makeMap MT;have a1:¬(n:Int)<1:=O;have a2:¬(8:Int)<n:=O;have y:=A K;clear K;go_enter func19,ntmps19;go_wp2_with fail
 refine(M.o _).mono ?_;rintro e w1 ⟨rfl,rfl⟩;go_wp2_with fail
 refine(P.o _).mono ?_;rintro e w1 ⟨rfl,rfl⟩;go_wp2_with fail
 obtain⟨d,f⟩:=UX (((w.alloc (MY #[Nm (OO 33) #[] #[],MR S 0 0] 201)).alloc (MY #[Nm (OO 101) #[] #[],MR S 0 0] 284)).alloc (MY #[MQ (N ⟨w.heap.size+1,0,S⟩)] 211));have z:Below w.heap.size w d:=by rw[f];exact(((MU _ w).alloc (MP _) _).alloc (by simp) _).alloc UU _
 have d2:d.heap.size=w.heap.size+3:=by rw[f];simp
 have U:d.heap[w.heap.size]?=N (MY #[Nm (OO 33) #[] #[],MR S 0 0] 201 (0,0)):=by
  rw[f];exact((((MU _ (w.alloc _)).alloc (MP _) _).alloc (by simp) _).block _ (by simp)).trans (Ng w _)
 have V:d.heap[w.heap.size+1]?=N (MY #[Nm (OO 101) #[] #[],MR S 0 0] 284 (0,0)):=by
  rw[f];have:=Ng (w.alloc (MY #[Nm (OO 33) #[] #[],MR S 0 0] 201)) (MY #[Nm (OO 101) #[] #[],MR S 0 0] 284);rw[N3]at this;exact(((MU _ ((w.alloc _).alloc _)).alloc (MP _) _).block _ (by simp)).trans this
 have W:d.heap[w.heap.size+2]?=N (MY #[MQ (N ⟨w.heap.size+1,0,S⟩)] 211 (0,0)):=by
  rw[f];have:=Ng ((w.alloc (MY #[Nm (OO 33) #[] #[],MR S 0 0] 201)).alloc (MY #[Nm (OO 101) #[] #[],MR S 0 0] 284)) (MY #[MQ (N ⟨w.heap.size+1,0,S⟩)] 211);rwa[N3,N3]at this
 rw[<-f];refine(R.o d (y.o.aD z y.o.uE)).mono ?_;rintro e c ⟨t,F,rfl,B,C,D⟩;have b4:=A f;clear f R M P;go_wp2_with fail
 refine(T.o _).mono ?_;rintro e a ⟨k,m,rfl,hk,hm,X,E,Y⟩;have b9:=D.size;have q:Below c.heap.size c a:=((MU _ c).alloc (MP _) _).trans (E.mono (by simp));have g:Below d.heap.size d a:=D.trans (q.mono b9);simp only[N3]at hk hm;have r:aA (bF w w.heap.size (w.heap.size+2) (w.heap.size+1) t c.heap.size k m F a):=A
  ⟨(g.block _ O).trans U,(g.block _ O).trans W,(g.block _ O).trans V,B.still q,(E.block _ (by simp)).trans (Ng c _),X,z.trans (g.mono O),MP _,O,O,λx h=>by have:=C x h;omega,O,O,O,⟨c,B,q,O,O⟩,(λx h=>by have:=C x h;omega),Y⟩
 have Z:aA (bu w w.heap.size (w.heap.size+2) (w.heap.size+1) t c.heap.size k m F a 0 (a.alloc (MY (jy (MR S 0 0) w.heap.size (w.heap.size+2) t c.heap.size k) 140))):=A
  ⟨r.o,⟨_,Ng a _,World.ownsRow_nil _ _ _ _⟩,(MU _ a).alloc (MP _) _⟩
 clear T y g q E D B C X Y U V W z r b4;go_wp2;go_loopw [19] (λi wr=>∃j:Nat,j<=n/\i=Q I j/\aA (bu w w.heap.size (w.heap.size+2) (w.heap.size+1) t c.heap.size k m F a j wr)) (λi _=>n- (intOf i).toNat)
 case atStart=>exact⟨0,NG _,rfl,Z⟩
 case round=>
  obtain⟨j,hj,rfl,l⟩:=hrel;clear Z;obtain⟨G,s,hO⟩:=l.o.s;have s0:wr.cell? ⟨a.heap.size,0,S⟩=N G:=by simp[M7,s,jy]
  have c0:=l.o.lo.size;have c1:a.heap.size<wr.heap.size:=aJ s;by_cases d5:j<n
  ·have d6:(j:Int)<n:=by omega
   have HS:=A s;have H:=A hO;clear s hO;go_wp2_with (at_builtin;refine wpList_append_own _ rfl _ _ 138 rfl (a.heap.size+1) 143 i0 _ 2 16 underlying138 hi b0 b1 b2 rfl US _ _ _ rfl (H.o.alloc _) ⟨wr.heap.size,0,S⟩ 1 1 [Q I 1,N4 S] rfl rfl (World.news_of_block (cs:=#[Q I 1,N4 S]) (t:=143) (fr:=(0,0)) (Ng wr _)) oc UT O UU ?_;intro v' o p J _;obtain⟨g',c5,rfl⟩:=ownsRow_succ p;have u:o.heap[a.heap.size]?=N (MY (jy G w.heap.size (w.heap.size+2) t c.heap.size k) 140 (0,0)):=(J.block _ UU (λe=>by have:=(ae H.o e.symm).1;omega)).trans (((MU _ wr).alloc (MP _) _).block _ c1|>.trans HS.o);have c2:o.cell? ⟨a.heap.size,0,S⟩=N G:=(by simp[M7,u,jy]);have f2:o.frozen? ⟨a.heap.size,0,S⟩=false:=(by simp[World.frozen?,u]))
   have c6:py (Nv j (1,N4 S))++[Q I 1,N4 S]=py (Nv (j+1) (1,N4 S)):=by rw[List.replicate_succ',x9];rfl
   rw[c6]at p;have a3:Below a.heap.size a o:=(l.o.lo.alloc c0 _).grown J UU (λx h=>by have:=(ae H.o h).1;omega);have r:aA (bu w w.heap.size (w.heap.size+2) (w.heap.size+1) t c.heap.size k m F a (j+1) (o.setCell ⟨a.heap.size,0,S⟩ (MR (N ⟨g',0,S⟩) (j+1) c5))):=A
    ⟨l.o.n,⟨_,(heap_setCell_same _ _ 0 _ _ _ u).trans (by simp[jy]),ap p λb v=>heap_setCell_other _ _ _ _ (λ(e:b=a.heap.size)=>by have:=(ae p v).1;omega)⟩,a3.setCell (MP _) _⟩
   clear p J a3 u;go_roundw
   case rel=>exact⟨j+1,O,by go_num,r⟩
   case measure=>simp[intOf];omega
  ·obtain rfl:j=n:=by omega
   go_wp2;go_ret2;exact⟨_,_,_,_,_,_,_,_,_,rfl,l.o⟩
theorem m8(s k m:Nat)(d:Ma)(K:List Mc)(a:Int)(w:MV)(p:w.cell? ⟨s,5,S⟩=N (MQ (N ⟨k,0,S⟩)))(h:bB w k m d K)(n:K.length<=199)(f:0<=a/\a<=1000000)(g:∀e∈K,iQ e):Mo MT 82 #[MQ (N ⟨s,0,S⟩),Q I a] w λe c=>e=MZ (Q I 0)/\∃i j,bB c k i j (eF a K)/\w.heap.size<=i/\(∀b,j.ownBlock=N b->w.heap.size<=b)/\aH (λb=>b=k) w c/\c.cell? ⟨k,1,S⟩=w.cell? ⟨k,1,S⟩:=by
 have C:=A (EN k m d K a w h n f g);have q:¬a<0:=O;have r:¬(1000000:Int)<a:=O;clear h g f;go_enter Ro,ntmps82;go_wp2_with fail
 refine C.o.mono ?_;rintro e t ⟨rfl,l⟩;have o:=A l;clear l C;go_wp2;go_ret;exact⟨rfl,o.o⟩
theorem Fo(s:Nat)(a:Int)(w:MV)(b:¬(0<=a/\a<=1000000)):Mo MT 82 #[MQ (N ⟨s,0,S⟩),Q I a] w λe c=>e=MZ (Q I 9)/\c=w:=by
 by_cases d:a<0
 ·clear b;go_enter Ro,ntmps82;go_wp2;go_ret;exact⟨rfl,rfl⟩
 ·have f:(1000000:Int)<a:=by omega
  clear b;go_enter Ro,ntmps82;go_wp2;go_ret;exact⟨rfl,rfl⟩
theorem um(s k m:Nat)(b:Ma)(K:List Mc)(w:MV)(l:w.cell? ⟨s,5,S⟩=N (MQ (N ⟨k,0,S⟩)))(h:bB w k m b K):Mo MT 21 #[MQ (N ⟨s,0,S⟩)] w λe c=>∃g a,e=MZ (MR (N ⟨g,0,S⟩) K.length a)/\c.ownsRow w.heap.size 68 4 (MR (N ⟨g,0,S⟩) K.length a) K.length (fH K)/\Below w.heap.size w c:=by
 have C:=A (Gf k m b K w h);clear h;go_enter func21,ntmps21;go_wp2_with fail
 refine C.o.mono ?_;rintro e n ⟨g,a,rfl,d,f⟩;have i:=A d;have j:=A f;clear d f C;go_wp2;go_ret;exact⟨g,a,rfl,i.o,j.o⟩
end
theorem zM{a r:Int}{d:ByteArray}{L:List (Int×ByteArray)}(h:aR P K id (λ_=>S) .inr a d r L c)(l:0<=a/\a<P.length)(m:aq d= -1){f:Fr}(i:bd d=N f)(n:cG (iD P a.toNat) f=Md):dy K ⟨(ja P a d f).f.vlan,f.fr,a,0⟩ c/\L=fS P (ja P a d f) (iL (az c (ja P a d f).f.vlan f.to)) (az c (ja P a d f).f.vlan f.to).isSome P.length/\r=if L.length=0 then 8 else 0:=by
 cases h with
 |unknown h=>exact absurd l h
 |bad _ h=>exact absurd m h
 |barred e _ _ b j=>
  rw[i]at b;cases b;rw[n]at j;cases j
 |judged e k o t _ _ _ _ _ p=>cases p
 |stopped e k o _ _ _ _ _ _ g=>cases g
 |out e k q _ _ b _ s _ g=>
  rw[i]at b;cases b;cases g;exact⟨s,rfl,rfl⟩
theorem Bw(d c e:List UInt8)(a b:UInt8)(f:d.length=6)(g:c.length=6)(h:¬(a=129/\b=0))(j:e.length<=500)(i:dH (ce c)=Md):aq (ce (d++c++[a,b]++e))= -1:=by
 unfold aq;rw[if_neg (by rw[pF];simp;omega),oD d c e a b f g h];show(if dH (ce c)=true then(2:Int)else -1)= -1;rw[i];rfl
theorem Bf(c d e:List UInt8)(a b:UInt8)(g:c.length=6)(i:d.length=6)(j:¬(a=129/\b=0))(k:¬(a=8/\b=0)):∀f,bd (ce (c++d++[a,b]++e))=N f->(cj f.ty==2)=false:=by
 intro f h;rw[oD c d e a b g i j]at h;cases h;show(cj (ce [a,b])==2)=Md;have l:((⟨#[8,0]⟩:ByteArray).toList==[a,b])=false:=by
  rw[show(⟨#[8,0]⟩:ByteArray)=ce [8,0]from rfl,cY];simp only[beq_eq_false_iff_ne,ne_eq,List.cons.injEq,and_true];rintro⟨rfl,rfl⟩;exact k ⟨rfl,rfl⟩
 unfold cj kG;rw[cY,l];simp only[SH,if_false];split<;>rfl
def P4:List b7:=Nv 4 ⟨1,λ_=>Md⟩
theorem bu.Ln{c:MV}{f g d t i:Nat}{F:Nat->Prop}(h:bu w f g d t i k m F c n W)(r:fE w):∃a l,bW W c.heap.size a (Nv n ⟨1,λ_=>Md⟩) k m (MR S 0 0) []/\aQ W a (Nv n ⟨1,λ_=>Md⟩) l/\(∀p∈l,p=((1:Int),N4 S))/\W.heap[c.heap.size]?=N (MY (jy a f g t i k) 140 (0,0))/\(∀b,a.ownBlock=N b->c.heap.size<b):=by
 obtain⟨a,e,o⟩:=h.s;have q:aQ W a (Nv n ⟨1,λ_=>Md⟩) (Nv n (1,N4 S)):=
  ⟨by simp,by rw[List.length_replicate];exact lR o (NG _),λj u=>by simp;exact Mf ⟨rfl,λ_=>rfl⟩⟩
 refine⟨a,_,⟨?_,q.at,?_,h.n.nk.aD h.lo,(r.aD h.n.lo).aD h.lo⟩,q,λp s=>List.eq_of_mem_replicate s,e,λb d=>(ae o d).1⟩
 ·exact aB e rfl
 ·exact aB e rfl
theorem dy.ub{d:Mc}(h:dy K d c){e:Mc}(a:e∈c):e=d\/e∈K:=by
 obtain⟨f,b⟩:=h;split at b
 ·exact((b.1 e).1 a).imp id λh=>h.1
 ·rw[b]at a;exact MX a
theorem bW.aD{e f:Ma}(h:bW w s e P k m f K)(g:Below w.heap.size w W):bW W s e P k m f K:=by
 obtain⟨a,b,c,d⟩:=h.kept (aH.aG g);exact⟨a,b,c,h.hK.aD g,d⟩
end Go.Proofs.YtnjalelblbjfiaaGreatDoor
