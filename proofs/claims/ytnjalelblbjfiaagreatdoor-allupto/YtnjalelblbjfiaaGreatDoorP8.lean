import Derived.Test.YtnjalelblbjfiaaGreatDoorP7
namespace Go.Proofs.YtnjalelblbjfiaaGreatDoor
set_option maxRecDepth 100000
set_option maxHeartbeats 16000000
open Go.RowKit
open Go.Proofs.Tryz
open Go.Sort (grow)
open Go renaming World→MV,Value→Ma,block_lt_of_cell→MO,Calls→Mo,cell_later→MW,wpList_load_mid→Sb
open Go.Ending renaming returned→MZ
open Go.IntKind renaming i64→I,wrap_i64→Mm
open Go.Obj renaming cells→MY
open Go.Proofs.Tryz renaming prog→MT
open Go.RowKit renaming Below→Mb
open Go.RowKit.Below renaming heap_setCell→Nh,refl→MU
open Go.Value renaming ownBlock→NF,func→Nm,slice→MR,int→Q,pointer→MQ,agg→M1,tuple→Nn
open Go.World renaming frozen?_of_block→NJ,frozen?→Nz,cell?_of_block→Mj
open List renaming getElem_of_mem→Mt,length_take→Mh,length_drop→M2,length_append→Mz,pairwise_iff_getElem→Mr,length_pos_of_mem→RS,pairwise_cons→PJ,mem_cons→Nk,mem_cons_of_mem→PB,mem_filter→Nc,any_eq_false→Po,any_eq_true→P7
open Nat renaming le_refl→MP,eq_zero_or_pos→Pu,zero_mul→PZ,zero_add→NO,lt_or_gt_of_ne→Qq,lt_or_ge→N8,lt_or_eq_of_le→Nr
open Option renaming none→S,some→N
open Or renaming inl→Mf,inr→MX
variable {L c:List af}{a w:MV}{b l q:Ma}{f g i k m o t x:Nat}{F X:Nat->Prop}{r:Rl}{e:af}
theorem jL.lC(h:w.ownsRow 0 189 3 b L.length (gL L))(c:0<L.length):jL w b:=by
 obtain⟨a,l,g,rfl,d⟩:=ic h;obtain⟨rfl,e,f,i⟩:=d 0 c;intro j k;obtain rfl:g=j:=by simpa[NF]using k
 exact⟨_,_,_,e,f,i⟩
theorem qq{d:Ma}(e:a.cell? ⟨m,0,S⟩=N (Nm (.func 35) #[] #[]))(f:a.cell? ⟨m,1,S⟩=N d)(h:∀j,a.frozen? ⟨m,j,S⟩=false)(i:a.ownsRow 0 189 3 b c.length (gL c))(k:∀g,b.ownBlock=N g->m≠g)(l:c.length<=200)(n:w=a.setCell ⟨m,1,S⟩ b):nN w m b c:=by
 subst n;refine⟨?_,?_,aY i λg o=>Nh _ _ _ _ (k g o).symm,λj=>?_,l⟩
 ·rw[World.cell?_setCell_other _ _ _ _ (by simp)];exact e
 ·exact World.cell?_setCell_same _ _ _ f
 ·rw[World.frozen?_setCell];exact h j
theorem jL.ne{a:Ma}{d:Fn}{f c:Array Ma}(h:jL w a)(e:a.ownBlock=N g)(i:w.cell? ⟨m,0,S⟩=N (Nm d f c)):m≠g:=by
 rintro rfl;obtain⟨n,j,p,b,_⟩:=h m e;rw[i]at b;cases b
theorem jL.lt{a:Ma}(h:jL w a)(b:a.ownBlock=N g):g<w.heap.size:=by
 obtain⟨n,d,p,c,_⟩:=h g b;exact MO c
theorem jM.lt{a:Ma}(h:jM w a)(b:a.ownBlock=N g):g<w.heap.size:=by
 obtain⟨n,p,c,_⟩:=h g b;exact MO c
theorem jL.chg{e:MV}(h:jL w b)(c:aH X w e)(d:∀g,b.ownBlock=N g->¬X g):jL e b:=by
 intro g a;obtain⟨n,f,p,i,j,k⟩:=h g a;exact⟨n,f,p,c.block.cell (d g a) i,c.block.cell (d g a) j,c.block.cell (d g a) k⟩
theorem jM.chg{c:MV}{a:Ma}(h:jM w a)(d:aH X w c)(e:∀g,a.ownBlock=N g->¬X g):jM c a:=by
 intro g b;obtain⟨n,p,f,i⟩:=h g b;exact⟨n,p,d.block.cell (e g b) f,d.block.cell (e g b) i⟩
theorem nN.chg{e:MV}(h:nN w m b L)(k:jL w b)(c:aH X w e)(d:¬X m)(l:∀g,b.ownBlock=N g->¬X g):nN e m b L:=by
 obtain⟨f,n,o,p,q⟩:=h;exact⟨c.block.cell d f,c.block.cell d n,aY o λg i=>c.block g (k.lt i) (l g i),λj=>(NJ (a:=⟨m,j,S⟩) (c.block m (MO f) d)).trans (p j),q⟩
theorem oV.chg{e:MV}(h:oV w m b L)(k:jM w b)(c:aH X w e)(d:¬X m)(l:∀g,b.ownBlock=N g->¬X g):oV e m b L:=by
 obtain⟨f,n,o,p,q⟩:=h;exact⟨c.block.cell d f,c.block.cell d n,aY o λg i=>c.block g (k.lt i) (l g i),λj=>(NJ (a:=⟨m,j,S⟩) (c.block m (MO f) d)).trans (p j),q⟩
def K6(m:Nat)(e:Ma)(L:List af)(f:af)(w c:MV):Prop:=
 ∃d a,nN c m d a/\cC a/\jL c d/\(∀x,x∈a↔x=f\/x∈L)/\a.length=L.length+1/\(∀b,d.ownBlock=N b->e.ownBlock=N b\/w.heap.size<=b)/\aH (λb=>b=m\/e.ownBlock=N b) w c
theorem F4(m:Nat)(a:Option Addr)(l i:Nat)(L:List af)(c:af)(w d W:MV)(y:nN w m (MR a L.length l) L)(U:cC L)(q:jL w (MR a L.length l))(V:∀x∈L,¬(x.2.pr=c.2.pr/\x.2.id=c.2.id))(X:L.length<=199)(G:i<=L.length)(Y:∀j,j<i->td L c.2.pr c.2.id j<0)(Z:∀j,i<=j->j<L.length->0<=td L c.2.pr c.2.id j)(n:Mb w.heap.size w d)(r:Mb d.heap.size d W)(B:W.heap[d.heap.size]?=N (MY #[Q I c.2.pr,Q I c.2.id,MQ (N ⟨c.1,0,S⟩)] 189 (0,0))):Mo MT 93 #[MR a L.length l,Q I i,MR (N ⟨d.heap.size,0,S⟩) 1 1] W λe f=>∃k o,e=MZ (MR (N ⟨k,0,S⟩) (L.length+1) o)/\f.cell? ⟨m,1,S⟩=N (MR a L.length l)/\f.frozen? ⟨m,1,S⟩=false/\(∀b j v,w.heap.size<=b->d.cell? ⟨b,j,S⟩=N v->f.cell? ⟨b,j,S⟩=N v)/\K6 m (MR a L.length l) L c w (f.setCell ⟨m,1,S⟩ (MR (N ⟨k,0,S⟩) (L.length+1) o)):=by
 obtain⟨C,H,D,h3,h4⟩:=y;have a1:m<w.heap.size:=MO C;have z:∀b,(MR a L.length l).ownBlock=N b->m≠b:=λb n=>q.ne n C;have a9:=n.size;have a2:m<d.heap.size:=O;have b0:=r.size;have oW:W.ownsRow 0 189 3 (MR a L.length l) L.length (gL L):=aY D λb s=>(r.block b (by have:=q.lt s;omega)).trans (n.block b (q.lt s));refine(G0 (MR a L.length l) L.length i (gL L) d.heap.size 189 3 [Q I c.2.pr,Q I c.2.id,MQ (N ⟨c.1,0,S⟩)] W oW xx G X rfl
  (λj u t=>aM B t) oc (λs=>by have:d.heap.size<w.heap.size:=q.lt s;omega) (by simp[World.shape?,B]) (λj=>by simp[Nz,B])).mono ?_
 rintro e f ⟨k,o,rfl,J,K,E⟩;have M:f.heap[m]?=w.heap[m]?:=(E.block m O λh=>z m h rfl).trans ((r.block m a2).trans (n.block m a1));have F:∀j,f.cell? ⟨m,j,S⟩=w.cell? ⟨m,j,S⟩:=λj=>Mj (a:=⟨m,j,S⟩) M;have P:∀j,f.frozen? ⟨m,j,S⟩=false:=λj=>(NJ (a:=⟨m,j,S⟩) M).trans (h3 j);have R:(L.take i++c::L.drop i).length=L.length+1:=jm c G;have a4:(gL L).take (i*3)++[Q I c.2.pr,Q I c.2.id,MQ (N ⟨c.1,0,S⟩)]++(gL L).drop (i*3)=gL (L.take i++c::L.drop i):=by
  rw[up,uq,j8];simp[gL]
 rw[a4]at J;have a5:∀g,(MR (N ⟨k,0,S⟩) (L.length+1) o).ownBlock=N g->m≠g:=λg hg=>by
  obtain rfl:k=g:=by simpa[NF]using hg
  rcases K with h|h
  ·exact z _ h
  ·omega
 refine⟨k,o,rfl,(F 1).trans H,P 1,λb j v s T=>?_,?_⟩
 ·have a7:b<d.heap.size:=MO T;exact(Mj (a:=⟨b,j,S⟩) ((E.block b O λh=>by have:=q.lt h;omega).trans (r.block b a7))).trans T
 ·have y:nN (f.setCell ⟨m,1,S⟩ (MR (N ⟨k,0,S⟩) (L.length+1) o)) m (MR (N ⟨k,0,S⟩) (L.length+1) o) (L.take i++c::L.drop i):=qq ((F 0).trans C) ((F 1).trans H) P (by rw[R];exact J) a5 O rfl;refine⟨_,_,y,?_,jL.lC y.2.2.1 O,nC i c,R,?_,?_⟩
  ·refine pz i c U (λx p=>?_) (λx p=>?_)
   ·obtain⟨j,t,rfl⟩:=Mt p;rw[Mh]at t;rw[List.getElem_take];have:=Y j O;unfold td at this;rw[iw O,cQ O]at this;simpa only[Rl.al,decide_eq_true_eq]using this
   ·have z:=V x (List.mem_of_mem_drop p);obtain⟨j,t,rfl⟩:=Mt p;rw[M2]at t;rw[List.getElem_drop]at z⊢;have:=Z (i+j) O O;unfold td at this;rw[iw O,cQ O]at this;have D:¬(L[i+j].2.al c.2=true):=by simp only[Rl.al,decide_eq_true_eq];omega
    rw[Rl.cU]at D⊢;omega
  ·intro b n;obtain rfl:k=b:=by simpa[NF]using n
   rcases K with h|h
   ·exact Mf h
   ·exact MX O
  ·refine aH.setCell ?_ (Mf (Mf rfl)) _;exact((aH.aG n).trans ((aH.aG r).trans (E.mono λx _ p=>MX p)))
theorem F5(m:Nat)(j:Ma)(L:List af)(b:af)(w:MV)(k:nN w m j L)(q:cC L)(r:jL w j)(s:∀x∈L,¬(x.2.pr=b.2.pr/\x.2.id=b.2.id))(K:L.length<=199):Mo MT 42 #[MQ (N ⟨m,0,S⟩),M1 #[Q I b.2.pr,Q I b.2.id],MQ (N ⟨b.1,0,S⟩)] w λe M=>e=MZ (Nn #[])/\K6 m j L b w M:=by
 have Y:m<w.heap.size:=MO k.1;obtain⟨c,n⟩:=UX (w.alloc (MY #[Q I b.2.pr,Q I b.2.id] 100));have t:=UY n;have Z:c.heap.size=w.heap.size+1:=by rw[n];exact aZ _ _
 have u:nN c m j L:=k.chg r (aH.aG (X:=λ_=>False) t) (λh=>h) λ_ _ h=>h;have v:c.heap[w.heap.size]?=N (MY #[Q I b.2.pr,Q I b.2.id] 100 (0,0)):=by rw[n];exact bI _ _
 have B:c.cell? ⟨w.heap.size,0,S⟩=N (Q I b.2.pr):=aM v rfl;have C:c.cell? ⟨w.heap.size,1,S⟩=N (Q I b.2.id):=aM v rfl;have D:=A (sd m j L b.2.pr b.2.id c u q);obtain⟨a,P,g,rfl,l⟩:=ic k.2.2.1;have E:=A λi (y:i<=L.length) o p d f W=>F4 m a P i L b w d W k q r s K y o p f;have F:=u.2.1;have G:=A t;have H:=A n;clear k u q r l t v;go_enter func42,ntmps42;go_wp2_with fail
 rw[<-H.o];refine D.o.mono ?_;rintro e d ⟨i,y,o,p,rfl,f⟩;have hx:(decide (i<L.length)&&(td L b.2.pr b.2.id i==0))=false:=by
  rw[<-Bool.not_eq_true,Bool.and_eq_true,decide_eq_true_eq,beq_iff_eq];rintro⟨h,l⟩;unfold td at l;rw[nI,iw h,cQ h]at l;exact s _ (List.getElem_mem h) l
 have k1:=MW f F;have R:=MW f B;have T:=MW f C;have U:=A (E.o i y o p d (G.o.trans (f.mono O)));have a2:=f.size;clear D o p f F B C E s H G;have a3:m<d.heap.size:=O;have a4:w.heap.size<d.heap.size:=O;have a5:¬m=w.heap.size:=O;go_wp2_with fail
 go_region_with
  (first|(go_at_call 93;refine(U.o _ ?_ ?_).mono ?_;(first|exact((MU _ d).alloc (MP _) _).drew|exact((Below.refl _ d).drew).alloc (Nat.le_refl _) _);(exact bI d _);rintro e w2 ⟨g2,a8,rfl,m1,mf,z,J⟩;have j0:=z _ _ _ (MP _) R;have j1:=z _ _ _ (MP _) T;have V:=A J;clear J z))
 all_goals go_end0
 all_goals exact⟨rfl,V.o⟩
def LA(m:Nat)(d:Ma)(L:List af)(p:af->Bool)(w a:MV):Prop:=
 ∃c,oV a m c (L.filter p)/\jM a c/\c.ownBlock=d.ownBlock/\aH (λb=>b=m\/d.ownBlock=N b) w a
def K9(m:Nat)(d:Ma)(L:List af)(p:af->Bool)(w a:MV):Prop:=
 ∃c,nN a m c (L.filter p)/\jL a c/\c.ownBlock=d.ownBlock/\aH (λb=>b=m\/d.ownBlock=N b) w a
theorem IB(m g c k i:Nat)(L:List af)(p:af->Bool)(w h:MV)(J:oV w m (MR (N ⟨g,0,S⟩) L.length c) L)(s:jM w (MR (N ⟨g,0,S⟩) L.length c))(t:L.length=k+1)(K:i<=k)(hcut:L.take i++L.drop (i+1)=L.filter p)(l:Mb w.heap.size w h):Mo MT 97 #[MR (N ⟨g,0,S⟩) L.length c,Q I i,Q I ((i:Int)+1)] h λe d=>e=MZ (MR (N ⟨g,0,S⟩) k c)/\d.cell? ⟨m,1,S⟩=N (MR (N ⟨g,0,S⟩) L.length c)/\d.frozen? ⟨m,1,S⟩=false/\LA m (MR (N ⟨g,0,S⟩) L.length c) L p w (d.setCell ⟨m,1,S⟩ (MR (N ⟨g,0,S⟩) k c)):=by
 obtain⟨n,u,M,P,X⟩:=J;have R:m<w.heap.size:=MO n;have o:m≠g:=s.ne rfl n;have T:g<w.heap.size:=s.lt rfl;have v:h.ownsRow 0 184 2 (MR (N ⟨g,0,S⟩) L.length c) L.length (gX L):=aY M λb f=>by
  obtain rfl:g=b:=by simpa[NF]using f
  exact l.block g T
 have Y:=l.size;rw[t]at v;have C:=Dx g k c i (gX L) h v yG K O;rw[<-t]at C;refine C.mono ?_;rintro e d ⟨rfl,q,y,z⟩;have B:d.heap[m]?=w.heap[m]?:=(y.block m O o).trans (l.block m R);have r:∀j,d.cell? ⟨m,j,S⟩=w.cell? ⟨m,j,S⟩:=λj=>Mj (a:=⟨m,j,S⟩) B;have D:∀j,d.frozen? ⟨m,j,S⟩=false:=λj=>(NJ (a:=⟨m,j,S⟩) B).trans (P j);have U:(gX L).take (i*2)++(gX L).drop ((i+1)*2)=gX (L.filter p):=by rw[ur,us,<-kB,hcut]
 have E:(L.filter p).length=k:=by rw[<-hcut];simp only[Mz,Mh,M2];omega
 rw[U]at q;refine⟨rfl,(r 1).trans u,D 1,_,qr ((r 0).trans n) ((r 1).trans u) D (by rw[E];exact q) (λb f=>by obtain rfl:g=b:=(by simpa[NF]using f);exact o) O rfl,?_,rfl,aH.setCell ((aH.aG l).trans (y.mono λx _ V=>.inr (by rw[V];rfl))) (.inl (.inl rfl)) _⟩;intro b f;obtain rfl:g=b:=by simpa[NF]using f
 have F:∀j,(d.setCell ⟨m,1,S⟩ (MR (N ⟨g,0,S⟩) k c)).cell? ⟨g,j,S⟩=d.cell? ⟨g,j,S⟩:=λj=>Mj (a:=⟨g,j,S⟩) (Nh _ _ _ _ o.symm);rw[F,F];rcases Pu k with rfl|Z
 ·have G:=z 0 _ rfl;have H:=z 1 _ rfl;simp only[PZ,NO]at G H;exact⟨_,_,G,H⟩
 ·have W:jM d (MR (N ⟨g,0,S⟩) k c):=jM.lC (L:=L.filter p) (by rw[E];exact q) O;exact W g rfl
theorem H9(m g c k i:Nat)(L:List af)(p:af->Bool)(w h:MV)(K:nN w m (MR (N ⟨g,0,S⟩) L.length c) L)(u:jL w (MR (N ⟨g,0,S⟩) L.length c))(v:L.length=k+1)(M:i<=k)(hcut:L.take i++L.drop (i+1)=L.filter p)(l:Mb w.heap.size w h):Mo MT 98 #[MR (N ⟨g,0,S⟩) L.length c,Q I i,Q I ((i:Int)+1)] h λe d=>e=MZ (MR (N ⟨g,0,S⟩) k c)/\d.cell? ⟨m,1,S⟩=N (MR (N ⟨g,0,S⟩) L.length c)/\d.frozen? ⟨m,1,S⟩=false/\K9 m (MR (N ⟨g,0,S⟩) L.length c) L p w (d.setCell ⟨m,1,S⟩ (MR (N ⟨g,0,S⟩) k c)):=by
 obtain⟨n,y,P,R,Y⟩:=K;have T:m<w.heap.size:=MO n;have o:m≠g:=u.ne rfl n;have U:g<w.heap.size:=u.lt rfl;have z:h.ownsRow 0 189 3 (MR (N ⟨g,0,S⟩) L.length c) L.length (gL L):=aY P λb f=>by
  obtain rfl:g=b:=by simpa[NF]using f
  exact l.block g U
 have Z:=l.size;rw[v]at z;have C:=Dw g k c i (gL L) h z xx M O;rw[<-v]at C;refine C.mono ?_;rintro e d ⟨rfl,q,B,r⟩;have D:d.heap[m]?=w.heap[m]?:=(B.block m O o).trans (l.block m T);have s:∀j,d.cell? ⟨m,j,S⟩=w.cell? ⟨m,j,S⟩:=λj=>Mj (a:=⟨m,j,S⟩) D;have E:∀j,d.frozen? ⟨m,j,S⟩=false:=λj=>(NJ (a:=⟨m,j,S⟩) D).trans (R j);have V:(gL L).take (i*3)++(gL L).drop ((i+1)*3)=gL (L.filter p):=by rw[up,uq,<-j8,hcut]
 have F:(L.filter p).length=k:=by rw[<-hcut];simp only[Mz,Mh,M2];omega
 rw[V]at q;refine⟨rfl,(s 1).trans y,E 1,_,qq ((s 0).trans n) ((s 1).trans y) E (by rw[F];exact q) (λb f=>by obtain rfl:g=b:=(by simpa[NF]using f);exact o) O rfl,?_,rfl,aH.setCell ((aH.aG l).trans (B.mono λx _ W=>.inr (by rw[W];rfl))) (.inl (.inl rfl)) _⟩;intro b f;obtain rfl:g=b:=by simpa[NF]using f
 have t:∀j,(d.setCell ⟨m,1,S⟩ (MR (N ⟨g,0,S⟩) k c)).cell? ⟨g,j,S⟩=d.cell? ⟨g,j,S⟩:=λj=>Mj (a:=⟨g,j,S⟩) (Nh _ _ _ _ o.symm);rw[t,t,t];rcases Pu k with rfl|a0
 ·have G:=r 0 _ rfl;have H:=r 1 _ rfl;have J:=r 2 _ rfl;simp only[PZ,NO]at G H J;exact⟨_,_,_,G,H,J⟩
 ·have X:jL d (MR (N ⟨g,0,S⟩) k c):=jL.lC (L:=L.filter p) (by rw[F];exact q) O;exact X g rfl
theorem Ky{x:Int}(b:gB L)(h:i<L.length)(c:kU L i=x):L.take i++L.drop (i+1)=L.filter λe=>e.2.id !=x:=by
 rw[cQ h]at c;refine il _ h (by simp[c]) λj d f=>?_;rw[bne_iff_ne];intro g;rcases Qq f with a|a
 ·have:=Mr.1 b j i d h a;omega
 ·have:=Mr.1 b i j h d a;omega
theorem Kx{p q:Int}(c:cC L)(h:i<L.length)(a:td L p q i=0):L.take i++L.drop (i+1)=L.filter λe=>!(e.2.pr==p&&e.2.id==q):=by
 unfold td at a;rw[nI,iw h,cQ h]at a;refine il _ h (by simp[a.1,a.2]) λj d f=>?_;have g:L[j].2.pr≠p\/L[j].2.id≠q:=by
  rcases Qq f with b|b
  ·have:=Mr.1 c j i d h b;rw[Rl.cU]at this;omega
  ·have:=Mr.1 c i j h d b;rw[Rl.cU]at this;omega
 rcases g with h|h<;>simp[h]
theorem IC(m:Nat)(f:Ma)(L:List af)(x:Int)(w:MV)(b:oV w m f L)(l:gB L)(r:jM w f)(K:∃e∈L,e.2.id=x):Mo MT 48 #[MQ (N ⟨m,0,S⟩),Q I x] w λe M=>e=MZ (.bool true)/\LA m f L (λe=>e.2.id !=x) w M:=by
 have s:=A (oG m f L x w b l);obtain⟨a,P,g,rfl,t⟩:=ie b.2.2.1;obtain⟨V,n,u⟩:=K;have v:0<L.length:=RS n;obtain⟨k,o⟩:∃k,L.length=k+1:=⟨L.length-1,O⟩;obtain⟨rfl,R⟩:=t 0 v;clear R;have y:=A λi (z:i<=k) hcut p c=>IB m g P k i L (λe=>e.2.id !=x) w p b r o z hcut c;have q:=b.2.1;have W:=b.2.2.2.2;have B:=A u;have C:=A o;clear b r t u o v;go_enter func48,ntmps48;go_wp2_with fail
 refine s.o.mono ?_;rintro e p ⟨i,z,D,E,rfl,c⟩;have d:i<L.length/\kU L i=x:=by
  obtain⟨j,F,rfl⟩:=Mt n;have G:=B.o;rw[<-cQ F]at G;have T:i<=j:=by
   rcases N8 j i with h|h
   ·have:=D j h;omega
   ·exact h
  refine⟨O,?_⟩;have q:=E i (MP _) O;rcases Nr T with h|h
  ·have:=Mr.1 l i j O F h;rw[<-cQ,<-cQ]at this;omega
  ·rw[h];exact G
 have hcut:=Ky l d.1 d.2;have H:=A (y.o i (by have:=C.o;omega) hcut p c);have X:=MW c q;have Y:(decide (i<L.length)&&(kU L i==x))=true:=by simp[d.1,d.2]
 have Z:IntKind.i64.wrap ((i:Int)+1)=(i:Int)+1:=by rw[Mm];omega
 clear s D E c q y hcut d l n B C;go_wp2_with fail
 refine H.o.mono ?_;rintro e w2 ⟨rfl,m1,mf,J⟩;have U:=A J;clear J H;go_wp2;go_ret;exact⟨rfl,U.o⟩
theorem IA(m:Nat)(f:Ma)(L:List af)(p q:Int)(w:MV)(c:nN w m f L)(n:cC L)(o:jL w f)(Y:∃e∈L,e.2.pr=p/\e.2.id=q):Mo MT 49 #[MQ (N ⟨m,0,S⟩),M1 #[Q I p,Q I q]] w λe Z=>e=MZ (.bool true)/\K9 m f L (λe=>!(e.2.pr==p&&e.2.id==q)) w Z:=by
 have a6:m<w.heap.size:=MO c.1;obtain⟨d,r⟩:=UX (w.alloc (MY #[Q I p,Q I q] 100));have s:=UY r;have a7:d.heap.size=w.heap.size+1:=by rw[r];exact aZ _ _
 have t:nN d m f L:=c.chg o (aH.aG (X:=λ_=>False) s) (λh=>h) λ_ _ h=>h;have D:=A (sd m f L p q d t n);obtain⟨a,a0,g,rfl,E⟩:=ic c.2.2.1;obtain⟨F,u,G⟩:=Y;have H:0<L.length:=RS u;obtain⟨k,v⟩:∃k,L.length=k+1:=⟨L.length-1,O⟩;obtain⟨rfl,a1⟩:=E 0 H;clear a1;have J:=A λi (K:i<=k) hcut x b=>H9 m g a0 k i L (λe=>!(e.2.pr==p&&e.2.id==q)) w x c o v K hcut b;have y:=t.2.1;have hl:=c.2.2.2.2;have z:=A G;have M:=A v;have P:=A s;have R:=A r;clear c t o E G v H s;go_enter func49,ntmps49;go_wp2_with fail
 rw[<-R.o];refine D.o.mono ?_;rintro e x ⟨i,K,T,U,rfl,b⟩;have l:i<L.length/\td L p q i=0:=by
  obtain⟨j,B,rfl⟩:=Mt u;have a2:td L p q j=0:=by unfold td;rw[nI,iw B,cQ B];exact z.o
  have a3:i<=j:=by
   rcases N8 j i with h|h
   ·have:=T j h;omega
   ·exact h
  refine⟨O,?_⟩;have y:=U i (MP _) O;rcases Nr a3 with h|h
  ·have b:=Mr.1 n i j O B h;have C:¬(td L p q i<0):=O;unfold td at C;rw[iw O,cQ O]at C;obtain⟨F,e2⟩:=z.o;have:L[i].2.al L[j].2=true↔kV L[i].2.pr L[i].2.id p q<0:=by simp only[Rl.al,decide_eq_true_eq];rw[F,e2]
   exact absurd (this.1 b) C
  ·rw[h];exact a2
 have hcut:=Kx n l.1 l.2;have V:=A (J.o i (by have:=M.o;omega) hcut x (P.o.trans (b.mono O)));have k1:=MW b y;have hd:(decide (i<L.length)&&(td L p q i==0))=true:=by simp[l.1,l.2]
 have b1:IntKind.i64.wrap ((i:Int)+1)=(i:Int)+1:=by rw[Mm];omega
 clear D T U b y J hcut l n u z M P R;go_wp2_with fail
 refine V.o.mono ?_;rintro e w2 ⟨rfl,m1,mf,W⟩;have HP:=A W;clear W V;go_wp2;go_ret;exact⟨rfl,HP.o⟩
theorem cP.kept{w v:MV}(j:cP w)(h:fF X w v)(F:∀x,X x->dB w x):cP v:=by
 have G:¬X 0:=by
  intro H;have b:=j.1;have C:=j.2.1;have D:=j.2.2.1;rcases F 0 H with⟨d,q,J,f,c,g,z,B⟩|⟨J,f,c,a,l,k,g,z⟩|⟨n,p,g,z⟩|⟨n,m,p,g,z,B⟩|⟨o,K,M⟩|⟨P,R,T,U,V,W,Y,Z,gh,gs,g,z,B,g3⟩
  ·rw[g]at b;cases b
  ·rw[g]at b;cases b
  ·rw[z]at C;cases C
  ·rw[B]at D;cases D
  ·rw[dL K M]at b;cases b
  ·exact P rfl
 have e:∀i,v.cell? ⟨0,i,S⟩=w.cell? ⟨0,i,S⟩:=λi=>Mj (a:=⟨0,i,S⟩) (h 0 j.uE G);simpa only[cP,e]using j
theorem n5:∀{c B:List af},cC c->cC B->(∀x,x∈c↔x∈B)->c=B
 |[],[],_,_,_=>rfl
 |[],b::B,_,_,h=>absurd ((h b).2 (by simp)) (by simp)
 |a::c,[],_,_,h=>absurd ((h a).1 (by simp)) (by simp)
 |a::c,b::B,l,m,h=>by
  have i:=PJ.1 l;have j:=PJ.1 m;have e:a=b:=by
   rcases Nk.1 ((h a).1 (by simp))with e|f
   ·exact e
   ·rcases Nk.1 ((h b).2 (by simp))with e|n
    ·exact e.symm
    ·have o:=j.1 a f;have k:=i.1 b n;rw[Rl.fh o]at k;cases k
  subst e;congr 1;refine n5 i.2 j.2 λx=>⟨λg=>?_,λg=>?_⟩
  ·rcases Nk.1 ((h x).1 (PB _ g))with e|f
   ·subst e;have:=i.1 x g;rw[Rl.dj]at this;cases this
   ·exact f
  ·rcases Nk.1 ((h x).2 (PB _ g))with e|f
   ·subst e;have:=j.1 x g;rw[Rl.dj]at this;cases this
   ·exact f
structure aa (w:MV) (t r d:Nat) (u s:Ma) (y L:List af) (E:Nat->List af):Prop where
 laid:cP w
 c0:w.cell? ⟨t,0,S⟩=N (MQ (N ⟨r,0,S⟩))
 c1:w.cell? ⟨t,1,S⟩=N (MQ (N ⟨d,0,S⟩))
 tf:∀j,w.frozen? ⟨t,j,S⟩=false
 mI:oV w r u y
 sI:gB y
 hI:jM w u
 mR:nN w d s L
 sR:cC L
 hR:jL w s
 ent:∀e∈L,ak w e.1 e.2/\e.2.ok=true
 tree:∀h,h<6->∃tb,w.cell? ⟨t,2+h,S⟩=N (MQ (N ⟨tb,0,S⟩))/\eC w 12 tb (E h)
def qL(t r d:Nat)(u s:Ma)(x:Nat):Prop:=x=t\/(x=r\/u.ownBlock=N x)\/(x=d\/s.ownBlock=N x)
section
variable {w v:World}{t r d:Nat}{u s:Value}{y L:List af}{E:Nat->List af}
theorem aa.Jy(h:aa w t r d u s y L E):∃a n k,u=MR a n k:=by
 rcases h.mI.2.2.1.2 with⟨e,_⟩|⟨g,c,b,e,_⟩<;>exact⟨_,_,_,e⟩
theorem aa.Jw(h:aa w t r d u s y L E):∃a n k,s=MR a n k:=by
 rcases h.mR.2.2.1.2 with⟨e,_⟩|⟨g,c,b,e,_⟩<;>exact⟨_,_,_,e⟩
theorem aa.ri(h:aa w t r d u s y L E):dB w t:=Mf ⟨r,_,_,_,_,h.c0,h.c1,h.mI.1⟩
theorem aa.rj(h:aa w t r d u s y L E)(b:x=r\/u.ownBlock=N x):dB w x:=by
 rcases b with rfl|b
 ·obtain⟨a,n,k,e⟩:=h.Jy;have:=h.mI.2.1;rw[e]at this;exact MX (Mf ⟨_,_,_,_,_,_,h.mI.1,this⟩)
 ·exact h.hI.lE b
theorem aa.oZ(h:aa w t r d u s y L E)(b:x=d\/s.ownBlock=N x):dB w x:=by
 rcases b with rfl|b
 ·obtain⟨a,n,k,e⟩:=h.Jw;have:=h.mR.2.1;rw[e]at this;exact MX (Mf ⟨_,_,_,_,_,_,h.mR.1,this⟩)
 ·exact h.hR.lE b
theorem aa.lE(h:aa w t r d u s y L E)(a:qL t r d u s x):dB w x:=by
 rcases a with rfl|a|a
 ·exact h.ri
 ·exact h.rj a
 ·exact h.oZ a
theorem aa.Cn(h:aa w t r d u s y L E)(a:x=r\/u.ownBlock=N x):¬(x=d\/s.ownBlock=N x):=by
 have f:=h.mI.1;have c:=h.mR.1;rintro(e|e)
 ·subst e;rcases a with a|a
  ·rw[a,f]at c;cases c
  ·obtain⟨n,p,b,_⟩:=h.hI _ a;rw[c]at b;cases b
 ·obtain⟨n,j,p,b,i,_⟩:=h.hR _ e;rcases a with a|a
  ·rw[a,f]at b;cases b
  ·obtain⟨k,q,l,g⟩:=h.hI _ a;rw[i]at g;cases g
theorem aa.rR(h:aa w t r d u s y L E)(a:x=r\/u.ownBlock=N x):x≠t:=by
 rintro rfl;have b:=h.mI.1;have c:=h.c0;rcases a with a|a
 ·rw[<-a,c]at b;cases b
 ·obtain⟨n,p,e,_⟩:=h.hI _ a;rw[c]at e;cases e
theorem aa.rQ(h:aa w t r d u s y L E)(a:x=d\/s.ownBlock=N x):x≠t:=by
 rintro rfl;have b:=h.mR.1;have c:=h.c0;rcases a with a|a
 ·rw[<-a,c]at b;cases b
 ·obtain⟨n,f,p,e,_⟩:=h.hR _ a;rw[c]at e;cases e
theorem aa.kept(h:aa w t r d u s y L E)(b:aH X w v)(m:∀x,X x->dB w x)(f:∀x,qL t r d u s x->¬X x):aa v t r d u s y L E:=by
 have l:=f t (Mf rfl);refine⟨h.laid.kept b.block m,b.block.cell l h.c0,b.block.cell l h.c1,λj=>(NJ (a:=⟨t,j,S⟩) (b.block t (MO h.c0) l)).trans (h.tf j),h.mI.chg h.hI b (f r (MX (Mf (Mf rfl)))) (λg i=>f g (MX (Mf (MX i)))),h.sI,h.hI.chg b (λg i=>f g (MX (Mf (MX i)))),
  h.mR.chg h.hR b (f d (MX (MX (Mf rfl)))) (λg i=>f g (MX (MX (MX i)))),h.sR,h.hR.chg b (λg i=>f g (MX (MX (MX i)))),λe n=>⟨(h.ent e n).1.kept b.block m,(h.ent e n).2⟩,λk o=>?_⟩
 obtain⟨p,c,T⟩:=h.tree k o;exact⟨p,b.block.cell l c,T.kept b.block m⟩
theorem aa.aD{B:Nat}(h:aa w t r d u s y L E)(a:Mb B w v)(b:w.heap.size<=B):aa v t r d u s y L E:=
 h.kept (X:=λ_=>False) (aH.aG (a.mono b)) (λ_ h=>h.elim) λ_ _ h=>h
theorem aa.KY(h:aa w t r d u s y L E){m:List af}(b:aH (λx=>x=r\/u.ownBlock=N x) w v)(z:oV v r l m)(B:gB m)(C:jM v l):aa v t r d l s m L E:=by
 have n:∀x,(x=r\/u.ownBlock=N x)->dB w x:=λx f=>h.rj f;have i:¬(t=r\/u.ownBlock=N t):=λf=>h.rR f rfl;have o:∀x,(x=d\/s.ownBlock=N x)->¬(x=r\/u.ownBlock=N x):=λx f D=>h.Cn D f;refine⟨h.laid.kept b.block n,b.block.cell i h.c0,b.block.cell i h.c1,λj=>(NJ (a:=⟨t,j,S⟩) (b.block t (MO h.c0) i)).trans (h.tf j),z,B,C,
  h.mR.chg h.hR b (o d (Mf rfl)) (λg p=>o g (MX p)),h.sR,h.hR.chg b (λg p=>o g (MX p)),λe q=>⟨(h.ent e q).1.kept b.block n,(h.ent e q).2⟩,λk F=>?_⟩
 obtain⟨G,c,T⟩:=h.tree k F;exact⟨G,b.block.cell i c,T.kept b.block n⟩
theorem aa.FP(h:aa w t r d u s y L E){n:Ma}{i:List af}(b:aH (λx=>x=d\/s.ownBlock=N x) w v)(l:nN v d n i)(B:cC i)(C:jL v n)(z:∀e∈i,ak w e.1 e.2/\e.2.ok=true):aa v t r d u n y i E:=by
 have o:∀x,(x=d\/s.ownBlock=N x)->dB w x:=λx f=>h.oZ f;have m:¬(t=d\/s.ownBlock=N t):=λf=>h.rQ f rfl;have p:∀x,(x=r\/u.ownBlock=N x)->¬(x=d\/s.ownBlock=N x):=λx f=>h.Cn f;refine⟨h.laid.kept b.block o,b.block.cell m h.c0,b.block.cell m h.c1,λj=>(NJ (a:=⟨t,j,S⟩) (b.block t (MO h.c0) m)).trans (h.tf j),
  h.mI.chg h.hI b (p r (Mf rfl)) (λg q=>p g (MX q)),h.sI,h.hI.chg b (λg q=>p g (MX q)),l,B,C,λe l=>⟨(z e l).1.kept b.block o,(z e l).2⟩,λk D=>?_⟩
 obtain⟨F,c,T⟩:=h.tree k D;exact⟨F,b.block.cell m c,T.kept b.block o⟩
theorem aa.DT(h:aa w t r d u s y L E){b:Nat}{m:List af}(a:aH (λx=>x=t) w v)(p:eC v 12 b m)(i:∀j,v.cell? ⟨t,j,S⟩=if j=2+k then N (MQ (N ⟨b,0,S⟩))else w.cell? ⟨t,j,S⟩)(q:∀j,v.frozen? ⟨t,j,S⟩=w.frozen? ⟨t,j,S⟩):aa v t r d u s y L (λj=>if j=k then m else E j):=by
 have l:∀x,x=t->dB w x:=λx z=>z▸h.ri;refine⟨h.laid.kept a.block l,(i 0).trans ((if_neg O).trans h.c0),(i 1).trans ((if_neg O).trans h.c1),λj=>(q j).trans (h.tf j),
  h.mI.chg h.hI a (λe=>h.rR (Mf rfl) e) (λg f e=>h.rR (MX f) e),h.sI,h.hI.chg a (λg f e=>h.rR (MX f) e),h.mR.chg h.hR a (λe=>h.rQ (Mf rfl) e) (λg f e=>h.rQ (MX f) e),h.sR,h.hR.chg a (λg f e=>h.rQ (MX f) e),
  λe n=>⟨(h.ent e n).1.kept a.block l,(h.ent e n).2⟩,λj B=>?_⟩
 by_cases o:j=k
 ·refine⟨b,(i _).trans (if_pos O),?_⟩;simpa only[if_pos o]using p
 ·obtain⟨C,c,T⟩:=h.tree j B;refine⟨C,(i _).trans ((if_neg O).trans c),?_⟩;simpa only[if_neg o]using T.kept a.block l
end
theorem aa.vg{w:MV}{t r d:Nat}{u s:Ma}{y L:List af}{E:Nat->List af}(h:aa w t r d u s y L E)(k:Nat)(m:k<6):Mo MT 36 #[MQ (N ⟨t,0,S⟩),Q I k] w λe v=>e=MZ (Nn #[])/\aa v t r d u s y L (λj=>if j=k then qy k L else E j)/\aH (λx=>x=t) w v:=by
 let f:List {e:af//ak w e.1 e.2/\e.2.ok=true}:=L.attach.map λe=>⟨e.1,h.ent e.1 e.2⟩
 have i:f.map (·.1)=L:=by simp only[f,List.map_map,Function.comp_def];exact List.attach_map_subtype_val L
 have p:kN w.heap.size w s (f.map (·.1)):=by
  rw[i];obtain⟨a,q,g,e,c⟩:=ic h.mR.2.2.1;exact⟨a,q,e,λj l=>⟨g,(c j l).1,MO (c j l).2.1,(c j l).2⟩⟩
 obtain⟨C,z,_⟩:=h.tree k m;refine(sY t d k m s w h.laid f (by have:=congrArg List.length i;rw[List.length_map]at this;rw[this];exact h.mR.2.2.2.2) h.c1 h.mR.2.1 p ⟨_,z⟩ h.tf h.ri).mono ?_;rintro e v ⟨rfl,b,n,o,c,B⟩;rw[i]at n;exact⟨rfl,h.DT o n c B,o⟩
def bQ(w:MV)(t:Nat)(F:Nat->Prop)(L:List af):Prop:=
 ∃b c d e a,aa w t b c d e a L (λh=>qy h L)/\(∀x,x∈a↔x∈L)/\a.length=L.length/\F=qL t b c d e
theorem tO{h m i n:Int}(a:0<=h/\h<6)(b:0<=i/\i<6):0<=(dI h m i n).1/\(dI h m i n).1<6:=by
 unfold dI;split
 ·exact b
 ·exact a
theorem vM(r:Rl):∀n:Nat,n<=5->0<=(bP r n).1/\(bP r n).1<6
 |0,_=>by simp[bP]
 |n+1,a=>tO (vM r n O) ⟨O,O⟩
theorem tM(r:Rl):∃k:Nat,k<6/\r.jt=k:=by
 have h:=vM r 5 (MP _);exact⟨r.jt.toNat,by unfold Rl.jt;omega,by unfold Rl.jt;omega⟩
theorem zP{a:List af}{j:Nat}(c:cC L)(d:cC a)(f:∀x,x≠e->(x∈a↔x∈L))(g:e.2.jt=k)(h:j≠k):qy j a=qy j L:=by
 refine n5 (d.filter _) (c.filter _) λx=>?_;rw[qy,qy,Nc,Nc];by_cases b:x=e
 ·subst b;have:(x.2.jt==(j:Int))=false:=by rw[g];simp;omega
  rw[this];simp
 ·rw[f x b]
theorem GP(e:gB c){a b:af}(k:a∈c)(l:b∈c)(h:a.2.id=b.2.id):a=b:=by
 obtain⟨i,f,rfl⟩:=Mt k;obtain⟨j,g,rfl⟩:=Mt l;rcases Nat.lt_trichotomy i j with d|rfl|d
 ·have:=Mr.1 e i j f g d;omega
 ·rfl
 ·have:=Mr.1 e j i g f d;omega
theorem Gi{b:List af}(d:gB b)(f:e∈b):(b.filter λa=>a.2.id !=e.2.id).length+1=b.length:=by
 obtain⟨i,c,rfl⟩:=Mt f;rw[<-Ky d c (cQ c)];simp only[Mz,Mh,M2];omega
theorem Gg(c:cC L)(d:e∈L):(L.filter λa=>!(a.2.pr==e.2.pr&&a.2.id==e.2.id)).length+1=L.length:=by
 obtain⟨i,b,rfl⟩:=Mt d;rw[<-Kx c b (by unfold td;rw[nI,iw b,cQ b];exact⟨rfl,rfl⟩)];simp only[Mz,Mh,M2];omega
theorem vT{x:Int}(h:qH L x=N e):e∈L/\e.2.id=x:=by
 unfold qH at h;exact⟨List.mem_of_find?_eq_some h,by simpa using List.find?_some h⟩
theorem vU{x:Int}(h:qH L x=S):∀e∈L,e.2.id≠x:=by
 unfold qH at h;intro e a b;simpa[b]using List.find?_eq_none.1 h e a
theorem Iu{n:Nat}{v y p:Ma}{f:List af}{c:af}{x:Int}(g:∀a,a∈f↔a∈L)(K:f.length=L.length)(r:gB f)(s:cC L)(i:c∈f)(l:c.2.id=x)(z:c.2.jt=k)(B:p.ownBlock=v.ownBlock)(C:q.ownBlock=y.ownBlock)(T:aa w t n o p q (f.filter λa=>a.2.id !=x) (L.filter λa=>!(a.2.pr==c.2.pr&&a.2.id==c.2.id)) (λj=>if j=k then qy k (L.filter λa=>!(a.2.pr==c.2.pr&&a.2.id==c.2.id))else qy j L)):bQ w t (qL t n o v y) (L.filter λa=>a.2.id !=x):=by
 have D:(L.filter λa=>!(a.2.pr==c.2.pr&&a.2.id==c.2.id))=L.filter λa=>a.2.id !=x:=by
  refine List.filter_congr λa u=>?_;by_cases d:a.2.id=x
  ·have:=GP r ((g a).2 u) i (d.trans l.symm);subst this;simp[d]
  ·have E:(a.2.id==c.2.id)=false:=by simpa using λh=>d (h.trans l)
   have F:(a.2.id !=x)=true:=by simpa using d
   rw[E,F,Bool.and_false];rfl
 have G:=Gg s ((g c).1 i);have H:=Gi r i;rw[D]at T G;rw[l]at H;have J:(λj=>if j=k then qy k (L.filter λa=>a.2.id !=x)else qy j L)=λ(j:Nat)=>qy j (L.filter λa=>a.2.id !=x):=by
  funext j;by_cases m:j=k
  ·rw[if_pos m,m]
  ·rw[if_neg m];refine(zP (e:=c) s (s.filter _) (λa u=>?_) z m).symm;rw[Nc];refine⟨λh=>h.1,λh=>⟨h,?_⟩⟩;rw[bne_iff_ne];exact λd=>u (GP r ((g a).2 h) i (d.trans l.symm))
 rw[J]at T;refine⟨n,o,p,q,_,T,λa=>?_,O,?_⟩
 ·rw[Nc,Nc,g]
 ·funext b;unfold qL;rw[B,C]
theorem sJ(t:Nat)(x:Int)(w:MV)(F:Nat->Prop)(L:List af)(h:bQ w t F L):Mo MT 17 #[MQ (N ⟨t,0,S⟩),Q I x] w λe f=>e=MZ (Q I (if(L.any λa=>a.2.id==x)then 0 else 7))/\bQ f t F (L.filter λa=>a.2.id !=x)/\aH F w f:=by
 obtain⟨o,m,p,q,r,T,hm,a1,rfl⟩:=h;obtain⟨a2,K⟩:=UX (if(L.any λa=>a.2.id==x)then 0 else 7:Int);rw[<-K];have a3:=A K;clear K;have CG:=A (zK o p r x w T.mI T.sI);have M:=A T;have g:=A hm;have HL:=A a1;have c0:=T.c0;clear T hm a1;go_enter func17,ntmps17;go_wp2_with fail
 refine CG.o.mono ?_;rintro e w1 ⟨rfl,d⟩;have i:=A (M.o.aD d (MP _));have P:=A d;have d0:=i.o.c0;clear CG d c0;cases C:qH r x with
 |none=>
  rw[nB];have R:=vU C;have s:(L.any λa=>a.2.id==x)=false:=by
   rw[Po];intro a u;simpa using R a ((g.o a).2 u)
  have U:=A s;have a6:L.filter (λa=>a.2.id !=x)=L:=List.filter_eq_self.2 λa u=>by simpa using R a ((g.o a).2 u)
  have d1:=A a6;clear s a6 R C;go_wp2;go_ret;rw[d1.o];have v:=a3.o;rw[U.o]at v;exact⟨by rw[v];rfl,⟨o,m,p,q,r,i.o,g.o,HL.o,rfl⟩,aH.aG P.o⟩
 |some c=>
  rw[nA];obtain⟨D,E⟩:=vT C;obtain⟨k,d2,hk⟩:=tM c.2;have s:(L.any λa=>a.2.id==x)=true:=P7.2 ⟨c,(g.o c).1 D,by simpa using E⟩;have U:=A s;have a8:=A (IC o p r x w1 i.o.mI i.o.sI i.o.hI ⟨c,D,E⟩);have G:=A D;have HX:=A E;have HK:=A hk;clear s D E hk C;go_wp2_with fail
  refine a8.o.mono ?_;rintro e l ⟨rfl,d4,m1,b3,o1,H⟩;have n:=A (i.o.KY H m1 (i.o.sI.filter _) b3);have C2:aA (aH (qL t o m p q) w l):=A ((aH.aG P.o).trans (H.mono λb _ d=>MX (Mf d)));have O1:=A o1;have g3:=aH.size H;have g1:=n.o.c1;have z:ak l c.1 c.2:=(n.o.ent c ((g.o c).1 G.o)).1;have b6:=(n.o.ent c ((g.o c).1 G.o)).2;have CR:=A λ(W:MV) (d:Mb l.heap.size l W)=>o4 c.1 c.2 W (z.aD d z.lt);have CD:=A λ(W:MV) (d:Mb l.heap.size l W)=>(IA m q L c.2.pr c.2.id W (n.o.aD d (MP _)).mR (n.o.aD d (MP _)).sR (n.o.aD d (MP _)).hR ⟨c,(g.o c).1 G.o,rfl,rfl⟩).mono
   (R':=λe f=>e=MZ (.bool true)/\f.cell? ⟨t,1,S⟩=N (MQ (N ⟨m,0,S⟩))/\ak f c.1 c.2/\aH (qL t o m p q) w f/\∃B,aa f t o m d4 B (r.filter λa=>a.2.id !=x) (L.filter λa=>!(a.2.pr==c.2.pr&&a.2.id==c.2.id)) (λj=>qy j L)/\B.ownBlock=q.ownBlock) (by
    rintro e f ⟨rfl,B,m2,e4,o2,V⟩;have J:=n.o.aD d (MP _);have T3:=J.FP V m2 (J.sR.filter _) e4 (λa u=>J.ent a (Nc.1 u).1);exact⟨rfl,T3.c1,(z.aD d z.lt).kept V.block (λy hy=>J.oZ hy),C2.o.trans ((aH.aG d).trans (V.mono λb _ d=>MX (MX d))),B,T3,o2⟩)
  have e7:=A b6;clear a8 m1 b3 o1 H z b6 i P;go_wp2_with fail
  go_region_held3 (λf=>f.cell? ⟨t,1,S⟩=N (MQ (N ⟨m,0,S⟩))) (go_keep)
   (first
    |(go_at_call 43;refine(CR.o _ ?_).mono ?_;(exact(MU _ l).drew);rintro e w3 ⟨rfl,X⟩;have k3:=MW X g1;have B3:=A X;clear X)
    |(go_at_call 49;refine(CD.o _ ?_).mono ?_;(exact((MU _ l).drew).trans B3.o);rintro e w4 ⟨rfl,k4,c1,c2,B,c3,c4⟩;have E4:=A c1;have C4:=A c2;have T4:=A c3;have O4:=A c4;clear c1 c2 c3 c4))
  have Y:=tN c.1 c.2 w4 T4.o.laid E4.o e7.o;rw[HK.o]at Y;have f6:=A Y;clear Y k4 k3 g1;go_wp2_with fail
  refine f6.o.mono ?_;rintro e w5 ⟨rfl,Z⟩;have T5:=A (T4.o.aD Z (MP _));have B5:=A Z;clear Z;go_wp2_with fail
  refine(T5.o.vg k d2).mono ?_;rintro e w6 ⟨rfl,c6,c7⟩;have T6:=A c6;have C6:=A c7;clear c6 c7;go_wp2;go_ret;have v:=a3.o;rw[U.o]at v;exact⟨by rw[v];rfl,Iu g.o HL.o M.o.sI M.o.sR G.o HX.o HK.o O1.o O4.o T6.o,C4.o.trans ((aH.aG B5.o).trans (C6.o.mono λb _ d=>Mf d))⟩
section
def ah(L:List af)(r:Rl):Int:=if r.ok then(if(L.any λa=>a.2.id==r.id)then 5 else if 200<=L.length then 6 else 0)else 4
def go(w c:MV)(t:Nat)(F:Nat->Prop)(L:List af)(r:Rl):Prop:=
 ∃d a,bQ c t d a/\(∀x,d x->F x\/w.heap.size<=x)/\aH F w c/\(if ah L r=0 then∃b,(∀x,x∈a↔x=(b,r)\/x∈L)/\a.length=L.length+1 else a=L)
theorem bQ.still(h:bQ w t F L)(b:Mb w.heap.size w a):bQ a t F L:=by
 obtain⟨c,d,e,f,g,T,i,j,rfl⟩:=h;exact⟨c,d,e,f,g,T.aD b (MP _),i,j,rfl⟩
theorem go.still(h:bQ w t F L)(b:Mb w.heap.size w a)(c:ah L r≠0):go w a t F L r:=
 ⟨F,L,h.still b,λ_ d=>Mf d,aH.aG b,by rw[if_neg c]⟩
theorem aO{b:Nat}{c:List Ma}(h:w.rangeAt b o c)(e:Mb w.heap.size w a):a.rangeAt b o c:=λj v d=>(e.cell (p:=⟨b,o+j,S⟩) (MO (h j v d))).trans (h j v d)
theorem It{g:MV}{d:Nat}{s i:Ma}{m n:List af}(v:∀a,a∈m↔a∈L)(K:m.length=L.length)(y:cC L)(z:r.jt=k)(B:∀a,a∈n↔a=(o,r)\/a∈m)(M:n.length=m.length+1)(u:∀a,a∈c↔a=(o,r)\/a∈L)(C:c.length=L.length+1)(D:∀b,i.ownBlock=N b->q.ownBlock=N b\/g.heap.size<=b)(E:∀b,l.ownBlock=N b->s.ownBlock=N b\/g.heap.size<=b)(F:aH (qL t d f q s) g w)(G:ah L r=0)(T:aa w t d f i l n c (λj=>if j=k then qy k c else qy j L)):go g w t (qL t d f q s) L r:=by
 have H:(λj=>if j=k then qy k c else qy j L)=λ(j:Nat)=>qy j c:=by
  funext j;by_cases p:j=k
  ·rw[if_pos p,p]
  ·rw[if_neg p];exact(zP (e:=(o,r)) y T.sR (λa J=>by rw[u];exact⟨λh=>h.resolve_left J,MX⟩) z p).symm
 rw[H]at T;refine⟨qL t d f i l,c,⟨d,f,i,l,n,T,λa=>by rw[B,u,v],O,rfl⟩,?_,F,?_⟩
 ·rintro x (h|(h|h)|(h|h))
  ·exact Mf (Mf h)
  ·exact Mf (MX (Mf (Mf h)))
  ·exact(D x h).imp (λh=>MX (Mf (MX h))) id
  ·exact Mf (MX (MX (Mf h)))
  ·exact(E x h).imp (λh=>MX (MX (MX h))) id
 ·rw[if_pos G];exact⟨o,u,C⟩
attribute [local go_sem] aI
theorem ka(t:Nat)(r:Rl)(w:MV)(F:Nat->Prop)(L:List af)(h:bQ w t F L):Mo MT 15 #[MQ (N ⟨t,0,S⟩),M1 #[Q I r.id,Q I r.pr,Q I r.k0,Q I r.v0,Q I r.m0,Q I r.k1,Q I r.v1,Q I r.m1,Q I r.k2,Q I r.v2,Q I r.m2,Q I r.k3,Q I r.v3,Q I r.m3,Q I r.k4,Q I r.v4,Q I r.m4,Q I r.ac,Q I r.po]] w λe f=>e=MZ (Q I (ah L r))/\go w f t F L r:=by
 obtain⟨dr,d4,d5⟩:=dJ;have Z:=A h;obtain⟨i,s,k3,K,g,T,hm,e2,rfl⟩:=h;obtain⟨e3,b3⟩:=UX (ah L r:Int);have a0:=A b3;rw[<-b3];clear b3;obtain⟨v,M⟩:=UX (w.alloc (MY #[Q I r.id,Q I r.pr,Q I r.k0,Q I r.v0,Q I r.m0,Q I r.k1,Q I r.v1,Q I r.m1,Q I r.k2,Q I r.v2,Q I r.m2,Q I r.k3,Q I r.v3,Q I r.m3,Q I r.k4,Q I r.v4,Q I r.m4,Q I r.ac,Q I r.po] 37));have b4:=UY M;have r0:v.heap.size=w.heap.size+1:=by rw[M];exact aZ _ _
 have e4:v.rangeAt w.heap.size 0 [Q I r.id,Q I r.pr,Q I r.k0,Q I r.v0,Q I r.m0,Q I r.k1,Q I r.v1,Q I r.m1,Q I r.k2,Q I r.v2,Q I r.m2,Q I r.k3,Q I r.v3,Q I r.m3,Q I r.k4,Q I r.v4,Q I r.m4,Q I r.ac,Q I r.po]:=by rw[M];exact aN _ _ _
 have T0:=T.aD b4 (MP _);have CI:=A (Bi r.id r.pr r.k0 r.v0 r.m0 r.k1 r.v1 r.m1 r.k2 r.v2 r.m2 r.k3 r.v3 r.m3 r.k4 r.v4 r.m4 r.ac r.po v T0.laid);have HT:=A T;have e6:=A T0;have HM:=A hm;have HL:=A e2;have e7:=A M;have e8:=A b4;have f0:=A e4;have r1:t<w.heap.size:=MO T.c0;clear T T0 hm e2 M b4 e4;go_enter func15,ntmps15;go_wp2_with (first|(refine Sb rfl 37 _ rfl w.heap.size 0 rfl [Q I r.id,Q I r.pr,Q I r.k0,Q I r.v0,Q I r.m0,Q I r.k1,Q I r.v1,Q I r.m1,Q I r.k2,Q I r.v2,Q I r.m2,Q I r.k3,Q I r.v3,Q I r.m3,Q I r.k4,Q I r.v4,Q I r.m4,Q I r.ac,Q I r.po] dr (aN _ _ _) d4 d5 ay ?_))
 rw[<-e7.o];refine CI.o.mono ?_;rintro e P ⟨rfl,R⟩;have f2:fM r.id r.pr r.k0 r.v0 r.m0 r.k1 r.v1 r.m1 r.k2 r.v2 r.m2 r.k3 r.v3 r.m3 r.k4 r.v4 r.m4 r.ac r.po=r.ok:=rfl;rw[f2];have B1:=A (e8.o.trans (R.mono O));have U:=A (e6.o.aD R (MP _));have R1:=A (aO f0.o R);have r2:=R.size;clear CI R f2 f0 e6 e7 e8;cases x:r.ok with
 |false=>
  go_wp2;go_ret;have j:=a0.o;have l:ah L r=4:=by unfold ah;rw[x];rfl
  rw[l]at j;exact⟨by rw[j];rfl,go.still Z.o B1.o (by rw[l];decide)⟩
 |true=>
  have CG:=A (λd os=>zK i k3 g r.id (grow (redrawn P d) os) (U.o.aD (below_regrown P d os) (MP _)).mI U.o.sI);have d0:=U.o.c0;have i0:P.cell? ⟨w.heap.size,0,S⟩=N (Q I r.id):=R1.o 0 _ rfl;have r3:t<P.heap.size:=O;have r4:w.heap.size<P.heap.size:=O;go_wp2_with fail
  refine wp_region_quiet_below UR UR ?_
  repeat(quiet_step (exact Calls.regrown_of (CG.o _ _)))
  refine wpQuiet_nil ?_;intro wq n;replace n:=aE n;obtain⟨k9,l0⟩:=aW n;have r5:=n.size;have z:=A (U.o.aD n (MP _));have B2:=A (B1.o.trans (n.mono B1.o.size));have R2:=A (aO R1.o n);clear CG d0 i0 k9 l0 n U B1 R1;cases hf:qH g r.id with
  |some e1=>
   rw[nA];obtain⟨h1,hx⟩:=vT hf;have l:ah L r=5:=by
    unfold ah;rw[x,if_pos rfl,if_pos (P7.2 ⟨e1,(HM.o e1).1 h1,by simpa using hx⟩)]
   have o:=A l;clear l h1 hx;go_wp2;go_ret;have j:=a0.o;rw[o.o]at j;exact⟨by rw[j];rfl,go.still Z.o B2.o (by rw[o.o];decide)⟩
  |none=>
   rw[nB];have c0:=vU hf;have f8:(L.any λa=>a.2.id==r.id)=false:=by
    rw[Po];intro a V;simpa using c0 a ((HM.o a).2 V)
   have l3:=A c0;have HF:=A hf;have f9:=A f8;clear c0 hf f8;have e0:=z.o.c0;have f1:=z.o.mI.2.1;obtain⟨sa,c3,sg,l6,l7⟩:=ie z.o.mI.2.2.1;clear l7;subst l6;by_cases g0:200<=g.length
   ·have l:ah L r=6:=by
     unfold ah;rw[x,if_pos rfl,f9.o,if_neg US,if_pos (by rw[<-HL.o];exact g0)]
    have o:=A l;have l8:(200:Int)<=g.length:=O;clear l;go_wp2_with (first|(go_at_call 39;refine(yt i sa g.length c3 _ f1).mono ?_;rintro e f ⟨rfl,X⟩;rw[X];clear X))
    go_ret;have j:=a0.o;rw[o.o]at j;exact⟨by rw[j];rfl,go.still Z.o B2.o (by rw[o.o];decide)⟩
   ·have l:ah L r=0:=by
     unfold ah;rw[x,if_pos rfl,f9.o,if_neg US,if_neg (by rw[<-HL.o];exact g0)]
    have o:=A l;have l8:¬((200:Int)<=g.length):=O;have s0:(g.length:Int)<200:=O;have CE:=A (xF r wq z.o.laid);clear l;go_wp2_with (first|(go_at_call 39;refine(yt i sa g.length c3 _ f1).mono ?_;rintro e f ⟨rfl,X⟩;rw[X];clear X)|(refine Sb rfl 37 _ rfl w.heap.size 0 rfl [Q I r.id,Q I r.pr,Q I r.k0,Q I r.v0,Q I r.m0,Q I r.k1,Q I r.v1,Q I r.m1,Q I r.k2,Q I r.v2,Q I r.m2,Q I r.k3,Q I r.v3,Q I r.m3,Q I r.k4,Q I r.v4,Q I r.m4,Q I r.ac,Q I r.po] dr R2.o d4 d5 ay ?_)|(go_at_call 40;refine CE.o.mono ?_;rintro e w3 ⟨rfl,g3,g4⟩;have E3:=A g3;have B3:=A g4;clear g3 g4))
    obtain⟨m,g5⟩:=UX (wq.heap.size+1);rw[<-g5]at E3⊢;obtain⟨B,c6⟩:=UX (MR sa g.length c3);rw[<-c6]at Z HT z;have m0:=A c6;have C:=A (z.o.aD B3.o (MP _));have g6:=A (B2.o.trans (B3.o.mono B2.o.size));have i3:w3.cell? ⟨w.heap.size,0,S⟩=N (Q I r.id):=(aO R2.o B3.o) 0 _ rfl;have j0:=C.o.c0;obtain⟨k,m3,hk⟩:=tM r;have HK:=A hk;have h0:=A λ(W:MV) (c:Mb w3.heap.size w3 W)=>(F8 i B g (m,r) W (C.o.aD c (MP _)).mI C.o.sI (C.o.aD c (MP _)).hI HF.o O).mono
     (R':=λe f=>e=MZ (Nn #[])/\f.cell? ⟨t,0,S⟩=N (MQ (N ⟨i,0,S⟩))/\f.cell? ⟨w.heap.size,0,S⟩=N (Q I r.id)/\∃D u,aa f t i s D K u L (λh=>qy h L)/\ak f m r/\aH (qL t i s B K) w f/\(∀a,a∈u↔a=(m,r)\/a∈g)/\u.length=g.length+1/\∀b,D.ownBlock=N b->B.ownBlock=N b\/w.heap.size<=b) (by
      rintro e f ⟨rfl,D,u,m1,s1,m6,n0,l1,o1,a9⟩;have E:=C.o.aD c (MP _);have n3:=g6.o.size;have n4:=c.size;have q:=E.KY a9 m1 s1 m6;refine⟨rfl,q.c0,?_,D,u,q,(E3.o.aD c E3.o.lt).kept a9.block (λy G=>E.rj G),(aH.aG (g6.o.trans (c.mono n3))).trans (a9.mono λb _ c=>MX (Mf c)),n0,l1,λb c7=>(o1 b c7).imp id (λh=>O)⟩;refine a9.block.cell ?_ ((c.cell (p:=⟨w.heap.size,0,S⟩) (MO i3)).trans i3);rintro(G|G)
      ·have:i<w.heap.size:=MO HT.o.mI.1;omega
      ·have:=HT.o.hI.lt G;omega)
    clear CE f1 g5 c6 hk R2 e0;go_wp2_with fail
    go_region_held3 (λf=>f.cell? ⟨t,0,S⟩=N (MQ (N ⟨i,0,S⟩))/\f.cell? ⟨w.heap.size,0,S⟩=N (Q I r.id)) (go_keep)
     (first|(go_at_call 41;refine(h0.o _ ?_).mono ?_;(exact(MU _ w3).drew);rintro e H ⟨rfl,k0,k1,D,u,h2,h3,h4,h5,h6,h7⟩;have q:=A h2;have E4:=A h3;have C4:=A h4;have M4:=A h5;have L4:=A h6;have O4:=A h7;clear h2 h3 h4 h5 h6 h7))
    have s4:=C4.o.size;have g1:=q.o.c1;have CR:=A λ(W:MV) (c:Mb H.heap.size H W)=>o4 m r W (E4.o.aD c E4.o.lt);have i2:=A λ(W:MV) (c:Mb H.heap.size H W)=>(F5 s K L (m,r) W (q.o.aD c (MP _)).mR q.o.sR (q.o.aD c (MP _)).hR (λa V hx=>l3.o a ((HM.o a).2 V) hx.2) (by have:=HL.o;omega)).mono
     (R':=λe f=>e=MZ (Nn #[])/\f.cell? ⟨t,1,S⟩=N (MQ (N ⟨s,0,S⟩))/\∃Y J,aa f t i s D Y u J (λh=>qy h L)/\ak f m r/\aH (qL t i s B K) w f/\(∀a,a∈J↔a=(m,r)\/a∈L)/\J.length=L.length+1/\∀b,Y.ownBlock=N b->K.ownBlock=N b\/w.heap.size<=b) (by
      rintro e f ⟨rfl,Y,J,m2,s2,o8,i4,l2,o2,c8⟩;have E:=q.o.aD c (MP _);have n4:=c.size;have EW:=E4.o.aD c E4.o.lt;have T5:=E.FP c8 m2 s2 o8 (λa V=>by
       rcases(i4 a).1 V with rfl|p1
       ·exact⟨EW,x⟩
       ·exact E.ent a p1)
      exact⟨rfl,T5.c1,Y,J,T5,EW.kept c8.block (λy G=>E.oZ G),C4.o.trans ((aH.aG c).trans (c8.mono λb _ c=>MX (MX c))),i4,l2,λb c7=>(o2 b c7).imp id (λh=>O)⟩)
    clear h0 C k0 k1;go_wp2_with fail
    go_region_held3 (λf=>f.cell? ⟨t,1,S⟩=N (MQ (N ⟨s,0,S⟩))) (go_keep)
     (first
      |(go_at_call 43;refine(CR.o _ ?_).mono ?_;(exact(MU _ H).drew);rintro e w5 ⟨rfl,c9⟩;have k5:=MW c9 g1;have B5:=A c9;clear c9)
      |(go_at_call 42;refine(i2.o _ ?_).mono ?_;(exact((MU _ H).drew).trans B5.o);rintro e w6 ⟨rfl,k6,Y,J,i8,i9,j1,j2,j3,j4⟩;have T6:=A i8;have E6:=A i9;have C6:=A j1;have M6:=A j2;have L6:=A j3;have O6:=A j4;clear i8 i9 j1 j2 j3 j4))
    have CH:=tN m r w6 T6.o.laid E6.o x;rw[HK.o]at CH;have q4:=A CH;clear CH k6 k5 g1 CR i2;go_wp2_with fail
    refine q4.o.mono ?_;rintro e w7 ⟨rfl,d2⟩;have T7:=A (T6.o.aD d2 (MP _));have B7:=A d2;clear d2;go_wp2_with fail
    refine(T7.o.vg k m3).mono ?_;rintro e w8 ⟨rfl,j6,k2⟩;have T8:=A j6;have C8:=A k2;clear j6 k2;go_wp2;go_ret;have j:=a0.o;rw[o.o]at j;have hS:=m0.o;subst hS;exact⟨by rw[j];rfl,It HM.o HL.o HT.o.sR HK.o M4.o L4.o M6.o L6.o O4.o O6.o (C6.o.trans ((aH.aG B7.o).trans (C8.o.mono λb _ c=>Mf c))) o.o T8.o⟩
end
theorem Ew(t:Nat)(a b c d f:Int)(w:MV)(g:cP w)(h:iE a b c d f=false):Mo MT 16 #[MQ (N ⟨t,0,S⟩),M1 #[Q I a,Q I b,Q I c,Q I d,Q I f]] w λe i=>e=MZ (Nn #[Q I 0,Q I 4])/\Mb w.heap.size w i:=by
 go_enter func16,ntmps16;go_wp2_with fail
 refine(vI _ _ _ _ _ _ (g.aD ((MU _ _).alloc (MP _) _) g.uE)).mono ?_;rintro e k ⟨rfl,j⟩;rw[h];go_wp2;go_ret2;exact⟨rfl,Below.trans UQ (j.mono SZ)⟩
def cD(L:List af)(d f g h i:Int)(a b:Int):Prop:=
 if iE d f g h i=true then∃c,iT (λe=>e∈L) d f g h i c/\a=(match c with|some r=>r.2.id|none=>0)/\b=(match c with|some _=>0|none=>7)else a=0/\b=4
theorem uh(t:Nat)(d f g i j:Int)(w:MV)(F:Nat->Prop)(L:List af)(h:bQ w t F L):Mo MT 16 #[MQ (N ⟨t,0,S⟩),M1 #[Q I d,Q I f,Q I g,Q I i,Q I j]] w λe p=>∃a b,e=MZ (Nn #[Q I a,Q I b])/\cD L d f g i j a b/\Mb w.heap.size w p:=by
 obtain⟨z,B,C,D,E,T,G,H,rfl⟩:=h;by_cases l:iE d f g i j=true
 ·have s:∀h:Nat,∃m,h<6->w.cell? ⟨t,2+h,S⟩=N (MQ (N ⟨m,0,S⟩))/\eC w 12 m (qy h L):=λh=>by
   by_cases n:h<6
   ·obtain⟨m,c⟩:=T.tree h n;exact⟨m,λ_=>c⟩
   ·exact⟨0,λh=>absurd h n⟩
  have:=Classical.axiomOfChoice s;obtain⟨m,r⟩:=this;refine(Ht t d f g i j w T.laid l m (λh=>qy h L) (λh n=>(r h n).1) (λh n=>⟨(r h n).2,T.sR.filter _,Nat.le_trans (List.length_filter_le _ _) T.mR.2.2.2.2,λe o=>T.ent e (Nc.1 o).1⟩)).mono ?_;rintro e p ⟨u,v,rfl,q⟩;refine⟨_,_,rfl,?_,q⟩;unfold cD;rw[if_pos l];refine⟨u,v.rm λe=>⟨λ⟨h,_,o⟩=>(Nc.1 o).1,λo=>?_⟩,rfl,rfl⟩;obtain⟨k,x,l⟩:=tM e.2;exact⟨k,x,Nc.2 ⟨o,by simp[l]⟩⟩
 ·have y:iE d f g i j=false:=by simpa using l
  refine(Ew t d f g i j w T.laid y).mono ?_;rintro e p ⟨rfl,q⟩;refine⟨0,4,rfl,?_,q⟩;unfold cD;rw[if_neg l];exact⟨rfl,rfl⟩
structure lA (w:MV) (t b1 b2 k:Nat):Prop where
 laid:cP w
 c0:w.cell? ⟨t,0,S⟩=N (MQ (N ⟨b1,0,S⟩))
 c1:w.cell? ⟨t,1,S⟩=N (MQ (N ⟨b2,0,S⟩))
 tf:∀j,w.frozen? ⟨t,j,S⟩=false
 mI:oV w b1 (MR S 0 0) []
 mR:nN w b2 (MR S 0 0) []
 raw:∀h,h<6->∃p,w.cell? ⟨t,2+h,S⟩=N (MQ p)
 tree:∀h,h<k->∃tb,w.cell? ⟨t,2+h,S⟩=N (MQ (N ⟨tb,0,S⟩))/\eC w 12 tb []
theorem vO(w:MV):jM w (MR S 0 0):=λ_ h=>by cases h
theorem vN(w:MV):jL w (MR S 0 0):=λ_ h=>by cases h
theorem lA.vg(h:lA w t f i k)(o:k<6):Mo MT 36 #[MQ (N ⟨t,0,S⟩),Q I k] w λe m=>e=MZ (Nn #[])/\lA m t f i (k+1)/\aH (λx=>x=t) w m:=by
 have q:dB w t:=Mf ⟨f,_,_,_,_,h.c0,h.c1,h.mI.1⟩;have r:∀x,x=t->dB w x:=λx s=>s▸q;have u:f≠t:=by
  rintro rfl;have:=h.mI.1;rw[h.c0]at this;cases this
 have v:i≠t:=by
  rintro rfl;have:=h.mR.1;rw[h.c0]at this;cases this
 refine(sY t i k o (MR S 0 0) w h.laid [] (by simp) h.c1 h.mR.2.1 ⟨S,0,rfl,λj l=>by simp at l⟩ (h.raw k o) h.tf q).mono ?_;rintro e m ⟨rfl,b,y,d,a,z⟩;refine⟨rfl,⟨h.laid.kept d.block r,(a 0).trans ((if_neg O).trans h.c0),(a 1).trans ((if_neg O).trans h.c1),λj=>(z j).trans (h.tf j),h.mI.chg (vO w) d u (λg n=>by cases n),h.mR.chg (vN w) d v (λg n=>by cases n),λj l=>?_,λj l=>?_⟩,d⟩
 ·by_cases B:j=k
  ·exact⟨_,(a _).trans (if_pos O)⟩
  ·obtain⟨p,c⟩:=h.raw j l;exact⟨p,(a _).trans ((if_neg O).trans c)⟩
 ·by_cases B:j=k
  ·exact⟨b,(a _).trans (if_pos O),y⟩
  ·obtain⟨C,c,T⟩:=h.tree j O;exact⟨C,(a _).trans ((if_neg O).trans c),T.kept d.block r⟩
theorem lA.AN{a b:Nat}(h:lA w t a b 6):bQ w t (qL t a b (MR S 0 0) (MR S 0 0)) []:=
 ⟨a,b,MR S 0 0,MR S 0 0,[],⟨h.laid,h.c0,h.c1,h.tf,h.mI,List.Pairwise.nil,vO w,h.mR,List.Pairwise.nil,vN w,(λe c=>by cases c),h.tree⟩,λ_=>Iff.rfl,rfl,rfl⟩
theorem lA.oX(w:MV)(u:cP w)(f g l:TypeId):lA (((w.alloc (MY #[Nm (.func 33) #[] #[],MR S 0 0] f)).alloc (MY #[Nm (.func 35) #[] #[],MR S 0 0] g)).alloc (MY #[MQ (N ⟨w.heap.size,0,S⟩),MQ (N ⟨w.heap.size+1,0,S⟩),MQ S,MQ S,MQ S,MQ S,MQ S,MQ S] l)) (w.heap.size+1+1) w.heap.size (w.heap.size+1) 0:=by
 obtain⟨a,i⟩:=UX (w.alloc (MY #[Nm (.func 33) #[] #[],MR S 0 0] f));rw[<-i];have v:a.heap.size=w.heap.size+1:=by rw[i];exact aZ _ _
 have y:a.heap[w.heap.size]?=N (MY #[Nm (.func 33) #[] #[],MR S 0 0] f (0,0)):=by rw[i];exact bI _ _
 have z:=UY i;obtain⟨c,k⟩:=UX (a.alloc (MY #[Nm (.func 35) #[] #[],MR S 0 0] g));rw[<-k];have B:c.heap.size=w.heap.size+1+1:=by rw[k,aZ,v]
 have C:c.heap[w.heap.size+1]?=N (MY #[Nm (.func 35) #[] #[],MR S 0 0] g (0,0)):=by rw[k,<-v];exact bI _ _
 have x:=UY k;obtain⟨e,m⟩:=UX (c.alloc (MY #[MQ (N ⟨w.heap.size,0,S⟩),MQ (N ⟨w.heap.size+1,0,S⟩),MQ S,MQ S,MQ S,MQ S,MQ S,MQ S] l));rw[<-m];have d:e.heap[w.heap.size+1+1]?=N (MY #[MQ (N ⟨w.heap.size,0,S⟩),MQ (N ⟨w.heap.size+1,0,S⟩),MQ S,MQ S,MQ S,MQ S,MQ S,MQ S] l (0,0)):=by rw[m,<-B];exact bI _ _
 have o:=UY m;have p:e.heap[w.heap.size]?=N (MY #[Nm (.func 33) #[] #[],MR S 0 0] f (0,0)):=(o.block _ O).trans ((x.block _ O).trans y);have q:e.heap[w.heap.size+1]?=N (MY #[Nm (.func 35) #[] #[],MR S 0 0] g (0,0)):=(o.block _ O).trans C;have r:∀{b:Nat} {D:Array Ma} {t:TypeId},e.heap[b]?=N (MY D t (0,0))->∀j,e.frozen? ⟨b,j,S⟩=false:=λh j=>by simp[Nz,h]
 refine⟨((u.aD z u.uE).aD x O).aD o O,aM d rfl,aM d rfl,r d,⟨aM p rfl,aM p rfl,⟨rfl,Mf ⟨rfl,rfl⟩⟩,r p,by simp⟩,⟨aM q rfl,aM q rfl,⟨rfl,Mf ⟨rfl,rfl⟩⟩,r q,by simp⟩,λh s=>?_,λh s=>absurd s O⟩;match h,s with
 |0,_=>exact⟨_,aM d rfl⟩
 |1,_=>exact⟨_,aM d rfl⟩
 |2,_=>exact⟨_,aM d rfl⟩
 |3,_=>exact⟨_,aM d rfl⟩
 |4,_=>exact⟨_,aM d rfl⟩
 |5,_=>exact⟨_,aM d rfl⟩
 |n+6,h=>exact absurd h O
theorem oj(w:MV)(g:cP w):Mo MT 14 #[] w λe a=>∃t F,e=MZ (MQ (N ⟨t,0,S⟩))/\bQ a t F []/\(∀x,F x->w.heap.size<=x)/\Mb w.heap.size w a:=by
 have f:=A (lA.oX w g 169 172 106);clear g;go_enter func14,ntmps14;go_wp2_with (first|(go_at_call 32;refine(GU _).mono ?_;rintro e a ⟨rfl,rfl⟩)|(go_at_call 34;refine(GS _).mono ?_;rintro e a ⟨rfl,rfl⟩))
 go_loopw [7] (λi wr=>∃k:Nat,k<=6/\i=Q I k/\Mb w.heap.size w wr/\lA wr (w.heap.size+1+1) w.heap.size (w.heap.size+1) k) (λi _=>6- (intOf i).toNat)
 case atStart=>exact⟨0,O,rfl,UQ,f.o⟩
 case round=>
  obtain⟨k,r,rfl,b,c⟩:=hrel;by_cases m:k<6
  ·have n:=A (c.vg m);have s:(k:Int)<6:=O;have d:=A b;clear b c f;go_wp2_with (first|(go_at_call 36;refine n.o.mono ?_;rintro e u ⟨rfl,j,l⟩;have o:=A j;have p:=A l;clear j l))
   go_roundw
   case rel=>exact⟨k+1,O,by go_num,d.o.trans (p.o.aD d.o.size (λx v=>O)),o.o⟩
   case measure=>simp[intOf];omega
  ·obtain rfl:k=6:=by omega
   have q:=A c;have d:=A b;clear b c f;go_wp2;go_ret;refine⟨_,_,rfl,q.o.AN,?_,d.o⟩;rintro x (h|(h|h)|(h|h))
   ·omega
   ·omega
   ·cases h
   ·omega
   ·cases h
end Go.Proofs.YtnjalelblbjfiaaGreatDoor
