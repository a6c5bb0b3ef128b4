import Derived.Test.YtnjalelblbjfiaaGreatDoorP16
import Derived.Test.YtnjalelblbjfiaaGreatDoorP7
namespace Go.Proofs.YtnjalelblbjfiaaGreatDoor
set_option maxRecDepth 100000
set_option maxHeartbeats 16000000
open Go.RowKit
open Go.Proofs.Tryz
open Go.Sort (grow)
open Bool renaming false→Md,and_eq_true→NH,not_eq_true→NB,true→Mk
open Decidable renaming decide→M9
open Go renaming World→MV,Value→Ma,block_lt_of_cell→MO,heap_setCell_same→Mn,Calls→Mo,cell_later→MW,bodyPost_ret→NQ,results_none→Rc,callsIn_of_wp→Sp
open Go.Ending renaming returned→MZ
open Go.IntKind renaming i64→I
open Go.Obj renaming cells→MY
open Go.Proofs.Tryz renaming prog→MT,func57→Ri
open Go.RowKit renaming Below→Mb
open Go.RowKit.Below renaming refl→MU
open Go.Value renaming slice→MR,int→Q,ownBlock→NF,string→MS,pointer→MQ,agg→M1,tuple→Nn,bool→M0,func→Nm
open Go.World renaming frozen?→Nz,cell?_of_block→Mj,frozen?_of_block→NJ,frozen?_setCell→Ni
open List renaming mem_cons→Nk,take_append_drop→Np,length_take→Mh,length_set→Mw,getElem_of_mem→Mt,getElem_mem→Ms,pairwise_iff_getElem→Mr,getElem_set→OA,length_map→ND,size_toArray→NY,length_cons→N6,length_nil→OH,push_toArray→Ot,append_toArray→Om,nil_append→O3,cons_append→Ov,pairwise_cons→PJ,mem_cons_of_mem→PB
open Nat renaming min_eq_left→Oo,lt_or_ge→N8,le_refl→MP,le_succ→Se,le_trans→Mx,lt_of_lt_of_le→Mi,zero_le→NG
open Option renaming none→S,some→N,isSome_none→Rh
open Or renaming inr→MX,inl→Mf
open _root_.Array renaming replicate_succ→Of,replicate_zero→Og
variable {K:List Mc}{P:List b7}{W c w wr:MV}{a d v:Ma}{B b g i j k m n s:Nat}{p:Pg}{t:TypeId}
def lu(w:MV)(m:Nat)(a:Ma)(K:List Mc):Prop:=IZ w m a K/\(K=[]->a=MR S 0 0)
theorem lu.fB(h:lu w m d K)(c:d.ownBlock=N g):(∃v,w.cell? ⟨g,0,S⟩=N (Q I v))/\g<w.heap.size/\m≠g:=by
 have f:0<K.length:=by
  rcases Nat.eq_zero_or_pos K.length with e|e
  ·rw[h.2 (List.eq_nil_of_length_eq_zero e)]at c;cases c
  ·exact e
 obtain⟨a,k,i,rfl,j⟩:=fN h.1.2.2.1;obtain⟨rfl,b,_⟩:=j 0 f;obtain rfl:i=g:=by simpa[NF]using c
 rw[Nat.zero_mul]at b;refine⟨⟨_,b⟩,MO b,?_⟩;rintro rfl;have:=h.1.1;rw[b]at this;cases this
theorem lu.aD{a:MV}{b:Ma}(h:lu w m b K)(c:Mb w.heap.size w a):lu a m b K:=⟨h.1.aD c,h.2⟩
theorem yB(K:List Mc):∀u∈fH K,u.oneCell'=true:=by
 intro u a;obtain⟨r,_,h⟩:=List.mem_flatMap.1 a;simp only[Nk,List.not_mem_nil,or_false]at h;rcases h with h|h|h|h<;>(rw[h];rfl)
theorem D0(K:List Mc)(k:Nat)(a:k<=K.length):(fH K).take (k*4)=fH (K.take k):=by
 have h:=j9 (K.take k) (K.drop k);rw[Np]at h;have b:(fH (K.take k)).length=k*4:=by rw[qh,Mh,Oo a]
 rw[h,<-b,List.take_left]
theorem D3(K:List Mc)(k:Nat)(a:k<=K.length):(fH K).drop (k*4)=fH (K.drop k):=by
 have h:=j9 (K.take k) (K.drop k);rw[Np]at h;have b:(fH (K.take k)).length=k*4:=by rw[qh,Mh,Oo a]
 rw[h,<-b,List.drop_left]
theorem fO{a:Nat}{b:List Ma}(h:w.ownsRow B t s (MR (N ⟨g,0,S⟩) n a) n b)(_hj:j<n*s)(v:Ma):(w.setCell ⟨g,j,S⟩ v).ownsRow B t s (MR (N ⟨g,0,S⟩) n a) n (b.set j v):=by
 refine⟨by rw[Mw];exact h.1,?_⟩;rcases h.2 with⟨e,_⟩|⟨o,p,c,e,d,f,i,k,l,m⟩
 ·cases e
 ·cases e;refine MX ⟨g,a,c.setIfInBounds j v,rfl,d,Mn w g j c t v f,i,k,by simpa using l,?_⟩;rw[Array.toList_setIfInBounds,<-m,List.take_set]
theorem fP{a:Nat}{b:List Ma}(h:w.ownsRow B t s (MR (N ⟨g,0,S⟩) n a) n b)(j:Nat):w.frozen? ⟨g,j,S⟩=false:=by
 rcases h.2 with⟨e,_⟩|⟨d,f,i,e,k,c,l,m,o,p⟩
 ·cases e
 ·cases e;simp[Nz,c]
theorem yA:∀(K:List Mc) (i:Nat) (c:i<K.length) (e:Mc),e.vlan=K[i].vlan->e.mac=K[i].mac->fH (K.set i e)=((fH K).set (i*4+2) (Q I e.port)).set (i*4+3) (Q I e.age)
 |[],i,c,_,_,_=>absurd c (by simp)
 |p::t,0,_,e,d,f=>by
  have a:e.vlan=p.vlan:=d;have b:e.mac=p.mac:=f;simp[fH,a,b]
 |p::t,i+1,c,e,d,f=>by
  have g:=yA t i (by simpa using c) e d f;have h:(i+1)*4+2=(i*4+2)+1+1+1+1:=O;have j:(i+1)*4+3=(i*4+3)+1+1+1+1:=O;rw[h,j];show _::_::_::_::fH (t.set i e)=_;rw[g];rfl
def ua(m:Nat)(d:Ma)(K:List Mc)(a:Mc)(w e:MV):Prop:=
 ∃f c,lu e m f c/\bZ c/\(∀q,q∈c↔q=a\/(q∈K/\bL q a.vlan a.mac≠0))/\c.length=(if(az K a.vlan a.mac).isSome then K.length else K.length+1)/\(∀b,f.ownBlock=N b->d.ownBlock=N b\/w.heap.size<=b)/\aH (λb=>b=m\/d.ownBlock=N b) w e
theorem ua.drew{b:Mc}(h:ua m a K b w c):ua m a K b w c.drew:=by
 obtain⟨d,e,f,g,i,j,k,l⟩:=h;exact⟨d,e,f,g,i,j,k,l.drew⟩
theorem vR{a b:Mc}(h:0<bL a b.vlan b.mac):bL b a.vlan a.mac<0:=by
 unfold bL at*;rw[fw];have e:¬(jK a.vlan a.mac.toList b.vlan b.mac.toList<0):=O;have f:¬(jK a.vlan a.mac.toList b.vlan b.mac.toList=0):=O;rw[fw]at e;rw[gn]at f;rcases Int.lt_trichotomy a.vlan b.vlan with c|c|c
 ·exact absurd (Mf c) e
 ·refine MX ⟨c.symm,?_⟩;rcases nZ a.mac.toList b.mac.toList with d|d|d
  ·exact absurd (MX ⟨c,d⟩) e
  ·exact absurd ⟨c,d⟩ f
  ·exact d
 ·exact Mf c
theorem F7(m:Nat)(a:Option Addr)(k i:Nat)(K:List Mc)(c:Mc)(w d W:MV)(J:lu w m (MR a K.length k) K)(B:bZ K)(hn:K.length<=199)(y:i<=K.length)(C:∀j,j<i->bL (mL K j) c.vlan c.mac<0)(L:∀j,i<=j->j<K.length->0<=bL (mL K j) c.vlan c.mac)(M:¬(i<K.length/\bL (mL K i) c.vlan c.mac=0))(f:Mb w.heap.size w d)(p:Mb d.heap.size d W)(D:W.heap[d.heap.size]?=N (MY #[Q I c.vlan,MS c.mac,Q I c.port,Q I c.age] 308 (0,0))):Mo MT 221 #[MR a K.length k,Q I i,MR (N ⟨d.heap.size,0,S⟩) 1 1] W λe l=>∃n r,e=MZ (MR (N ⟨n,0,S⟩) (K.length+1) r)/\l.cell? ⟨m,1,S⟩=N (MR a K.length k)/\l.frozen? ⟨m,1,S⟩=Md/\(∀b j v,w.heap.size<=b->d.cell? ⟨b,j,S⟩=N v->l.cell? ⟨b,j,S⟩=N v)/\ua m (MR a K.length k) K c w (l.setCell ⟨m,1,S⟩ (MR (N ⟨n,0,S⟩) (K.length+1) r)):=by
 have P:=λg E=>J.fB (g:=g) E;have R:=vW L B M;have a4:az K c.vlan c.mac=none:=by rw[p9 C L B,dif_neg M]
 obtain⟨⟨T,U,h2,h3,h4⟩,_⟩:=J;have a7:m<w.heap.size:=MO T;have V:∀b,(MR a K.length k).ownBlock=N b->m≠b:=λb f=>(P b f).2.2;have z:∀b,(MR a K.length k).ownBlock=N b->b<w.heap.size:=λb f=>(P b f).2.1;have b4:=f.size;have a8:m<d.heap.size:=O;have b5:=p.size;have oW:W.ownsRow 0 308 4 (MR a K.length k) K.length (fH K):=di h2 λb s=>(p.block b (by have:=z b s;omega)).trans (f.block b (z b s));refine(G4 (MR a K.length k) K.length i (fH K) d.heap.size 308 4 [Q I c.vlan,MS c.mac,Q I c.port,Q I c.age] W oW (yB K) y hn rfl
  (λj u o=>aM D o) oc (λs=>by have:d.heap.size<w.heap.size:=z _ s;omega) (by simp[World.shape?,D]) (λj=>by simp[Nz,D])).mono ?_
 rintro e l ⟨n,r,rfl,X,Y,F⟩;have Z:l.heap[m]?=w.heap[m]?:=(F.block m O λh=>V m h rfl).trans ((p.block m a8).trans (f.block m a7));have G:∀j,l.cell? ⟨m,j,S⟩=w.cell? ⟨m,j,S⟩:=λj=>Mj (a:=⟨m,j,S⟩) Z;have a0:∀j,l.frozen? ⟨m,j,S⟩=false:=λj=>(NJ (a:=⟨m,j,S⟩) Z).trans (h3 j);have a1:(K.take i++c::K.drop i).length=K.length+1:=jm c y;have b0:(fH K).take (i*4)++[Q I c.vlan,MS c.mac,Q I c.port,Q I c.age]++(fH K).drop (i*4)=fH (K.take i++c::K.drop i):=by
  rw[D0 K i y,D3 K i y,j9];simp[fH]
 rw[b0]at X;have b1:m≠n:=by
  rcases Y with h|h
  ·exact V _ h
  ·omega
 refine⟨n,r,rfl,(G 1).trans U,a0 1,λb j v s hc=>?_,?_⟩
 ·have b2:b<d.heap.size:=MO hc;exact(Mj (a:=⟨b,j,S⟩) ((F.block b O λh=>by have:=z b h;omega).trans (p.block b b2))).trans hc
 ·refine⟨MR (N ⟨n,0,S⟩) (K.length+1) r,K.take i++c::K.drop i,⟨⟨?_,?_,?_,λj=>?_,O⟩,λe=>by simp at e⟩,?_,λq=>?_,by rw[a1,a4];rfl,?_,?_⟩
  ·rw[World.cell?_setCell_other _ _ _ _ (by simp)];exact(G 0).trans T
  ·exact World.cell?_setCell_same _ _ _ ((G 1).trans U)
  ·rw[a1];refine di X λg E=>?_;obtain rfl:n=g:=by simpa[NF]using E
   exact Below.heap_setCell _ _ _ _ (Ne.symm b1)
  ·rw[Ni];exact a0 j
  ·refine pz i c B (λx t=>?_) (λx t=>?_)
   ·obtain⟨j,o,rfl⟩:=Mt t;rw[Mh]at o;rw[List.getElem_take];have:=C j O;rwa[iM O]at this
   ·obtain⟨j,o,rfl⟩:=Mt t;rw[List.length_drop]at o;rw[List.getElem_drop];have:=R (i+j) O O;rw[iM O]at this;exact vR this
  ·rw[nC];refine or_congr Iff.rfl ⟨λh=>⟨h,?_⟩,λh=>h.1⟩;obtain⟨j,o,rfl⟩:=Mt h;rw[<-iM o];rcases N8 j i with H|H
   ·have:=C j H;omega
   ·have:=R j H o;omega
  ·intro b f;obtain rfl:n=b:=by simpa[NF]using f
   rcases Y with h|h
   ·exact Mf h
   ·exact MX O
  ·refine aH.setCell ?_ (Mf (Mf rfl)) _;exact(aH.aG f).trans ((aH.aG p).trans (F.mono λx _ t=>MX t))
theorem F6{c:Mc}{o:MV}(x:lu w m (MR (N ⟨g,0,S⟩) K.length s) K)(E:bZ K)(d:i<K.length)(p:bL (mL K i) c.vlan c.mac=0)(f:Mb w.heap.size w o):ua m (MR (N ⟨g,0,S⟩) K.length s) K c w ((o.setCell ⟨g,i*4+2,S⟩ (Q I c.port)).setCell ⟨g,i*4+3,S⟩ (Q I c.age)):=by
 obtain⟨_,U,k⟩:=x.fB (g:=g) rfl;have F:=x.aD f;obtain⟨⟨G,H,J,l,L⟩,_⟩:=F;rw[iM d]at p;have r:=p;unfold bL at r;rw[gn]at r;have y:c.vlan=K[i].vlan:=r.1.symm;have z:c.mac=K[i].mac:=(jo r.2).symm;have M:(az K c.vlan c.mac).isSome=true:=by
  rw[az,List.find?_isSome];exact⟨K[i],Ms d,hZ.1 p⟩
 have B:=fO (fO J (j:=i*4+2) O (Q I c.port)) (j:=i*4+3) O (Q I c.age);rw[<-yA K i d c y z]at B;have C:∀j,((o.setCell ⟨g,i*4+2,S⟩ (Q I c.port)).setCell ⟨g,i*4+3,S⟩ (Q I c.age)).cell? ⟨m,j,S⟩=o.cell? ⟨m,j,S⟩:=λj=>by
  rw[cB (Mf (Ne.symm k)),cB (Mf (Ne.symm k))]
 have t:∀q:Mc,bL c q.vlan q.mac=bL K[i] q.vlan q.mac/\bL q c.vlan c.mac=bL q K[i].vlan K[i].mac:=λq=>by
  unfold bL;rw[y,z];exact⟨rfl,rfl⟩
 have n:=Mr.1 E;refine⟨MR (N ⟨g,0,S⟩) K.length s,K.set i c,⟨⟨(C 0).trans G,(C 1).trans H,?_,λj=>by rw[Ni,Ni];exact l j,by rw[Mw];exact L⟩,λe=>?_⟩,?_,λq=>?_,by rw[Mw,if_pos M],λb f=>Mf f,?_⟩
 ·rw[Mw];exact B
 ·have:=congrArg List.length e;rw[Mw]at this;exact absurd d (by rw[this];simp)
 ·refine Mr.2 ?_;intro a b u f P;rw[Mw]at u f;rw[OA,OA];split
  ·rename_i e
   rw[if_neg O];rw[(t _).1];exact n i b d f O
  ·split
   ·rename_i e
    rw[(t _).2];exact n a i u d O
   ·exact n a b u f P
 ·constructor
  ·intro v;obtain⟨j,h,rfl⟩:=Mt v;rw[Mw]at h;rw[OA];split
   ·exact Mf rfl
   ·rename_i k
    refine MX ⟨Ms h,?_⟩;rw[(t _).2];rcases N8 j i with D|D
    ·have:=n j i h d D;omega
    ·have l:=n i j d h O;intro e;unfold bL at l e;rw[gn]at e;rw[e.1,e.2,fw,dt]at l;simp at l
  ·rintro(rfl|⟨v,k⟩)
   ·exact List.mem_set d _
   ·obtain⟨j,h,rfl⟩:=Mt v;have R:i≠j:=by
     rintro rfl;exact k p
    have T:(K.set i c)[j]'(by rw[Mw];exact h)=K[j]:=by rw[OA,if_neg R]
    rw[<-T];exact Ms _
 ·exact aH.setCell (aH.setCell (aH.aG f) (Mf (MX rfl)) _) (Mf (MX rfl)) _
theorem yS(m:Nat)(q:Ma)(K:List Mc)(b:Mc)(w:MV)(j:lu w m q K)(s:bZ K)(V:K.length<=199):Mo MT 199 #[MQ (N ⟨m,0,S⟩),M1 #[Q I b.vlan,MS b.mac],M1 #[Q I b.port,Q I b.age]] w λe X=>e=MZ (Nn #[])/\ua m q K b w X:=by
 have b4:m<w.heap.size:=MO j.1.1;obtain⟨c,k⟩:=UX ((w.alloc (MY #[Q I b.vlan,MS b.mac] 236)).alloc (MY #[Q I b.port,Q I b.age] 238));have t:Mb w.heap.size w c:=by rw[k];exact((MU _ w).alloc (MP _) _).alloc (by rw[aZ];omega) _
 have b5:c.heap.size=w.heap.size+2:=by rw[k,aZ,aZ]
 have u:lu c m q K:=j.aD t;have v:c.heap[w.heap.size]?=N (MY #[Q I b.vlan,MS b.mac] 236 (0,0)):=by
  rw[k];exact(((MU _ (w.alloc (MY #[Q I b.vlan,MS b.mac] 236))).alloc (MP _) _).block _ (by rw[aZ];omega)).trans (bI _ _)
 have x:c.heap[w.heap.size+1]?=N (MY #[Q I b.port,Q I b.age] 238 (0,0)):=by
  rw[k,<-aZ w (MY #[Q I b.vlan,MS b.mac] 236)];exact bI _ _
 have y:c.cell? ⟨w.heap.size,0,S⟩=N (Q I b.vlan):=aM v rfl;have z:c.cell? ⟨w.heap.size,1,S⟩=N (MS b.mac):=aM v rfl;have B:c.cell? ⟨w.heap.size+1,0,S⟩=N (Q I b.port):=aM x rfl;have C:c.cell? ⟨w.heap.size+1,1,S⟩=N (Q I b.age):=aM x rfl;have D:=A (oF m q K b.vlan b.mac c u.1 s);obtain⟨a,Y,g,rfl,M⟩:=fN j.1.2.2.1;have E:=A λi (F:i<=K.length) l n Z f d W=>F7 m a Y i K b w f W j s V F l n Z d;have G:=u.1.2.1;have r:=A t;have H:=A k;have J:=A j;have HC:=A M;clear j u M t v x;go_enter func199,ntmps199;go_wp2_with fail
 rw[<-H.o];refine D.o.mono ?_;rintro e f ⟨i,F,l,n,rfl,d⟩;have k1:=MW d G;have a1:=MW d y;have a2:=MW d z;have a3:=MW d B;have a4:=MW d C;have b9:=d.size;have c4:m<f.heap.size:=O;have c5:w.heap.size<f.heap.size:=O;have c6:w.heap.size+1<f.heap.size:=O;have c7:¬m=w.heap.size:=O;have c8:¬m=w.heap.size+1:=O;by_cases h:i<K.length/\bL (mL K i) b.vlan b.mac=0
 ·have hx:(M9 (i<K.length)&&(bL (mL K i) b.vlan b.mac==0))=true:=by
   rw[NH,decide_eq_true_eq,beq_iff_eq];exact h
  have o:=r.o.trans (d.mono O);obtain⟨P,hz⟩:=h;obtain⟨rfl,d0,d1,R,T⟩:=HC.o i P;have HS:=A (F6 (i:=i) J.o s P hz o);have l2:=MW o R;have l3:=MW o T;have L:=fP (J.o.aD o).1.2.2.1;have f2:f.frozen? ⟨g,i*4+2,S⟩=false:=L _;have f3:f.frozen? ⟨g,i*4+3,S⟩=false:=L _;have e1:=(J.o.fB (g:=g) rfl).2.1;have e2:¬g=w.heap.size:=O;have e3:¬g=w.heap.size+1:=O;clear L;clear D E l n d G y z B C H r o d0 d1 R T;go_wp2_with fail
  go_region_with fail
  all_goals go_wp2_with fail
  all_goals refine NQ (Rc rfl _ _ _) rfl ?_
  all_goals exact⟨rfl,HS.o.drew⟩
 ·have hx:(M9 (i<K.length)&&(bL (mL K i) b.vlan b.mac==0))=false:=by
   rw[<-NB,NH,decide_eq_true_eq,beq_iff_eq];exact h
  have CJ:=A (E.o i F l n h f (r.o.trans (d.mono O)));clear D l n d G y z B C E h H r;go_wp2_with fail
  go_region_with
   (first|(go_at_call 221;refine(CJ.o _ ?_ ?_).mono ?_;(first|exact((MU _ f).alloc (MP _) _).drew|exact((Below.refl _ f).drew).alloc (Nat.le_refl _) _);(exact bI f _);rintro e w2 ⟨g2,e6,rfl,m1,mf,p,U⟩;have j0:=p _ _ _ (MP _) a1;have j1:=p _ _ _ (MP _) a2;have j2:=p _ _ _ (Se _) a3;have j3:=p _ _ _ (Se _) a4;have HP:=A U;clear U p))
  all_goals go_end0
  all_goals exact⟨rfl,HP.o⟩
def bB(w:MV)(k m:Nat)(a:Ma)(K:List Mc):Prop:=w.cell? ⟨k,0,S⟩=N (MQ (N ⟨m,0,S⟩))/\(∀j,w.frozen? ⟨k,j,S⟩=Md)/\lu w m a K/\bZ K
theorem bB.aD(h:bB w k m d K)(b:Mb w.heap.size w c):bB c k m d K:=
 ⟨MW b h.1,λj=>(NJ (a:=⟨k,j,S⟩) (b.block k (MO h.1))).trans (h.2.1 j),h.2.2.1.aD b,h.2.2.2⟩
theorem qG(s:ByteArray)(w:MV)(a:s.size<=281474976710656):Mo MT 143 #[MS s] w λe b=>e=MZ (MS s)/\Mb w.heap.size w b:=by
 have C:=A (λW=>stringslite_Clone s W a);go_enter func143,ntmps143;go_wp2_with fail
 refine(C.o _).mono ?_;rintro e d ⟨rfl,c⟩;go_wp2_with fail
 go_ret;exact⟨rfl,c⟩
def iL(o:Option Mc):Int:=match o with|some e=>e.port|none=>0
theorem EO(k m:Nat)(d:Ma)(K:List Mc)(x:Int)(b:ByteArray)(w:MV)(h:bB w k m d K):Mo MT 118 #[MQ (N ⟨k,0,S⟩),Q I x,MS b] w λe i=>e=MZ (Nn #[Q I (iL (az K x b)),M0 (az K x b).isSome])/\Mb w.heap.size w i:=by
 have C:=A (Hn m d K x b w h.2.2.1.1 h.2.2.2);have j:=h.1;obtain⟨p,a,c⟩:∃p a,Jn (az K x b)=M1 #[Q I p,Q I a]/\p=iL (az K x b):=by
  cases az K x b with
  |none=>exact⟨_,_,rfl,rfl⟩
  |some e=>exact⟨_,_,rfl,rfl⟩
 obtain⟨c,f⟩:=c;rw[c]at C;rw[<-f];clear c f h;go_enter func118,ntmps118;go_wp2_with fail
 refine C.o.mono ?_;rintro e l ⟨rfl,g⟩;go_wp2_with fail
 go_ret2;exact⟨rfl,g.alloc g.size _⟩
theorem pG(w:MV):Mo MT 102 #[] w λe a=>e=MZ (MQ (N ⟨w.heap.size,0,S⟩))/\a=w.alloc (MY #[Nm (.func 167) #[] #[],MR S 0 0] 305):=by
 have C:=A (GT w);go_enter func102,ntmps102;go_wp2_with fail
 refine C.o.mono ?_;rintro e b ⟨rfl,rfl⟩;go_wp2_with fail
 go_ret;exact⟨rfl,rfl⟩
theorem wy{c:Array Ma}(h:w.heap[b]?=N (MY c t (0,0)))(j:Nat):w.frozen? ⟨b,j,S⟩=false:=by
 unfold Nz;simp only[h];rfl
theorem Gd(w:MV):lu (w.alloc (MY #[Nm (.func 167) #[] #[],MR S 0 0] 305)) w.heap.size (MR S 0 0) []:=by
 have b:=bI w (MY #[Nm (.func 167) #[] #[],MR S 0 0] 305);refine⟨⟨aM b rfl,aM b rfl,⟨rfl,Mf ⟨rfl,rfl⟩⟩,λj=>wy b j,by simp⟩,λ_=>rfl⟩
def KO(m:Nat)(b:Ma)(K:List Mc)(c:Mc)(d:Bool)(w a:MV):Prop:=
 if d=Mk then ua m b K c w a else Mb w.heap.size w a
theorem Gn{x:Int}{b:ByteArray}(a:∀j,j<i->bL (mL K j) x b<0)(c:∀j,i<=j->j<K.length->0<=bL (mL K j) x b)(d:bZ K):(M9 (i<K.length)&&(bL (mL K i) x b==0))=(az K x b).isSome:=by
 rw[p9 a c d];by_cases h:i<K.length/\bL (mL K i) x b=0
 ·rw[dif_pos h];simp[h.1,h.2]
 ·rw[dif_neg h];simp only[Rh];rw[<-NB,NH,decide_eq_true_eq,beq_iff_eq];exact h
theorem ux{c:Mc}{d:MV}(e:Mb w.heap.size w W)(f:ua m a K c W d):ua m a K c w d:=by
 obtain⟨g,h,i,j,k,l,n,o⟩:=f;exact⟨g,h,i,j,k,l,λb p=>(n b p).imp id λq=>Mx e.size q,(aH.aG e).trans o⟩
theorem EC(m:Nat)(f:Ma)(K:List Mc)(a:Mc)(j:Int)(w:MV)(n:lu w m f K)(r:bZ K)(T:K.length<=199):Mo MT 170 #[MQ (N ⟨m,0,S⟩),Q I j,M1 #[Q I a.vlan,MS a.mac],M1 #[Q I a.port,Q I a.age]] w λe U=>∃s:Bool,s=((az K a.vlan a.mac).isSome||M9 ((K.length:Int)<j))/\e=MZ (M0 s)/\KO m f K a s w U:=by
 have a4:m<w.heap.size:=MO n.1.1;obtain⟨b,k⟩:=UX ((w.alloc (MY #[Q I a.vlan,MS a.mac] 236)).alloc (MY #[Q I a.port,Q I a.age] 238));have t:Mb w.heap.size w b:=by rw[k];exact((MU _ w).alloc (MP _) _).alloc (by rw[aZ];omega) _
 have a5:b.heap.size=w.heap.size+2:=by rw[k,aZ,aZ]
 have u:lu b m f K:=n.aD t;have v:b.heap[w.heap.size]?=N (MY #[Q I a.vlan,MS a.mac] 236 (0,0)):=by
  rw[k];exact(((MU _ (w.alloc (MY #[Q I a.vlan,MS a.mac] 236))).alloc (MP _) _).block _ (by rw[aZ];omega)).trans (bI _ _)
 have x:b.heap[w.heap.size+1]?=N (MY #[Q I a.port,Q I a.age] 238 (0,0)):=by
  rw[k,<-aZ w (MY #[Q I a.vlan,MS a.mac] 236)];exact bI _ _
 have C:b.cell? ⟨w.heap.size,0,S⟩=N (Q I a.vlan):=aM v rfl;have D:b.cell? ⟨w.heap.size,1,S⟩=N (MS a.mac):=aM v rfl;have E:b.cell? ⟨w.heap.size+1,0,S⟩=N (Q I a.port):=aM x rfl;have F:b.cell? ⟨w.heap.size+1,1,S⟩=N (Q I a.age):=aM x rfl;have G:=A (oF m f K a.vlan a.mac b u.1 r);have V:=u.1.2.1;have H:=A t;have J:=A k;have y:=A n;clear n u t v x;go_enter func170,ntmps170;go_wp2_with fail
 rw[<-J.o];refine G.o.mono ?_;rintro e L ⟨i,hi,M,P,rfl,c⟩;rw[Gn M P r];have a7:=MW c C;have a8:=MW c D;have a9:=MW c E;have b2:=MW c F;have b3:=c.size;have d:aA (Mb w.heap.size w L):=A (H.o.trans (c.mono O));have R:=A λ(W:MV) (h:Mb w.heap.size w W)=>yS m f K a W (y.o.aD h) r T;obtain⟨X,Y,g,rfl,Z⟩:=fN y.o.1.2.2.1;have a1:=A (yq m X K.length Y L (y.o.aD d.o).1.2.1);clear Z M P c V C D E F J H G;cases o:(az K a.vlan a.mac).isSome with
 |true=>
  have p:=A o;clear o;go_wp2_with fail
  refine(R.o _ d.o).mono ?_;rintro e w2 ⟨rfl,l⟩;have z:=A (ux d.o l);clear l;go_wp2_with fail
  go_ret;exact⟨Mk,by rw[p.o];rfl,rfl,z.o⟩
 |false=>
  have p:=A o;clear o;go_wp2_with fail
  refine a1.o.mono ?_;rintro e w2 ⟨rfl,rfl⟩;by_cases q:(K.length:Int)<j
  ·have a3:¬j<=(K.length:Int):=by omega
   have B:=A q;clear q;go_wp2_with fail
   refine(R.o _ d.o).mono ?_;rintro e w3 ⟨rfl,l⟩;have z:=A (ux d.o l);clear l;go_wp2_with fail
   go_ret;exact⟨Mk,by rw[p.o];exact(decide_eq_true B.o).symm,rfl,z.o⟩
  ·have a3:j<=(K.length:Int):=by omega
   have B:=A q;clear q;go_wp2_with fail
   go_ret;exact⟨Md,by rw[p.o];exact(decide_eq_false (Int.not_lt.2 B.o)).symm,rfl,d.o⟩
def mu(k m:Nat)(d:Ma)(K:List Mc)(a:Mc)(w e:MV):Prop:=
 ∃f c,bB e k m f c/\(if(az K a.vlan a.mac).isSome||M9 (K.length<64)then(∀q,q∈c↔q=a\/(q∈K/\bL q a.vlan a.mac≠0))/\c.length=(if(az K a.vlan a.mac).isSome then K.length else K.length+1)else c=K)/\(∀b,f.ownBlock=N b->d.ownBlock=N b\/w.heap.size<=b)/\aH (λb=>b=m\/d.ownBlock=N b) w e
theorem BZ{c:Ma}{d:Mc}{n:MV}(h:bB w k m c K)(f:Mb w.heap.size w W)(p:((az K d.vlan d.mac).isSome||M9 (K.length<64))=Mk)(q:ua m c K d W n):mu k m c K d w n:=by
 obtain⟨r,s,t,u,x,y,z,i⟩:=q;have J:k<w.heap.size:=MO h.1;have B:k≠m:=by
  rintro rfl;have:=h.1;rw[h.2.2.1.1.1]at this;cases this
 have C:∀g,c.ownBlock=N g->k≠g:=by
  rintro g D rfl;obtain⟨v,E⟩:=(h.2.2.1.fB D).1;have:=h.1;rw[E]at this;cases this
 have o:¬(k=m\/c.ownBlock=N k):=by
  rintro(e|e)
  ·exact B e
  ·exact C k e rfl
 have l:=h.aD f;have F:=i.block k (MO l.1) o;refine⟨r,s,⟨i.block.cell o l.1,λj=>(NJ (a:=⟨k,j,S⟩) F).trans (l.2.1 j),t,u⟩,?_,λb G=>(z b G).imp id λH=>Mx f.size H,(aH.aG f).trans i⟩;rw[if_pos p];exact⟨x,y⟩
theorem wm{c:Ma}{e0:Mc}{w3:MV}{ok:Bool}(h:bB w k m c K)(f:Mb w.heap.size w W)(g:ok=((az K e0.vlan e0.mac).isSome||M9 ((K.length:Int)<64)))(a:KO m c K e0 ok W w3):mu k m c K e0 w w3:=by
 have e:M9 ((K.length:Int)<64)=M9 (K.length<64):=by
  rw[decide_eq_decide];omega
 rw[e]at g;unfold KO at a;by_cases d:ok=Mk
 ·rw[if_pos d]at a;exact BZ h f (g▸d) a
 ·rw[if_neg d]at a;have i:Mb w.heap.size w w3:=f.trans (a.mono f.size);refine⟨c,K,h.aD i,?_,λb j=>Mf j,aH.aG i⟩;rw[if_neg (by rw[<-g];exact d)]
theorem Ec(k m:Nat)(d:Ma)(K:List Mc)(x:Int)(b:ByteArray)(p:Int)(w:MV)(h:bB w k m d K)(s:b.size<=281474976710656)(D:K.length<=64):Mo MT 107 #[MQ (N ⟨k,0,S⟩),Q I x,MS b,Q I p] w λe t=>e=MZ (Nn #[])/\mu k m d K ⟨x,b,p,0⟩ w t:=by
 have n:=A (qG b w s);have u:=A λ(W:MV) (f:Mb w.heap.size w W)=>EC m d K ⟨x,b,p,0⟩ 64 W (h.2.2.1.aD f) h.2.2.2 O;have v:=A λ(W o:MV) (q:Bool) (f:Mb w.heap.size w W) y g=>wm (e0:=⟨x,b,p,0⟩) (w3:=o) (ok:=q) h f y g;have i:=h.1;have E:k<w.heap.size:=MO i;clear h;go_enter func107,ntmps107;go_wp2_with fail
 refine n.o.mono ?_;rintro e a ⟨rfl,j⟩;have r:=MW j i;have z:=j.size;have F:k<a.heap.size:=O;clear n i;go_wp2_with fail
 generalize c:a.alloc _=W;have G:Mb w.heap.size w W:=by rw[<-c];exact j.alloc z _
 have l:W.heap[a.heap.size]?=N (MY #[Q I x,MS b] 236 (0,0)):=by rw[<-c];exact bI _ _
 have H:W.cell? ⟨a.heap.size,0,S⟩=N (Q I x):=aM l rfl;have J:W.cell? ⟨a.heap.size,1,S⟩=N (MS b):=aM l rfl;have L:W.cell? ⟨k,0,S⟩=N (MQ (N ⟨m,0,S⟩)):=by rw[<-c];exact MW ((MU _ a).alloc (MP _) _) r
 clear c l r;go_region_with (first|(go_at_call 170;refine(u.o _ ?_).mono ?_;(exact UQ);rintro e o ⟨q,B,rfl,g⟩;have C:=A (v.o _ _ _ UQ B g)))
 all_goals go_end0
 all_goals exact⟨rfl,C.o⟩
theorem Ge(w:MV):Mo MT 54 #[] w λe b=>∃k m,e=MZ (MQ (N ⟨k,0,S⟩))/\w.heap.size<=k/\w.heap.size<=m/\bB b k m (MR S 0 0) []/\Mb w.heap.size w b/\b.cell? ⟨k,1,S⟩=none:=by
 have C:=A λ(W:MV)=>pG W;go_enter func54,ntmps54;go_wp2_with (first|(go_at_call 102;refine(C.o _).mono ?_;rintro e h ⟨rfl,rfl⟩))
 go_ret;obtain⟨W,c⟩:=UX (w.alloc (MY #[Nm (.func 167) #[] #[],MR S 0 0] 305));have d:=Gd w;have g:=UY c;have f:W.heap.size=w.heap.size+1:=by rw[c];exact aZ _ _
 rw[<-c]at d⊢;refine⟨w.heap.size+1,w.heap.size,rfl,O,MP _,?_,g.alloc O _,by rw[<-f];have a:=bI W (MY #[MQ (N ⟨w.heap.size,0,S⟩)] 215);simp only[World.cell?,a];rfl⟩;rw[<-f];have a:=bI W;exact⟨aM (a _) rfl,λj=>wy (a _) j,d.aD ((MU _ W).alloc (MP _) _),List.Pairwise.nil⟩
section
open Go.RowKit Go.Shelf
attribute [local go_sem] Oper.semAt_some
def jq(b:Nat)(W:MV)(c:Ma)(L:List Mc):Prop:=
 ∃(a:Option Addr) (d:Nat),c=MR a L.length d/\∀j (h:j<L.length),∃g,a=N ⟨g,0,S⟩/\g<b/\W.cell? ⟨g,j*4,S⟩=N (Q I L[j].vlan)/\W.cell? ⟨g,j*4+1,S⟩=N (MS L[j].mac)/\W.cell? ⟨g,j*4+2,S⟩=N (Q I L[j].port)/\W.cell? ⟨g,j*4+3,S⟩=N (Q I L[j].age)
theorem jq.aD{c:Nat}{d B:MV}(h:Mb c d B){f:Ma}{L:List Mc}(i:jq c d f L):jq c B f L:=by
 obtain⟨a,k,e,l⟩:=i;refine⟨a,k,e,λj m=>?_⟩;obtain⟨g,n,b,o,q,r,s⟩:=l j m;exact⟨g,n,b,(h.cell (p:=⟨g,j*4,S⟩) b).trans o,(h.cell (p:=⟨g,j*4+1,S⟩) b).trans q,(h.cell (p:=⟨g,j*4+2,S⟩) b).trans r,(h.cell (p:=⟨g,j*4+3,S⟩) b).trans s⟩
theorem lu.row{c:Ma}(h:lu w m c K){d:Nat}(l:w.heap.size<=d):jq d w c K:=by
 obtain⟨a,n,g,rfl,o⟩:=fN h.1.2.2.1;refine⟨a,n,rfl,λj e=>?_⟩;obtain⟨p,b,f,i,k⟩:=o j e;rw[iM e]at b f i k;exact⟨g,p,Mi (MO b) l,b,f,i,k⟩
def Hx{Pr:Mc->Prop}(x:{e:Mc//Pr e}):Array Value:=#[M1 #[Q I x.1.vlan,MS x.1.mac],M1 #[Q I x.1.port,Q I x.1.age]]
theorem IV{u:Mc->Prop}(F:Fence)(n:Nat)(M:F.fn 181)(P:F.round=S)(hn:1<=n)(l w m h:Nat)(y:Ma)(L:List {e:Mc//u e})(a5:L.length<=200)(J z:List {e:Mc//u e}->MV->Prop)(B:Nat)(R:AbidesFrom B J)(T:∀b x W,J b W->b.length<L.length->YieldAt F (n-1) MT l (Hx x) W λe d=>(e=MZ (M0 Mk)/\J (b++[x]) d/\Mb h W d)\/(e=MZ (M0 Md)/\z (b++[x]) d))(W:MV)(C:h<=W.heap.size)(a6:W.cell? ⟨w,0,S⟩=N (MQ (N ⟨m,0,S⟩)))(U:W.cell? ⟨m,1,S⟩=N y)(V:jq h W y (L.map (·.1)))(X:J [] W):CallsIn F n MT 181 #[Nm (.yield l) #[] #[],MQ (N ⟨w,0,S⟩)] W λe d=>(∃v,e=MZ v)/\((∃D,D=L/\J D d)\/(∃b,b<+:L/\z b d)):=by
 obtain⟨a,a7,rfl,j⟩:=V;simp only[ND]at j U⊢;refine Sp func181 rfl M ?_ P;simp only[ntmps181,NY,N6,OH,Nat.reduceAdd,Nat.reduceSub,Of,Og,Ot,Om,O3,Ov];gi_wp2
 gi_loopw [10] (λi wr=>∃k:Nat,k<=L.length/\i=Q I k/\J (L.take k) wr/\Mb h W wr) (λi _=>L.length- (intOf i).toNat)
 case atStart=>exact⟨0,NG _,rfl,by simpa using X,MU _ _⟩
 case round=>
  obtain⟨k,hk,rfl,E,c⟩:=hrel;by_cases G:k<L.length
  ·obtain⟨g,rfl,f,o,q,s,t⟩:=j k G;rw[List.getElem_map]at o q s t;have d0:=(c.cell (p:=⟨g,k*4,S⟩) f).trans o;have d1:=(c.cell (p:=⟨g,k*4+1,S⟩) f).trans q;have d2:=(c.cell (p:=⟨g,k*4+2,S⟩) f).trans s;have d3:=(c.cell (p:=⟨g,k*4+3,S⟩) f).trans t;have b3:g<wr.heap.size:=Mi (Mi f C) c.size;have b4:(k:Int)<L.length:=O;have H:=R _ wr (wr.alloc (MY #[Q I L[k].1.vlan,MS L[k].1.mac,Q I L[k].1.port,Q I L[k].1.age] 308)) S E (World.grownBy_alloc _ _ _) (λr e=>by cases e);obtain⟨fn,b6,b9,c4,Y,Z⟩:=T _ L[k] _ H UU;simp only[Hx]at Y;have K:aA (L.take (k+1)=L.take k++[L[k]]):=by rw[List.take_succ_eq_append_getElem G];exact rfl
   generalize a0:L[k]=ek at*;clear H j o q s t a0;gi_wp2
   refine Z.mono ?_;rintro e W3 (⟨rfl,a1,a2⟩|⟨rfl,a3⟩)
   ·gi_wp2
    go_roundw
    case rel=>exact⟨k+1,O,by simp,by rw[K.o];exact a1,(c.alloc (Mx C c.size) _).trans a2⟩
    case measure=>simp[intOf];omega
   ·gi_wp2
    refine NQ (Rc rfl _ _ _) rfl ?_;exact⟨⟨_,rfl⟩,MX ⟨_,by rw[<-K.o];exact List.take_prefix _ _,a3⟩⟩
  ·obtain rfl:k=L.length:=by omega
   clear j;gi_wp2
   go_end0;exact⟨⟨_,rfl⟩,Mf ⟨_,rfl,by simpa using E⟩⟩
theorem DQ(F:Fence)(n:Nat)(a:F.fn 120)(b:F.round=S)(m:Nat)(w:MV):CallsIn F n MT 120 #[MQ (N ⟨m,0,S⟩)] w λe c=>e=MZ (Nm (.func 181) #[] #[MQ (N ⟨w.heap.size,0,S⟩)])/\c=w.alloc (MY #[MQ (N ⟨m,0,S⟩)] 212):=by
 refine Sp func120 rfl a ?_ b;simp only[ntmps120,NY,N6,OH,Nat.reduceAdd,Nat.reduceSub,Of,Og,Ot,Om,O3,Ov];gi_wp2
 go_ret;exact⟨rfl,rfl⟩
theorem tx{g:Mc->Prop}(F:Fence)(n:Nat)(h:F.fn 181)(i:F.round=S)(j:1<=n)(a m b:Nat)(d:Ma)(L:List {e:Mc//g e})(k:L.length<=200)(w:MV)(o:a<w.heap.size)(q:m<b)(f:b<=w.heap.size)(r:w.cell? ⟨a,0,S⟩=N (MQ (N ⟨m,0,S⟩)))(s:w.cell? ⟨m,1,S⟩=N d)(t:jq b w d (L.map (·.1))):SeqStopsK F n MT 181 #[MQ (N ⟨a,0,S⟩)] (Hx (Pr:=g)) (Mb b) (λu=>u=L) (λv=>v<+:L) L.length w:=λl J x W c y _ z B=>
 IV F n h i j l a m b d L k J x W.heap.size y z W (Mx f c.size) ((c.cell (p:=⟨a,0,S⟩) o).trans r) ((c.cell (p:=⟨m,1,S⟩) (Mi q f)).trans s) (t.aD (c.mono f)) B
end
theorem kL(a:Mc):¬bL a a.vlan a.mac<0:=by
 unfold bL;rw[fw];simp[dt]
theorem B8{a b:Mc}(h:bL a b.vlan b.mac<0):¬bL b a.vlan a.mac<0:=by
 unfold bL at*;rw[fw]at*;rintro(c|⟨c,d⟩)<;>rcases h with e|⟨e,f⟩
 ·omega
 ·omega
 ·omega
 ·exact absurd (jR f d) (by rw[dt];simp)
theorem mO:∀{c B:List Mc},bZ c->bZ B->(∀x,x∈c↔x∈B)->c=B
 |[],[],_,_,_=>rfl
 |[],b::B,_,_,h=>absurd ((h b).2 (by simp)) (by simp)
 |a::c,[],_,_,h=>absurd ((h a).1 (by simp)) (by simp)
 |a::c,b::B,j,k,h=>by
  have g:=PJ.1 j;have i:=PJ.1 k;have e:a=b:=by
   rcases Nk.1 ((h a).1 (by simp))with e|d
   ·exact e
   ·rcases Nk.1 ((h b).2 (by simp))with e|l
    ·exact e.symm
    ·exact absurd (g.1 b l) (B8 (i.1 a d))
  subst e;congr 1;refine mO g.2 i.2 λx=>⟨λf=>?_,λf=>?_⟩
  ·rcases Nk.1 ((h x).1 (PB _ f))with e|d
   ·subst e;exact absurd (g.1 x f) (kL x)
   ·exact d
  ·rcases Nk.1 ((h x).2 (PB _ f))with e|d
   ·subst e;exact absurd (i.1 x f) (kL x)
   ·exact d
def eF(s:Int)(K:List Mc):List Mc:=(K.map λe=>{e with age:=e.age+s}).filter λe=>M9 (e.age<=300)
theorem ny(s:Int)(K:List Mc)(x:Mc):eF s (K++[x])=eF s K++if x.age+s<=300 then [{x with age:=x.age+s}]else []:=by
 simp only[eF,List.map_append,List.filter_append,List.map_cons,List.map_nil,List.filter_cons,List.filter_nil];split<;>simp_all
theorem wG(s:Int)(K:List Mc):(eF s K).length<=K.length:=by
 have:=List.length_filter_le (λe:Mc=>M9 (e.age<=300)) (K.map λe=>{e with age:=e.age+s});rwa[ND]at this
theorem xk{s:Int}{x:Mc}(h:bZ (K++[x]))(q:Mc)(a:q∈eF s K):bL q x.vlan x.mac<0:=by
 obtain⟨e,b,rfl⟩:=List.mem_map.1 (List.mem_filter.1 a).1;exact(List.pairwise_append.1 h).2.2 e b x (by simp)
section
attribute [local go_sem] aI
theorem dn.cell(h:dn g w c)(e:b≠g)(d:w.cell? ⟨b,i,S⟩=N v):c.cell? ⟨b,i,S⟩=N v:=
 (Mj (a:=⟨b,i,S⟩) (h.2.2.2.2 b (MO d) e)).trans d
theorem aJ{o:Obj}(h:w.heap[b]?=N o):b<w.heap.size:=by
 rcases N8 b w.heap.size with a|a
 ·exact a
 ·rw[Array.getElem?_eq_none a]at h;cases h
theorem sx{a:Nat}{u:Ma}(d:w.cell? ⟨a,i,S⟩=N u)(c:w.cell? ⟨b,i,S⟩=N v)(h:u≠v):a≠b:=by
 rintro rfl;rw[d]at c;exact h (by simpa using c)
theorem gT.only{e:Int->Bool}{i:Ma}(j:gT w d e)(h:dn g w c)(f:cJ w g p i):gT c d e:=
 j.same λb o a k=>by
  rw[h.2.2.2.2 b (aJ a) (by rintro rfl;unfold cJ at f;rw[f]at a;cases a;cases k),a]
theorem eM.only{m:Ma}(n:eM w d P)(h:dn g w c)(f:cJ w g p m):eM c d P:=by
 obtain⟨a,o,b,e,k⟩:=n;refine⟨a,o,b,e,λj q=>?_⟩;obtain⟨r,s,t,u,x⟩:=k j q;have l:b≠g:=by
  obtain⟨_,_,B,y,z⟩:=k 0 O;refine sx y (f.cell (i:=1) (v:=MS p.data) rfl) ?_;rcases z with⟨rfl,_⟩|⟨_,_,_,rfl,_⟩<;>simp
 exact⟨r,h.cell l s,t,h.cell l u,x.only h f⟩
def iD(P:List b7)(j:Nat):b7:=(P[j]?).getD ⟨0,λ_=>Md⟩
theorem we(h:j<P.length):iD P j=P[j]:=by simp[iD,h]
def db(p:Pg)(a:Int)(b:Bool)(j:Nat):Bool:=((j:Int)!=p.port||p.routed)&&((j:Int)==a||!b)
def fS(P:List b7)(p:Pg)(a:Int)(b:Bool)(n:Nat):List (Int×ByteArray):=(List.range n).flatMap λj=>if db p a b j&&gH (iD P j) p.f.vlan then [((j:Int),jF (iD P j) p.f)]else []
theorem qD(P:List b7)(p:Pg)(a:Int)(b:Bool)(n:Nat):fS P p a b (n+1)=fS P p a b n++if db p a b n&&gH (iD P n) p.f.vlan then [((n:Int),jF (iD P n) p.f)]else []:=by
 simp[fS,List.range_succ,List.flatMap_append]
theorem mn(P:List b7)(p:Pg)(a:Int)(b:Bool):∀n,(fS P p a b n).length<=n
 |0=>by simp[fS]
 |n+1=>by
  have:=mn P p a b n;rw[qD,List.length_append];split<;>simp<;>omega
def vX(w:MV)(g:Nat)(p:Pg)(L:List (Int×ByteArray))(wr:MV):Prop:=
 ∃v,cJ wr g p v/\wr.ownsRow w.heap.size 66 2 v L.length (lK L)/\(∀b,v.ownBlock=N b->b≠g)/\k8 w.heap.size g w wr
theorem wv{d:Int}{e:Bool}(l:j<P.length)(m:db p d e j=Mk)(n:k8 w.heap.size g w wr)(h:∃a,cJ c g p a/\(let k:=if gH P[j] p.f.vlan then fS P p d e j++[((j:Int),jF P[j] p.f)]else fS P p d e j;c.ownsRow w.heap.size 66 2 a k.length (lK k))/\(∀b,a.ownBlock=N b->b≠g)/\k8 w.heap.size g wr c):vX w g p (fS P p d e (j+1)) c:=by
 obtain⟨a,o,f,q,r⟩:=h;refine⟨a,o,?_,q,n.trans r⟩;rw[qD,we l,m,Bool.true_and];by_cases i:gH P[j] p.f.vlan=Mk
 ·simp only[i,if_true]at f⊢;exact f
 ·rw[if_neg i,List.append_nil];simp only[i]at f;exact f
theorem tQ{a:Int}{b:Bool}(c:db p a b j=Md)(h:vX w g p (fS P p a b j) wr):vX w g p (fS P p a b (j+1)) wr:=by
 rw[qD,c,Bool.false_and];simpa using h
theorem zO(s g k m:Nat)(M R:Ma)(P:List b7)(K:List Mc)(p:Pg)(w:MV)(F:w.cell? ⟨s,0,S⟩=N M)(h5:w.cell? ⟨s,5,S⟩=N (MQ (N ⟨k,0,S⟩)))(J:eM w M P)(T:bB w k m R K)(x:cJ w g p (MR S 0 0))(hP:P.length<=8)(hv:(Lit.int I p.f.vlan).wf=Mk)(hl:p.f.to.size+p.f.fr.size+p.f.ty.size+p.f.rest.size<=1000):Mo MT 63 #[MQ (N ⟨s,0,S⟩),MQ (N ⟨g,0,S⟩)] w λe w'=>e=MZ (Q I (-1))/\vX w g p (fS P p (iL (az K p.f.vlan p.f.to)) (az K p.f.vlan p.f.to).isSome P.length) w':=by
 have U:=A λ(d:Nat) (V:Array Obj)=>EO k m R K p.f.vlan p.f.to (grow (redrawn w d) V) (T.aD (below_regrown w d V));generalize iL (az K p.f.vlan p.f.to)=c at*;generalize(az K p.f.vlan p.f.to).isSome=o at*;have a4:=J;obtain⟨a,b6,b,rfl,_⟩:=a4;have g2:w.cell? ⟨g,2,S⟩=N (MS p.f.to):=x.cell rfl;have g5:w.cell? ⟨g,5,S⟩=N (Q I p.f.vlan):=x.cell rfl;have a7:s≠g:=sx F (x.cell (i:=0) (v:=Q I p.port) rfl) (by simp);have b9:=MO F;have c0:=x.lt;have W:=A x;have HP:=A J;clear T x J;go_enter func63,ntmps63;go_wp2;refine wp_region_quiet_below UR UR ?_
 repeat(first|go_big_quiet_skip|quiet_step (exact Calls.regrown_of (U.o _ _)))
 refine wpQuiet_nil ?_;intro wq q;replace q:=aE q;obtain⟨b0,b1⟩:=aW q;have c1:=q.size;have q0:=MW q F;have HQ:=A q;have HF:aA (vX w g p (fS P p c o 0) wq):=A ⟨_,W.o.aD q,⟨rfl,Mf ⟨rfl,rfl⟩⟩,(λb hb=>by cases hb),k8.aG q (MP _)⟩;clear b0 b1 q U g2 g5 h5;go_wp2;go_loopw [31] (λi wr=>∃j:Nat,j<=P.length/\i=Q I j/\aA (vX w g p (fS P p c o j) wr)) (λi _=>P.length- (intOf i).toNat)
 case atStart=>exact⟨0,NG _,rfl,HF⟩
 case round=>
  obtain⟨j,hj,rfl,z⟩:=hrel;by_cases B:j<P.length
  ·have c5:(j:Int)<P.length:=by omega
   obtain⟨v,G,X,Y,C⟩:=z.o;have r0:wr.cell? ⟨g,0,S⟩=N (Q I p.port):=G.cell rfl;have Z:wr.cell? ⟨g,13,S⟩=N (M0 p.routed):=G.cell rfl;have c7:=mn P p c o j;have b4:=C.2.2.2.1;have l:=A (vF s g w.heap.size _ v P p (fS P p c o j) j wr (dn.cell C.xR a7 F) (HP.o.only C.xR W.o) G B hv X b4 O Y hl);have H:=A C;clear G X Y C;by_cases D:(j:Int)=p.port
   ·have E:((j:Int)!=p.port)=false:=by simpa using D
    have c8:=A E;cases y:p.routed with
    |true=>
     rw[y]at Z;have u:((j:Int)!=p.port||p.routed)=true:=by rw[E,y];rfl
     clear D y;by_cases r:(j:Int)=c
     ·have t:((j:Int)==c)=true:=by simpa using r
      have f:aA (db p c o j=Mk):=A (by unfold db;rw[u,t];rfl);clear r;go_wp2_with fail
      refine l.o.mono ?_;rintro e L ⟨rfl,n⟩;have h:=A (wv B f.o H.o n);clear n l;go_wp2;go_roundw
      case rel=>exact⟨j+1,O,by go_num,h⟩
      case measure=>simp[intOf];omega
     ·have t:((j:Int)==c)=false:=by simpa using r
      clear r;cases o with
      |false=>
       have f:aA (db p c Md j=Mk):=A (by unfold db;rw[u,t];rfl);go_wp2_with fail
       refine l.o.mono ?_;rintro e L ⟨rfl,n⟩;have h:=A (wv B f.o H.o n);clear n l;go_wp2;go_roundw
       case rel=>exact⟨j+1,O,by go_num,h⟩
       case measure=>simp[intOf];omega
      |true=>
       have f:aA (db p c Mk j=Md):=A (by unfold db;rw[u,t];rfl);have h:=A (tQ f.o z.o);clear l;go_wp2;go_roundw
       case rel=>exact⟨j+1,O,by go_num,h⟩
       case measure=>simp[intOf];omega
    |false=>
     rw[y]at Z;have f:aA (db p c o j=Md):=A (by unfold db;rw[E,y];rfl);clear D y;have h:=A (tQ f.o z.o);clear l;go_wp2;go_roundw
     case rel=>exact⟨j+1,O,by go_num,h⟩
     case measure=>simp[intOf];omega
   ·have E:((j:Int)!=p.port)=true:=by simpa using D
    have u:((j:Int)!=p.port||p.routed)=true:=by rw[E];rfl
    clear D;by_cases r:(j:Int)=c
    ·have t:((j:Int)==c)=true:=by simpa using r
     have f:aA (db p c o j=Mk):=A (by unfold db;rw[u,t];rfl);clear r;go_wp2_with fail
     refine l.o.mono ?_;rintro e L ⟨rfl,n⟩;have h:=A (wv B f.o H.o n);clear n l;go_wp2;go_roundw
     case rel=>exact⟨j+1,O,by go_num,h⟩
     case measure=>simp[intOf];omega
    ·have t:((j:Int)==c)=false:=by simpa using r
     clear r;cases o with
     |false=>
      have f:aA (db p c Md j=Mk):=A (by unfold db;rw[u,t];rfl);go_wp2_with fail
      refine l.o.mono ?_;rintro e L ⟨rfl,n⟩;have h:=A (wv B f.o H.o n);clear n l;go_wp2;go_roundw
      case rel=>exact⟨j+1,O,by go_num,h⟩
      case measure=>simp[intOf];omega
     |true=>
      have f:aA (db p c Mk j=Md):=A (by unfold db;rw[u,t];rfl);have h:=A (tQ f.o z.o);clear l;go_wp2;go_roundw
      case rel=>exact⟨j+1,O,by go_num,h⟩
      case measure=>simp[intOf];omega
  ·obtain rfl:j=P.length:=by omega
   go_wp2;go_ret;exact⟨rfl,z.o⟩
end
def aq(d:ByteArray):Int:=if 600<d.size then 10 else match bd d with|none=>1|some f=>if dH f.fr then 2 else -1
theorem cJ.KW(h:cJ w g p a)(f:Fr):cJ (((((((w.setCell ⟨g,2,S⟩ (MS f.to)).setCell ⟨g,3,S⟩ (MS f.fr)).setCell ⟨g,4,S⟩ (M0 f.tagged)).setCell ⟨g,5,S⟩ (Q I f.vlan)).setCell ⟨g,6,S⟩ (Q I f.mark)).setCell ⟨g,7,S⟩ (MS f.ty)).setCell ⟨g,8,S⟩ (MS f.rest)) g {p with f:=f} a:=by
 unfold cJ at*;have b:=Mn w g 2 _ _ (MS f.to) h;have c:=Mn _ g 3 _ _ (MS f.fr) b;have d:=Mn _ g 4 _ _ (M0 f.tagged) c;have e:=Mn _ g 5 _ _ (Q I f.vlan) d;have i:=Mn _ g 6 _ _ (Q I f.mark) e;have j:=Mn _ g 7 _ _ (MS f.ty) i;have k:=Mn _ g 8 _ _ (MS f.rest) j;rw[k];simp[en]
theorem BG(g:Nat)(p:Pg)(t:Ma)(w:MV)(l:cJ w g p t)(u:fE w):Mo MT 57 #[MQ (N ⟨g,0,S⟩)] w λe v=>e=MZ (Q I (aq p.data))/\(aq p.data= -1->∃f,bd p.data=N f/\cJ v g {p with f:=f} t)/\(aq p.data≠ -1->cJ v g p t)/\dn g w v:=by
 have E:w.cell? ⟨g,1,S⟩=N (MS p.data):=l.cell rfl;obtain⟨m,b⟩:=UX (aq p.data);rw[<-b];have x:=A l;by_cases o:600<p.data.size
 ·have F:(600:Int)<p.data.size:=by omega
  obtain rfl:m=10:=by rw[b,aq,if_pos o]
  clear b;go_enter Ri,ntmps57;go_wp2;go_ret;exact⟨rfl,λh=>absurd h US,λ_=>x.o,dn.aG (MU _ _)⟩
 ·have F:¬(600:Int)<p.data.size:=by omega
  have j:=Ey p.data w u O;rw[aq,if_neg o]at b;cases y:bd p.data with
  |none=>
   rw[y]at j b;simp only[dS,gD,Option.getD_none,Rh]at j;obtain rfl:m=1:=b;have q:=A j;clear j o u;go_enter Ri,ntmps57;go_wp2_with fail
   refine q.o.mono ?_;rintro e a ⟨rfl,d⟩;go_wp2;go_ret;exact⟨rfl,λh=>absurd h US,λ_=>x.o.aD (d.alloc d.size _),dn.aG (d.alloc d.size _)⟩
  |some f=>
   rw[y]at j b;simp only[dS,Option.getD_some,Option.isSome_some]at j;replace b:m=if dH f.fr then 2 else -1:=b;have q:=A j;have r:=A b;have z:=A l;have M:=l.lt;have B:=A λ(W:MV)=>qv f.fr W;clear b j o u l;generalize dH f.fr=G at*;go_enter Ri,ntmps57;go_wp2_with fail
   refine q.o.mono ?_;rintro e a ⟨rfl,d⟩;have P:=A d;have H:=d.size;have R:g<a.heap.size:=O;have T:¬g=a.heap.size:=O;have U:¬a.heap.size=g:=O;obtain⟨W,n⟩:=UX (a.alloc (MY (dS f) 146));have s:Mb w.heap.size w W:=by rw[n];exact d.alloc H _
   have k:W.heap[a.heap.size]?=N (MY (dS f) 146 (0,0)):=by rw[n];exact aU _ _
   have V:W.cell? ⟨a.heap.size,0,S⟩=N (MS f.to):=aB k rfl;have X:W.cell? ⟨a.heap.size,1,S⟩=N (MS f.fr):=aB k rfl;have Y:W.cell? ⟨a.heap.size,2,S⟩=N (M0 f.tagged):=aB k rfl;have Z:W.cell? ⟨a.heap.size,3,S⟩=N (Q I f.vlan):=aB k rfl;have f4:W.cell? ⟨a.heap.size,4,S⟩=N (Q I f.mark):=aB k rfl;have f5:W.cell? ⟨a.heap.size,5,S⟩=N (MS f.ty):=aB k rfl;have f6:W.cell? ⟨a.heap.size,6,S⟩=N (MS f.rest):=aB k rfl;have c:=z.o.aD s;have fz:∀i,W.frozen? ⟨g,i,S⟩=false:=λi=>c.frozen i;have t2:W.cell? ⟨g,2,S⟩=N (MS p.f.to):=c.cell rfl;have t3:W.cell? ⟨g,3,S⟩=N (MS p.f.fr):=c.cell rfl;have t4:W.cell? ⟨g,4,S⟩=N (M0 p.f.tagged):=c.cell rfl;have t5:W.cell? ⟨g,5,S⟩=N (Q I p.f.vlan):=c.cell rfl;have t6:W.cell? ⟨g,6,S⟩=N (Q I p.f.mark):=c.cell rfl;have t7:W.cell? ⟨g,7,S⟩=N (MS p.f.ty):=c.cell rfl;have t8:W.cell? ⟨g,8,S⟩=N (MS p.f.rest):=c.cell rfl;have J:=A (c.KW f);have C:=A (dn.aG (g:=g) s);have K:=A s;simp only[dS]at n;have L:=A n;clear d n s k c q E;go_wp2_with fail
   refine(B.o _).mono ?_;rintro e w2 ⟨rfl,D⟩;rw[D,<-L.o];clear D B;cases G with
   |true=>
    go_wp2;go_ret;exact⟨by rw[r.o];rfl,λh=>by rw[r.o]at h;exact absurd h US,λ_=>z.o.aD K.o,C.o⟩
   |false=>
    go_wp2;go_ret;exact⟨by rw[r.o];rfl,λ_=>⟨f,rfl,J.o⟩,λh=>by rw[r.o]at h;exact absurd rfl h,((((((C.o.set 2 _).set 3 _).set 4 _).set 5 _).set 6 _).set 7 _).set 8 _⟩
theorem yv{c:Mc}{d:MV}(e:Mb w.heap.size w W)(h:mu k m a K c W d):mu k m a K c w d:=by
 obtain⟨f,g,i,j,l,n⟩:=h;exact⟨f,g,i,j,λb o=>(l b o).imp id λp=>Mx e.size p,(aH.aG e).trans n⟩
theorem mu.cell{d:Mc}(h:mu k m a K d w c)(e:¬(b=m\/a.ownBlock=N b))(f:w.cell? ⟨b,i,S⟩=N v):c.cell? ⟨b,i,S⟩=N v:=by
 obtain⟨_,_,_,_,_,g⟩:=h;exact g.block.cell e f
theorem Ba(s g k m:Nat)(c:Ma)(K:List Mc)(p:Pg)(n:Ma)(w:MV)(o:w.cell? ⟨s,5,S⟩=N (MQ (N ⟨k,0,S⟩)))(h:bB w k m c K)(d:cJ w g p n)(z:p.f.fr.size<=1000)(q:K.length<=64)(i:¬(s=m\/c.ownBlock=N s))(j:¬(g=m\/c.ownBlock=N g)):Mo MT 59 #[MQ (N ⟨s,0,S⟩),MQ (N ⟨g,0,S⟩)] w λe a=>e=MZ (Q I (-1))/\mu k m c K ⟨p.f.vlan,p.f.fr,p.port,0⟩ w a:=by
 have r:=A λ(W:MV) (t:Mb w.heap.size w W)=>Ec k m c K p.f.vlan p.f.fr p.port W (h.aD t) O q;have u:w.cell? ⟨g,0,S⟩=N (Q I p.port):=d.cell rfl;have v:w.cell? ⟨g,3,S⟩=N (MS p.f.fr):=d.cell rfl;have x:w.cell? ⟨g,5,S⟩=N (Q I p.f.vlan):=d.cell rfl;have y:=A i;have f:=A j;clear h d i j;go_enter func59,ntmps59;go_wp2;go_region_held3 (λa=>a.cell? ⟨s,5,S⟩=N (MQ (N ⟨k,0,S⟩))/\a.cell? ⟨g,0,S⟩=N (Q I p.port)/\a.cell? ⟨g,3,S⟩=N (MS p.f.fr)/\a.cell? ⟨g,5,S⟩=N (Q I p.f.vlan)) (first|go_keep|trivial)
  (first|(go_at_call 107;refine(r.o _ ?_).mono ?_;(exact UQ);rintro e B ⟨rfl,l⟩;have b:=A (yv (w:=w) UQ l);have C:=b.o.cell y.o o;have D:=b.o.cell f.o u;have E:=b.o.cell f.o v;have F:=b.o.cell f.o x;clear l))
 all_goals go_wp2
 all_goals go_ret
 all_goals exact⟨rfl,by first|exact b.o|exact b.out.drew⟩
theorem ge(g:Nat)(p:Pg)(c:Ma)(w:MV)(a:cJ w g p c)(b:fE w):Mo MT 108 #[MQ (N ⟨g,0,S⟩)] w λe d=>e=MZ (M0 (cj p.f.ty==2))/\Mb w.heap.size w d:=by
 have h:w.cell? ⟨g,7,S⟩=N (MS p.f.ty):=a.cell rfl;have C:=A (yz p.f.ty w b);clear a b;go_enter func108,ntmps108;go_wp2_with fail
 refine C.o.mono ?_;rintro e i ⟨rfl,f⟩;go_wp2;go_ret;exact⟨rfl,f⟩
theorem qY(g:Nat)(p:Pg)(a:Ma)(w:MV)(b:cJ w g p a)(c:fE w)(d:(cj p.f.ty==2)=Md):Mo MT 60 #[MQ (N ⟨g,0,S⟩)] w λe f=>e=MZ (Q I (-1))/\Mb w.heap.size w f:=by
 have C:=ge g p a w b c;rw[d]at C;have h:=A C;clear C b c;go_enter func60,ntmps60;go_wp2_with fail
 refine h.o.mono ?_;rintro e j ⟨rfl,i⟩;go_wp2;go_ret;exact⟨rfl,i⟩
theorem tI(s g:Nat)(p:Pg)(c:Ma)(w:MV)(a:cJ w g p c)(b:p.right=Md):Mo MT 61 #[MQ (N ⟨s,0,S⟩),MQ (N ⟨g,0,S⟩)] w λe d=>e=MZ (Q I (-1))/\d=w:=by
 have f:w.cell? ⟨g,12,S⟩=N (M0 Md):=by rw[<-b];exact a.cell rfl
 clear a b;go_enter func61,ntmps61;go_wp2;go_ret;exact⟨rfl,rfl⟩
theorem Az(s g:Nat)(p:Pg)(a:Ma)(w:MV)(b:cJ w g p a)(c:fE w)(d:(cj p.f.ty==2)=Md):Mo MT 62 #[MQ (N ⟨s,0,S⟩),MQ (N ⟨g,0,S⟩)] w λe f=>e=MZ (Q I (-1))/\Mb w.heap.size w f:=by
 have C:=ge g p a w b c;rw[d]at C;have h:=A C;clear C b c;go_enter func62,ntmps62;go_wp2_with fail
 refine h.o.mono ?_;rintro e j ⟨rfl,i⟩;go_wp2;go_ret;exact⟨rfl,i⟩
end Go.Proofs.YtnjalelblbjfiaaGreatDoor
