import Derived.Test.YtnjalelblbjfiaaGreatDoorP17
import Derived.Test.YtnjalelblbjfiaaGreatDoorP21
namespace Go.Proofs.YtnjalelblbjfiaaGreatDoor
set_option maxRecDepth 100000
set_option maxHeartbeats 16000000
open Go.RowKit
open Go.Proofs.Tryz
open Go.Sort (grow)
open Bool renaming and_eq_true→NH,not_eq_true→NB
open Go renaming World→MV,Value→Ma,block_lt_of_cell→MO,cell_later→MW
open Go.IntKind renaming i64→I
open Go.Obj renaming cells→MY
open Go.Value renaming int→Q,string→MS,slice→MR,ownBlock→NF
open Go.World renaming cell?_of_block→Mj,frozen?_setCell→Ni
open List renaming take_append_drop→Np,length_take→Mh,getElem_of_mem→Mt,getElem_mem→Ms,pairwise_iff_getElem→Mr,length_set→Mw,getElem_set→OA
open Nat renaming min_eq_left→Oo,lt_or_ge→N8,le_refl→MP,le_succ→Se
open Option renaming some→N,none→S
variable {K:List Rt}{w:MV}{a c:Ma}{g i m:Nat}{b:Rt}
def AE(w:MV)(e:Ma):Prop:=∀g,e.ownBlock=N g->∃a b c d,w.cell? ⟨g,0,S⟩=N (Q I a)/\w.cell? ⟨g,1,S⟩=N (Q I b)/\w.cell? ⟨g,2,S⟩=N (Q I c)/\w.cell? ⟨g,3,S⟩=N (MS d)
theorem AE.nil(w:MV):AE w (MR S 0 0):=λg a=>by cases a
def dx(w:MV)(m:Nat)(a:Ma)(K:List Rt):Prop:=Je w m a K/\(K=[]->AE w a)
theorem dx.FV(h:dx w m c K):AE w c:=by
 intro g b;by_cases d:K=[]
 ·exact h.2 d g b
 ·obtain⟨a,p,l,e,n⟩:=gY h.1.2.2.1;obtain⟨o,f,i,j,k⟩:=n 0 (List.length_pos_iff.2 d);rw[e,o]at b;obtain rfl:l=g:=by simpa[NF]using b
  rw[Nat.zero_mul]at f i j k;exact⟨_,_,_,_,f,i,j,k⟩
theorem dx.fB(h:dx w m c K)(d:c.ownBlock=N g):(∃v,w.cell? ⟨g,0,S⟩=N (Q I v))/\g<w.heap.size/\m≠g:=by
 obtain⟨a,_,_,_,b,_⟩:=h.FV g d;refine⟨⟨_,b⟩,MO b,?_⟩;rintro rfl;have:=h.1.1;rw[b]at this;cases this
theorem AE.aD{f:MV}{i:Ma}(h:AE w i)(e:Below w.heap.size w f):AE f i:=λg j=>by
 obtain⟨a,b,c,d,k,l,m,n⟩:=h g j;exact⟨a,b,c,d,MW e k,MW e l,MW e m,MW e n⟩
theorem dx.aD{a:MV}{b:Ma}(h:dx w m b K)(c:Below w.heap.size w a):dx a m b K:=⟨h.1.aD c,λe=>(h.2 e).aD c⟩
theorem yI(K:List Rt):∀u∈gG K,u.oneCell'=true:=by
 intro u a;obtain⟨r,_,h⟩:=List.mem_flatMap.1 a;simp only[List.mem_cons,List.not_mem_nil,or_false]at h;rcases h with h|h|h|h<;>(rw[h];rfl)
theorem ut(K:List Rt)(k:Nat)(a:k<=K.length):(gG K).take (k*4)=gG (K.take k):=by
 have h:=kC (K.take k) (K.drop k);rw[Np]at h;have b:(gG (K.take k)).length=k*4:=by rw[qj,Mh,Oo a]
 rw[h,<-b,List.take_left]
theorem uu(K:List Rt)(k:Nat)(a:k<=K.length):(gG K).drop (k*4)=gG (K.drop k):=by
 have h:=kC (K.take k) (K.drop k);rw[Np]at h;have b:(gG (K.take k)).length=k*4:=by rw[qj,Mh,Oo a]
 rw[h,<-b,List.drop_left]
theorem yH:∀(K:List Rt) (i:Nat) (c:i<K.length) (e:Rt),e.bits=K[i].bits->e.len=K[i].len->gG (K.set i e)=((gG K).set (i*4+2) (Q I e.vlan)).set (i*4+3) (MS e.mac)
 |[],i,c,_,_,_=>absurd c (by simp)
 |p::t,0,_,e,d,f=>by
  have a:e.bits=p.bits:=d;have b:e.len=p.len:=f;simp[gG,a,b]
 |p::t,i+1,c,e,d,f=>by
  have g:=yH t i (by simpa using c) e d f;have h:(i+1)*4+2=(i*4+2)+1+1+1+1:=O;have j:(i+1)*4+3=(i*4+3)+1+1+1+1:=O;rw[h,j];show _::_::_::_::gG (t.set i e)=_;rw[g];rfl
def pY(m:Nat)(d:Ma)(K:List Rt)(a:Rt)(w e:MV):Prop:=
 ∃f c,dx e m f c/\dA c/\(∀q,q∈c↔q=a\/(q∈K/\bE q a.bits a.len≠0))/\c.length=(if(cM K a.bits a.len).isSome then K.length else K.length+1)/\(∀b,f.ownBlock=N b->d.ownBlock=N b\/w.heap.size<=b)/\aH (λb=>b=m\/d.ownBlock=N b) w e
theorem pY.drew{c:MV}(h:pY m a K b w c):pY m a K b w c.drew:=by
 obtain⟨d,e,f,g,i,j,k,l⟩:=h;exact⟨d,e,f,g,i,j,k,l.drew⟩
theorem B6{a:Rt}(h:0<bE a b.bits b.len):bE b a.bits a.len<0:=by
 unfold bE at*;rw[im];have c:¬(mE a.bits a.len b.bits b.len<0):=O;have d:¬(mE a.bits a.len b.bits b.len=0):=O;rw[im]at c;rw[ew]at d;omega
theorem GD(m:Nat)(a:Option Addr)(k i:Nat)(K:List Rt)(c:Rt)(w d W:MV)(J:dx w m (MR a K.length k) K)(B:dA K)(hn:K.length<=199)(y:i<=K.length)(C:∀j,j<i->bE (nM K j) c.bits c.len<0)(L:∀j,i<=j->j<K.length->0<=bE (nM K j) c.bits c.len)(M:¬(i<K.length/\bE (nM K i) c.bits c.len=0))(f:Below w.heap.size w d)(p:Below d.heap.size d W)(D:W.heap[d.heap.size]?=N (MY #[Q I c.bits,Q I c.len,Q I c.vlan,MS c.mac] 331 (0,0))):Calls prog 232 #[MR a K.length k,Q I i,MR (N ⟨d.heap.size,0,S⟩) 1 1] W λe l=>∃n r,e=.returned (MR (N ⟨n,0,S⟩) (K.length+1) r)/\l.cell? ⟨m,1,S⟩=N (MR a K.length k)/\l.frozen? ⟨m,1,S⟩=false/\(∀b j v,w.heap.size<=b->d.cell? ⟨b,j,S⟩=N v->l.cell? ⟨b,j,S⟩=N v)/\pY m (MR a K.length k) K c w (l.setCell ⟨m,1,S⟩ (MR (N ⟨n,0,S⟩) (K.length+1) r)):=by
 have P:=λg E=>J.fB (g:=g) E;have R:=tz L B M;have a4:cM K c.bits c.len=none:=by rw[qk C L B,dif_neg M]
 obtain⟨⟨T,U,h2,h3,h4⟩,_⟩:=J;have a7:m<w.heap.size:=MO T;have V:∀b,(MR a K.length k).ownBlock=N b->m≠b:=λb f=>(P b f).2.2;have z:∀b,(MR a K.length k).ownBlock=N b->b<w.heap.size:=λb f=>(P b f).2.1;have b4:=f.size;have a8:m<d.heap.size:=O;have b5:=p.size;have oW:W.ownsRow 0 331 4 (MR a K.length k) K.length (gG K):=di h2 λb s=>(p.block b (by have:=z b s;omega)).trans (f.block b (z b s));refine(G9 (MR a K.length k) K.length i (gG K) d.heap.size 331 4 [Q I c.bits,Q I c.len,Q I c.vlan,MS c.mac] W oW (yI K) y hn rfl
  (λj u o=>aM D o) oc (λs=>by have:d.heap.size<w.heap.size:=z _ s;omega) (by simp[World.shape?,D]) (λj=>by simp[World.frozen?,D])).mono ?_
 rintro e l ⟨n,r,rfl,X,Y,F⟩;have Z:l.heap[m]?=w.heap[m]?:=(F.block m O λh=>V m h rfl).trans ((p.block m a8).trans (f.block m a7));have G:∀j,l.cell? ⟨m,j,S⟩=w.cell? ⟨m,j,S⟩:=λj=>Mj (a:=⟨m,j,S⟩) Z;have a0:∀j,l.frozen? ⟨m,j,S⟩=false:=λj=>(World.frozen?_of_block (a:=⟨m,j,S⟩) Z).trans (h3 j);have a1:(K.take i++c::K.drop i).length=K.length+1:=jm c y;have b0:(gG K).take (i*4)++[Q I c.bits,Q I c.len,Q I c.vlan,MS c.mac]++(gG K).drop (i*4)=gG (K.take i++c::K.drop i):=by
  rw[ut K i y,uu K i y,kC];simp[gG]
 rw[b0]at X;have b1:m≠n:=by
  rcases Y with h|h
  ·exact V _ h
  ·omega
 refine⟨n,r,rfl,(G 1).trans U,a0 1,λb j v s hc=>?_,?_⟩
 ·have b2:b<d.heap.size:=MO hc;exact(Mj (a:=⟨b,j,S⟩) ((F.block b O λh=>by have:=z b h;omega).trans (p.block b b2))).trans hc
 ·refine⟨MR (N ⟨n,0,S⟩) (K.length+1) r,K.take i++c::K.drop i,⟨⟨?_,?_,?_,λj=>?_,O⟩,λe=>by simp at e⟩,?_,λq=>?_,by rw[a1,a4];rfl,?_,?_⟩
  ·rw[World.cell?_setCell_other _ _ _ _ (by simp)];exact(G 0).trans T
  ·exact World.cell?_setCell_same _ _ _ ((G 1).trans U)
  ·rw[a1];refine di X λg E=>?_;obtain rfl:n=g:=by simpa[NF]using E
   exact Below.heap_setCell _ _ _ _ (Ne.symm b1)
  ·rw[Ni];exact a0 j
  ·refine pz i c B (λx t=>?_) (λx t=>?_)
   ·obtain⟨j,o,rfl⟩:=Mt t;rw[Mh]at o;rw[List.getElem_take];have:=C j O;rwa[iK O]at this
   ·obtain⟨j,o,rfl⟩:=Mt t;rw[List.length_drop]at o;rw[List.getElem_drop];have:=R (i+j) O O;rw[iK O]at this;exact B6 this
  ·rw[nC];refine or_congr Iff.rfl ⟨λh=>⟨h,?_⟩,λh=>h.1⟩;obtain⟨j,o,rfl⟩:=Mt h;rw[<-iK o];rcases N8 j i with H|H
   ·have:=C j H;omega
   ·have:=R j H o;omega
  ·intro b f;obtain rfl:n=b:=by simpa[NF]using f
   rcases Y with h|h
   ·exact .inl h
   ·exact .inr O
  ·refine aH.setCell ?_ (.inl (.inl rfl)) _;exact(aH.aG f).trans ((aH.aG p).trans (F.mono λx _ t=>.inr t))
theorem F9{s:Nat}{c:Rt}{n:MV}(x:dx w m (MR (N ⟨g,0,S⟩) K.length s) K)(E:dA K)(d:i<K.length)(o:bE (nM K i) c.bits c.len=0)(f:Below w.heap.size w n):pY m (MR (N ⟨g,0,S⟩) K.length s) K c w ((n.setCell ⟨g,i*4+2,S⟩ (Q I c.vlan)).setCell ⟨g,i*4+3,S⟩ (MS c.mac)):=by
 obtain⟨_,U,k⟩:=x.fB (g:=g) rfl;have F:=x.aD f;obtain⟨⟨G,H,J,p,L⟩,_⟩:=F;rw[iK d]at o;have r:=o;unfold bE at r;rw[ew]at r;have y:c.bits=K[i].bits:=r.1.symm;have z:c.len=K[i].len:=r.2.symm;have M:(cM K c.bits c.len).isSome=true:=by
  rw[cM,List.find?_isSome];exact⟨K[i],Ms d,gk.1 o⟩
 have B:=fO (fO J (j:=i*4+2) O (Q I c.vlan)) (j:=i*4+3) O (MS c.mac);rw[<-yH K i d c y z]at B;have C:∀j,((n.setCell ⟨g,i*4+2,S⟩ (Q I c.vlan)).setCell ⟨g,i*4+3,S⟩ (MS c.mac)).cell? ⟨m,j,S⟩=n.cell? ⟨m,j,S⟩:=λj=>by
  rw[cB (.inl (Ne.symm k)),cB (.inl (Ne.symm k))]
 have t:∀q:Rt,bE c q.bits q.len=bE K[i] q.bits q.len/\bE q c.bits c.len=bE q K[i].bits K[i].len:=λq=>by
  unfold bE;rw[y,z];exact⟨rfl,rfl⟩
 have l:=Mr.1 E;refine⟨MR (N ⟨g,0,S⟩) K.length s,K.set i c,⟨⟨(C 0).trans G,(C 1).trans H,?_,λj=>by rw[Ni,Ni];exact p j,by rw[Mw];exact L⟩,λe=>?_⟩,?_,λq=>?_,by rw[Mw,if_pos M],λb f=>.inl f,?_⟩
 ·rw[Mw];exact B
 ·have:=congrArg List.length e;rw[Mw]at this;exact absurd d (by rw[this];simp)
 ·refine Mr.2 ?_;intro a b u f P;rw[Mw]at u f;rw[OA,OA];split
  ·rename_i e
   rw[if_neg O];rw[(t _).1];exact l i b d f O
  ·split
   ·rename_i e
    rw[(t _).2];exact l a i u d O
   ·exact l a b u f P
 ·constructor
  ·intro v;obtain⟨j,h,rfl⟩:=Mt v;rw[Mw]at h;rw[OA];split
   ·exact .inl rfl
   ·rename_i k
    refine .inr ⟨Ms h,?_⟩;rw[(t _).2];rcases N8 j i with D|D
    ·have:=l j i h d D;omega
    ·have p:=l i j d h O;intro e;unfold bE at p e;rw[ew]at e;rw[e.1,e.2,im]at p;omega
  ·rintro(rfl|⟨v,k⟩)
   ·exact List.mem_set d _
   ·obtain⟨j,h,rfl⟩:=Mt v;have R:i≠j:=by
     rintro rfl;exact k o
    have T:(K.set i c)[j]'(by rw[Mw];exact h)=K[j]:=by rw[OA,if_neg R]
    rw[<-T];exact Ms _
 ·exact aH.setCell (aH.setCell (aH.aG f) (.inl (.inr rfl)) _) (.inl (.inr rfl)) _
theorem GE(m:Nat)(q:Ma)(K:List Rt)(b:Rt)(w:MV)(j:dx w m q K)(s:dA K)(V:K.length<=199):Calls prog 219 #[.pointer (N ⟨m,0,S⟩),.agg #[Q I b.bits,Q I b.len],.agg #[Q I b.vlan,MS b.mac]] w λe X=>e=.returned (.tuple #[])/\pY m q K b w X:=by
 have b4:m<w.heap.size:=MO j.1.1;obtain⟨c,k⟩:=UX ((w.alloc (MY #[Q I b.bits,Q I b.len] 205)).alloc (MY #[Q I b.vlan,MS b.mac] 207));have t:Below w.heap.size w c:=by rw[k];exact((Below.refl _ w).alloc (MP _) _).alloc (by rw[aZ];omega) _
 have b5:c.heap.size=w.heap.size+2:=by rw[k,aZ,aZ]
 have u:dx c m q K:=j.aD t;have v:c.heap[w.heap.size]?=N (MY #[Q I b.bits,Q I b.len] 205 (0,0)):=by
  rw[k];exact(((Below.refl _ (w.alloc (MY #[Q I b.bits,Q I b.len] 205))).alloc (MP _) _).block _ (by rw[aZ];omega)).trans (bI _ _)
 have x:c.heap[w.heap.size+1]?=N (MY #[Q I b.vlan,MS b.mac] 207 (0,0)):=by
  rw[k,<-aZ w (MY #[Q I b.bits,Q I b.len] 205)];exact bI _ _
 have y:c.cell? ⟨w.heap.size,0,S⟩=N (Q I b.bits):=aM v rfl;have z:c.cell? ⟨w.heap.size,1,S⟩=N (Q I b.len):=aM v rfl;have B:c.cell? ⟨w.heap.size+1,0,S⟩=N (Q I b.vlan):=aM x rfl;have C:c.cell? ⟨w.heap.size+1,1,S⟩=N (MS b.mac):=aM x rfl;have D:=A (oH m q K b.bits b.len c u.1 s);obtain⟨a,Y,g,rfl,M⟩:=gY j.1.2.2.1;have E:=A λi (F:i<=K.length) l n Z f d W=>GD m a Y i K b w f W j s V F l n Z d;have G:=u.1.2.1;have r:=A t;have H:=A k;have J:=A j;have HC:=A M;clear j u M t v x;go_enter func219,ntmps219;go_wp2_with fail
 rw[<-H.o];refine D.o.mono ?_;rintro e f ⟨i,F,l,n,rfl,d⟩;have k1:=MW d G;have a1:=MW d y;have a2:=MW d z;have a3:=MW d B;have a4:=MW d C;have b9:=d.size;have c4:m<f.heap.size:=O;have c5:w.heap.size<f.heap.size:=O;have c6:w.heap.size+1<f.heap.size:=O;have c7:¬m=w.heap.size:=O;have c8:¬m=w.heap.size+1:=O;by_cases h:i<K.length/\bE (nM K i) b.bits b.len=0
 ·have hx:(decide (i<K.length)&&(bE (nM K i) b.bits b.len==0))=true:=by
   rw[NH,decide_eq_true_eq,beq_iff_eq];exact h
  have o:=r.o.trans (d.mono O);obtain⟨P,hz⟩:=h;obtain⟨rfl,d0,d1,R,T⟩:=HC.o i P;have HS:=A (F9 (i:=i) J.o s P hz o);have l2:=MW o R;have l3:=MW o T;have L:=fP (J.o.aD o).1.2.2.1;have f2:f.frozen? ⟨g,i*4+2,S⟩=false:=L _;have f3:f.frozen? ⟨g,i*4+3,S⟩=false:=L _;have e1:=(J.o.fB (g:=g) rfl).2.1;have e2:¬g=w.heap.size:=O;have e3:¬g=w.heap.size+1:=O;clear L;clear D E l n d G y z B C H r o d0 d1 R T;go_wp2_with fail
  go_region_with fail
  all_goals go_wp2_with fail
  all_goals refine bodyPost_ret (results_none rfl _ _ _) rfl ?_
  all_goals exact⟨rfl,HS.o.drew⟩
 ·have hx:(decide (i<K.length)&&(bE (nM K i) b.bits b.len==0))=false:=by
   rw[<-NB,NH,decide_eq_true_eq,beq_iff_eq];exact h
  have CJ:=A (E.o i F l n h f (r.o.trans (d.mono O)));clear D l n d G y z B C E h H r;go_wp2_with fail
  go_region_with
   (first|(go_at_call 232;refine(CJ.o _ ?_ ?_).mono ?_;(first|exact((Below.refl _ f).alloc (MP _) _).drew|exact((Below.refl _ f).drew).alloc (Nat.le_refl _) _);(exact bI f _);rintro e w2 ⟨g2,e6,rfl,m1,mf,p,U⟩;have j0:=p _ _ _ (MP _) a1;have j1:=p _ _ _ (MP _) a2;have j2:=p _ _ _ (Se _) a3;have j3:=p _ _ _ (Se _) a4;have HP:=A U;clear U p))
  all_goals go_end0
  all_goals exact⟨rfl,HP.o⟩
def uC(m:Nat)(b:Ma)(K:List Rt)(c:Rt)(d:Bool)(w a:MV):Prop:=
 if d=true then pY m b K c w a else Below w.heap.size w a
theorem lL{x:Int}{b:Int}(a:∀j,j<i->bE (nM K j) x b<0)(c:∀j,i<=j->j<K.length->0<=bE (nM K j) x b)(d:dA K):(decide (i<K.length)&&(bE (nM K i) x b==0))=(cM K x b).isSome:=by
 rw[qk a c d];by_cases h:i<K.length/\bE (nM K i) x b=0
 ·rw[dif_pos h];simp[h.1,h.2]
 ·rw[dif_neg h];simp only[Option.isSome_none];rw[<-NB,NH,decide_eq_true_eq,beq_iff_eq];exact h
theorem oE{c:Rt}{W d:MV}(e:Below w.heap.size w W)(f:pY m a K c W d):pY m a K c w d:=by
 obtain⟨g,h,i,j,k,l,n,o⟩:=f;exact⟨g,h,i,j,k,l,λb p=>(n b p).imp id λq=>Nat.le_trans e.size q,(aH.aG e).trans o⟩
theorem ED(m:Nat)(f:Ma)(K:List Rt)(a:Rt)(j:Int)(w:MV)(n:dx w m f K)(r:dA K)(T:K.length<=199):Calls prog 197 #[.pointer (N ⟨m,0,S⟩),Q I j,.agg #[Q I a.bits,Q I a.len],.agg #[Q I a.vlan,MS a.mac]] w λe U=>∃s:Bool,s=((cM K a.bits a.len).isSome||decide ((K.length:Int)<j))/\e=.returned (.bool s)/\uC m f K a s w U:=by
 have a4:m<w.heap.size:=MO n.1.1;obtain⟨b,k⟩:=UX ((w.alloc (MY #[Q I a.bits,Q I a.len] 205)).alloc (MY #[Q I a.vlan,MS a.mac] 207));have t:Below w.heap.size w b:=by rw[k];exact((Below.refl _ w).alloc (MP _) _).alloc (by rw[aZ];omega) _
 have a5:b.heap.size=w.heap.size+2:=by rw[k,aZ,aZ]
 have u:dx b m f K:=n.aD t;have v:b.heap[w.heap.size]?=N (MY #[Q I a.bits,Q I a.len] 205 (0,0)):=by
  rw[k];exact(((Below.refl _ (w.alloc (MY #[Q I a.bits,Q I a.len] 205))).alloc (MP _) _).block _ (by rw[aZ];omega)).trans (bI _ _)
 have x:b.heap[w.heap.size+1]?=N (MY #[Q I a.vlan,MS a.mac] 207 (0,0)):=by
  rw[k,<-aZ w (MY #[Q I a.bits,Q I a.len] 205)];exact bI _ _
 have C:b.cell? ⟨w.heap.size,0,S⟩=N (Q I a.bits):=aM v rfl;have D:b.cell? ⟨w.heap.size,1,S⟩=N (Q I a.len):=aM v rfl;have E:b.cell? ⟨w.heap.size+1,0,S⟩=N (Q I a.vlan):=aM x rfl;have F:b.cell? ⟨w.heap.size+1,1,S⟩=N (MS a.mac):=aM x rfl;have G:=A (oH m f K a.bits a.len b u.1 r);have V:=u.1.2.1;have H:=A t;have J:=A k;have y:=A n;clear n u t v x;go_enter func197,ntmps197;go_wp2_with fail
 rw[<-J.o];refine G.o.mono ?_;rintro e L ⟨i,hi,M,P,rfl,c⟩;rw[lL M P r];have a7:=MW c C;have a8:=MW c D;have a9:=MW c E;have b2:=MW c F;have b3:=c.size;have d:aA (Below w.heap.size w L):=A (H.o.trans (c.mono O));have R:=A λ(W:MV) (h:Below w.heap.size w W)=>GE m f K a W (y.o.aD h) r T;obtain⟨X,Y,g,rfl,Z⟩:=gY y.o.1.2.2.1;have a1:=A (Gj m X K.length Y L (y.o.aD d.o).1.2.1);clear Z M P c V C D E F J H G;cases o:(cM K a.bits a.len).isSome with
 |true=>
  have p:=A o;clear o;go_wp2_with fail
  refine(R.o _ d.o).mono ?_;rintro e w2 ⟨rfl,l⟩;have z:=A (oE d.o l);clear l;go_wp2_with fail
  go_ret;exact⟨true,by rw[p.o];rfl,rfl,z.o⟩
 |false=>
  have p:=A o;clear o;go_wp2_with fail
  refine a1.o.mono ?_;rintro e w2 ⟨rfl,rfl⟩;by_cases q:(K.length:Int)<j
  ·have a3:¬j<=(K.length:Int):=by omega
   have B:=A q;clear q;go_wp2_with fail
   refine(R.o _ d.o).mono ?_;rintro e w3 ⟨rfl,l⟩;have z:=A (oE d.o l);clear l;go_wp2_with fail
   go_ret;exact⟨true,by rw[p.o];exact(decide_eq_true B.o).symm,rfl,z.o⟩
  ·have a3:j<=(K.length:Int):=by omega
   have B:=A q;clear q;go_wp2_with fail
   go_ret;exact⟨false,by rw[p.o];exact(decide_eq_false (Int.not_lt.2 B.o)).symm,rfl,d.o⟩
end Go.Proofs.YtnjalelblbjfiaaGreatDoor
