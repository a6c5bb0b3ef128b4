import Derived.Test.YtnjalelblbjfiaaGreatDoorP7
import Derived.Test.YtnjalelblbjfiaaGreatDoorP16
namespace Go.Proofs.YtnjalelblbjfiaaGreatDoor
set_option maxRecDepth 100000
set_option maxHeartbeats 16000000
open Go.RowKit
open Go.Proofs.Tryz
open Go.Sort (grow)
open Bool renaming false→Md,not_eq_true→NB,and_eq_true→NH,true→Mk
open Go renaming World→MV,Calls→Mo,block_lt_of_cell→MO,wp_region_quiet_below→Mg,wpQuiet_nil→M3,Value→Ma,cell_later→MW,info_parts→Ob,wpList_append_lies→OC,maxLen→Nj,TypeId→NL,run_callFunc_extern→RE,splice→M8,length_splice→NI,run_firstCells_some→RF,growslice_fits→Sv,grownCap_ge→UB,grownCap_le_maxLen→Ud,below_regrown→NP
open Go.Calls renaming regrown_of→Ml
open Go.Ending renaming returned→MZ
open Go.IntKind renaming i64→I,wrap_i64→Mm
open Go.Proofs.Tryz renaming prog→MT,func232→Qd,func216→Qe,func141→TG
open Go.RowKit renaming Below→Mb
open Go.RowKit.Below renaming refl→MU,trans→NA
open Go.Value renaming func→Nm,pointer→MQ,agg→M1,int→Q,string→MS,slice→MR,tuple→Nn,bool→M0,cells→N5,ownBlock→NF
open List renaming pairwise_iff_getElem→Mr,find?_eq_some_iff_getElem→Ui,find?_eq_none→OQ,getElem_of_mem→Mt,length_drop→M2,getElem?_drop→N2,getElem?_take→M5,mem_of_mem_drop→Nu,length_append→Mz,length_take→Mh,size_toArray→NY,getElem?_eq_getElem→NZ,append_assoc→Oi,take_append_of_le_length→OJ,take_take→RH,take_of_length_le→NN,drop_eq_nil_of_le→N9,append_nil→OY,take_append_drop→Np
open Nat renaming lt_or_eq_of_le→Nr,lt_or_ge→N8,le_refl→MP,zero_add→NO,zero_le→NG,min_self→SL,le_of_eq→OU,lt_of_lt_of_le→Mi
open Option renaming none→S,some→N
open Go.Addr renaming add_lit→NM
open Go.Builtin renaming firstCells→PT,zeroCells→NV,append_→Na
open Go.Lib renaming run_overlaps_apart→QC,run_append_grow_zeros→Pq,wpList_append_run→QK
open Go.Obj renaming cells→MY
open Go.World renaming shape?→PV,cell?_of_block→Mj,cell?_alloc_at→Ox
open Or renaming inl→Mf,inr→MX
open _root_.Array renaming length_toList→Nl,getElem?_eq_some_iff→Mu,toList_append→Nq,size_map→RB,size_range→Qp
open _root_.ByteArray renaming empty→Mq
variable {a b c d x:Int}{w:MV}{e:Ma}{i j m:Nat}
section
attribute [local go_sem] aI
theorem na(m:Nat)(k:Int)(p:ByteArray)(x:Int)(w:MV)(c:w.cell? ⟨m,0,S⟩=N (Nm (.func 33) #[] #[])):Mo MT 212 #[MQ (N ⟨m,0,S⟩),M1 #[Q I k,MS p],Q I x] w λe b=>e=MZ (Q I (d9 k x))/\Mb w.heap.size w b:=by
 have d:m<w.heap.size:=MO c;go_enter func212,ntmps212;go_wp2_with fail
 refine Mg UR UR ?_
 repeat(quiet_step (exact Ml ((io _ _ _).mono λe b h=>⟨h.1,h.2▸MU _ _⟩)))
 refine M3 ?_;intro f a;replace a:=aE a;obtain⟨g,i⟩:=aW a;have j:=a.size;go_wp2;go_ret;exact⟨rfl,NA UQ (a.mono SZ)⟩
theorem IQ(m g P n:Nat)(a:Option Addr)(K:Nat->Int)(E:Nat->ByteArray)(x:Int)(w:MV)(hn:n<=200)(C:w.cell? ⟨m,0,S⟩=N (Nm (.func 33) #[] #[]))(D:∀j,j<n->a=N ⟨g,0,S⟩/\w.cell? ⟨g,(j)*2,S⟩=N (Q I (K (j)))/\w.cell? ⟨g,(j)*2+1,S⟩=N (MS (E (j))))(F:∀i j,i<=j->j<n->d9 (K j) x<0->d9 (K i) x<0):Mo MT 211 #[MR a n P,Q I x,Nm (.func 212) #[MQ (N ⟨m,0,S⟩)] #[]] w λe R=>∃i:Nat,i<=n/\(∀j,j<i->d9 (K j) x<0)/\(∀j,i<=j->j<n->0<=d9 (K j) x)/\e=MZ (Nn #[Q I i,M0 (decide (i<n)&&(d9 (K i) x==0))])/\Mb w.heap.size w R:=by
 have T:m<w.heap.size:=MO C;go_enter func211,ntmps211;go_wp2;go_loopw [9,10] (λl o wr=>∃i j:Nat,i<=j/\j<=n/\l=Q I i/\o=Q I j/\(∀q,q<i->d9 (K q) x<0)/\(∀q,j<=q->q<n->0<=d9 (K q) x)/\Mb w.heap.size w wr) (λl o _=>(intOf o-intOf l).toNat)
 case atStart=>exact⟨0,n,O,O,rfl,rfl,O,O,UQ⟩
 case round=>
  obtain⟨i,j,a1,a2,rfl,rfl,G,H,b⟩:=hrel;have J:=(b.cell (p:=⟨m,0,S⟩) T).trans C;have r:=A G;have s:=A H;clear G H;by_cases a3:i<j
  ·obtain⟨h,U⟩:∃h:Nat,h=(i+j)/2:=⟨_,rfl⟩;have a4:i<=h:=O;have a5:h<j:=O;obtain⟨rfl,c,d⟩:=D h O;have t:=(b.cell (p:=⟨g,h*2,S⟩) (MO c)).trans c;have V:=(b.cell (p:=⟨g,h*2+1,S⟩) (MO d)).trans d;have W:g<wr.heap.size:=MO t;have e1:((i:Int)+j)/2=h:=O;have a7:(h:Int)<n:=O;have X:=A λq (f:q<=h) (k:d9 (K h) x<0)=>F q h f O k;have Y:=A λq (f:h<=q) (u:q<n) (k:d9 (K q) x<0)=>F h q f u k;clear U c d;go_wp2_with fail
   refine(na m (K h) (E h) x _ J).mono ?_;rintro e v ⟨rfl,y⟩;have z:Mb wr.heap.size wr v:=y;have L:=A (b.trans (z.mono b.size));by_cases M:d9 (K h) x<0
   ·go_wp2;go_roundw
    case rel=>exact⟨h+1,j,O,O,by go_num,rfl,λq f=>X.o q O M,s.o,L.o⟩
    case measure=>simp[intOf];omega
   ·have Z:=A M;go_wp2;go_roundw
    case rel=>exact⟨i,h,O,O,rfl,rfl,r.o,λq f u=>Int.not_lt.1 λk=>absurd (Y.o q f u k) (by have:=Z.o;omega),L.o⟩
    case measure=>simp[intOf];omega
  ·obtain rfl:i=j:=by omega
   by_cases B:i<n
   ·obtain⟨rfl,c,d⟩:=D i B;have t:=(b.cell (p:=⟨g,i*2,S⟩) (MO c)).trans c;have V:=(b.cell (p:=⟨g,i*2+1,S⟩) (MO d)).trans d;have W:g<wr.heap.size:=MO t;have a8:(i:Int)<n:=O;clear c d;go_wp2_with fail
    refine(na m (K i) (E i) x _ J).mono ?_;rintro e v ⟨rfl,y⟩;have z:Mb wr.heap.size wr v:=y;go_wp2;go_ret2;exact⟨i,O,r.o,s.o,by simp[B],b.trans (z.mono b.size)⟩
   ·go_wp2;go_ret2;exact⟨i,O,r.o,s.o,by simp[B],b⟩
abbrev Fc:=Int×ByteArray
def dP(L:List Fc):List Value:=L.flatMap λe=>[Q I e.1,MS e.2]
theorem iI(L:List Fc):(dP L).length=L.length*2:=by
 induction L with
 |nil=>rfl
 |cons e t a=>simp[dP]at a⊢;omega
theorem D6(L:List Fc):∀k (a:k<L.length),(dP L)[k*2]?=N (Q I L[k].1)/\(dP L)[k*2+1]?=N (MS L[k].2):=by
 induction L with
 |nil=>intro k a;simp at a
 |cons p t b=>
  intro k a;match k,a with
  |0,_=>exact⟨rfl,rfl⟩
  |k+1,a=>
   have:=b k (by simpa using a);have e:(k+1)*2=k*2+2:=O;rw[e];exact this
def iR(w:MV)(m:Nat)(a:Ma)(L:List Fc):Prop:=
 w.cell? ⟨m,0,S⟩=N (Nm (.func 33) #[] #[])/\w.cell? ⟨m,1,S⟩=N a/\w.ownsRow 0 300 2 a L.length (dP L)/\(∀j,w.frozen? ⟨m,j,S⟩=Md)/\L.length<=200
theorem eI{L:List Fc}(h:w.ownsRow 0 300 2 e L.length (dP L)):∃a c g,e=MR a L.length c/\∀j (d:j<L.length),a=N ⟨g,0,S⟩/\w.cell? ⟨g,j*2,S⟩=N (Q I L[j].1)/\w.cell? ⟨g,j*2+1,S⟩=N (MS L[j].2):=by
 rcases h.2 with⟨b,f⟩|⟨g,c,i,b,_⟩
 ·exact⟨S,0,0,by rw[b,f],λj d=>O⟩
 ·refine⟨_,c,g,b,λj d=>⟨rfl,?_⟩⟩;rw[b]at h;have:=D6 L j d;exact⟨(h.cellAt _ O).trans this.1,(h.cellAt _ O).trans this.2⟩
def iV(L:List Fc)(j:Nat):Int:=(L[j]?.map λe=>e.1).getD 0
def KH(L:List Fc)(j:Nat):ByteArray:=(L[j]?.map λe=>e.2).getD ⟨#[]⟩
theorem et{L:List Fc}(h:j<L.length):iV L j=L[j].1:=by simp[iV,h]
theorem JJ{L:List Fc}(h:j<L.length):KH L j=L[j].2:=by simp[KH,h]
abbrev bt(L:List Fc):Prop:=L.Pairwise λa b=>a.1<b.1
theorem ej(m:Nat)(p:Ma)(L:List Fc)(x:Int)(w:MV)(q:iR w m p L)(d:bt L):Mo MT 178 #[MQ (N ⟨m,0,S⟩),Q I x] w λe r=>∃i:Nat,i<=L.length/\(∀j,j<i->iV L j<x)/\(∀j,i<=j->j<L.length->x<=iV L j)/\e=MZ (Nn #[Q I i,M0 (decide (i<L.length)&&(iV L i==x))])/\Mb w.heap.size w r:=by
 obtain⟨s,f,c,t,u⟩:=q;obtain⟨a,v,g,rfl,k⟩:=eI c;have l:=A (IQ m g v L.length a (iV L) (KH L) x w u s (λj b=>by rw[et b,JJ b];exact k j b) (λi j y b h=>by
  rw[jY]at h⊢;rw[et (by omega:i<L.length)];rw[et b]at h;rcases Nr y with z|rfl
  ·exact Int.lt_trans (Mr.1 d i j _ _ z) h
  ·exact h))
 clear c t k d;go_enter func178,ntmps178;go_wp2_with fail
 refine l.o.mono ?_;rintro e F ⟨i,B,n,o,rfl,C⟩;have D:=A n;have E:=A o;clear n o l;go_wp2;go_ret2;refine⟨i,B,λj b=>jY.1 (D.o j b),λj f c=>?_,?_,C⟩
 ·have:=E.o j f c;rcases Int.lt_or_le (iV L j) x with h|h
  ·have:=jY.2 h;omega
  ·exact h
 ·have e:(d9 (iV L i) x==0)=(iV L i==x):=by rw[Bool.eq_iff_iff,beq_iff_eq,beq_iff_eq,dV]
  simp only[e];exact rfl
def bG(L:List Fc)(x:Int):Option Fc:=L.find? λe=>e.1==x
def jT(L:List Fc)(x:Int):ByteArray:=((bG L x).map (·.2)).getD ⟨#[]⟩
theorem eu{L:List Fc}(f:∀j,j<i->iV L j<x)(g:∀j,i<=j->j<L.length->x<=iV L j)(k:bt L):bG L x=if h:i<L.length/\iV L i=x then N (L[i]'h.1)else none:=by
 unfold bG;split
 ·rename_i h
  rw[Ui];refine⟨by rw[<-et h.1,h.2];simp,i,h.1,rfl,λj c=>?_⟩;have:=f j c;rw[et O]at this;simp;omega
 ·rename_i h
  rw[OQ];intro e l;obtain⟨j,c,rfl⟩:=Mt l;intro m;have n:L[j].1=x:=by simpa using m
  rcases N8 j i with d|d
  ·have:=f j d;rw[et c]at this;omega
  ·rcases Nr d with o|rfl
   ·have a:=g i (MP _) O;have b:=Mr.1 k i j O c o;rw[et O]at a;omega
   ·exact h ⟨c,by rw[et c];exact n⟩
theorem vP(m:Nat)(k:Ma)(L:List Fc)(x:Int)(w:MV)(l:iR w m k L)(d:bt L):Mo MT 116 #[MQ (N ⟨m,0,S⟩),Q I x] w λe s=>e=MZ (Nn #[MS (jT L x),M0 (bG L x).isSome])/\Mb w.heap.size w s:=by
 have n:=A (ej m k L x w l d);obtain⟨t,u,o,v,C⟩:=l;obtain⟨a,D,g,rfl,f⟩:=eI o;have E:m<w.heap.size:=MO t;clear o v;go_enter func116,ntmps116;go_wp2_with fail
 refine n.o.mono ?_;rintro e F ⟨i,G,p,q,rfl,c⟩;have r:=A (eu p q d);clear n p q d;by_cases h:i<L.length/\iV L i=x
 ·obtain⟨y,H,z⟩:=f i h.1;subst y;have B:(iV L i==x)=true:=by simp[h.2]
  have J:decide (i<L.length)=true:=by simp[h.1]
  have K:=MW c z;have M:=MW c u;have P:(i:Int)<L.length:=O;have b:bG L x=N L[i]:=by rw[r.o,dif_pos h]
  have j:=A b;generalize L[i]=R at*;clear f b;go_wp2;go_ret2;exact⟨by unfold jT;rw[j.o];rfl,c⟩
 ·have B:(decide (i<L.length)&&(iV L i==x))=false:=by
   rw[<-NB,NH,decide_eq_true_eq,beq_iff_eq];exact h
  have b:bG L x=none:=by rw[r.o,dif_neg h]
  have j:=A b;clear f b h;go_wp2;go_ret2;exact⟨by unfold jT;rw[j.o];rfl,c⟩
end
theorem Hg:(prog.info? 331).map (λi=>(i.zero,i.size,i.bytes))=N (N (M1 #[Q I 0,Q I 0,Q I 0,MS Mq]),4,40):=UR
theorem jQ:prog.underlying 282=N (.slice 331):=UR
theorem Cu:(prog.info? 331).map (·.size)=N 4:=UR
theorem G8(m:Ma)(n:Nat)(b:List Ma)(l:Nat)(a:List Ma)(w:MV)(h:w.ownsRow 0 331 4 m n b)(P:n<=199)(v:a.length=4)(o:∀j u,a[j]?=N u->w.cell? ⟨l,j,S⟩=N u)(x:∀u∈a,u.oneCell'=Mk):Mo MT 232 #[m,Q I n,MR (N ⟨l,0,S⟩) 1 1] w (bn 331 4 m n (b++a) w):=by
 obtain⟨y,z,B,C,D⟩:=Ob Hg;have H:=A h;have E:=A o;have R:(n:Int)<=199:=O;rcases h.2 with⟨p,F⟩|⟨g,q,T,p,_,G,U,J,K,L⟩
 ·subst p F;clear h o;go_enter Qd,ntmps232;go_wp2_with (first|(at_builtin;refine OC _ rfl _ _ 282 rfl 0 331 y (M1 #[Q I 0,Q I 0,Q I 0,MS Mq]) 4 40 jQ z B C D rfl US _ 0 b rfl H.o ⟨l,0,S⟩ 1 1 a rfl (by rw[v]) (λj u r=>by rw[NM,NO];exact E.o j u r) x US UT O (NG _) _ rfl ?_))
  intro c d s f i k M;have t:=A (show bn 331 4 (MR S 0 0) 0 (b++a) w (MZ (MR (N ⟨c,0,S⟩) 1 d)) s from⟨c,d,rfl,f,by rcases k with e|e;exact Mf e;exact MX O,aH.grown i λ_ e=>e⟩);clear f i k;go_wp2;go_ret;exact t.o
 ·subst p;clear h o L K G;have V:q<=9223372036854775807:=by unfold Nj at J;omega
  have W:(n:Int)<=q:=O;go_enter Qd,ntmps232;go_wp2_with (first|(at_builtin;refine OC _ rfl _ _ 282 rfl 0 331 y (M1 #[Q I 0,Q I 0,Q I 0,MS Mq]) 4 40 jQ z B C D rfl US _ n b rfl H.o ⟨l,0,S⟩ 1 1 a rfl (by rw[v]) (λj u r=>by rw[NM,NO];exact E.o j u r) x US UT O (NG _) _ rfl ?_))
  all_goals
   intro c d s f i k M;have t:=A (show bn 331 4 (MR (N ⟨g,0,S⟩) n q) n (b++a) w (MZ (MR (N ⟨c,0,S⟩) (n+1) d)) s from⟨c,d,rfl,f,by rcases k with e|e;exact Mf e;exact MX O,aH.grown i λ_ e=>e⟩);clear f i k;go_wp2;go_ret;exact t.o
theorem El(g n c i:Nat)(f:Array Ma)(h:List Ma)(k:Nat)(J:NL)(K:Nat)(d:List Ma)(w:MV)(o:w.heap[g]?=N (MY f 331 (0,0)))(s:c<=Nj)(L:f.size=c*4)(p:h.length=n*4)(t:f.toList.take (n*4)=h)(a0:∀u∈h,u.oneCell'=Mk)(hi:i<n)(a1:n+1<=c)(hn:n<=199)(q:d.length=4)(M:∀j u,d[j]?=N u->w.cell? ⟨k,j,S⟩=N u)(h1:∀u∈d,u.oneCell'=Mk)(P:k≠g)(a3:w.shape? k=N (J,K))(R:∀j,w.frozen? ⟨k,j,S⟩=Md):Mo MT 232 #[MR (N ⟨g,0,S⟩) n c,Q I i,MR (N ⟨k,0,S⟩) 1 1] w (bn 331 4 (MR (N ⟨g,0,S⟩) n c) n (h.take (i*4)++d++h.drop (i*4)) w):=by
 have T:w.shape? g=N (331,f.size):=by simp[PV,o]
 have a4:∀y z,(callFunc 237 #[MR (N ⟨k,0,S⟩) 1 1,MR (N ⟨g,(i+1)*4,S⟩) y z]).run MT w=.ok (.value (M0 Md)) w:=λy z=>by
  rw[RE func237 UR UR UR (e:=Extern.SlicesOverlaps.overlaps #[282,282] #[4]) UR,
   QC w 282 4 331 jQ 4 (λ_=>rfl) ⟨k,0,S⟩ ⟨g,(i+1)*4,S⟩ 1 1 y z P J 331 K f.size a3 T O (R _) (R _)]
  rfl
 have hb:c<=9223372036854775807:=by unfold Nj at s;omega
 have c7:(n:Int)<=c:=O;have c8:(n:Int)+1<=c:=O;have c9:¬((i:Int)=(n:Int)):=O;have d0:(i:Int)<n:=O;have d1:¬((c:Int)<(n:Int)+1):=O;have d2:¬(c=i):=O;have d3:¬(c=i+1):=O;have d4:IntKind.i64.wrap ((i:Int)+1)=(i:Int)+1:=by rw[Mm];omega
 have d5:IntKind.i64.wrap ((n:Int)+1)=(n:Int)+1:=by rw[Mm];omega
 have d6:((i:Int)+1).toNat=i+1:=O;have e0:((n:Int)+1).toNat=n+1:=O;have e1:(0:Int)<=(i:Int)+1:=O;have e2:i<=n:=O;have e3:(i:Int)<=(n:Int)+1:=O;have r:f.toList.length=c*4:=by rw[Nl];exact L
 obtain⟨D,m⟩:=UX (h.drop (i*4));have U:D.length=(n-i)*4:=by rw[m,M2,p];omega
 have V:∀j v,D[j]?=N v->w.cell? ⟨g,i*4+j,S⟩=N v:=λj v l=>by
  rw[m,N2,<-t,M5]at l;split at l
  ·exact aM o l
  ·cases l
 have W:∀u∈D,u.oneCell'=true:=λu X=>a0 u (by rw[m]at X;exact Nu X);have B:(M8 (M8 f.toList ((i+1)*4) D) (i*4) d).take ((n+1)*4)=h.take (i*4)++d++h.drop (i*4):=by
  rw[show(i+1)*4=i*4+4 by omega,show(n+1)*4=n*4+4 by omega,m];exact md f.toList h d (i*4) (n*4) 4 t p q O (by rw[r];omega)
 have Y:(M8 (M8 f.toList ((i+1)*4) D) (i*4) d).length=c*4:=by
  rw[NI _ _ _ (by rw[NI _ _ _ O];omega),NI _ _ _ O,r]
 obtain⟨E,F⟩:=UX (h.take (i*4)++d++h.drop (i*4));have Z:E.length=(n+1)*4:=by rw[F];simp only[Mz,Mh,M2,p,q];omega
 rw[<-F]at B⊢;have HG:aA (w.heap[g]?=N (MY f.toList.toArray 331 (0,0))):=A (by rw[o]);have HV:=A M;have G:=A r;have H:=A U;have a7:=A V;have a8:=A W;have HR:=A B;have b0:=A Y;have b1:=A Z;clear o M t p L T r U V W B Y Z F m;generalize f.toList=C at*;have b2:=A s;clear s;go_enter Qd,ntmps232;go_wp2_with (simp only[a4])
 go_region_law (refine cO rfl _ _ 282 282 rfl 331 4 jQ Cu g ((i+1)*4) (n-i) (c- (i+1)) ⟨g,i*4,S⟩ (n+1-i) (c-i) UV UV C 331 HG.o D (n-i) UW H.o (λj v l=>by rw[NM];exact a7.o j v l) (by rw[H.o,G.o];omega) a8.o (λb=>b=g) w (aH.refl _ _).drew (Mf rfl) ?_;intro w1 G1 C1 O1)
 have b9:aA (∀j u,d[j]?=N u->w1.cell? ⟨k,j,S⟩=N u):=A λj u l=>(Mj (w:=w) (a:=⟨k,j,S⟩) (O1.o k P)).trans (HV.o j u l);have c0:aA (i*4+d.length<=(M8 C ((i+1)*4) D).length):=A (by rw[NI _ _ _ (by rw[H.o,G.o];omega),G.o,q];omega);go_wp2_with (refine bo rfl _ _ 282 282 rfl 331 4 jQ Cu g (i*4) (n+1-i) (c-i) ⟨k,0,S⟩ 1 1 rfl rfl (M8 C ((i+1)*4) D) 331 G1.o d 1 UW (by rw[q]) (λj v l=>by rw[NM,NO];exact b9.o j v l) c0.o h1 (λb=>b=g) w C1.o (Mf rfl) ?_)
 intro w2 G2 C2 O2;go_wp2;go_ret;exact⟨g,c,rfl,⟨b1.o,MX ⟨g,c,_,rfl,NG _,G2.o,a1,b2.o,by rw[NY];exact b0.o,HR.o⟩⟩,Mf rfl,C2.o.mono λx _ hx=>by subst hx;rfl⟩
theorem zh:(N5 (M1 #[Q I 0,Q I 0,Q I 0,MS Mq])).size=4:=rfl
theorem Em(g n c i:Nat)(Y:Array Ma)(e:List Ma)(p:Nat)(f:List Ma)(w:MV)(s:w.heap[g]?=N (MY Y 331 (0,0)))(t:e.length=n*4)(J:Y.toList.take (n*4)=e)(Z:∀u∈e,u.oneCell'=Mk)(hi:i<n)(e6:n<=c)(b4:c<n+1)(hn:n<=199)(y:f.length=4)(K:∀j u,f[j]?=N u->w.cell? ⟨p,j,S⟩=N u)(h1:∀u∈f,u.oneCell'=Mk):Mo MT 232 #[MR (N ⟨g,0,S⟩) n c,Q I i,MR (N ⟨p,0,S⟩) 1 1] w (bn 331 4 (MR (N ⟨g,0,S⟩) n c) n (e.take (i*4)++f++e.drop (i*4)) w):=by
 obtain rfl:c=n:=O;obtain⟨i0,b6,b9,c0,a1⟩:=Ob Hg;have a2:g<w.heap.size:=(Mu.1 s).1;have a3:p<w.heap.size:=by
  obtain⟨u,z⟩:∃u,f[0]?=N u:=⟨_,NZ O⟩;exact MO (K 0 u z)
 obtain⟨D,q⟩:=UX (e.drop (i*4));have a4:D.length=(c-i)*4:=by rw[q,M2,t];omega
 have a5:∀j v,D[j]?=N v->w.cell? ⟨g,i*4+j,S⟩=N v:=λj v d=>by
  rw[q,N2,<-J,M5]at d;split at d
  ·exact aM s d
  ·cases d
 have a6:∀u∈D,u.oneCell'=true:=λu z=>Z u (by rw[q]at z;exact Nu z);have a7:(PT i0.size i (MR (N ⟨g,0,S⟩) i c)).run MT w.drew=.ok (e.take (i*4)).toArray w.drew:=by
  rw[c0];exact RF w.drew 4 i ⟨g,0,S⟩ i c (e.take (i*4)) (by rw[Mh];omega) (λj v d=>by
   rw[NM,NO];rw[M5]at d;split at d
   ·rw[<-J,M5]at d;split at d
    ·exact aM s d
    ·cases d
   ·cases d)
 have L:i+(c+1-i)=c+1:=O;have a8:(c:Int)+1- (i:Int)=((c+1-i:Nat):Int):=O;obtain⟨G,B⟩:=UX (grownCap w (c+1) c 331);obtain⟨l,E⟩:=UX ((e.take (i*4)).toArray++NV (N5 (M1 #[Q I 0,Q I 0,Q I 0,MS Mq])) (c+1-i)++NV (N5 (M1 #[Q I 0,Q I 0,Q I 0,MS Mq])) (G- (c+1)):Array Ma);obtain⟨m,r⟩:=UX (w.drew.alloc (MY l 331));have a9:∀M,(Na #[282,3] M #[MR (N ⟨g,0,S⟩) i c,Q I ((c:Int)+1- (i:Int))]).run MT w=.ok (MR (N ⟨w.heap.size,0,S⟩) (c+1) G) m:=λM=>by
  have h:=Pq w 282 3 M 331 i0 _ I I jQ UR b6 b9 (N ⟨g,0,S⟩) i c (e.take (i*4)) a7 (c+1-i) O O O O (by rw[a1];omega) (by rw[a1,L];exact Sv b4 O);rw[L]at h;rw[a8,r,E,B];exact h
 have c1:c+1<=G:=by rw[B];exact UB w _ _ _
 have P:G<=maxLen:=by rw[B];exact Ud w (c+1) c 331 UT
 have e8:G<=9223372036854775807:=by unfold Nj at P;omega
 have F:l.toList.length=G*4:=by
  rw[E];simp only[NV,zh,Nq,Mz,Nl,RB,Qp,Mh];omega
 have b0:l.toList.take (i*4)=e.take (i*4):=by
  rw[E,Nq,Nq,Oi,OJ (by rw[Mh];omega),RH,SL]
 have R:(M8 (M8 l.toList (i*4) f) ((i+1)*4) D).take ((c+1)*4)=e.take (i*4)++f++e.drop (i*4):=by
  rw[show(i+1)*4=i*4+4 by omega,show(c+1)*4=c*4+4 by omega,q];exact me l.toList e f (i*4) (c*4) 4 b0 t y O (by rw[F];omega)
 have T:(M8 l.toList (i*4) f).length=G*4:=by rw[NI _ _ _ O,F]
 have b1:(M8 (M8 l.toList (i*4) f) ((i+1)*4) D).length=G*4:=by rw[NI _ _ _ O,T]
 obtain⟨U,V⟩:=UX (e.take (i*4)++f++e.drop (i*4));have b2:U.length=(c+1)*4:=by rw[V];simp only[Mz,Mh,M2,t,y];omega
 rw[<-V]at R⊢;obtain⟨o,H⟩:=UX w.heap.size;have HG:aA (m.heap[o]?=N (MY l.toList.toArray 331 (0,0))):=A (by rw[r,H];exact(by simp:(w.heap.push (Obj.cells l 331))[w.heap.size]?=some (Obj.cells l.toList.toArray 331)));have W:aA (∀k,k<o->m.heap[k]?=w.heap[k]?):=A λk hk=>by rw[r];exact((MU w.heap.size w.drew).alloc (MP _) _).block k O
 have c3:aA (aH (λb=>b=g) w m):=A (by rw[r];exact(aH.refl _ w).drew.alloc _);rw[<-H]at a9 a2 a3;have c4:aA (∀j u,f[j]?=N u->m.cell? ⟨p,j,S⟩=N u):=A λj u d=>(Mj (w:=w) (a:=⟨p,j,S⟩) (W.o p a3)).trans (K j u d);have c5:aA (∀j v,D[j]?=N v->m.cell? ⟨g,i*4+j,S⟩=N v):=A λj v d=>(Mj (w:=w) (a:=⟨g,i*4+j,S⟩) (W.o g a2)).trans (a5 j v d);have b3:=A a4;have c6:=A a6;have HR:=A R;have c8:=A b1;have c9:=A F;have d0:=A T;have d1:=A b2;have d2:=A P;have X:=A H;have d3:g≠o:=O;clear s K J t a4 a5 a6 R b1 b2 V q a7 L a8 E F b0 T r B P H W Z;generalize l.toList=C at*;have hb:c<=9223372036854775807:=O;have f2:¬((i:Int)=(c:Int)):=O;have f3:(i:Int)<c:=O;have f4:(c:Int)<(c:Int)+1:=O;have f5:¬(c=i):=O;have f6:¬(G=i):=O;have f7:¬(G=i+1):=O;have f8:IntKind.i64.wrap ((i:Int)+1)=(i:Int)+1:=by rw[Mm];omega
 have f9:IntKind.i64.wrap ((c:Int)+1)=(c:Int)+1:=by rw[Mm];omega
 have g0:IntKind.i64.wrap ((c:Int)+1- (i:Int))=(c:Int)+1- (i:Int):=by rw[Mm];omega
 have g1:((i:Int)+1).toNat=i+1:=O;have g2:(0:Int)<=(i:Int)+1:=O;have g3:i<=c:=O;have g4:(i:Int)<=(c:Int)+1:=O;go_enter Qd,ntmps232;go_wp2_with (first|(at_builtin;refine QK _ rfl _ _ 282 3 rfl _ _ rfl rfl _ _ (a9 _) ?_)|(refine bo rfl _ _ 282 282 rfl 331 4 jQ Cu o (i*4) (c+1-i) (G-i) ⟨p,0,S⟩ 1 1 rfl rfl C 331 HG.o f 1 UW (by rw[y]) (λj v d=>by rw[NM,NO];exact c4.o j v d) (by rw[c9.o,y];omega) h1 (λb=>b=g) w c3.o (MX (OU X.o.symm)) ?_))
 intro w1 G1 C1 O1;have e1:aA (∀j v,D[j]?=N v->w1.cell? ⟨g,i*4+j,S⟩=N v):=A λj v d=>(Mj (w:=m) (a:=⟨g,i*4+j,S⟩) (O1.o g d3)).trans (c5.o j v d);go_wp2;go_region_law (refine cO rfl _ _ 282 282 rfl 331 4 jQ Cu o ((i+1)*4) (c-i) (G- (i+1)) ⟨g,i*4,S⟩ (c-i) (c-i) UV UV (M8 C (i*4) f) 331 G1.o D (c-i) UW b3.o (λj v d=>by rw[NM];exact e1.o j v d) (by rw[b3.o,d0.o];omega) c6.o (λb=>b=g) w C1.o.drew (MX (OU X.o.symm)) ?_;intro w2 G2 C2 O2)
 go_wp2;go_ret;exact⟨o,G,rfl,⟨d1.o,MX ⟨o,G,_,rfl,NG _,G2.o,c1,d2.o,by rw[NY];exact c8.o,HR.o⟩⟩,MX (OU X.o.symm),C2.o.mono λx _ hx=>by subst hx;rfl⟩
theorem G9(d:Ma)(n i:Nat)(a:List Ma)(b:Nat)(p:NL)(q:Nat)(c:List Ma)(w:MV)(h:w.ownsRow 0 331 4 d n a)(r:∀u∈a,u.oneCell'=Mk)(L:i<=n)(f:n<=199)(k:c.length=4)(l:∀j u,c[j]?=N u->w.cell? ⟨b,j,S⟩=N u)(m:∀u∈c,u.oneCell'=Mk)(z:d.ownBlock≠N b)(B:w.shape? b=N (p,q))(C:∀j,w.frozen? ⟨b,j,S⟩=Md):Mo MT 232 #[d,Q I i,MR (N ⟨b,0,S⟩) 1 1] w (bn 331 4 d n (a.take (i*4)++c++a.drop (i*4)) w):=by
 by_cases D:i=n
 ·subst D;have E:a.take (i*4)=a:=NN (by rw[h.1];exact MP _);have F:a.drop (i*4)=[]:=N9 (by rw[h.1];exact MP _);rw[E,F,OY];exact G8 d i a b c w h f k l m
 ·have s:=h;rcases h.2 with⟨t,M⟩|⟨g,o,v,t,_,x,G,H,J,y⟩
  ·omega
  ·subst t;by_cases K:n+1<=o
   ·exact El g n o i v a b p q c w x H J s.1 y r O K f k l m (λe=>z (by rw[e];rfl)) B C
   ·exact Em g n o i v a b c w x s.1 y r O G O f k l m
section
attribute [local go_sem] aI
def mE(c a d b:Int):Int:=if d9 b a=0 then d9 c d else d9 b a
theorem im:mE c a d b<0↔b<a\/(a=b/\c<d):=by
 unfold mE;by_cases h:d9 b a=0
 ·rw[if_pos h,jY];rw[dV]at h;omega
 ·rw[if_neg h,jY];rw[dV]at h;omega
theorem ew:mE c a d b=0↔c=d/\a=b:=by
 unfold mE;by_cases h:d9 b a=0
 ·rw[if_pos h,dV];rw[dV]at h;omega
 ·rw[if_neg h];rw[dV];rw[dV]at h;omega
theorem zc{e f:Int}(h:mE a b c d<0)(k:mE c d e f<0):mE a b e f<0:=by
 rw[im]at*;omega
theorem IL(b c d f:Int)(w:MV):Mo MT 101 #[M1 #[Q I b,Q I d],M1 #[Q I c,Q I f]] w λe a=>e=MZ (Q I (mE b d c f))/\Mb w.heap.size w a:=by
 obtain⟨h,i⟩:=UX (mE b d c f);rw[<-i];have l:aA (∀(g:Nat) (W:MV),W.cell? ⟨g,0,S⟩=N (Q I (d9 f d))->W.cell? ⟨g,1,S⟩=N (Q I (d9 b c))->Mo MT 165 #[MR (N ⟨g,0,S⟩) 2 2] W λe a=>e=MZ (Q I h)/\Mb W.heap.size W a):=A λg W m n=>by
  rw[i];exact vQ g 2 _ _ W m n
 clear i;have o:w.heap.size<w.heap.size+1+1+1:=O;have p:w.heap.size<w.heap.size+1+1:=O;go_enter func101,ntmps101;go_wp2_with fail
 go_region_held3 (λa=>a.cell? ⟨w.heap.size,0,S⟩=N (Q I b)/\a.cell? ⟨w.heap.size,1,S⟩=N (Q I d)/\a.cell? ⟨w.heap.size+1,0,S⟩=N (Q I c)/\a.cell? ⟨w.heap.size+1,1,S⟩=N (Q I f)) (go_keep)
  (first|(go_at_call 33;refine(io _ _ _).mono ?_;rintro e a ⟨rfl,j⟩;rw[j];clear j)|(go_at_call 165;refine(l.o _ _ ?_ ?_).mono ?_;(exact(Ox _ _ _ _ (by simp)).trans rfl);(exact(Ox _ _ _ _ (by simp)).trans rfl);rintro e q ⟨rfl,k⟩;obtain⟨r,s⟩:=aW k))
 all_goals
  go_wp2;go_ret;exact⟨rfl,NA UQ (k.mono SZ)⟩
structure Rt where
 bits:Int
 len:Int
 vlan:Int
 mac:ByteArray
def bE(e:Rt)(v:Int)(m:Int):Int:=mE e.bits e.len v m
theorem pV(m:Nat)(e:Rt)(v:Int)(b:Int)(w:MV)(c:w.cell? ⟨m,0,S⟩=N (Nm (.func 101) #[] #[])):Mo MT 231 #[MQ (N ⟨m,0,S⟩),M1 #[Q I e.bits,Q I e.len,Q I e.vlan,MS e.mac],M1 #[Q I v,Q I b]] w λr d=>r=MZ (Q I (bE e v b))/\Mb w.heap.size w d:=by
 unfold bE;have f:m<w.heap.size:=MO c;have g:m<w.heap.size+1+1:=O;go_enter func231,ntmps231;go_wp2_with fail
 refine Mg UR UR ?_
 repeat(quiet_step (exact Ml (IL _ _ _ _ _)))
 refine M3 ?_;intro h a;replace a:=aE a;obtain⟨i,j⟩:=aW a;have k:=a.size;go_wp2;go_ret;exact⟨rfl,NA UQ (a.mono SZ)⟩
theorem JW(m g a2 n:Nat)(a:Option Addr)(K:Nat->Rt)(x:Int)(f:Int)(w:MV)(hn:n<=200)(R:w.cell? ⟨m,0,S⟩=N (Nm (.func 101) #[] #[]))(T:∀j,j<n->a=N ⟨g,0,S⟩/\w.cell? ⟨g,j*4,S⟩=N (Q I (K j).bits)/\w.cell? ⟨g,j*4+1,S⟩=N (Q I (K j).len)/\w.cell? ⟨g,j*4+2,S⟩=N (Q I (K j).vlan)/\w.cell? ⟨g,j*4+3,S⟩=N (MS (K j).mac))(U:∀i j,i<=j->j<n->bE (K j) x f<0->bE (K i) x f<0):Mo MT 230 #[MR a n a2,M1 #[Q I x,Q I f],Nm (.func 231) #[MQ (N ⟨m,0,S⟩)] #[]] w λe w'=>∃i:Nat,i<=n/\(∀j,j<i->bE (K j) x f<0)/\(∀j,i<=j->j<n->0<=bE (K j) x f)/\e=MZ (Nn #[Q I i,M0 (decide (i<n)&&(bE (K i) x f==0))])/\Mb w.heap.size w w':=by
 have a4:m<w.heap.size:=MO R;go_enter func230,ntmps230;go_wp2;go_loopw [9,10] (λF G wr=>∃i j:Nat,i<=j/\j<=n/\F=Q I i/\G=Q I j/\(∀q,q<i->bE (K q) x f<0)/\(∀q,j<=q->q<n->0<=bE (K q) x f)/\Mb w.heap.size w wr/\w.heap.size<wr.heap.size/\wr.cell? ⟨w.heap.size,0,S⟩=N (Q I x)/\wr.cell? ⟨w.heap.size,1,S⟩=N (Q I f)) (λF G _=>(intOf G-intOf F).toNat)
 case atStart=>exact⟨0,n,O,O,rfl,rfl,O,O,UQ,SZ,by simp,by simp⟩
 case round=>
  obtain⟨i,j,b4,b5,rfl,rfl,V,W,c,X,Y,Z⟩:=hrel;have E:=(c.cell (p:=⟨m,0,S⟩) a4).trans R;have H:=A V;have J:=A W;clear V W;by_cases b6:i<j
  ·obtain⟨h,hh⟩:∃h:Nat,h=(i+j)/2:=⟨_,rfl⟩;have b9:i<=h:=O;have c4:h<j:=O;obtain⟨rfl,l,o,r,s⟩:=T h O;have L:=(c.cell (p:=⟨g,h*4,S⟩) (MO l)).trans l;have d1:=(c.cell (p:=⟨g,h*4+1,S⟩) (MO o)).trans o;have d2:=(c.cell (p:=⟨g,h*4+2,S⟩) (MO r)).trans r;have d3:=(c.cell (p:=⟨g,h*4+3,S⟩) (MO s)).trans s;have a9:g<wr.heap.size:=MO L;have e1:((i:Int)+j)/2=h:=O;have c6:(h:Int)<n:=O;have HM:=A λq (t:q<=h) (u:bE (K h) x f<0)=>U q h t O u;have b1:=A λq (t:h<=q) (M:q<n) (u:bE (K q) x f<0)=>U h q t M u;clear hh l o r s;have v:=A λ(d:Nat) (y:Array Obj)=>pV m (K h) x f (grow (redrawn wr d) y) ((NP wr d y).cell (p:=⟨m,0,S⟩) (MO E)|>.trans E);go_wp2_with fail
   refine Mg UR UR ?_
   repeat(quiet_step (exact Ml (v.o _ _)))
   refine M3 ?_;intro z b;replace b:=aE b;obtain⟨B,C⟩:=aW b;have D:=b.size;have k:Mb wr.heap.size wr z:=b;clear B C D v;have a0:=A (c.trans (k.mono c.size));by_cases a1:bE (K h) x f<0
   ·go_wp2;go_roundw
    case rel=>exact⟨h+1,j,O,O,by go_num,rfl,λq t=>HM.o q O a1,J.o,a0.o,Mi X k.size,MW k Y,MW k Z⟩
    case measure=>simp[intOf];omega
   ·have HN:=A a1;go_wp2;go_roundw
    case rel=>exact⟨i,h,O,O,rfl,rfl,H.o,λq t M=>Int.not_lt.1 λu=>absurd (b1.o q t M u) (by have:=HN.o;omega),a0.o,Mi X k.size,MW k Y,MW k Z⟩
    case measure=>simp[intOf];omega
  ·obtain rfl:i=j:=by omega
   by_cases P:i<n
   ·obtain⟨rfl,l,o,r,s⟩:=T i P;have L:=(c.cell (p:=⟨g,i*4,S⟩) (MO l)).trans l;have d1:=(c.cell (p:=⟨g,i*4+1,S⟩) (MO o)).trans o;have d2:=(c.cell (p:=⟨g,i*4+2,S⟩) (MO r)).trans r;have d3:=(c.cell (p:=⟨g,i*4+3,S⟩) (MO s)).trans s;have a9:g<wr.heap.size:=MO L;have c7:(i:Int)<n:=O;clear l o r s;have v:=A λ(d:Nat) (y:Array Obj)=>pV m (K i) x f (grow (redrawn wr d) y) ((NP wr d y).cell (p:=⟨m,0,S⟩) (MO E)|>.trans E);go_wp2_with fail
    refine Mg UR UR ?_
    repeat(first|go_big_quiet_skip|quiet_step (exact Ml (v.o _ _)))
    refine M3 ?_;intro z b;replace b:=aE b;obtain⟨B,C⟩:=aW b;have D:=b.size;have k:Mb wr.heap.size wr z:=b;clear B C D v;go_wp2;go_ret2;exact⟨i,O,H.o,J.o,by simp[P],c.trans (k.mono c.size)⟩
   ·go_wp2_with fail
    refine Mg UR UR ?_
    repeat(first|go_big_quiet_skip|quiet_step (fail))
    refine M3 ?_;intro z b;replace b:=aE b;obtain⟨B,C⟩:=aW b;have D:=b.size;have k:Mb wr.heap.size wr z:=b;clear B C D;go_wp2;go_ret2;exact⟨i,O,H.o,J.o,by simp[P],c.trans (k.mono c.size)⟩
abbrev dA(K:List Rt):Prop:=K.Pairwise λa b=>bE a b.bits b.len<0
def nM(K:List Rt)(j:Nat):Rt:=(K[j]?).getD ⟨0,0,0,Mq⟩
theorem iK{K:List Rt}(h:j<K.length):nM K j=K[j]:=by simp[nM,h]
def gG(K:List Rt):List Value:=K.flatMap λe=>[Q I e.bits,Q I e.len,Q I e.vlan,MS e.mac]
theorem qj(K:List Rt):(gG K).length=K.length*4:=by
 induction K with
 |nil=>rfl
 |cons e t a=>simp[gG]at a⊢;omega
theorem kC(a b:List Rt):gG (a++b)=gG a++gG b:=List.flatMap_append
theorem yJ:∀(K:List Rt) (k:Nat) (a:k<K.length),(gG K)[k*4]?=N (Q I K[k].bits)/\(gG K)[k*4+1]?=N (Q I K[k].len)/\(gG K)[k*4+2]?=N (Q I K[k].vlan)/\(gG K)[k*4+3]?=N (MS K[k].mac)
 |[],k,a=>absurd a (by simp)
 |p::t,0,_=>⟨rfl,rfl,rfl,rfl⟩
 |p::t,k+1,a=>by
  have:=yJ t k (by simpa using a);have e:(k+1)*4=k*4+4:=O;rw[e];exact this
def Je(w:MV)(m:Nat)(a:Ma)(K:List Rt):Prop:=
 w.cell? ⟨m,0,S⟩=N (Nm (.func 101) #[] #[])/\w.cell? ⟨m,1,S⟩=N a/\w.ownsRow 0 331 4 a K.length (gG K)/\(∀j,w.frozen? ⟨m,j,S⟩=Md)/\K.length<=200
theorem gY{K:List Rt}(h:w.ownsRow 0 331 4 e K.length (gG K)):∃a c g,e=MR a K.length c/\∀j,j<K.length->a=N ⟨g,0,S⟩/\w.cell? ⟨g,j*4,S⟩=N (Q I (nM K j).bits)/\w.cell? ⟨g,j*4+1,S⟩=N (Q I (nM K j).len)/\w.cell? ⟨g,j*4+2,S⟩=N (Q I (nM K j).vlan)/\w.cell? ⟨g,j*4+3,S⟩=N (MS (nM K j).mac):=by
 rcases h.2 with⟨b,f⟩|⟨g,c,i,b,_⟩
 ·exact⟨S,0,0,by rw[b,f],λj d=>O⟩
 ·refine⟨_,c,g,b,λj d=>⟨rfl,?_⟩⟩;rw[b]at h;have:=yJ K j d;rw[iK d];exact⟨(h.cellAt _ O).trans this.1,(h.cellAt _ O).trans this.2.1,(h.cellAt _ O).trans this.2.2.1,(h.cellAt _ O).trans this.2.2.2⟩
theorem oo{K:List Rt}(a:dA K)(x:Int)(b:Int):∀i j,i<=j->j<K.length->bE (nM K j) x b<0->bE (nM K i) x b<0:=λi j c d h=>by
 rcases Nr c with e|rfl
 ·rw[iK d]at h;rw[iK O];exact zc (Mr.1 a i j _ _ e) h
 ·exact h
theorem oH(m:Nat)(y:Ma)(K:List Rt)(x:Int)(b:Int)(w:MV)(z:Je w m y K)(f:dA K):Mo MT 217 #[MQ (N ⟨m,0,S⟩),M1 #[Q I x,Q I b]] w λe h=>∃i:Nat,i<=K.length/\(∀j,j<i->bE (nM K j) x b<0)/\(∀j,i<=j->j<K.length->0<=bE (nM K j) x b)/\e=MZ (Nn #[Q I i,M0 (decide (i<K.length)&&(bE (nM K i) x b==0))])/\Mb w.heap.size w h:=by
 obtain⟨n,X,o,B,C⟩:=z;have D:m<w.heap.size:=MO n;have Y:m<w.heap.size+1:=O;obtain⟨E,q,k,l⟩:=oR K.length (λj=>bE (nM K j) x b) (oo f x b);obtain⟨a,F,g,rfl,r⟩:=gY o;have G:=A λ(W:MV) (c:Mb w.heap.size w W)=>((JW m g F K.length a (nM K) x b W C ((c.cell (p:=⟨m,0,S⟩) D).trans n) (λj H=>by
   obtain⟨e,s,t,u,v⟩:=r j H;exact⟨e,(c.cell (p:=⟨g,j*4,S⟩) (MO s)).trans s,(c.cell (p:=⟨g,j*4+1,S⟩) (MO t)).trans t,(c.cell (p:=⟨g,j*4+2,S⟩) (MO u)).trans u,(c.cell (p:=⟨g,j*4+3,S⟩) (MO v)).trans v⟩) (oo f x b)).mono
  λe h ⟨i,J,L,M,P,R⟩=>by
   have T:=oQ J L M q k l;subst T;exact(⟨P,R⟩:e=MZ (Nn #[Q I i,M0 (decide (i<K.length)&&(bE (nM K i) x b==0))])/\Mb W.heap.size W h))
 have U:=A k;have V:=A l;clear o B r f k l;go_enter func217,ntmps217;go_wp2_with fail
 refine Mg UR UR ?_
 repeat(quiet_step (exact Ml (G.o _ (NA ((MU w.heap.size w).alloc (MP _) _) ((NP _ _ _).mono (by simp))))))
 refine M3 ?_;intro Z d;replace d:=aE d;obtain⟨a0,a4⟩:=aW d;have a5:=d.size;go_wp2;go_ret2;exact⟨E,q,U.o,V.o,rfl,NA UQ (d.mono SZ)⟩
theorem Gj(m:Nat)(a:Option Addr)(n b:Nat)(w:MV)(d:w.cell? ⟨m,1,S⟩=N (MR a n b)):Mo MT 218 #[MQ (N ⟨m,0,S⟩)] w λe c=>e=MZ (Q I n)/\c=w:=by
 go_enter func218,ntmps218;go_wp2;go_ret;exact⟨rfl,rfl⟩
def cM(K:List Rt)(x:Int)(b:Int):Option Rt:=K.find? λe=>e.bits==x&&e.len==b
theorem gk{e:Rt}:bE e x b=0↔(e.bits==x&&e.len==b)=true:=by
 unfold bE;rw[ew];simp
theorem tz{K:List Rt}(k:∀j,i<=j->j<K.length->0<=bE (nM K j) x b)(m:dA K)(h:¬(i<K.length/\bE (nM K i) x b=0)):∀j,i<=j->j<K.length->0<bE (nM K j) x b:=λj l f=>by
 have a:=k j l f;rcases Int.lt_or_eq_of_le a with g|g
 ·exact g
 ·exfalso;rcases Nr l with n|rfl
  ·have e:=g.symm;unfold bE at e;rw[ew]at e;have c:=Mr.1 m i j O f n;have d:=k i (MP _) O;rw[iK f]at e;rw[iK O]at d;unfold bE at c d;rw[e.1,e.2]at c;omega
  ·exact h ⟨f,g.symm⟩
theorem qk{K:List Rt}(d:∀j,j<i->bE (nM K j) x b<0)(f:∀j,i<=j->j<K.length->0<=bE (nM K j) x b)(g:dA K):cM K x b=if h:i<K.length/\bE (nM K i) x b=0 then N (K[i]'h.1)else none:=by
 unfold cM;split
 ·rename_i h
  rw[Ui];refine⟨by rw[<-iK h.1];exact gk.1 h.2,i,h.1,rfl,λj a=>?_⟩;have:=d j a;rw[iK O]at this;rw[Bool.not_eq_true',<-NB,<-gk];omega
 ·rename_i h
  have k:=tz f g h;rw[OQ];intro e l;obtain⟨j,a,rfl⟩:=Mt l;rw[<-gk,<-iK a];rcases N8 j i with c|c
  ·have:=d j c;omega
  ·have:=k j c a;omega
theorem Je.aD{c:MV}{d:Ma}{K:List Rt}(a:Je w m d K)(b:Mb w.heap.size w c):Je c m d K:=
 ⟨(b.cell (p:=⟨m,0,S⟩) (MO a.1)).trans a.1,(b.cell (p:=⟨m,1,S⟩) (MO a.2.1)).trans a.2.1,di a.2.2.1 (λg e=>b.block g (a.2.2.1.lt g e).2),λj=>(b.frozen (p:=⟨m,j,S⟩) (show m<w.heap.size from MO a.1)).trans (a.2.2.2.1 j),a.2.2.2.2⟩
end
theorem Bq:(prog.info? 300).map (λi=>(i.zero,i.size,i.bytes))=N (N (M1 #[Q I 0,MS Mq]),2,24):=UR
theorem gU:prog.underlying 199=N (.slice 300):=UR
theorem wJ:(prog.info? 300).map (·.size)=N 2:=UR
theorem En(m:Ma)(n:Nat)(b:List Ma)(l:Nat)(a:List Ma)(w:MV)(h:w.ownsRow 0 300 2 m n b)(P:n<=199)(v:a.length=2)(o:∀j u,a[j]?=N u->w.cell? ⟨l,j,S⟩=N u)(x:∀u∈a,u.oneCell'=Mk):Mo MT 216 #[m,Q I n,MR (N ⟨l,0,S⟩) 1 1] w (bn 300 2 m n (b++a) w):=by
 obtain⟨y,z,B,C,D⟩:=Ob Bq;have H:=A h;have E:=A o;have R:(n:Int)<=199:=O;rcases h.2 with⟨p,F⟩|⟨g,q,T,p,_,G,U,J,K,L⟩
 ·subst p F;clear h o;go_enter Qe,ntmps216;go_wp2_with (first|(at_builtin;refine OC _ rfl _ _ 199 rfl 0 300 y (M1 #[Q I 0,MS Mq]) 2 24 gU z B C D rfl US _ 0 b rfl H.o ⟨l,0,S⟩ 1 1 a rfl (by rw[v]) (λj u r=>by rw[NM,NO];exact E.o j u r) x US UT O (NG _) _ rfl ?_))
  intro c d s f i k M;have t:=A (show bn 300 2 (MR S 0 0) 0 (b++a) w (MZ (MR (N ⟨c,0,S⟩) 1 d)) s from⟨c,d,rfl,f,by rcases k with e|e;exact Mf e;exact MX O,aH.grown i λ_ e=>e⟩);clear f i k;go_wp2;go_ret;exact t.o
 ·subst p;clear h o L K G;have V:q<=9223372036854775807:=by unfold Nj at J;omega
  have W:(n:Int)<=q:=O;go_enter Qe,ntmps216;go_wp2_with (first|(at_builtin;refine OC _ rfl _ _ 199 rfl 0 300 y (M1 #[Q I 0,MS Mq]) 2 24 gU z B C D rfl US _ n b rfl H.o ⟨l,0,S⟩ 1 1 a rfl (by rw[v]) (λj u r=>by rw[NM,NO];exact E.o j u r) x US UT O (NG _) _ rfl ?_))
  all_goals
   intro c d s f i k M;have t:=A (show bn 300 2 (MR (N ⟨g,0,S⟩) n q) n (b++a) w (MZ (MR (N ⟨c,0,S⟩) (n+1) d)) s from⟨c,d,rfl,f,by rcases k with e|e;exact Mf e;exact MX O,aH.grown i λ_ e=>e⟩);clear f i k;go_wp2;go_ret;exact t.o
theorem Bn(g n c i:Nat)(f:Array Ma)(h:List Ma)(k:Nat)(J:NL)(K:Nat)(d:List Ma)(w:MV)(o:w.heap[g]?=N (MY f 300 (0,0)))(s:c<=Nj)(L:f.size=c*2)(p:h.length=n*2)(t:f.toList.take (n*2)=h)(a0:∀u∈h,u.oneCell'=Mk)(hi:i<n)(a1:n+1<=c)(hn:n<=199)(q:d.length=2)(M:∀j u,d[j]?=N u->w.cell? ⟨k,j,S⟩=N u)(h1:∀u∈d,u.oneCell'=Mk)(P:k≠g)(a3:w.shape? k=N (J,K))(R:∀j,w.frozen? ⟨k,j,S⟩=Md):Mo MT 216 #[MR (N ⟨g,0,S⟩) n c,Q I i,MR (N ⟨k,0,S⟩) 1 1] w (bn 300 2 (MR (N ⟨g,0,S⟩) n c) n (h.take (i*2)++d++h.drop (i*2)) w):=by
 have T:w.shape? g=N (300,f.size):=by simp[PV,o]
 have a4:∀y z,(callFunc 228 #[MR (N ⟨k,0,S⟩) 1 1,MR (N ⟨g,(i+1)*2,S⟩) y z]).run MT w=.ok (.value (M0 Md)) w:=λy z=>by
  rw[RE func228 UR UR UR (e:=Extern.SlicesOverlaps.overlaps #[199,199] #[4]) UR,
   QC w 199 4 300 gU 2 (λ_=>rfl) ⟨k,0,S⟩ ⟨g,(i+1)*2,S⟩ 1 1 y z P J 300 K f.size a3 T O (R _) (R _)]
  rfl
 have hb:c<=9223372036854775807:=by unfold Nj at s;omega
 have c7:(n:Int)<=c:=O;have c8:(n:Int)+1<=c:=O;have c9:¬((i:Int)=(n:Int)):=O;have d0:(i:Int)<n:=O;have d1:¬((c:Int)<(n:Int)+1):=O;have d2:¬(c=i):=O;have d3:¬(c=i+1):=O;have d4:IntKind.i64.wrap ((i:Int)+1)=(i:Int)+1:=by rw[Mm];omega
 have d5:IntKind.i64.wrap ((n:Int)+1)=(n:Int)+1:=by rw[Mm];omega
 have d6:((i:Int)+1).toNat=i+1:=O;have e0:((n:Int)+1).toNat=n+1:=O;have e1:(0:Int)<=(i:Int)+1:=O;have e2:i<=n:=O;have e3:(i:Int)<=(n:Int)+1:=O;have r:f.toList.length=c*2:=by rw[Nl];exact L
 obtain⟨D,m⟩:=UX (h.drop (i*2));have U:D.length=(n-i)*2:=by rw[m,M2,p];omega
 have V:∀j v,D[j]?=N v->w.cell? ⟨g,i*2+j,S⟩=N v:=λj v l=>by
  rw[m,N2,<-t,M5]at l;split at l
  ·exact aM o l
  ·cases l
 have W:∀u∈D,u.oneCell'=true:=λu X=>a0 u (by rw[m]at X;exact Nu X);have B:(M8 (M8 f.toList ((i+1)*2) D) (i*2) d).take ((n+1)*2)=h.take (i*2)++d++h.drop (i*2):=by
  rw[show(i+1)*2=i*2+2 by omega,show(n+1)*2=n*2+2 by omega,m];exact md f.toList h d (i*2) (n*2) 2 t p q O (by rw[r];omega)
 have Y:(M8 (M8 f.toList ((i+1)*2) D) (i*2) d).length=c*2:=by
  rw[NI _ _ _ (by rw[NI _ _ _ O];omega),NI _ _ _ O,r]
 obtain⟨E,F⟩:=UX (h.take (i*2)++d++h.drop (i*2));have Z:E.length=(n+1)*2:=by rw[F];simp only[Mz,Mh,M2,p,q];omega
 rw[<-F]at B⊢;have HG:aA (w.heap[g]?=N (MY f.toList.toArray 300 (0,0))):=A (by rw[o]);have HV:=A M;have G:=A r;have H:=A U;have a7:=A V;have a8:=A W;have HR:=A B;have b0:=A Y;have b1:=A Z;clear o M t p L T r U V W B Y Z F m;generalize f.toList=C at*;have b2:=A s;clear s;go_enter Qe,ntmps216;go_wp2_with (simp only[a4])
 go_region_law (refine cO rfl _ _ 199 199 rfl 300 2 gU wJ g ((i+1)*2) (n-i) (c- (i+1)) ⟨g,i*2,S⟩ (n+1-i) (c-i) UV UV C 300 HG.o D (n-i) UW H.o (λj v l=>by rw[NM];exact a7.o j v l) (by rw[H.o,G.o];omega) a8.o (λb=>b=g) w (aH.refl _ _).drew (Mf rfl) ?_;intro w1 G1 C1 O1)
 have b9:aA (∀j u,d[j]?=N u->w1.cell? ⟨k,j,S⟩=N u):=A λj u l=>(Mj (w:=w) (a:=⟨k,j,S⟩) (O1.o k P)).trans (HV.o j u l);have c0:aA (i*2+d.length<=(M8 C ((i+1)*2) D).length):=A (by rw[NI _ _ _ (by rw[H.o,G.o];omega),G.o,q];omega);go_wp2_with (refine bo rfl _ _ 199 199 rfl 300 2 gU wJ g (i*2) (n+1-i) (c-i) ⟨k,0,S⟩ 1 1 rfl rfl (M8 C ((i+1)*2) D) 300 G1.o d 1 UW (by rw[q]) (λj v l=>by rw[NM,NO];exact b9.o j v l) c0.o h1 (λb=>b=g) w C1.o (Mf rfl) ?_)
 intro w2 G2 C2 O2;go_wp2;go_ret;exact⟨g,c,rfl,⟨b1.o,MX ⟨g,c,_,rfl,NG _,G2.o,a1,b2.o,by rw[NY];exact b0.o,HR.o⟩⟩,Mf rfl,C2.o.mono λx _ hx=>by subst hx;rfl⟩
theorem xI:(N5 (M1 #[Q I 0,MS Mq])).size=2:=rfl
theorem Bo(g n c i:Nat)(Y:Array Ma)(e:List Ma)(p:Nat)(f:List Ma)(w:MV)(s:w.heap[g]?=N (MY Y 300 (0,0)))(t:e.length=n*2)(J:Y.toList.take (n*2)=e)(Z:∀u∈e,u.oneCell'=Mk)(hi:i<n)(e6:n<=c)(b4:c<n+1)(hn:n<=199)(y:f.length=2)(K:∀j u,f[j]?=N u->w.cell? ⟨p,j,S⟩=N u)(h1:∀u∈f,u.oneCell'=Mk):Mo MT 216 #[MR (N ⟨g,0,S⟩) n c,Q I i,MR (N ⟨p,0,S⟩) 1 1] w (bn 300 2 (MR (N ⟨g,0,S⟩) n c) n (e.take (i*2)++f++e.drop (i*2)) w):=by
 obtain rfl:c=n:=O;obtain⟨i0,b6,b9,c0,a1⟩:=Ob Bq;have a2:g<w.heap.size:=(Mu.1 s).1;have a3:p<w.heap.size:=by
  obtain⟨u,z⟩:∃u,f[0]?=N u:=⟨_,NZ O⟩;exact MO (K 0 u z)
 obtain⟨D,q⟩:=UX (e.drop (i*2));have a4:D.length=(c-i)*2:=by rw[q,M2,t];omega
 have a5:∀j v,D[j]?=N v->w.cell? ⟨g,i*2+j,S⟩=N v:=λj v d=>by
  rw[q,N2,<-J,M5]at d;split at d
  ·exact aM s d
  ·cases d
 have a6:∀u∈D,u.oneCell'=true:=λu z=>Z u (by rw[q]at z;exact Nu z);have a7:(PT i0.size i (MR (N ⟨g,0,S⟩) i c)).run MT w.drew=.ok (e.take (i*2)).toArray w.drew:=by
  rw[c0];exact RF w.drew 2 i ⟨g,0,S⟩ i c (e.take (i*2)) (by rw[Mh];omega) (λj v d=>by
   rw[NM,NO];rw[M5]at d;split at d
   ·rw[<-J,M5]at d;split at d
    ·exact aM s d
    ·cases d
   ·cases d)
 have L:i+(c+1-i)=c+1:=O;have a8:(c:Int)+1- (i:Int)=((c+1-i:Nat):Int):=O;obtain⟨G,B⟩:=UX (grownCap w (c+1) c 300);obtain⟨l,E⟩:=UX ((e.take (i*2)).toArray++NV (N5 (M1 #[Q I 0,MS Mq])) (c+1-i)++NV (N5 (M1 #[Q I 0,MS Mq])) (G- (c+1)):Array Ma);obtain⟨m,r⟩:=UX (w.drew.alloc (MY l 300));have a9:∀M,(Na #[199,3] M #[MR (N ⟨g,0,S⟩) i c,Q I ((c:Int)+1- (i:Int))]).run MT w=.ok (MR (N ⟨w.heap.size,0,S⟩) (c+1) G) m:=λM=>by
  have h:=Pq w 199 3 M 300 i0 _ I I gU UR b6 b9 (N ⟨g,0,S⟩) i c (e.take (i*2)) a7 (c+1-i) O O O O (by rw[a1];omega) (by rw[a1,L];exact Sv b4 O);rw[L]at h;rw[a8,r,E,B];exact h
 have c1:c+1<=G:=by rw[B];exact UB w _ _ _
 have P:G<=maxLen:=by rw[B];exact Ud w (c+1) c 300 UT
 have e8:G<=9223372036854775807:=by unfold Nj at P;omega
 have F:l.toList.length=G*2:=by
  rw[E];simp only[NV,xI,Nq,Mz,Nl,RB,Qp,Mh];omega
 have b0:l.toList.take (i*2)=e.take (i*2):=by
  rw[E,Nq,Nq,Oi,OJ (by rw[Mh];omega),RH,SL]
 have R:(M8 (M8 l.toList (i*2) f) ((i+1)*2) D).take ((c+1)*2)=e.take (i*2)++f++e.drop (i*2):=by
  rw[show(i+1)*2=i*2+2 by omega,show(c+1)*2=c*2+2 by omega,q];exact me l.toList e f (i*2) (c*2) 2 b0 t y O (by rw[F];omega)
 have T:(M8 l.toList (i*2) f).length=G*2:=by rw[NI _ _ _ O,F]
 have b1:(M8 (M8 l.toList (i*2) f) ((i+1)*2) D).length=G*2:=by rw[NI _ _ _ O,T]
 obtain⟨U,V⟩:=UX (e.take (i*2)++f++e.drop (i*2));have b2:U.length=(c+1)*2:=by rw[V];simp only[Mz,Mh,M2,t,y];omega
 rw[<-V]at R⊢;obtain⟨o,H⟩:=UX w.heap.size;have HG:aA (m.heap[o]?=N (MY l.toList.toArray 300 (0,0))):=A (by rw[r,H];exact(by simp:(w.heap.push (Obj.cells l 300))[w.heap.size]?=some (Obj.cells l.toList.toArray 300)));have W:aA (∀k,k<o->m.heap[k]?=w.heap[k]?):=A λk hk=>by rw[r];exact((MU w.heap.size w.drew).alloc (MP _) _).block k O
 have c3:aA (aH (λb=>b=g) w m):=A (by rw[r];exact(aH.refl _ w).drew.alloc _);rw[<-H]at a9 a2 a3;have c4:aA (∀j u,f[j]?=N u->m.cell? ⟨p,j,S⟩=N u):=A λj u d=>(Mj (w:=w) (a:=⟨p,j,S⟩) (W.o p a3)).trans (K j u d);have c5:aA (∀j v,D[j]?=N v->m.cell? ⟨g,i*2+j,S⟩=N v):=A λj v d=>(Mj (w:=w) (a:=⟨g,i*2+j,S⟩) (W.o g a2)).trans (a5 j v d);have b3:=A a4;have c6:=A a6;have HR:=A R;have c8:=A b1;have c9:=A F;have d0:=A T;have d1:=A b2;have d2:=A P;have X:=A H;have d3:g≠o:=O;clear s K J t a4 a5 a6 R b1 b2 V q a7 L a8 E F b0 T r B P H W Z;generalize l.toList=C at*;have hb:c<=9223372036854775807:=O;have f2:¬((i:Int)=(c:Int)):=O;have f3:(i:Int)<c:=O;have f4:(c:Int)<(c:Int)+1:=O;have f5:¬(c=i):=O;have f6:¬(G=i):=O;have f7:¬(G=i+1):=O;have f8:IntKind.i64.wrap ((i:Int)+1)=(i:Int)+1:=by rw[Mm];omega
 have f9:IntKind.i64.wrap ((c:Int)+1)=(c:Int)+1:=by rw[Mm];omega
 have g0:IntKind.i64.wrap ((c:Int)+1- (i:Int))=(c:Int)+1- (i:Int):=by rw[Mm];omega
 have g1:((i:Int)+1).toNat=i+1:=O;have g2:(0:Int)<=(i:Int)+1:=O;have g3:i<=c:=O;have g4:(i:Int)<=(c:Int)+1:=O;go_enter Qe,ntmps216;go_wp2_with (first|(at_builtin;refine QK _ rfl _ _ 199 3 rfl _ _ rfl rfl _ _ (a9 _) ?_)|(refine bo rfl _ _ 199 199 rfl 300 2 gU wJ o (i*2) (c+1-i) (G-i) ⟨p,0,S⟩ 1 1 rfl rfl C 300 HG.o f 1 UW (by rw[y]) (λj v d=>by rw[NM,NO];exact c4.o j v d) (by rw[c9.o,y];omega) h1 (λb=>b=g) w c3.o (MX (OU X.o.symm)) ?_))
 intro w1 G1 C1 O1;have e1:aA (∀j v,D[j]?=N v->w1.cell? ⟨g,i*2+j,S⟩=N v):=A λj v d=>(Mj (w:=m) (a:=⟨g,i*2+j,S⟩) (O1.o g d3)).trans (c5.o j v d);go_wp2;go_region_law (refine cO rfl _ _ 199 199 rfl 300 2 gU wJ o ((i+1)*2) (c-i) (G- (i+1)) ⟨g,i*2,S⟩ (c-i) (c-i) UV UV (M8 C (i*2) f) 300 G1.o D (c-i) UW b3.o (λj v d=>by rw[NM];exact e1.o j v d) (by rw[b3.o,d0.o];omega) c6.o (λb=>b=g) w C1.o.drew (MX (OU X.o.symm)) ?_;intro w2 G2 C2 O2)
 go_wp2;go_ret;exact⟨o,G,rfl,⟨d1.o,MX ⟨o,G,_,rfl,NG _,G2.o,c1,d2.o,by rw[NY];exact c8.o,HR.o⟩⟩,MX (OU X.o.symm),C2.o.mono λx _ hx=>by subst hx;rfl⟩
theorem Eo(d:Ma)(n i:Nat)(a:List Ma)(b:Nat)(p:NL)(q:Nat)(c:List Ma)(w:MV)(h:w.ownsRow 0 300 2 d n a)(r:∀u∈a,u.oneCell'=Mk)(L:i<=n)(f:n<=199)(k:c.length=2)(l:∀j u,c[j]?=N u->w.cell? ⟨b,j,S⟩=N u)(m:∀u∈c,u.oneCell'=Mk)(z:d.ownBlock≠N b)(B:w.shape? b=N (p,q))(C:∀j,w.frozen? ⟨b,j,S⟩=Md):Mo MT 216 #[d,Q I i,MR (N ⟨b,0,S⟩) 1 1] w (bn 300 2 d n (a.take (i*2)++c++a.drop (i*2)) w):=by
 by_cases D:i=n
 ·subst D;have E:a.take (i*2)=a:=NN (by rw[h.1];exact MP _);have F:a.drop (i*2)=[]:=N9 (by rw[h.1];exact MP _);rw[E,F,OY];exact En d i a b c w h f k l m
 ·have s:=h;rcases h.2 with⟨t,M⟩|⟨g,o,v,t,_,x,G,H,J,y⟩
  ·omega
  ·subst t;by_cases K:n+1<=o
   ·exact Bn g n o i v a b p q c w x H J s.1 y r O K f k l m (λe=>z (by rw[e];rfl)) B C
   ·exact Bo g n o i v a b c w x s.1 y r O G O f k l m
def gC(w:MV)(a:Ma):Prop:=∀g,a.ownBlock=N g->∃n p,w.cell? ⟨g,0,S⟩=N (Q I n)/\w.cell? ⟨g,1,S⟩=N (MS p)
theorem jW(L M:List Fc):dP (L++M)=dP L++dP M:=by simp[dP]
theorem sU(L:List Fc)(i:Nat):(dP L).take (i*2)=dP (L.take i):=by
 rcases N8 L.length i with h|h
 ·rw[NN (by rw[iI];omega),NN O]
 ·have e:=congrArg dP (Np i L).symm;rw[jW]at e;rw[e,OJ (by rw[iI,Mh];omega),NN (by rw[iI,Mh];omega)]
theorem sV(L:List Fc)(i:Nat):(dP L).drop (i*2)=dP (L.drop i):=by
 rcases N8 L.length i with h|h
 ·rw[N9 (by rw[iI];omega),N9 O];rfl
 ·have e:=congrArg dP (Np i L).symm;rw[jW]at e;have l:(dP (L.take i)).length=i*2:=by rw[iI,Mh];omega
  rw[e,<-l,List.drop_left]
theorem uw{L:List Fc}:∀u∈dP L,u.oneCell'=true:=by
 intro u a;obtain⟨e,_,h⟩:=List.mem_flatMap.1 a;simp at h;rcases h with rfl|rfl<;>rfl
theorem gC.ne{a:Ma}{g:Nat}{d:Fn}{f c:Array Ma}(h:gC w a)(e:a.ownBlock=N g)(i:w.cell? ⟨m,0,S⟩=N (Nm d f c)):m≠g:=by
 rintro rfl;obtain⟨n,p,b,_⟩:=h m e;rw[i]at b;cases b
theorem gC.lC{b:Ma}{L:List Fc}(h:w.ownsRow 0 300 2 b L.length (dP L))(c:0<L.length):gC w b:=by
 obtain⟨a,k,g,rfl,d⟩:=eI h;obtain⟨rfl,e,f⟩:=d 0 c;intro i j;obtain rfl:g=i:=by simpa[NF]using j
 exact⟨_,_,e,f⟩
theorem pH{a:MV}{d b:Ma}{c:List Fc}(e:a.cell? ⟨m,0,S⟩=N (Nm (.func 33) #[] #[]))(f:a.cell? ⟨m,1,S⟩=N d)(h:∀j,a.frozen? ⟨m,j,S⟩=Md)(i:a.ownsRow 0 300 2 b c.length (dP c))(k:∀g,b.ownBlock=N g->m≠g)(l:c.length<=200)(n:w=a.setCell ⟨m,1,S⟩ b):iR w m b c:=by
 subst n;refine⟨?_,?_,aY i λg o=>Below.heap_setCell _ _ _ _ (k g o).symm,λj=>?_,l⟩
 ·rw[World.cell?_setCell_other _ _ _ _ (by simp)];exact e
 ·exact World.cell?_setCell_same _ _ _ f
 ·rw[World.frozen?_setCell];exact h j
theorem EF(m:Nat)(v:Ma)(L:List Fc)(c:Fc)(w:MV)(hm:iR w m v L)(G:bt L)(H:gC w v)(J:bG L c.1=S)(hn:L.length<=199):Mo MT 193 #[MQ (N ⟨m,0,S⟩),Q I c.1,MS c.2] w λe K=>e=MZ (Nn #[])/\∃o k,iR K m o k/\bt k/\gC K o/\(∀x,x∈k↔x=c\/x∈L)/\k.length=L.length+1/\(∀b,o.ownBlock=N b->v.ownBlock=N b\/w.heap.size<=b)/\aH (λb=>b=m\/v.ownBlock=N b) w K:=by
 have CP:=A (ej m v L c.1 w hm G);obtain⟨C,h1,M,h3,h4⟩:=hm;obtain⟨a,q,g,rfl,hc⟩:=eI M;have R:m<w.heap.size:=MO C;have D:∀b,(MR a L.length q).ownBlock=N b->m≠b:=λb d=>H.ne d C;have HO:=A M;have T:=A G;have U:=A H;have H3:=A h3;have V:=A D;clear M h3 G H hc D;go_enter func193,ntmps193;go_wp2_with fail
 refine CP.o.mono ?_;rintro e f ⟨i,hi,X,Y,rfl,d⟩;have HF:=A (eu X Y T.o);have l:(decide (i<L.length)&&(iV L i==c.1))=false:=by
  rw[<-NB,NH,decide_eq_true_eq,beq_iff_eq];intro h;have:=HF.o;rw[dif_pos h,J]at this;cases this
 have HL:=A X;have HR:=A Y;have k0:=MW d C;have k1:=MW d h1;have r:=A d;have e5:=d.size;have d5:m<f.heap.size:=O;clear CP X Y d HF C h1;go_wp2_with fail
 obtain⟨W,y⟩:=UX (f.alloc (MY #[Q I c.1,MS c.2] 300));have E:=UY y;have F:W.heap[f.heap.size]?=N (MY #[Q I c.1,MS c.2] 300 (0,0)):=by rw[y];exact bI _ _
 have d6:W.heap.size=f.heap.size+1:=by rw[y];exact aZ _ _
 have oW:W.ownsRow 0 300 2 (MR a L.length q) L.length (dP L):=aY HO.o λb d=>by
  have:b<w.heap.size:=by obtain⟨n,p,Z,_⟩:=U.o b d;exact MO Z
  exact(E.block b O).trans (r.o.block b this)
 have CI:=Eo (MR a L.length q) L.length i (dP L) f.heap.size 300 2 [Q I c.1,MS c.2] W oW uw hi hn rfl
  (λj u z=>aM F z) oc (λd=>by obtain⟨n,p,Z,_⟩:=U.o f.heap.size d;have:f.heap.size<w.heap.size:=MO Z;omega) (by simp[PV,F]) (λj=>by simp[World.frozen?,F])
 rw[<-y];refine CI.mono ?_;rintro e s ⟨B,a0,rfl,a1,a2,a3⟩;have a4:s.heap[m]?=w.heap[m]?:=(a3.block m O λh=>V.o m h rfl).trans ((E.block m d5).trans (r.o.block m R));have a5:∀j,s.cell? ⟨m,j,S⟩=w.cell? ⟨m,j,S⟩:=λj=>Mj (a:=⟨m,j,S⟩) a4;have a6:∀j,s.frozen? ⟨m,j,S⟩=false:=λj=>(World.frozen?_of_block (a:=⟨m,j,S⟩) a4).trans (H3.o j);have d0:s.cell? ⟨m,0,S⟩=N (Nm (.func 33) #[] #[]):=(a5 0).trans ((r.o.cell (p:=⟨m,0,S⟩) R).symm.trans k0);have d1:s.cell? ⟨m,1,S⟩=N (MR a L.length q):=(a5 1).trans ((r.o.cell (p:=⟨m,1,S⟩) R).symm.trans k1);have e6:=a6 1;have a7:(L.take i++c::L.drop i).length=L.length+1:=jm c hi;have c4:(dP L).take (i*2)++[Q I c.1,MS c.2]++(dP L).drop (i*2)=dP (L.take i++c::L.drop i):=by
  rw[sU,sV,jW];simp[dP]
 rw[c4]at a1;have c5:∀g,(MR (N ⟨B,0,S⟩) (L.length+1) a0).ownBlock=N g->m≠g:=λg hg=>by
  obtain rfl:B=g:=by simpa[NF]using hg
  rcases a2 with h|h
  ·exact V.o _ h
  ·omega
 have c6:∀x,x∈L->x.1≠c.1:=λx l he=>by
  have:=OQ.1 J x l;simp[he]at this
 have P:=A (show∀t,t=s.setCell ⟨m,1,S⟩ (MR (N ⟨B,0,S⟩) (L.length+1) a0)->∃o k,iR t m o k/\bt k/\gC t o/\(∀x,x∈k↔x=c\/x∈L)/\k.length=L.length+1/\(∀b,o.ownBlock=N b->(MR a L.length q).ownBlock=N b\/w.heap.size<=b)/\aH (λb=>b=m\/(MR a L.length q).ownBlock=N b) w t from by
  intro t c7;have hM:iR t m (MR (N ⟨B,0,S⟩) (L.length+1) a0) (L.take i++c::L.drop i):=pH d0 d1 a6 (by rw[a7];exact a1) c5 O c7;refine⟨_,_,hM,?_,gC.lC hM.2.2.1 O,nC i c,a7,?_,?_⟩
  ·refine pz i c T.o (λx l=>?_) (λx l=>?_)
   ·obtain⟨j,z,rfl⟩:=Mt l;rw[Mh]at z;rw[List.getElem_take];have:=HL.o j O;rwa[et O]at this
   ·have D:=c6 x (Nu l);obtain⟨j,z,rfl⟩:=Mt l;rw[M2]at z;rw[List.getElem_drop]at D⊢;have:=HR.o (i+j) O O;rw[et O]at this;omega
  ·intro b d;obtain rfl:B=b:=by simpa[NF]using d
   rcases a2 with h|h
   ·exact Mf h
   ·exact MX O
  ·rw[c7];refine aH.setCell ?_ (Mf (Mf rfl)) _;exact((aH.aG r.o).trans ((aH.aG E).trans (a3.mono λx _ l=>MX l))))
 clear a1 a2 a3 a4 a5 a6 d0 c4 c5 c6 CI oW F d6 E y HL HR HO U V T r J H3 a7;go_wp2;go_end0;exact⟨rfl,P.o _ rfl⟩
section
attribute [local go_sem] aI
def fQ(b:ByteArray):Bool:=(b.size==6)&&!dH b
theorem nV(b:ByteArray)(w:MV):Mo MT 141 #[MS b] w λe c=>e=MZ (M0 (fQ b))/\c=w:=by
 have C:=A λ(W:MV)=>qv b W;by_cases h:b.size=6
 ·have d:((b.size:Int)==6)=true:=by rw[h];rfl
  have e:fQ b=!dH b:=by unfold fQ;rw[h];rfl
  rw[e];clear e;go_enter TG,ntmps141;go_wp2_with fail
  refine(C.o _).mono ?_;rintro e W ⟨rfl,a⟩;rw[a];clear a W;go_wp2;go_ret;exact⟨rfl,rfl⟩
 ·have d:((b.size:Int)==6)=false:=by
   rw[<-NB,beq_iff_eq];omega
  have f:¬((b.size:Int)=6):=O;have e:fQ b=false:=by
   unfold fQ;rw[show(b.size==6)=Md by simpa using h];rfl
  rw[e];clear e;go_enter TG,ntmps141;go_wp2;go_ret;exact⟨rfl,rfl⟩
def mK(a:Nat):Nat:=2^(32-a)
theorem wa(a:Nat):mK a<=4294967296/\0<mK a:=by
 unfold mK;exact⟨(Nat.pow_le_pow_right (n:=2) O O:2^(32-a)<=2^32),Nat.two_pow_pos _⟩
theorem oU(d:Int)(a:Nat)(w:MV)(g:a<=32):Mo MT 196 #[M1 #[Q I d,Q I a]] w λe f=>e=MZ (Q I ((mK a:Int) -1))/\Mb w.heap.size w f:=by
 obtain⟨k,c⟩:=UX (32-a);have h:IntKind.i64.wrap (32- (a:Int))=(k:Int):=by rw[Mm];omega
 have i:(32:Int) - (a:Int)=(k:Int):=O;obtain⟨p,b⟩:=UX (mK a);have j:(2:Int)^k=(p:Int):=by rw[b,c];simp[mK]
 have l:p<=4294967296/\0<p:=by rw[b];exact wa a
 rw[<-b];clear b c;go_enter func196,ntmps196;go_wp2;go_ret;exact⟨by go_num,UQ⟩
end
end Go.Proofs.YtnjalelblbjfiaaGreatDoor
