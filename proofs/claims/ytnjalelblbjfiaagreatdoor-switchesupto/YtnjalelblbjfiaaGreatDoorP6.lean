import Derived.Test.YtnjalelblbjfiaaGreatDoorP5
import Derived.Laws.CopyOwn
import Derived.Lib.AppendZerosOnto
import Derived.Lib.Overlaps
namespace Go.Proofs.YtnjalelblbjfiaaGreatDoor
set_option maxRecDepth 100000
set_option maxHeartbeats 16000000
open Go.RowKit
open Go.Proofs.Tryz
open Go.Sort (grow)
open Go renaming Addr→Oz,World→MV,Calls→Mo,block_lt_of_cell→MO,wp_region_quiet_below→Mg,wpQuiet_nil→M3,below_regrown→NP,cell_later→MW,Value→Ma,setRow_other→SK,Program→Q4,TypeId→NL,splice→M8,setRow_heap→RC,length_splice→NI
open Go.Calls renaming regrown_of→Ml
open Go.Ending renaming returned→MZ
open Go.Fn renaming func→OO
open Go.IntKind renaming i64→I
open Go.Proofs.Tryz renaming prog→MT
open Go.RowKit renaming Below→Mb
open Go.RowKit.Below renaming refl→MU,trans→NA
open Go.Value renaming func→Nm,pointer→MQ,agg→M1,int→Q,slice→MR,tuple→Nn,bool→M0
open Option renaming none→S,some→N
open Nat renaming lt_of_lt_of_le→Mi,lt_or_eq_of_le→Nr,le_refl→MP,min→TX,min_eq_left→Oo
open List renaming pairwise_iff_getElem→Mr,getElem?_append→OZ,length_take→Mh,getElem?_take→M5,length_drop→M2,ext_getElem?→Qa,append_assoc→Oi,getElem?_eq_none_iff→Pb
variable {u:Array Oper}{L:List af}{a b w:MV}{e:Ma}{g i j:Nat}{X:Nat->Prop}{o:Oper}{P:Q4}{h:Type}
section
attribute [local go_sem] aI
theorem pU(m:Nat)(k:Int)(p:Option Oz)(x:Int)(w:MV)(c:w.cell? ⟨m,0,S⟩=N (Nm (OO 33) #[] #[])):Mo MT 154 #[MQ (N ⟨m,0,S⟩),M1 #[Q I k,MQ p],Q I x] w λe b=>e=MZ (Q I (d9 k x))/\Mb w.heap.size w b:=by
 have d:m<w.heap.size:=MO c;go_enter func154,ntmps154;go_wp2_with fail
 refine Mg UR UR ?_
 repeat(quiet_step (exact Ml ((io _ _ _).mono λe b h=>⟨h.1,h.2▸MU _ _⟩)))
 refine M3 ?_;intro f a;replace a:=aE a;obtain⟨g,i⟩:=aW a;have j:=a.size;go_wp2;go_ret;exact⟨rfl,NA UQ (a.mono SZ)⟩
theorem pQ(m:Nat)(k b:Int)(p:Option Oz)(x c:Int)(w:MV)(d:w.cell? ⟨m,0,S⟩=N (Nm (OO 35) #[] #[])):Mo MT 159 #[MQ (N ⟨m,0,S⟩),M1 #[Q I k,Q I b,MQ p],M1 #[Q I x,Q I c]] w λe f=>e=MZ (Q I (kV k b x c))/\Mb w.heap.size w f:=by
 have g:m<w.heap.size:=MO d;have h:m<w.heap.size+1+1:=O;go_enter func159,ntmps159;go_wp2_with fail
 refine Mg UR UR ?_
 repeat(quiet_step (exact Ml (rE _ _ _ _ _)))
 refine M3 ?_;intro i a;replace a:=aE a;obtain⟨j,l⟩:=aW a;have n:=a.size;go_wp2;go_ret;exact⟨rfl,NA UQ (a.mono SZ)⟩
theorem JV(m g P n:Nat)(a:Option Oz)(K:Nat->Int)(E:Nat->Nat)(x:Int)(w:MV)(hn:n<=200)(C:w.cell? ⟨m,0,S⟩=N (Nm (OO 33) #[] #[]))(D:∀j,j<n->a=N ⟨g,0,S⟩/\w.cell? ⟨g,(j)*2,S⟩=N (Q I (K (j)))/\w.cell? ⟨g,(j)*2+1,S⟩=N (MQ (N ⟨E (j),0,S⟩)))(F:∀i j,i<=j->j<n->d9 (K j) x<0->d9 (K i) x<0):Mo MT 153 #[MR a n P,Q I x,Nm (OO 154) #[MQ (N ⟨m,0,S⟩)] #[]] w λe R=>∃i:Nat,i<=n/\(∀j,j<i->d9 (K j) x<0)/\(∀j,i<=j->j<n->0<=d9 (K j) x)/\e=MZ (Nn #[Q I i,M0 (decide (i<n)&&(d9 (K i) x==0))])/\Mb w.heap.size w R:=by
 have T:m<w.heap.size:=MO C;go_enter func153,ntmps153;go_wp2;go_loopw [9,10] (λl o wr=>∃i j:Nat,i<=j/\j<=n/\l=Q I i/\o=Q I j/\(∀q,q<i->d9 (K q) x<0)/\(∀q,j<=q->q<n->0<=d9 (K q) x)/\Mb w.heap.size w wr) (λl o _=>(intOf o-intOf l).toNat)
 case atStart=>exact⟨0,n,O,O,rfl,rfl,O,O,UQ⟩
 case round=>
  obtain⟨i,j,a1,a2,rfl,rfl,G,H,b⟩:=hrel;have J:=(b.cell (p:=⟨m,0,S⟩) T).trans C;have r:=A G;have s:=A H;clear G H;by_cases a3:i<j
  ·obtain⟨h,U⟩:∃h:Nat,h=(i+j)/2:=⟨_,rfl⟩;have a4:i<=h:=O;have a5:h<j:=O;obtain⟨rfl,c,d⟩:=D h O;have t:=(b.cell (p:=⟨g,h*2,S⟩) (MO c)).trans c;have V:=(b.cell (p:=⟨g,h*2+1,S⟩) (MO d)).trans d;have W:g<wr.heap.size:=MO t;have e1:((i:Int)+j)/2=h:=O;have a7:(h:Int)<n:=O;have X:=A λq (f:q<=h) (k:d9 (K h) x<0)=>F q h f O k;have Y:=A λq (f:h<=q) (u:q<n) (k:d9 (K q) x<0)=>F h q f u k;clear U c d;go_wp2_with fail
   refine(pU m (K h) (N ⟨E h,0,S⟩) x _ J).mono ?_;rintro e v ⟨rfl,y⟩;have z:Mb wr.heap.size wr v:=y;have L:=A (b.trans (z.mono b.size));by_cases M:d9 (K h) x<0
   ·go_wp2;go_roundw
    case rel=>exact⟨h+1,j,O,O,by go_num,rfl,λq f=>X.o q O M,s.o,L.o⟩
    case measure=>simp[intOf];omega
   ·have Z:=A M;go_wp2;go_roundw
    case rel=>exact⟨i,h,O,O,rfl,rfl,r.o,λq f u=>Int.not_lt.1 λk=>absurd (Y.o q f u k) (by have:=Z.o;omega),L.o⟩
    case measure=>simp[intOf];omega
  ·obtain rfl:i=j:=by omega
   by_cases B:i<n
   ·obtain⟨rfl,c,d⟩:=D i B;have t:=(b.cell (p:=⟨g,i*2,S⟩) (MO c)).trans c;have V:=(b.cell (p:=⟨g,i*2+1,S⟩) (MO d)).trans d;have W:g<wr.heap.size:=MO t;have a8:(i:Int)<n:=O;clear c d;go_wp2_with fail
    refine(pU m (K i) (N ⟨E i,0,S⟩) x _ J).mono ?_;rintro e v ⟨rfl,y⟩;have z:Mb wr.heap.size wr v:=y;go_wp2;go_ret2;exact⟨i,O,r.o,s.o,by simp[B],b.trans (z.mono b.size)⟩
   ·go_wp2;go_ret2;exact⟨i,O,r.o,s.o,by simp[B],b⟩
theorem JT(m g a3 n:Nat)(a:Option Oz)(K f:Nat->Int)(E:Nat->Nat)(x c:Int)(w:MV)(hn:n<=200)(T:w.cell? ⟨m,0,S⟩=N (Nm (OO 35) #[] #[]))(U:∀j,j<n->a=N ⟨g,0,S⟩/\w.cell? ⟨g,(j)*3,S⟩=N (Q I (K (j)))/\w.cell? ⟨g,(j)*3+1,S⟩=N (Q I (f (j)))/\w.cell? ⟨g,(j)*3+2,S⟩=N (MQ (N ⟨E (j),0,S⟩)))(V:∀i j,i<=j->j<n->kV (K j) (f j) x c<0->kV (K i) (f i) x c<0):Mo MT 158 #[MR a n a3,M1 #[Q I x,Q I c],Nm (OO 159) #[MQ (N ⟨m,0,S⟩)] #[]] w λe w'=>∃i:Nat,i<=n/\(∀j,j<i->kV (K j) (f j) x c<0)/\(∀j,i<=j->j<n->0<=kV (K j) (f j) x c)/\e=MZ (Nn #[Q I i,M0 (decide (i<n)&&(kV (K i) (f i) x c==0))])/\Mb w.heap.size w w':=by
 have a5:m<w.heap.size:=MO T;go_enter func158,ntmps158;go_wp2;go_loopw [9,10] (λG H wr=>∃i j:Nat,i<=j/\j<=n/\G=Q I i/\H=Q I j/\(∀q,q<i->kV (K q) (f q) x c<0)/\(∀q,j<=q->q<n->0<=kV (K q) (f q) x c)/\Mb w.heap.size w wr/\w.heap.size<wr.heap.size/\wr.cell? ⟨w.heap.size,0,S⟩=N (Q I x)/\wr.cell? ⟨w.heap.size,1,S⟩=N (Q I c)) (λG H _=>(intOf H-intOf G).toNat)
 case atStart=>exact⟨0,n,O,O,rfl,rfl,O,O,UQ,SZ,by simp,by simp⟩
 case round=>
  obtain⟨i,j,b4,b5,rfl,rfl,W,X,k,Y,Z,x1⟩:=hrel;have F:=(k.cell (p:=⟨m,0,S⟩) a5).trans T;have J:=A W;have L:=A X;clear W X;by_cases b6:i<j
  ·obtain⟨h,hh⟩:∃h:Nat,h=(i+j)/2:=⟨_,rfl⟩;have b9:i<=h:=O;have c3:h<j:=O;obtain⟨rfl,o,r,s⟩:=U h O;have M:=(k.cell (p:=⟨g,h*3,S⟩) (MO o)).trans o;have d1:=(k.cell (p:=⟨g,h*3+1,S⟩) (MO r)).trans r;have d2:=(k.cell (p:=⟨g,h*3+2,S⟩) (MO s)).trans s;have a9:g<wr.heap.size:=MO M;have e1:((i:Int)+j)/2=h:=O;have c5:(h:Int)<n:=O;have HM:=A λq (t:q<=h) (u:kV (K h) (f h) x c<0)=>V q h t O u;have b1:=A λq (t:h<=q) (P:q<n) (u:kV (K q) (f q) x c<0)=>V h q t P u;clear hh o r s;have v:=A λ(d:Nat) (y:Array Obj)=>pQ m (K h) (f h) (N ⟨E h,0,S⟩) x c (grow (redrawn wr d) y) ((NP wr d y).cell (p:=⟨m,0,S⟩) (MO F)|>.trans F);go_wp2_with fail
   refine Mg UR UR ?_
   repeat(quiet_step (exact Ml (v.o _ _)))
   refine M3 ?_;intro z b;replace b:=aE b;obtain⟨B,C⟩:=aW b;have D:=b.size;have l:Mb wr.heap.size wr z:=b;clear B C D v;have a1:=A (k.trans (l.mono k.size));by_cases a2:kV (K h) (f h) x c<0
   ·go_wp2;go_roundw
    case rel=>exact⟨h+1,j,O,O,by go_num,rfl,λq t=>HM.o q O a2,L.o,a1.o,Mi Y l.size,MW l Z,MW l x1⟩
    case measure=>simp[intOf];omega
   ·have HN:=A a2;go_wp2;go_roundw
    case rel=>exact⟨i,h,O,O,rfl,rfl,J.o,λq t P=>Int.not_lt.1 λu=>absurd (b1.o q t P u) (by have:=HN.o;omega),a1.o,Mi Y l.size,MW l Z,MW l x1⟩
    case measure=>simp[intOf];omega
  ·obtain rfl:i=j:=by omega
   by_cases R:i<n
   ·obtain⟨rfl,o,r,s⟩:=U i R;have M:=(k.cell (p:=⟨g,i*3,S⟩) (MO o)).trans o;have d1:=(k.cell (p:=⟨g,i*3+1,S⟩) (MO r)).trans r;have d2:=(k.cell (p:=⟨g,i*3+2,S⟩) (MO s)).trans s;have a9:g<wr.heap.size:=MO M;have c6:(i:Int)<n:=O;clear o r s;have v:=A λ(d:Nat) (y:Array Obj)=>pQ m (K i) (f i) (N ⟨E i,0,S⟩) x c (grow (redrawn wr d) y) ((NP wr d y).cell (p:=⟨m,0,S⟩) (MO F)|>.trans F);go_wp2_with fail
    refine Mg UR UR ?_
    repeat(first|go_big_quiet_skip|quiet_step (exact Ml (v.o _ _)))
    refine M3 ?_;intro z b;replace b:=aE b;obtain⟨B,C⟩:=aW b;have D:=b.size;have l:Mb wr.heap.size wr z:=b;clear B C D v;go_wp2;go_ret2;exact⟨i,O,J.o,L.o,by simp[R],k.trans (l.mono k.size)⟩
   ·go_wp2_with fail
    refine Mg UR UR ?_
    repeat(first|go_big_quiet_skip|quiet_step (fail))
    refine M3 ?_;intro z b;replace b:=aE b;obtain⟨B,C⟩:=aW b;have D:=b.size;have l:Mb wr.heap.size wr z:=b;clear B C D;go_wp2;go_ret2;exact⟨i,O,J.o,L.o,by simp[R],k.trans (l.mono k.size)⟩
end
def gX(L:List af):List Value:=L.flatMap λe=>[Q I e.2.id,MQ (N ⟨e.1,0,S⟩)]
def gL(L:List af):List Value:=L.flatMap λe=>[Q I e.2.pr,Q I e.2.id,MQ (N ⟨e.1,0,S⟩)]
theorem jD(L:List af):(gX L).length=L.length*2:=by
 induction L with
 |nil=>rfl
 |cons e t a=>simp[gX]at a⊢;omega
theorem jC(L:List af):(gL L).length=L.length*3:=by
 induction L with
 |nil=>rfl
 |cons e t a=>simp[gL]at a⊢;omega
theorem Fu(L:List af):∀k (a:k<L.length),(gX L)[k*2]?=N (Q I L[k].2.id)/\(gX L)[k*2+1]?=N (MQ (N ⟨L[k].1,0,S⟩)):=by
 induction L with
 |nil=>intro k a;simp at a
 |cons p t b=>
  intro k a;match k,a with
  |0,_=>exact⟨rfl,rfl⟩
  |k+1,a=>
   have:=b k (by simpa using a);have e:(k+1)*2=k*2+2:=O;rw[e];exact this
theorem Ft(L:List af):∀k (a:k<L.length),(gL L)[k*3]?=N (Q I L[k].2.pr)/\(gL L)[k*3+1]?=N (Q I L[k].2.id)/\(gL L)[k*3+2]?=N (MQ (N ⟨L[k].1,0,S⟩)):=by
 induction L with
 |nil=>intro k a;simp at a
 |cons p t b=>
  intro k a;match k,a with
  |0,_=>exact⟨rfl,rfl,rfl⟩
  |k+1,a=>
   have:=b k (by simpa using a);have e:(k+1)*3=k*3+3:=O;rw[e];exact this
def oV(w:MV)(m:Nat)(a:Ma)(L:List af):Prop:=
 w.cell? ⟨m,0,S⟩=N (Nm (OO 33) #[] #[])/\w.cell? ⟨m,1,S⟩=N a/\w.ownsRow 0 184 2 a L.length (gX L)/\(∀j,w.frozen? ⟨m,j,S⟩=false)/\L.length<=200
def nN(w:MV)(m:Nat)(a:Ma)(L:List af):Prop:=
 w.cell? ⟨m,0,S⟩=N (Nm (OO 35) #[] #[])/\w.cell? ⟨m,1,S⟩=N a/\w.ownsRow 0 189 3 a L.length (gL L)/\(∀j,w.frozen? ⟨m,j,S⟩=false)/\L.length<=200
theorem ie(h:w.ownsRow 0 184 2 e L.length (gX L)):∃a c g,e=MR a L.length c/\∀j (d:j<L.length),a=N ⟨g,0,S⟩/\w.cell? ⟨g,j*2,S⟩=N (Q I L[j].2.id)/\w.cell? ⟨g,j*2+1,S⟩=N (MQ (N ⟨L[j].1,0,S⟩)):=by
 rcases h.2 with⟨b,f⟩|⟨g,c,i,b,_⟩
 ·exact⟨S,0,0,by rw[b,f],λj d=>O⟩
 ·refine⟨_,c,g,b,λj d=>⟨rfl,?_⟩⟩;rw[b]at h;have:=Fu L j d;exact⟨(h.cellAt _ O).trans this.1,(h.cellAt _ O).trans this.2⟩
theorem ic(h:w.ownsRow 0 189 3 e L.length (gL L)):∃a c g,e=MR a L.length c/\∀j (d:j<L.length),a=N ⟨g,0,S⟩/\w.cell? ⟨g,j*3,S⟩=N (Q I L[j].2.pr)/\w.cell? ⟨g,j*3+1,S⟩=N (Q I L[j].2.id)/\w.cell? ⟨g,j*3+2,S⟩=N (MQ (N ⟨L[j].1,0,S⟩)):=by
 rcases h.2 with⟨b,f⟩|⟨g,c,i,b,_⟩
 ·exact⟨S,0,0,by rw[b,f],λj d=>O⟩
 ·refine⟨_,c,g,b,λj d=>⟨rfl,?_⟩⟩;rw[b]at h;have:=Ft L j d;exact⟨(h.cellAt _ O).trans this.1,(h.cellAt _ O).trans this.2.1,(h.cellAt _ O).trans this.2.2⟩
def kU(L:List af)(j:Nat):Int:=(L[j]?.map λe=>e.2.id).getD 0
def I6(L:List af)(j:Nat):Int:=(L[j]?.map λe=>e.2.pr).getD 0
def JX(L:List af)(j:Nat):Nat:=(L[j]?.map λe=>e.1).getD 0
theorem cQ(h:j<L.length):kU L j=L[j].2.id:=by simp[kU,h]
theorem iw(h:j<L.length):I6 L j=L[j].2.pr:=by simp[I6,h]
theorem DP(h:j<L.length):JX L j=L[j].1:=by simp[JX,h]
theorem jY{a b:Int}:d9 a b<0↔a<b:=by unfold d9;split<;>(try split)<;>omega
theorem dV{a b:Int}:d9 a b=0↔a=b:=by unfold d9;split<;>(try split)<;>omega
theorem nI{p i q j:Int}:kV p i q j=0↔p=q/\i=j:=by
 unfold kV;split
 ·rw[dV];omega
 ·rw[dV];omega
abbrev gB(L:List af):Prop:=L.Pairwise λa b=>a.2.id<b.2.id
theorem oG(m:Nat)(p:Ma)(L:List af)(x:Int)(w:MV)(q:oV w m p L)(d:gB L):Mo MT 89 #[MQ (N ⟨m,0,S⟩),Q I x] w λe r=>∃i:Nat,i<=L.length/\(∀j,j<i->kU L j<x)/\(∀j,i<=j->j<L.length->x<=kU L j)/\e=MZ (Nn #[Q I i,M0 (decide (i<L.length)&&(kU L i==x))])/\Mb w.heap.size w r:=by
 obtain⟨s,f,c,t,u⟩:=q;obtain⟨a,v,g,rfl,k⟩:=ie c;have l:=A (JV m g v L.length a (kU L) (JX L) x w u s (λj b=>by rw[cQ b,DP b];exact k j b) (λi j y b h=>by
  rw[jY]at h⊢;rw[cQ (by omega:i<L.length)];rw[cQ b]at h;rcases Nr y with z|rfl
  ·exact Int.lt_trans (Mr.1 d i j _ _ z) h
  ·exact h))
 clear c t k d;go_enter func89,ntmps89;go_wp2_with fail
 refine l.o.mono ?_;rintro e F ⟨i,B,n,o,rfl,C⟩;have D:=A n;have E:=A o;clear n o l;go_wp2;go_ret2;refine⟨i,B,λj b=>jY.1 (D.o j b),λj f c=>?_,?_,C⟩
 ·have:=E.o j f c;rcases Int.lt_or_le (kU L j) x with h|h
  ·have:=jY.2 h;omega
  ·exact h
 ·have e:(d9 (kU L i) x==0)=(kU L i==x):=by rw[Bool.eq_iff_iff,beq_iff_eq,beq_iff_eq,dV]
  simp only[e];exact rfl
section
theorem oR(n:Nat)(c:Nat->Int)(b:∀i j,i<=j->j<n->c j<0->c i<0):∃i,i<=n/\(∀j,j<i->c j<0)/\∀j,i<=j->j<n->0<=c j:=by
 induction n with
 |zero=>exact⟨0,MP _,λj h=>O,λj _ h=>O⟩
 |succ n d=>
  obtain⟨i,m,e,f⟩:=d λi j g a h=>b i j g O h;by_cases k:c n<0
  ·exact⟨n+1,MP _,λj a=>b j n O O k,λj h o=>O⟩
  ·refine⟨i,O,e,λj a p=>?_⟩;by_cases l:j=n
   ·rw[l];omega
   ·exact f j a O
theorem oQ{n:Nat}{c:Nat->Int}{a:Nat}(g:i<=n)(b:∀j,j<i->c j<0)(d:∀j,i<=j->j<n->0<=c j)(k:a<=n)(e:∀j,j<a->c j<0)(f:∀j,a<=j->j<n->0<=c j):i=a:=by
 rcases Nat.lt_trichotomy i a with h|h|h
 ·have:=d i (MP _) O;have:=e i h;omega
 ·exact h
 ·have:=f a (MP _) O;have:=b a h;omega
attribute [local go_sem] aI
def td(L:List af)(p q:Int)(j:Nat):Int:=kV (I6 L j) (kU L j) p q
theorem qe(b:cC L)(p q:Int):∀i j,i<=j->j<L.length->td L p q j<0->td L p q i<0:=by
 intro i j c a h;unfold td at h⊢;rw[iw a,cQ a]at h;rw[iw (by omega:i<L.length),cQ (by omega:i<L.length)];rcases Nr c with d|rfl
 ·have e:=Mr.1 b i j O a d;have f:L[j].2.al {L[j].2 with pr:=p,id:=q}=true:=by simp only[Rl.al,decide_eq_true_eq];exact h
  have g:=Rl.lF e f;simpa only[Rl.al,decide_eq_true_eq]using g
 ·exact h
theorem sd(m:Nat)(x:Ma)(L:List af)(p q:Int)(w:MV)(y:nN w m x L)(f:cC L):Mo MT 92 #[MQ (N ⟨m,0,S⟩),M1 #[Q I p,Q I q]] w λe h=>∃i:Nat,i<=L.length/\(∀j,j<i->td L p q j<0)/\(∀j,i<=j->j<L.length->0<=td L p q j)/\e=MZ (Nn #[Q I i,M0 (decide (i<L.length)&&(td L p q i==0))])/\Mb w.heap.size w h:=by
 obtain⟨n,V,o,z,B⟩:=y;have C:m<w.heap.size:=MO n;have X:m<w.heap.size+1:=O;obtain⟨D,r,k,l⟩:=oR L.length (td L p q) (qe f p q);obtain⟨a,E,g,rfl,s⟩:=ic o;have F:=A λ(W:MV) (c:Mb w.heap.size w W)=>((JT m g E L.length a (I6 L) (kU L) (JX L) p q W B ((c.cell (p:=⟨m,0,S⟩) C).trans n) (λj d=>by
   rw[iw d,cQ d,DP d];obtain⟨G,t,u,v⟩:=s j d;exact⟨G,(c.cell (p:=⟨g,j*3,S⟩) (MO t)).trans t,(c.cell (p:=⟨g,j*3+1,S⟩) (MO u)).trans u,(c.cell (p:=⟨g,j*3+2,S⟩) (MO v)).trans v⟩) (qe f p q)).mono
  λe h ⟨i,H,J,K,M,P⟩=>by
   have R:=oQ H J K r k l;subst R;exact(⟨M,P⟩:e=MZ (Nn #[Q I i,M0 (decide (i<L.length)&&(td L p q i==0))])/\Mb W.heap.size W h))
 have T:=A k;have U:=A l;clear o z s f k l;go_enter func92,ntmps92;go_wp2_with fail
 refine Mg UR UR ?_
 repeat(quiet_step (exact Ml (F.o _ (NA ((MU w.heap.size w).alloc (MP _) _) ((NP _ _ _).mono (by simp))))))
 refine M3 ?_;intro Y b;replace b:=aE b;obtain⟨Z,a0⟩:=aW b;have a4:=b.size;go_wp2;go_ret2;exact⟨D,r,T.o,U.o,rfl,NA UQ (b.mono SZ)⟩
theorem yt(m:Nat)(a:Option Oz)(n b:Nat)(w:MV)(d:w.cell? ⟨m,1,S⟩=N (MR a n b)):Mo MT 39 #[MQ (N ⟨m,0,S⟩)] w λe c=>e=MZ (Q I n)/\c=w:=by
 go_enter func39,ntmps39;go_wp2;go_ret;exact⟨rfl,rfl⟩
theorem Gh(m:Nat)(a:Option Oz)(n b:Nat)(w:MV)(d:w.cell? ⟨m,1,S⟩=N (MR a n b)):Mo MT 50 #[MQ (N ⟨m,0,S⟩)] w λe c=>e=MZ (Q I n)/\c=w:=by
 go_enter func50,ntmps50;go_wp2;go_ret;exact⟨rfl,rfl⟩
theorem GU(w:MV):Mo MT 32 #[Nm (OO 33) #[] #[]] w λe a=>e=MZ (MQ (N ⟨w.heap.size,0,S⟩))/\a=w.alloc (.cells #[Nm (OO 33) #[] #[],MR S 0 0] 169):=by
 go_enter func32,ntmps32;go_wp2;go_ret;exact⟨rfl,rfl⟩
theorem GS(w:MV):Mo MT 34 #[Nm (OO 35) #[] #[]] w λe a=>e=MZ (MQ (N ⟨w.heap.size,0,S⟩))/\a=w.alloc (.cells #[Nm (OO 35) #[] #[],MR S 0 0] 172):=by
 go_enter func34,ntmps34;go_wp2;go_ret;exact⟨rfl,rfl⟩
def qH(L:List af)(x:Int):Option af:=L.find? λe=>e.2.id==x
theorem th{x:Int}(f:∀j,j<i->kU L j<x)(g:∀j,i<=j->j<L.length->x<=kU L j)(k:gB L):qH L x=if h:i<L.length/\kU L i=x then N (L[i]'h.1)else none:=by
 unfold qH;split
 ·rename_i h
  rw[List.find?_eq_some_iff_getElem];refine⟨by rw[<-cQ h.1,h.2];simp,i,h.1,rfl,λj c=>?_⟩;have:=f j c;rw[cQ O]at this;simp;omega
 ·rename_i h
  rw[List.find?_eq_none];intro e l;obtain⟨j,c,rfl⟩:=List.getElem_of_mem l;intro m;have n:L[j].2.id=x:=by simpa using m
  rcases Nat.lt_or_ge j i with d|d
  ·have:=f j d;rw[cQ c]at this;omega
  ·rcases Nr d with o|rfl
   ·have a:=g i (MP _) O;have b:=Mr.1 k i j O c o;rw[cQ O]at a;omega
   ·exact h ⟨c,by rw[cQ c];exact n⟩
theorem zK(m:Nat)(k:Ma)(L:List af)(x:Int)(w:MV)(l:oV w m k L)(d:gB L):Mo MT 38 #[MQ (N ⟨m,0,S⟩),Q I x] w λe s=>e=MZ (Nn #[mH (qH L x),M0 (qH L x).isSome])/\Mb w.heap.size w s:=by
 have n:=A (oG m k L x w l d);obtain⟨t,u,o,v,C⟩:=l;obtain⟨a,D,g,rfl,f⟩:=ie o;have E:m<w.heap.size:=MO t;clear o v;go_enter func38,ntmps38;go_wp2_with fail
 refine n.o.mono ?_;rintro e F ⟨i,G,p,q,rfl,c⟩;have r:=A (th p q d);clear n p q d;by_cases h:i<L.length/\kU L i=x
 ·obtain⟨y,H,z⟩:=f i h.1;subst y;have B:(kU L i==x)=true:=by simp[h.2]
  have J:decide (i<L.length)=true:=by simp[h.1]
  have K:=MW c z;have M:=MW c u;have P:(i:Int)<L.length:=O;have b:qH L x=N L[i]:=by rw[r.o,dif_pos h]
  have j:=A b;generalize L[i]=R at*;clear f b;go_wp2;go_ret2;exact⟨by rw[j.o];rfl,c⟩
 ·have B:(decide (i<L.length)&&(kU L i==x))=false:=by
   rw[<-Bool.not_eq_true,Bool.and_eq_true,decide_eq_true_eq,beq_iff_eq];exact h
  have b:qH L x=none:=by rw[r.o,dif_neg h]
  have j:=A b;clear f b h;go_wp2;go_ret2;exact⟨by rw[j.o];rfl,c⟩
end
theorem aH.drew(h:aH X a b):aH X a b.drew:=⟨h.os,h.tape,h.output,h.size,h.block⟩
theorem aH.refl(X:Nat->Prop)(w:MV):aH X w w:=⟨rfl,rfl,rfl,MP _,λ_ _ _=>rfl⟩
theorem aH.setRow(h:aH X a b)(c:X g\/a.heap.size<=g)(d:Array Ma):aH X a (b.setRow g d):=
 ⟨h.os,h.tape,h.output,by rw[setRow_size];exact h.size,λk f e=>(SK b g k d (by rintro rfl;rcases c with c|c;exact e c;omega)).trans (h.block k f e)⟩
theorem aH.alloc(h:aH X a b)(o:Obj):aH X a (b.alloc o):=
 h.trans (aH.aG ((MU _ b).alloc (MP _) o))
theorem aH.grown{b:Option Nat}(h:w.grownBy a b)(c:∀k,b=N k->X k):aH X w a:=
 ⟨h.os,h.tape,h.output,h.size,λk d f=>h.block k d λe=>f (c k e.symm)⟩
theorem nP(w:MV)(f p q d:NL)(s g o h r:Nat)(a:Oz)(l u:Nat)(c:List Ma)(t:NL)(b:List Ma)(k:Nat)(x:P.underlying f=N (.slice d))(m:(P.info? d).map (·.size)=N s)(y:w.heap[g]?=N (.cells c.toArray t (0,0)))(z:k=TX l h)(B:b.length=k*s)(C:∀j v,b[j]?=N v->w.cell? (a.add j)=N v)(D:o+b.length<=c.length)(E:∀v∈b,v.oneCell'=true):(Builtin.copy_ #[f,p] q #[MR (N ⟨g,o,S⟩) h r,MR (N a) l u]).run P w=.ok (goInt k) (w.setRow g (M8 c o b).toArray):=by
 have n:=run_loadCells_list (P:=P) w a b C;have F:=run_storeCells_at P g o t b 0 c.toArray w y (by simpa using D) E;rw[B]at n;cases e:P.info? d with
 |none=>simp[e]at m
 |some i=>
  have G:i.size=s:=by simpa[e]using m
  simp[Builtin.copy_,run_underlying x,Builtin.lenOf,Builtin.firstCells,sizeOf,typeInfo,e,G,<-z,n,F,M8]
theorem bo{y:List Oper}{a:Act}{z:Exit->Act->MV->Prop}(F:o.guard=S)(d x:Operand)(i B:NL)(G:o.op=.call {callee:=.builtin .copy,args:=#[d,x],argTypes:=#[i,B]})(l:NL)(s:Nat)(H:P.underlying i=N (.slice l))(J:(P.info? l).map (·.size)=N s)(g c m C:Nat)(n:Oz)(p D:Nat)(L:a.eval d=MR (N ⟨g,c,S⟩) m C)(M:a.eval x=MR (N n) p D)(e:List Ma)(t:NL)(E:w.heap[g]?=N (.cells e.toArray t (0,0)))(b:List Ma)(k:Nat)(q:k=TX p m)(R:b.length=k*s)(T:∀j v,b[j]?=N v->w.cell? (n.add j)=N v)(U:c+b.length<=e.length)(V:∀v∈b,v.oneCell'=true)(X:Nat->Prop)(r:MV)(W:aH X r w)(Y:X g\/r.heap.size<=g)(h:∀f,aA (f.heap[g]?=N (.cells (M8 e c b).toArray t (0,0)))->aA (aH X r f)->aA (∀k,k≠g->f.heap[k]?=w.heap[k]?)->wpList P u z y (a.put o.dst (goInt k)) f):wpList P u z (o::y) a w:=by
 refine wpList_plain F λK Z=>?_;have a0:=nP (P:=P) w i B o.type l s g c m C n p D e t b k H J E q R T U V;unfold Oper.wp;simp[execOp,G,resolve,invoke,builtin,L,M,a0,Result.andThen];exact Z _ _ (h _ (A (RC w g _ _ t _ E)) (A (W.setRow Y _)) (A λk q=>SK w g k _ q))
theorem cO{a:Act}{K:Act->MV->Prop}{D:Exit->Act->MV->Prop}{E:Prop}(F:o.guard=S)(d x:Operand)(i y:NL)(G:o.op=.call {callee:=.builtin .copy,args:=#[d,x],argTypes:=#[i,y]})(l:NL)(s:Nat)(H:P.underlying i=N (.slice l))(J:(P.info? l).map (·.size)=N s)(g c m z:Nat)(n:Oz)(p B:Nat)(L:a.eval d=MR (N ⟨g,c,S⟩) m z)(M:a.eval x=MR (N n) p B)(e:List Ma)(t:NL)(C:w.heap[g]?=N (.cells e.toArray t (0,0)))(b:List Ma)(k:Nat)(q:k=TX p m)(R:b.length=k*s)(T:∀j v,b[j]?=N v->w.cell? (n.add j)=N v)(U:c+b.length<=e.length)(V:∀v∈b,v.oneCell'=true)(X:Nat->Prop)(r:MV)(W:aH X r w)(Y:X g\/r.heap.size<=g)(h:∀f,aA (f.heap[g]?=N (.cells (M8 e c b).toArray t (0,0)))->aA (aH X r f)->aA (∀k,k≠g->f.heap[k]?=w.heap[k]?)->K (a.put o.dst (goInt k)) f):if Region.wanted o (yielded u a.tmps)=true then Oper.wp P o a w K D else E:=by
 have Z:Region.wanted o (yielded u a.tmps)=true:=by simp[Region.wanted,F]
 rw[if_pos Z];have a0:=nP (P:=P) w i y o.type l s g c m z n p B e t b k H J C q R T U V;unfold Oper.wp;simp[execOp,G,resolve,invoke,builtin,L,M,a0,Result.andThen];exact h _ (A (RC w g _ _ t _ C)) (A (W.setRow Y _)) (A λk q=>SK w g k _ q)
theorem dY{b:Type}(L:List b)(o:Nat)(a:List b)(h:o+a.length<=L.length)(j:Nat):(M8 L o a)[j]?=if j<o then L[j]?else if j<o+a.length then a[j-o]?else L[j]?:=by
 unfold M8;rw[OZ];simp only[Mh,M5,OZ,List.getElem?_drop];have:min o L.length=o:=O;rw[this];split
 ·rfl
 ·split
  ·rename_i c d
   rw[if_pos O]
  ·rename_i c d
   rw[if_neg O];congr 1;omega
theorem md(L b e:List h)(a c s:Nat)(i:L.take c=b)(f:b.length=c)(k:e.length=s)(l:a<=c)(o:c+s<=L.length):(M8 (M8 L (a+s) (b.drop a)) a e).take (c+s)=b.take a++e++b.drop a:=by
 have p:(b.drop a).length=c-a:=by rw[M2,f]
 have q:(M8 L (a+s) (b.drop a)).length=L.length:=NI _ _ _ O;have m:∀j,j<c->b[j]?=L[j]?:=λj n=>by rw[<-i,M5,if_pos n]
 apply Qa;intro j;rw[M5,dY _ _ _ O,Oi,OZ,OZ,Mh,f,k,Oo l];by_cases d:j<a
 ·rw[if_pos O,if_pos d,if_pos d,dY _ _ _ O,if_pos O,M5,if_pos d,m j O]
 ·rw[if_neg d,if_neg d];by_cases r:j<a+s
  ·rw[if_pos O,if_pos O,if_pos O]
  ·by_cases g:j<c+s
   ·rw[if_pos g,if_neg O,if_neg O,dY _ _ _ O,if_neg O,if_pos O];congr 1;omega
   ·rw[if_neg g,if_neg O];symm;rw[Pb];omega
theorem me(L b d:List h)(a c s:Nat)(i:L.take a=b.take a)(f:b.length=c)(k:d.length=s)(l:a<=c)(n:c+s<=L.length):(M8 (M8 L a d) (a+s) (b.drop a)).take (c+s)=b.take a++d++b.drop a:=by
 have o:(b.drop a).length=c-a:=by rw[M2,f]
 have p:(M8 L a d).length=L.length:=NI _ _ _ O;apply Qa;intro j;rw[M5,dY _ _ _ O,Oi,OZ,OZ,Mh,f,k,Oo l];by_cases e:j<a
 ·rw[if_pos O,if_pos O,if_pos e,dY _ _ _ O,if_pos O,<-i,M5,if_pos e]
 ·rw[if_neg e];by_cases m:j<a+s
  ·rw[if_pos O,if_pos O,if_pos O,dY _ _ _ O,if_neg e,if_pos O]
  ·by_cases g:j<c+s
   ·rw[if_pos g,if_neg m,if_pos O,if_neg O];congr 1;omega
   ·rw[if_neg g,if_neg O];symm;rw[Pb];omega
theorem aM{a:Array Ma}{t:NL}{b:Nat×Nat}{v:Ma}(c:w.heap[g]?=N (.cells a t b))(h:a.toList[j]?=N v):w.cell? ⟨g,j,S⟩=N v:=by
 simp only[World.cell?,c];simpa using h
def bn(f:NL)(s:Nat)(a:Ma)(n:Nat)(h:List Ma)(w:MV)(e:Ending)(c:MV):Prop:=
 ∃g d,e=MZ (MR (N ⟨g,0,S⟩) (n+1) d)/\c.ownsRow 0 f s (MR (N ⟨g,0,S⟩) (n+1) d) (n+1) h/\(a.ownBlock=N g\/w.heap.size<=g)/\aH (λb=>a.ownBlock=N b) w c
end Go.Proofs.YtnjalelblbjfiaaGreatDoor
