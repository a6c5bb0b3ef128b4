import Derived.Test.YtnjalelblbjfiaaGreatDoorP15
import Derived.Laws.Cover1
import Derived.Test.YtnjalelblbjfiaaGreatDoorP6
namespace Go.Proofs.YtnjalelblbjfiaaGreatDoor
set_option maxRecDepth 100000
set_option maxHeartbeats 16000000
open Go.RowKit
open Go.Proofs.Tryz
open Go.Sort (grow)
open Bool renaming false→Md,true→Mk,not_eq_true→NB
open Go renaming World→MV,Value→Ma,TypeId→NL,bits→Oa,Calls→Mo,redrawn→NK,wp_region_quiet_below→Mg,wpQuiet_nil→M3,heap_setCell_other→NE,info_parts→Ob,below_regrown→NP,block_lt_of_cell→MO,bodyPost_ret→NQ,cell_later→MW,undef→NS,results→QO,wpList_append_lies→OC,maxLen→Nj,splice→M8,length_splice→NI,heap_setCell_same→Mn
open Go.Ending renaming returned→MZ
open Go.IntKind renaming i64→I,wrap_i64→Mm
open Go.Obj renaming cells→MY
open Go.Proofs.Tryz renaming prog→MT,func209→S9,func206→RU,func221→Qb,f104→Tu,func104→TB
open Go.RowKit renaming wrap64→QR,Below→Mb
open Go.RowKit.Below renaming refl→MU,trans→NA
open Go.Value renaming int→Q,slice→MR,string→MS,agg→M1,bool→M0,ownBlock→NF,pointer→MQ,tuple→Nn,func→Nm,cells→N5
open Go.World renaming alloc_heap_new→Ng,cell?→M7,drew→Us,cell?_alloc_at→Ox,cell?_of_block→Mj
open Nat renaming le_refl→MP,lt_or_ge→N8,le_trans→Mx,zero_le→NG,lt_of_lt_of_le→Mi,lt_or_eq_of_le→Nr,zero_add→NO,le_of_eq→OU
open Option renaming some→N,none→S
open UInt8 renaming ofNat→NR,lt_iff_toNat_lt→Pw
open Go.Calls renaming regrown_of→Ml
open Go.Builtin renaming append_→Na,zeroCells→NV
open List renaming flatMap_append→QS,length_append→Mz,pairwise_iff_getElem→Mr,length_drop→M2,getElem?_drop→N2,getElem?_take→M5,mem_of_mem_drop→Nu,length_take→Mh,size_toArray→NY
open Or renaming inl→Mf,inr→MX
open _root_.ByteArray renaming size→UG,empty→Mq,size_extract→O9
open Go.Op renaming bytesLess→N0
open Go.Addr renaming add_lit→NM
open _root_.Array renaming length_toList→Nl,toList_append→Nq
variable {x:Int}{c:List Ma}{W a w:MV}{d e f v:Ma}{t:NL}{B b g i j n s:Nat}{P:Program}
theorem xN(w:MV)(o:Obj):(w.alloc o).heap.size=w.heap.size+1:=by simp
theorem aU(w:MV)(o:Obj):(w.alloc o).heap[w.heap.size]?=N o:=Ng w o
theorem aB{a:Array Ma}{b:Nat×Nat}(c:w.heap[g]?=N (MY a t b))(d:a[j]?=N v):w.cell? ⟨g,j,S⟩=N v:=by simp[M7,c,d]
theorem bC{c:Array Ma}(h:w.heap[b]?=N (MY c t (0,0)))(j:Nat):w.frozen? ⟨b,j,S⟩=false:=by
 unfold World.frozen?;simp only[h];rfl
def Fk(v k:Int):Int:=Oa BinOp.or I (QR (k*4096)) v
def px(g:Bool)(v k:Int):ByteArray:=if g then⟨#[129,0]⟩++⟨#[NR (Fk v k/256%256).toNat,NR (Fk v k%256).toNat]⟩else⟨#[]⟩
theorem Jt(W:MV)(g:Nat)(x y:Int)(d:0<=x/\x<256)(f:0<=y/\y<256)(a:W.cell? ⟨g,0,S⟩=N (Q .u8 x))(b:W.cell? ⟨g,1,S⟩=N (Q .u8 y)):(convert 334 9 (MR (N ⟨g,0,S⟩) 2 2)).run MT W=.ok (MS ⟨#[NR x.toNat,NR y.toNat]⟩) W:=by
 refine run_convert_bytes_back W 334 9 5 ⟨g,0,S⟩ 2 [NR x.toNat,NR y.toNat] underlying334 underlying5 underlying9 ?_;intro j c;match j,c with
 |0,_=>
  have e:((NR x.toNat).toNat:Int)=x:=by simp;omega
  show W.cell? ⟨g,0,S⟩=N (Q .u8 ((NR x.toNat).toNat:Int));rw[e];exact a
 |1,_=>
  have e:((NR y.toNat).toNat:Int)=y:=by simp;omega
  show W.cell? ⟨g,1,S⟩=N (Q .u8 ((NR y.toNat).toNat:Int));rw[e];exact b
theorem Is(t f y r:ByteArray)(g:Bool)(v k:Int)(w:MV):Mo MT 209 #[M1 #[MS t,MS f,M0 g,Q I v,Q I k,MS y,MS r]] w λe a=>e=MZ (MS (px g v k))/\Mb w.heap.size w a:=by
 cases g
 ·have b:px Md v k=⟨#[]⟩:=rfl;rw[b];go_enter S9,ntmps209;go_wp2
  all_goals go_ret
  all_goals exact⟨rfl,(MU _ w).alloc (MP _) _⟩
 ·have c:=Jt ((w.alloc (MY #[MS t,MS f,M0 Mk,Q I v,Q I k,MS y,MS r] 146)).alloc (MY #[Q .u8 (Oa BinOp.or I (QR (k*4096)) v/256%256),Q .u8 (Oa BinOp.or I (QR (k*4096)) v%256)] 5)) (w.heap.size+1) (Oa BinOp.or I (QR (k*4096)) v/256%256) (Oa BinOp.or I (QR (k*4096)) v%256) O O (by rw[<-xN w (MY #[MS t,MS f,M0 Mk,Q I v,Q I k,MS y,MS r] 146)];exact aB (aU _ _) rfl) (by rw[<-xN w (MY #[MS t,MS f,M0 Mk,Q I v,Q I k,MS y,MS r] 146)];exact aB (aU _ _) rfl);go_enter S9,ntmps209;go_wp2
  all_goals go_ret
  all_goals exact⟨rfl,((MU _ w).alloc (MP _) _).alloc (by simp) _⟩
section
attribute [local go_sem] aI
def iq(f:Fr):ByteArray:=f.to++f.fr++px f.tagged f.vlan f.mark++f.ty++f.rest
theorem FB(x:Fr)(w:MV)(l:x.to.size+x.fr.size+(px x.tagged x.vlan x.mark).size+x.ty.size+x.rest.size<=4611686018427387904):Mo MT 175 #[M1 (dS x)] w λe m=>e=MZ (MS (iq x))/\Mb w.heap.size w m:=by
 obtain⟨t,f,g,v,k,y,r⟩:=x;unfold iq;simp only[dS]at l⊢;obtain⟨a,c⟩:=UX (w.alloc (MY #[MS t,MS f,M0 g,Q I v,Q I k,MS y,MS r] 146));have j:=UY c;have b:a.heap[w.heap.size]?=N (MY #[MS t,MS f,M0 g,Q I v,Q I k,MS y,MS r] 146 (0,0)):=by rw[c];exact Ng _ _
 have s:w.heap.size<a.heap.size:=by rw[c];simp
 have u:a.cell? ⟨w.heap.size,0,S⟩=N (MS t):=by simp[M7,b]
 have z:a.cell? ⟨w.heap.size,1,S⟩=N (MS f):=by simp[M7,b]
 have B:a.cell? ⟨w.heap.size,2,S⟩=N (M0 g):=by simp[M7,b]
 have C:a.cell? ⟨w.heap.size,3,S⟩=N (Q I v):=by simp[M7,b]
 have D:a.cell? ⟨w.heap.size,4,S⟩=N (Q I k):=by simp[M7,b]
 have E:a.cell? ⟨w.heap.size,5,S⟩=N (MS y):=by simp[M7,b]
 have F:a.cell? ⟨w.heap.size,6,S⟩=N (MS r):=by simp[M7,b]
 have n:=A λ(d:Nat) (o:Array Obj)=>Is t f y r g v k (grow (NK a d) o);have p:=A c;generalize px g v k=i at*;have G:¬9223372036854775807<t.size+f.size:=O;have H:¬9223372036854775807<t.size+f.size+i.size:=O;have J:¬9223372036854775807<t.size+f.size+i.size+y.size:=O;have K:¬9223372036854775807<t.size+f.size+i.size+y.size+r.size:=O;have q:=A j;clear b c j;go_enter func175,ntmps175;go_wp2_with fail
 rw[<-p.o];refine Mg UR UR ?_
 repeat(first|go_big_quiet_skip|quiet_step (exact Ml (n.o _ _)))
 refine M3 ?_;intro L h;replace h:=aE h;obtain⟨M,P⟩:=aW h;have R:=h.size;go_wp2;go_ret;exact⟨rfl,q.o.trans (h.mono O)⟩
end
section
attribute [local go_sem] aI
theorem DE:(prog.info? 66).map (λi=>(i.zero,i.size,i.bytes))=N (N (M1 #[Q I 0,MS ⟨#[]⟩]),2,24):=UR
def lK(L:List (Int×ByteArray)):List Value:=L.flatMap λe=>[Q I e.1,MS e.2]
theorem yD(a b:List (Int×ByteArray)):lK (a++b)=lK a++lK b:=QS
theorem ap(h:w.ownsRow B t s v n c)(d:∀b,v.ownBlock=N b->a.heap[b]?=w.heap[b]?):a.ownsRow B t s v n c:=by
 refine⟨h.1,h.2.imp id ?_⟩;rintro⟨g,f,i,e,j,k,l⟩;exact⟨g,f,i,e,j,(d g (by rw[e];rfl)).trans k,l⟩
theorem ae{d:List Ma}(h:w.ownsRow B t s v n d)(a:v.ownBlock=N b):B<=b/\b<w.heap.size:=by
 rcases h.2 with⟨e,_⟩|⟨g,i,j,e,f,c,_⟩
 ·rw[e]at a;cases a
 ·rw[e]at a;obtain rfl:g=b:=by simpa[NF]using a
  exact⟨f,by
   rcases N8 g w.heap.size with h|h
   ·exact h
   ·rw[Array.getElem?_eq_none h]at c;cases c⟩
theorem kD(h:w.ownsRow B t s v n c)(d:Mb w.heap.size w a):a.ownsRow B t s v n c:=
 ap h λb e=>d.block b (ae h e).2
def k8(B g:Nat)(w a:MV):Prop:=a.os=w.os/\a.tape=w.tape/\a.output=w.output/\w.heap.size<=a.heap.size/\∀b,b<B->b≠g->a.heap[b]?=w.heap[b]?
theorem k8.aG(h:Mb w.heap.size w a)(c:B<=w.heap.size):k8 B g w a:=⟨h.os,h.tape,h.output,h.size,λb d _=>h.block b O⟩
theorem k8.trans{b c:MV}(h:k8 B g a b)(k:k8 B g b c):k8 B g a c:=
 ⟨k.1.trans h.1,k.2.1.trans h.2.1,k.2.2.1.trans h.2.2.1,Mx h.2.2.2.1 k.2.2.2.1,λx d e=>(k.2.2.2.2 x d e).trans (h.2.2.2.2 x d e)⟩
theorem k8.set(h:k8 B g w a)(b i:Nat)(v:Ma)(c:b=g\/B<=b):k8 B g w (a.setCell ⟨b,i,S⟩ v):=
 ⟨h.1,h.2.1,h.2.2.1,by simp;exact h.2.2.2.1,λx f d=>(NE _ _ x _ (by rcases c with rfl|c;exact d;exact λ(e:x=b)=>O)).trans (h.2.2.2.2 x f d)⟩
theorem k8.grown{b c:MV}{d:Option Nat}(h:k8 B g w b)(a:b.grownBy c d)(f:∀r,d=N r->B<=r)(k:B<=b.heap.size):k8 B g w c:=
 ⟨a.os.trans h.1,a.tape.trans h.2.1,a.output.trans h.2.2.1,Mx h.2.2.2.1 a.size,λx i j=>(a.block x O (λe=>by have:=f x e.symm;omega)).trans (h.2.2.2.2 x i j)⟩
theorem k8.xR(h:k8 w.heap.size g w a):dn g w a:=h
def jF(p:b7)(f:Fr):ByteArray:=iq {f with tagged:=f.vlan !=p.nat}
def gH(p:b7)(v:Int):Bool:=v==p.nat||p.tg v
attribute [local go_sem] Oper.semAt_some
def JY(a:Array NL)(b:NL)(c:Array Ma):Sem Value:=Na a b c
theorem cu(a:Array NL)(b:NL)(c:Array Ma):Na a b c=JY a b c:=rfl
theorem dN{a:Array NL}{b:NL}{c:Array Ma}{d:MV}(h:(Na a b c).run P w=.ok v d):(JY a b c).run P w=.ok v d:=h
attribute [local go_sem ↓ high] cu
theorem Dp(g:Bool)(v k:Int):(px g v k).size<=4:=by
 unfold px;cases g
 ·exact NG _
 ·simp[UG]
theorem vF(s g B:Nat)(pv v:Ma)(P:List b7)(p:Pg)(i:List (Int×ByteArray))(k:Nat)(w:MV)(H:w.cell? ⟨s,0,S⟩=N pv)(hp:eM w pv P)(C:cJ w g p v)(hk:k<P.length)(hv:(Lit.int I p.f.vlan).wf=Mk)(a2:w.ownsRow B 66 2 v i.length (lK i))(hB:B<=w.heap.size)(hn:i.length<=100)(a4:∀b,v.ownBlock=N b->b≠g)(hl:p.f.to.size+p.f.fr.size+p.f.ty.size+p.f.rest.size<=1000):Mo MT 111 #[MQ (N ⟨s,0,S⟩),MQ (N ⟨g,0,S⟩),Q I k] w λe J=>e=MZ (Nn #[])/\∃K,cJ J g p K/\(let a5:=if gH P[k] p.f.vlan then i++[((k:Int),jF P[k] p.f)]else i;J.ownsRow B 66 2 K a5.length (lK a5))/\(∀b,K.ownBlock=N b->b≠g)/\k8 B g w J:=by
 obtain⟨a,i6,b,rfl,hc⟩:=hp;obtain⟨rfl,L,mv,n1,M⟩:=hc k hk;obtain⟨R,rfl⟩:∃R,mv=.map R:=by rcases M with⟨rfl,_⟩|⟨b,n,D,rfl,_⟩<;>exact⟨_,rfl⟩
 have i8:(k:Int)<P.length:=O;have i9:(0:Int)<=k:=O;obtain⟨i0,c8,c9,e0,e1⟩:=Ob DE;generalize e2:P[k]=f at*;clear hc e2;have CH:=A λ(d:Nat) (os:Array Obj)=>wu f.nat (.map R) f.tg p.f.vlan (grow (NK w d) os) (M.aD (NP w d os)) hv;have g5:w.cell? ⟨g,5,S⟩=N (Q I p.f.vlan):=C.cell rfl;have j0:=C.lt;have j1:=MO H;have j2:=MO L;have HG:=A C;have T:=A a2;have U:=A a4;have V:gH f p.f.vlan=(p.f.vlan==f.nat||f.tg p.f.vlan):=rfl;generalize gH f p.f.vlan=e4 at V;rw[<-V]at CH;clear C a2 a4 M V;go_enter func111,ntmps111;go_wp2;refine Mg UR UR ?_
 repeat(first|go_big_quiet_skip|quiet_step (exact Ml (CH.o _ _)))
 refine M3 ?_;intro c l;replace l:=aE l;obtain⟨e5,e6⟩:=aW l;have j3:=l.size;have u:=A l;clear e5 e6;obtain⟨nv,j4⟩:=UX (c.heap.size:Nat);have j:=HG.o.aD l;cases e4 with
 |false=>
  go_wp2;refine NQ (results_none rfl _ _ _) rfl ?_;exact⟨rfl,v,j,kD T.o u.o,U.o,k8.aG u.o hB⟩
 |true=>
  have q0:=MW l H;have q1:=MW l L;have d0:c.cell? ⟨g,2,S⟩=N (MS p.f.to):=j.cell rfl;have d1:c.cell? ⟨g,3,S⟩=N (MS p.f.fr):=j.cell rfl;have d2:c.cell? ⟨g,4,S⟩=N (M0 p.f.tagged):=j.cell rfl;have d3:c.cell? ⟨g,5,S⟩=N (Q I p.f.vlan):=j.cell rfl;have d4:c.cell? ⟨g,6,S⟩=N (Q I p.f.mark):=j.cell rfl;have d5:c.cell? ⟨g,7,S⟩=N (MS p.f.ty):=j.cell rfl;have d6:c.cell? ⟨g,8,S⟩=N (MS p.f.rest):=j.cell rfl;have b1:=A j;have X:=A (kD T.o u.o);clear j H L n1 g5 l T HG;have j5:s<c.heap.size:=O;have j6:b<c.heap.size:=O;have k0:¬s=c.heap.size:=O;have k1:¬b=c.heap.size:=O;have k2:(px (p.f.vlan !=f.nat) p.f.vlan p.f.mark).size<=4:=Dp _ _ _;have CB:=A λ(W:MV)=>FB {p.f with tagged:=p.f.vlan !=f.nat} W (by show p.f.to.size+p.f.fr.size+(px (p.f.vlan !=f.nat) p.f.vlan p.f.mark).size+p.f.ty.size+p.f.rest.size<=_;omega);go_wp2;go_region
  generalize E:Us _=h;have F:Mb c.heap.size c h:=by rw[<-E];exact((MU _ c).alloc (MP _) _).drew
  have k3:h.heap.size=c.heap.size+1:=by rw[<-E];simp
  have m:h.heap[c.heap.size]?=N (MY (dS {p.f with tagged:=p.f.vlan !=f.nat}) 146 (0,0)):=by rw[<-E];exact aU c _
  clear E q0 q1 d0 d1 d2 d3 d4 d5 d6;have Y:=b1.o.aD F;have O2:=kD X.o F;have g6:h.cell? ⟨g,14,S⟩=N v:=Y.cell rfl;have f0:h.cell? ⟨c.heap.size,0,S⟩=N (MS p.f.to):=aB m rfl;have f1:h.cell? ⟨c.heap.size,1,S⟩=N (MS p.f.fr):=aB m rfl;have f2:h.cell? ⟨c.heap.size,2,S⟩=N (M0 (p.f.vlan !=f.nat)):=aB m rfl;have f3:h.cell? ⟨c.heap.size,3,S⟩=N (Q I p.f.vlan):=aB m rfl;have f4:h.cell? ⟨c.heap.size,4,S⟩=N (Q I p.f.mark):=aB m rfl;have f5:h.cell? ⟨c.heap.size,5,S⟩=N (MS p.f.ty):=aB m rfl;have f6:h.cell? ⟨c.heap.size,6,S⟩=N (MS p.f.rest):=aB m rfl;have ng:N g≠v.ownBlock:=λe=>U.o g e.symm rfl;have l2:N c.heap.size≠v.ownBlock:=λe=>by have:=(ae X.o e.symm).2;omega
  have l3:g<c.heap.size:=by have:=b1.o.lt;omega
  have l4:=u.o.size;have g8:=A F;have g9:=A O2;have h1:=A Y;clear m Y O2 F;go_wp2_with fail
  have l5:prog.follows .mixedOrders=true:=UR;go_region_with_o (first
    |(go_at_call 175;refine(CB.o _).mono ?_;rintro e o ⟨rfl,b4⟩;have q:Mb h.heap.size h o:=NA (b:=_) UQ (b4.mono SZ);have l6:=MW q g6;have l7:=q.size;have l8:g<o.heap.size:=O;have h2:=A (kD g9.o q);have h3:=A (h1.o.aD q);have h4:=A q;obtain⟨y,cp,w3,b6,z,Z,b9,m0⟩:=run_append_lies (P:=MT) (o.alloc (MY #[Q I k,MS (iq {p.f with tagged:=p.f.vlan !=f.nat})] 66)) 59 59 B 66 i0 _ 2 24 underlying59 c8 c9 e0 e1 rfl O v i.length (lK i) (h2.o.alloc _) ⟨o.heap.size,0,S⟩ 1 1 [Q I k,MS (jF f p.f)] (by rfl) (World.news_of_block (cs:=#[Q I k,MS (jF f p.f)]) (t:=66) (fr:=(0,0)) (aU o _)) oc O UT O UU (o.heap.size+1) (by simp);have m1:=dN b6;have PA:=h3.o.aD ((MU _ o).alloc (MP _) (MY #[Q I k,MS (jF f p.f)] 66));have G:cJ w3 g p v:=(Z.block g UU ng).trans PA;have m2:=G.frozen 14;have m3:w3.cell? ⟨g,14,S⟩=N v:=G.cell rfl;have h6:=A b9;have h7:=A Z;have h8:=A z;have h9:=A G;clear b6 b4 q PA b9 Z z G))
  all_goals go_end0
  all_goals have c1:y≠g:=h6.o.elim (λe=>U.o y e) (λe=>O)
  all_goals refine⟨rfl,MR (N ⟨y,0,S⟩) (i.length+1) cp,h9.o.set 14 _ rfl,?_,λx hx=>by obtain rfl:y=x:=(by simpa[NF]using hx);exact c1,?_⟩
  all_goals first
   |(have z:=h8.o
     have i1:lK i++[Q I k,MS (jF f p.f)]=lK (i++[((k:Int),jF f p.f)]):=by rw[yD];rfl
     rw[i1]at z;show World.ownsRow _ B 66 2 _ (i++[((k:Int),jF f p.f)]).length (lK (i++[((k:Int),jF f p.f)]));rw[Mz,List.length_singleton];exact ap z λx hx=>by
      obtain rfl:y=x:=(by simpa[NF]using hx);exact NE _ _ _ _ c1)
   |(refine k8.set ?_ g 14 _ (Mf rfl)
     refine k8.grown ?_ h7.o (λr hr=>(ae X.o hr).1) UU;have i3:Mb w.heap.size w o:=u.o.trans ((g8.o.trans (h4.o.mono O)).mono O);exact k8.aG (i3.alloc O _) hB)
end
theorem dt:∀x:List UInt8,N0 x x=Md
 |[]=>rfl
 |a::x=>by
  have h:=dt x;simp[N0,h]
theorem nZ:∀x y:List UInt8,N0 x y=Mk\/x=y\/N0 y x=Mk
 |[],[]=>MX (Mf rfl)
 |[],_::_=>Mf rfl
 |_::_,[]=>MX (MX rfl)
 |a::x,b::y=>by
  rcases Nat.lt_trichotomy a.toNat b.toNat with h|h|h
  ·left;have:a<b:=Pw.2 h;simp[N0,this]
  ·have e:a=b:=UInt8.toNat_inj.1 h;subst e;rcases nZ x y with h|h|h
   ·left;simp[N0,h]
   ·right;left;rw[h]
   ·right;right;simp[N0,h]
  ·right;right;have:b<a:=Pw.2 h;simp[N0,this]
theorem te{a b:UInt8}{x y:List UInt8}:N0 (a::x) (b::y)=Mk↔a.toNat<b.toNat\/(a=b/\N0 x y=Mk):=by
 simp[N0,Pw]
theorem jR:∀{x y z:List UInt8},N0 x y=Mk->N0 y z=Mk->N0 x z=Mk
 |[],[],_,h,_=>by cases h
 |[],_::_,[],_,h=>by cases h
 |[],_::_,_::_,_,_=>rfl
 |_::_,[],_,h,_=>by cases h
 |_::_,_::_,[],_,h=>by cases h
 |a::x,b::y,c::z,h,k=>by
  rw[te]at h k⊢;rcases h with h|⟨rfl,h⟩
  ·rcases k with k|⟨rfl,k⟩
   ·exact Mf O
   ·exact Mf h
  ·rcases k with k|⟨rfl,k⟩
   ·exact Mf k
   ·exact MX ⟨rfl,jR h k⟩
def zZ(a b:List UInt8):Int:=if N0 a b=Mk then -1 else if a=b then 0 else 1
theorem IJ{a b:List UInt8}:zZ a b<0↔N0 a b=true:=by
 unfold zZ;split
 ·simp[*]
 ·split
  ·rename_i h e
   simp[e,dt]
  ·simp[*]
theorem E7{a b:List UInt8}:zZ a b=0↔a=b:=by
 unfold zZ;split
 ·rename_i h
  refine⟨λe=>O,λe=>?_⟩;rw[e,dt]at h;cases h
 ·split<;>simp[*]
def jK(a:Int)(c:List UInt8)(b:Int)(d:List UInt8):Int:=if d9 a b=0 then zZ c d else d9 a b
theorem oL(a:ByteArray)(w:MV):Mo MT 225 #[MS a] w λe b=>e=MZ (M0 Md)/\b=w:=by
 go_enter func225,ntmps225;go_wp2;go_ret;exact⟨by simp,rfl⟩
theorem Bz(a b:ByteArray)(w:MV):Mo MT 206 #[MS a,MS b] w λe d=>e=MZ (Q I (zZ a.toList b.toList))/\d=w:=by
 obtain⟨x,h⟩:=UX a.toList;obtain⟨y,i⟩:=UX b.toList;unfold zZ;by_cases f:N0 a.toList b.toList=Mk
 ·rw[if_pos f];go_enter RU,ntmps206;go_wp2_with (go_at_call 225;refine(oL _ _).mono ?_;rintro e d ⟨rfl,rfl⟩)
  go_ret;exact⟨rfl,rfl⟩
 ·rw[if_neg f];have j:N0 a.toList b.toList=false:=by simpa using f
  by_cases c:a.toList=b.toList
  ·rw[if_pos c];have g:(a.toList==b.toList)=true:=by simp[c]
   clear c;go_enter RU,ntmps206;go_wp2_with (go_at_call 225;refine(oL _ _).mono ?_;rintro e d ⟨rfl,rfl⟩)
   go_ret;exact⟨rfl,rfl⟩
  ·rw[if_neg c];have g:(a.toList==b.toList)=false:=by simp[c]
   clear c;go_enter RU,ntmps206;go_wp2_with (go_at_call 225;refine(oL _ _).mono ?_;rintro e d ⟨rfl,rfl⟩)
   go_ret;exact⟨rfl,rfl⟩
theorem vQ(g s:Nat)(a b:Int)(w:MV)(o:w.cell? ⟨g,0,S⟩=N (Q I a))(t:w.cell? ⟨g,1,S⟩=N (Q I b)):Mo MT 165 #[MR (N ⟨g,0,S⟩) 2 s] w λe u=>e=MZ (Q I (if a=0 then b else a))/\Mb w.heap.size w u:=by
 have q:=MO o;obtain⟨r,j⟩:∃r:Int,r=if a=0 then b else a:=⟨_,rfl⟩;rw[<-j];have l:=A j;clear j;go_enter func165,ntmps165;go_wp2;go_loopw [8] (λi wr=>∃k:Nat,k<=2/\i=Q I k/\(0<k->a=0)/\(1<k->b=0)/\Mb w.heap.size w wr) (λi _=>2- (intOf i).toNat)
 case atStart=>exact⟨0,O,rfl,O,O,MU _ _⟩
 case round=>
  obtain⟨k,v,rfl,d,h,f⟩:=hrel;have z:=(f.cell (p:=⟨g,0,S⟩) q).trans o;have B:=(f.cell (p:=⟨g,1,S⟩) q).trans t;match k,v with
  |0,_=>
   by_cases c:a=0
   ·have x:(a==0)=true:=by simp[c]
    have m:=A c;have n:(a !=0)=false:=by simp[c]
    clear c d h;go_wp2;go_roundw
    case rel=>exact⟨1,O,rfl,λ_=>m.o,O,f⟩
    case measure=>simp[intOf]
   ·have x:(a==0)=false:=by simp[c]
    have n:(a !=0)=true:=by simp[c]
    have e:=l.o;rw[if_neg c]at e;subst e;clear d h;go_wp2;go_ret;exact⟨rfl,f⟩
  |1,_=>
   have e:=l.o;rw[if_pos (d O)]at e;by_cases c:b=0
   ·have n:(b !=0)=false:=by simp[c]
    have m:=A c;have y:=A (d O);clear c d h e;go_wp2;go_roundw
    case rel=>exact⟨2,O,rfl,λ_=>y.o,λ_=>m.o,f⟩
    case measure=>simp[intOf]
   ·have n:(b !=0)=true:=by simp[c]
    subst e;clear d h;go_wp2;go_ret;exact⟨rfl,f⟩
  |2,_=>
   have e:=l.o;rw[if_pos (d O),h O]at e;subst e;clear d h;go_wp2;go_ret;exact⟨rfl,f⟩
theorem IK(b c:Int)(d f:ByteArray)(w:MV):Mo MT 167 #[M1 #[Q I b,MS d],M1 #[Q I c,MS f]] w λe a=>e=MZ (Q I (jK b d.toList c f.toList))/\Mb w.heap.size w a:=by
 obtain⟨i,j⟩:=UX (jK b d.toList c f.toList);rw[<-j];have l:aA (∀(g:Nat) (W:MV),W.cell? ⟨g,0,S⟩=N (Q I (d9 b c))->W.cell? ⟨g,1,S⟩=N (Q I (zZ d.toList f.toList))->Mo MT 165 #[MR (N ⟨g,0,S⟩) 2 2] W λe a=>e=MZ (Q I i)/\Mb W.heap.size W a):=A λg W m n=>by
  rw[j];exact vQ g 2 _ _ W m n
 clear j;have o:w.heap.size<w.heap.size+1+1+1:=O;have p:w.heap.size<w.heap.size+1+1:=O;go_enter func167,ntmps167;go_wp2_with fail
 go_region_held3 (λa=>a.cell? ⟨w.heap.size,0,S⟩=N (Q I b)/\a.cell? ⟨w.heap.size,1,S⟩=N (MS d)/\a.cell? ⟨w.heap.size+1,0,S⟩=N (Q I c)/\a.cell? ⟨w.heap.size+1,1,S⟩=N (MS f)) (go_keep)
  (first|(go_at_call 33;refine(io _ _ _).mono ?_;rintro e a ⟨rfl,h⟩;rw[h];clear h)|(go_at_call 206;refine(Bz _ _ _).mono ?_;rintro e a ⟨rfl,h⟩;rw[h];clear h)|(go_at_call 165;refine(l.o _ _ ?_ ?_).mono ?_;(exact(Ox _ _ _ _ (by simp)).trans rfl);(exact(Ox _ _ _ _ (by simp)).trans rfl);rintro e q ⟨rfl,k⟩;obtain⟨r,s⟩:=aW k))
 all_goals
  go_wp2;go_ret;exact⟨rfl,NA UQ (k.mono SZ)⟩
section
attribute [local go_sem] aI
structure Mc where
 vlan:Int
 mac:ByteArray
 port:Int
 age:Int
def bL(e:Mc)(v:Int)(m:ByteArray):Int:=jK e.vlan e.mac.toList v m.toList
theorem pR(m:Nat)(e:Mc)(v:Int)(b:ByteArray)(w:MV)(c:w.cell? ⟨m,0,S⟩=N (Nm (.func 167) #[] #[])):Mo MT 227 #[MQ (N ⟨m,0,S⟩),M1 #[Q I e.vlan,MS e.mac,Q I e.port,Q I e.age],M1 #[Q I v,MS b]] w λr d=>r=MZ (Q I (bL e v b))/\Mb w.heap.size w d:=by
 unfold bL;have f:m<w.heap.size:=MO c;have g:m<w.heap.size+1+1:=O;go_enter func227,ntmps227;go_wp2_with fail
 refine Mg UR UR ?_
 repeat(quiet_step (exact Ml (IK _ _ _ _ _)))
 refine M3 ?_;intro h a;replace a:=aE a;obtain⟨i,j⟩:=aW a;have k:=a.size;go_wp2;go_ret;exact⟨rfl,NA UQ (a.mono SZ)⟩
theorem JU(m g a2 n:Nat)(a:Option Addr)(K:Nat->Mc)(x:Int)(f:ByteArray)(w:MV)(hn:n<=200)(R:w.cell? ⟨m,0,S⟩=N (Nm (.func 167) #[] #[]))(T:∀j,j<n->a=N ⟨g,0,S⟩/\w.cell? ⟨g,j*4,S⟩=N (Q I (K j).vlan)/\w.cell? ⟨g,j*4+1,S⟩=N (MS (K j).mac)/\w.cell? ⟨g,j*4+2,S⟩=N (Q I (K j).port)/\w.cell? ⟨g,j*4+3,S⟩=N (Q I (K j).age))(U:∀i j,i<=j->j<n->bL (K j) x f<0->bL (K i) x f<0):Mo MT 226 #[MR a n a2,M1 #[Q I x,MS f],Nm (.func 227) #[MQ (N ⟨m,0,S⟩)] #[]] w λe w'=>∃i:Nat,i<=n/\(∀j,j<i->bL (K j) x f<0)/\(∀j,i<=j->j<n->0<=bL (K j) x f)/\e=MZ (Nn #[Q I i,M0 (decide (i<n)&&(bL (K i) x f==0))])/\Mb w.heap.size w w':=by
 have a4:m<w.heap.size:=MO R;go_enter func226,ntmps226;go_wp2;go_loopw [9,10] (λF G wr=>∃i j:Nat,i<=j/\j<=n/\F=Q I i/\G=Q I j/\(∀q,q<i->bL (K q) x f<0)/\(∀q,j<=q->q<n->0<=bL (K q) x f)/\Mb w.heap.size w wr/\w.heap.size<wr.heap.size/\wr.cell? ⟨w.heap.size,0,S⟩=N (Q I x)/\wr.cell? ⟨w.heap.size,1,S⟩=N (MS f)) (λF G _=>(intOf G-intOf F).toNat)
 case atStart=>exact⟨0,n,O,O,rfl,rfl,O,O,UQ,SZ,by simp,by simp⟩
 case round=>
  obtain⟨i,j,b4,b5,rfl,rfl,V,W,c,X,Y,Z⟩:=hrel;have E:=(c.cell (p:=⟨m,0,S⟩) a4).trans R;have H:=A V;have J:=A W;clear V W;by_cases b6:i<j
  ·obtain⟨h,hh⟩:∃h:Nat,h=(i+j)/2:=⟨_,rfl⟩;have b9:i<=h:=O;have c4:h<j:=O;obtain⟨rfl,l,o,r,s⟩:=T h O;have L:=(c.cell (p:=⟨g,h*4,S⟩) (MO l)).trans l;have d1:=(c.cell (p:=⟨g,h*4+1,S⟩) (MO o)).trans o;have d2:=(c.cell (p:=⟨g,h*4+2,S⟩) (MO r)).trans r;have d3:=(c.cell (p:=⟨g,h*4+3,S⟩) (MO s)).trans s;have a9:g<wr.heap.size:=MO L;have e1:((i:Int)+j)/2=h:=O;have c6:(h:Int)<n:=O;have HM:=A λq (t:q<=h) (u:bL (K h) x f<0)=>U q h t O u;have b1:=A λq (t:h<=q) (M:q<n) (u:bL (K q) x f<0)=>U h q t M u;clear hh l o r s;have v:=A λ(d:Nat) (y:Array Obj)=>pR m (K h) x f (grow (NK wr d) y) ((NP wr d y).cell (p:=⟨m,0,S⟩) (MO E)|>.trans E);go_wp2_with fail
   refine Mg UR UR ?_
   repeat(quiet_step (exact Ml (v.o _ _)))
   refine M3 ?_;intro z b;replace b:=aE b;obtain⟨B,C⟩:=aW b;have D:=b.size;have k:Mb wr.heap.size wr z:=b;clear B C D v;have a0:=A (c.trans (k.mono c.size));by_cases a1:bL (K h) x f<0
   ·go_wp2;go_roundw
    case rel=>exact⟨h+1,j,O,O,by go_num,rfl,λq t=>HM.o q O a1,J.o,a0.o,Mi X k.size,MW k Y,MW k Z⟩
    case measure=>simp[intOf];omega
   ·have HN:=A a1;go_wp2;go_roundw
    case rel=>exact⟨i,h,O,O,rfl,rfl,H.o,λq t M=>Int.not_lt.1 λu=>absurd (b1.o q t M u) (by have:=HN.o;omega),a0.o,Mi X k.size,MW k Y,MW k Z⟩
    case measure=>simp[intOf];omega
  ·obtain rfl:i=j:=by omega
   by_cases P:i<n
   ·obtain⟨rfl,l,o,r,s⟩:=T i P;have L:=(c.cell (p:=⟨g,i*4,S⟩) (MO l)).trans l;have d1:=(c.cell (p:=⟨g,i*4+1,S⟩) (MO o)).trans o;have d2:=(c.cell (p:=⟨g,i*4+2,S⟩) (MO r)).trans r;have d3:=(c.cell (p:=⟨g,i*4+3,S⟩) (MO s)).trans s;have a9:g<wr.heap.size:=MO L;have c7:(i:Int)<n:=O;clear l o r s;have v:=A λ(d:Nat) (y:Array Obj)=>pR m (K i) x f (grow (NK wr d) y) ((NP wr d y).cell (p:=⟨m,0,S⟩) (MO E)|>.trans E);go_wp2_with fail
    refine Mg UR UR ?_
    repeat(first|go_big_quiet_skip|quiet_step (exact Ml (v.o _ _)))
    refine M3 ?_;intro z b;replace b:=aE b;obtain⟨B,C⟩:=aW b;have D:=b.size;have k:Mb wr.heap.size wr z:=b;clear B C D v;go_wp2;go_ret2;exact⟨i,O,H.o,J.o,by simp[P],c.trans (k.mono c.size)⟩
   ·go_wp2_with fail
    refine Mg UR UR ?_
    repeat(first|go_big_quiet_skip|quiet_step (fail))
    refine M3 ?_;intro z b;replace b:=aE b;obtain⟨B,C⟩:=aW b;have D:=b.size;have k:Mb wr.heap.size wr z:=b;clear B C D;go_wp2;go_ret2;exact⟨i,O,H.o,J.o,by simp[P],c.trans (k.mono c.size)⟩
theorem fw{a b:Int}{d e:List UInt8}:jK a d b e<0↔a<b\/(a=b/\N0 d e=Mk):=by
 unfold jK;by_cases h:d9 a b=0
 ·rw[if_pos h,IJ];rw[dV]at h;subst h;simp
 ·rw[if_neg h,jY];rw[dV]at h;constructor
  ·exact Mf
  ·rintro(c|⟨c,_⟩)
   ·exact c
   ·exact absurd c h
theorem gn{a b:Int}{c d:List UInt8}:jK a c b d=0↔a=b/\c=d:=by
 unfold jK;by_cases h:d9 a b=0
 ·rw[if_pos h,E7];rw[dV]at h;simp[h]
 ·rw[if_neg h];constructor
  ·exact λe=>absurd e h
  ·rintro⟨e,_⟩;exact dV.2 e
theorem rF{a b c:Int}{d e f:List UInt8}(h:jK a d b e<0)(k:jK b e c f<0):jK a d c f<0:=by
 rw[fw]at*;rcases h with h|⟨rfl,h⟩
 ·rcases k with k|⟨rfl,_⟩
  ·exact Mf O
  ·exact Mf h
 ·rcases k with k|⟨rfl,k⟩
  ·exact Mf k
  ·exact MX ⟨rfl,jR h k⟩
abbrev bZ(K:List Mc):Prop:=K.Pairwise λa b=>bL a b.vlan b.mac<0
def mL(K:List Mc)(j:Nat):Mc:=(K[j]?).getD ⟨0,Mq,0,0⟩
theorem iM{K:List Mc}(h:j<K.length):mL K j=K[j]:=by simp[mL,h]
def fH(K:List Mc):List Value:=K.flatMap λe=>[Q I e.vlan,MS e.mac,Q I e.port,Q I e.age]
theorem qh(K:List Mc):(fH K).length=K.length*4:=by
 induction K with
 |nil=>rfl
 |cons e t a=>simp[fH]at a⊢;omega
theorem j9(a b:List Mc):fH (a++b)=fH a++fH b:=QS
theorem yC:∀(K:List Mc) (k:Nat) (a:k<K.length),(fH K)[k*4]?=N (Q I K[k].vlan)/\(fH K)[k*4+1]?=N (MS K[k].mac)/\(fH K)[k*4+2]?=N (Q I K[k].port)/\(fH K)[k*4+3]?=N (Q I K[k].age)
 |[],k,a=>absurd a (by simp)
 |p::t,0,_=>⟨rfl,rfl,rfl,rfl⟩
 |p::t,k+1,a=>by
  have:=yC t k (by simpa using a);have e:(k+1)*4=k*4+4:=O;rw[e];exact this
def IZ(w:MV)(m:Nat)(a:Ma)(K:List Mc):Prop:=
 w.cell? ⟨m,0,S⟩=N (Nm (.func 167) #[] #[])/\w.cell? ⟨m,1,S⟩=N a/\w.ownsRow 0 308 4 a K.length (fH K)/\(∀j,w.frozen? ⟨m,j,S⟩=Md)/\K.length<=200
theorem fN{K:List Mc}(h:w.ownsRow 0 308 4 e K.length (fH K)):∃a c g,e=MR a K.length c/\∀j,j<K.length->a=N ⟨g,0,S⟩/\w.cell? ⟨g,j*4,S⟩=N (Q I (mL K j).vlan)/\w.cell? ⟨g,j*4+1,S⟩=N (MS (mL K j).mac)/\w.cell? ⟨g,j*4+2,S⟩=N (Q I (mL K j).port)/\w.cell? ⟨g,j*4+3,S⟩=N (Q I (mL K j).age):=by
 rcases h.2 with⟨b,f⟩|⟨g,c,i,b,_⟩
 ·exact⟨S,0,0,by rw[b,f],λj d=>O⟩
 ·refine⟨_,c,g,b,λj d=>⟨rfl,?_⟩⟩;rw[b]at h;have:=yC K j d;rw[iM d];exact⟨(h.cellAt _ O).trans this.1,(h.cellAt _ O).trans this.2.1,(h.cellAt _ O).trans this.2.2.1,(h.cellAt _ O).trans this.2.2.2⟩
theorem ol{K:List Mc}(a:bZ K)(x:Int)(b:ByteArray):∀i j,i<=j->j<K.length->bL (mL K j) x b<0->bL (mL K i) x b<0:=λi j c d h=>by
 rcases Nr c with e|rfl
 ·rw[iM d]at h;rw[iM O];exact rF (Mr.1 a i j _ _ e) h
 ·exact h
theorem oF(m:Nat)(y:Ma)(K:List Mc)(x:Int)(b:ByteArray)(w:MV)(z:IZ w m y K)(f:bZ K):Mo MT 207 #[MQ (N ⟨m,0,S⟩),M1 #[Q I x,MS b]] w λe h=>∃i:Nat,i<=K.length/\(∀j,j<i->bL (mL K j) x b<0)/\(∀j,i<=j->j<K.length->0<=bL (mL K j) x b)/\e=MZ (Nn #[Q I i,M0 (decide (i<K.length)&&(bL (mL K i) x b==0))])/\Mb w.heap.size w h:=by
 obtain⟨n,X,o,B,C⟩:=z;have D:m<w.heap.size:=MO n;have Y:m<w.heap.size+1:=O;obtain⟨E,q,k,l⟩:=oR K.length (λj=>bL (mL K j) x b) (ol f x b);obtain⟨a,F,g,rfl,r⟩:=fN o;have G:=A λ(W:MV) (c:Mb w.heap.size w W)=>((JU m g F K.length a (mL K) x b W C ((c.cell (p:=⟨m,0,S⟩) D).trans n) (λj H=>by
   obtain⟨e,s,t,u,v⟩:=r j H;exact⟨e,(c.cell (p:=⟨g,j*4,S⟩) (MO s)).trans s,(c.cell (p:=⟨g,j*4+1,S⟩) (MO t)).trans t,(c.cell (p:=⟨g,j*4+2,S⟩) (MO u)).trans u,(c.cell (p:=⟨g,j*4+3,S⟩) (MO v)).trans v⟩) (ol f x b)).mono
  λe h ⟨i,J,L,M,P,R⟩=>by
   have T:=oQ J L M q k l;subst T;exact(⟨P,R⟩:e=MZ (Nn #[Q I i,M0 (decide (i<K.length)&&(bL (mL K i) x b==0))])/\Mb W.heap.size W h))
 have U:=A k;have V:=A l;clear o B r f k l;go_enter func207,ntmps207;go_wp2_with fail
 refine Mg UR UR ?_
 repeat(quiet_step (exact Ml (G.o _ (NA ((MU w.heap.size w).alloc (MP _) _) ((NP _ _ _).mono (by simp))))))
 refine M3 ?_;intro Z d;replace d:=aE d;obtain⟨a0,a4⟩:=aW d;have a5:=d.size;go_wp2;go_ret2;exact⟨E,q,U.o,V.o,rfl,NA UQ (d.mono SZ)⟩
theorem yq(m:Nat)(a:Option Addr)(n b:Nat)(w:MV)(d:w.cell? ⟨m,1,S⟩=N (MR a n b)):Mo MT 119 #[MQ (N ⟨m,0,S⟩)] w λe c=>e=MZ (Q I n)/\c=w:=by
 go_enter func119,ntmps119;go_wp2;go_ret;exact⟨rfl,rfl⟩
theorem GT(w:MV):Mo MT 166 #[Nm (.func 167) #[] #[]] w λe a=>e=MZ (MQ (N ⟨w.heap.size,0,S⟩))/\a=w.alloc (MY #[Nm (.func 167) #[] #[],MR S 0 0] 305):=by
 go_enter func166,ntmps166;go_wp2;go_ret;exact⟨rfl,rfl⟩
def az(K:List Mc)(x:Int)(b:ByteArray):Option Mc:=K.find? λe=>e.vlan==x&&e.mac.toList==b.toList
theorem hZ{e:Mc}{b:ByteArray}:bL e x b=0↔(e.vlan==x&&e.mac.toList==b.toList)=true:=by
 unfold bL;rw[gn];simp
theorem vW{K:List Mc}{b:ByteArray}(k:∀j,i<=j->j<K.length->0<=bL (mL K j) x b)(m:bZ K)(h:¬(i<K.length/\bL (mL K i) x b=0)):∀j,i<=j->j<K.length->0<bL (mL K j) x b:=λj l f=>by
 have a:=k j l f;rcases Int.lt_or_eq_of_le a with g|g
 ·exact g
 ·exfalso;rcases Nr l with n|rfl
  ·have e:=g.symm;unfold bL at e;rw[gn]at e;have c:=Mr.1 m i j O f n;have d:=k i (MP _) O;rw[iM f]at e;rw[iM O]at d;unfold bL at c d;rw[e.1,e.2]at c;omega
  ·exact h ⟨f,g.symm⟩
theorem p9{K:List Mc}{b:ByteArray}(d:∀j,j<i->bL (mL K j) x b<0)(f:∀j,i<=j->j<K.length->0<=bL (mL K j) x b)(g:bZ K):az K x b=if h:i<K.length/\bL (mL K i) x b=0 then N (K[i]'h.1)else none:=by
 unfold az;split
 ·rename_i h
  rw[List.find?_eq_some_iff_getElem];refine⟨by rw[<-iM h.1];exact hZ.1 h.2,i,h.1,rfl,λj a=>?_⟩;have:=d j a;rw[iM O]at this;rw[Bool.not_eq_true',<-NB,<-hZ];omega
 ·rename_i h
  have k:=vW f g h;rw[List.find?_eq_none];intro e l;obtain⟨j,a,rfl⟩:=List.getElem_of_mem l;rw[<-hZ,<-iM a];rcases N8 j i with c|c
  ·have:=d j c;omega
  ·have:=k j c a;omega
theorem di{b:MV}{a:Ma}(h:w.ownsRow B t s a n c)(d:∀g,a.ownBlock=N g->b.heap[g]?=w.heap[g]?):b.ownsRow B t s a n c:=by
 refine⟨h.1,?_⟩;rcases h.2 with e|⟨g,f,i,rfl,j,k,l⟩
 ·exact Mf e
 ·exact MX ⟨g,f,i,rfl,j,(d g rfl).trans k,l⟩
theorem IZ.aD{c:MV}{m:Nat}{K:List Mc}(a:IZ w m d K)(b:Mb w.heap.size w c):IZ c m d K:=
 ⟨(b.cell (p:=⟨m,0,S⟩) (MO a.1)).trans a.1,(b.cell (p:=⟨m,1,S⟩) (MO a.2.1)).trans a.2.1,di a.2.2.1 (λg e=>b.block g (a.2.2.1.lt g e).2),λj=>(b.frozen (p:=⟨m,j,S⟩) (show m<w.heap.size from MO a.1)).trans (a.2.2.2.1 j),a.2.2.2.2⟩
theorem Dg:∃d,prog.underlying 238=N d/\d.isRow=true:=gO UR
theorem xq:(prog.info? 238).map (·.size)=N 2:=UR
theorem l9{f:Func}{p t:Tmp}{a:NL}(h:f.results=#[.cell p a,.tmp t])(c:Array Ma)(w:MV)(b o:Nat)(e:List Ma)(d:TypeDesc)(g:c.getD p NS=MQ (N ⟨b,o,S⟩))(i:w.rangeAt b o e)(j:P.underlying a=N d)(k:d.isRow=Mk)(l:(P.info? a).map (·.size)=N e.length):(QO f c).run P w=.ok (Nn #[M1 e.toArray,c.getD t NS]) w:=by
 have m:c[p]?.getD NS=MQ (N ⟨b,o,S⟩):=by simpa using g
 simp[QO,h,m,asAddr,run_loadVar_mid w b o a e d i j k l]
theorem Fx{c:Ma}(e:W.cell? ⟨b,0,S⟩=N c)(f:W.cell? ⟨b,1,S⟩=N d):W.rangeAt b 0 [c,d]:=λj v a=>by
 rw[NO];match j with
 |0=>rw[e];exact a
 |1=>rw[f];exact a
 |j+2=>cases a
def Jn(o:Option Mc):Value:=match o with|some e=>M1 #[Q I e.port,Q I e.age]|none=>M1 #[Q I 0,Q I 0]
theorem Hn(m:Nat)(z:Ma)(K:List Mc)(x:Int)(b:ByteArray)(w:MV)(B:IZ w m z K)(o:bZ K):Mo MT 180 #[MQ (N ⟨m,0,S⟩),M1 #[Q I x,MS b]] w λe V=>e=MZ (Nn #[Jn (az K x b),M0 (az K x b).isSome])/\Mb w.heap.size w V:=by
 have C:=A λ(W:MV) (c:Mb w.heap.size w W)=>oF m z K x b W (B.aD c) o;obtain⟨X,Y,D,Z,h4⟩:=B;obtain⟨a,a5,g,rfl,q⟩:=fN D;obtain⟨E,F,G⟩:=Dg;have a0:m<w.heap.size:=MO X;clear D Z;go_enter func180,ntmps180;obtain⟨n,r⟩:=UX (az K x b);rw[<-r];go_wp2_with fail
 obtain⟨W,d⟩:=UX ((w.alloc (MY #[Q I x,MS b] 236)).alloc (MY #[Q I 0,Q I 0] 238));rw[<-d];have s:Mb w.heap.size w W:=by rw[d];exact((MU _ w).alloc (MP _) _).alloc (by simp) _
 have a6:W.heap.size=w.heap.size+2:=by rw[d];simp
 have H:W.cell? ⟨w.heap.size+1,0,S⟩=N (Q I 0):=by rw[d];exact(Ox _ _ _ _ (by simp)).trans rfl
 have J:W.cell? ⟨w.heap.size+1,1,S⟩=N (Q I 0):=by rw[d];exact(Ox _ _ _ _ (by simp)).trans rfl
 have t:∀j,W.frozen? ⟨w.heap.size+1,j,S⟩=false:=λj=>by rw[d];exact World.frozen?_alloc_at _ _ _ _ (by simp)
 refine(C.o W s).mono ?_;rintro e f ⟨i,hi,L,M,rfl,c⟩;have P:=A (p9 L M o);have q0:=MW c H;have q1:=MW c J;have f1:f.frozen? ⟨w.heap.size+1,0,S⟩=false:=(c.frozen (p:=⟨w.heap.size+1,0,S⟩) (show w.heap.size+1<W.heap.size by omega)).trans (t 0);have f2:f.frozen? ⟨w.heap.size+1,1,S⟩=false:=(c.frozen (p:=⟨w.heap.size+1,1,S⟩) (show w.heap.size+1<W.heap.size by omega)).trans (t 1);have b2:w.heap.size+1<f.heap.size:=by have:=c.size;omega
 have b3:¬f.heap.size=w.heap.size+1:=O;have b4:¬w.heap.size+1=f.heap.size:=O;have k:=A (s.trans (c.mono s.size));have R:=A r;clear C L M o H J t d r;by_cases h:i<K.length/\bL (mL K i) x b=0
 ·obtain⟨ha,T,c1,u,v⟩:=q i h.1;subst ha;have hx:(bL (mL K i) x b==0)=true:=by simp[h.2]
  have hd:decide (i<K.length)=true:=by simp[h.1]
  have d2:=(k.o.cell (p:=⟨g,i*4+2,S⟩) (MO u)).trans u;have d3:=(k.o.cell (p:=⟨g,i*4+3,S⟩) (MO v)).trans v;have e1:=(k.o.cell (p:=⟨m,1,S⟩) a0).trans Y;have c5:(i:Int)<K.length:=O;have l:n=N (mL K i):=by rw[R.o,P.o,dif_pos h];exact congrArg N (iM h.1).symm
  have y:=A l;have c6:g<w.heap.size:=MO T;have c7:¬g=w.heap.size+1:=O;have c8:¬w.heap.size+1=g:=O;have c9:¬m=w.heap.size+1:=O;generalize mL K i=U at*;clear q l T c1 u v h;go_wp2;refine NQ (l9 rfl _ _ (w.heap.size+1) 0 [Q I U.port,Q I U.age] E rfl (Fx ?_ ?_) F G xq) rfl ?_
  ·go_simp
  ·go_simp
  ·exact⟨by rw[y.o];rfl,(k.o.setCell (by simp) _).setCell (by simp) _⟩
 ·have hx:(decide (i<K.length)&&(bL (mL K i) x b==0))=false:=by
   rw[<-NB,Bool.and_eq_true,decide_eq_true_eq,beq_iff_eq];exact h
  have l:n=none:=by rw[R.o,P.o,dif_neg h]
  have y:=A l;clear q l h;go_wp2;refine NQ (l9 rfl _ _ (w.heap.size+1) 0 [Q I 0,Q I 0] E rfl (Fx ?_ ?_) F G xq) rfl ?_
  ·go_simp
  ·go_simp
  ·exact⟨by rw[y.o];rfl,by have c:=k.o;exact UQ⟩
end
theorem Js:(prog.info? 308).map (λi=>(i.zero,i.size,i.bytes))=N (N (M1 #[Q I 0,MS Mq,Q I 0,Q I 0]),4,40):=UR
theorem mN:prog.underlying 303=N (.slice 308):=UR
theorem Cs:(prog.info? 308).map (·.size)=N 4:=UR
theorem G3(m:Ma)(n:Nat)(b:List Ma)(l:Nat)(a:List Ma)(w:MV)(h:w.ownsRow 0 308 4 m n b)(P:n<=199)(v:a.length=4)(o:∀j u,a[j]?=N u->w.cell? ⟨l,j,S⟩=N u)(x:∀u∈a,u.oneCell'=Mk):Mo MT 221 #[m,Q I n,MR (N ⟨l,0,S⟩) 1 1] w (bn 308 4 m n (b++a) w):=by
 obtain⟨y,z,B,C,D⟩:=Ob Js;have H:=A h;have E:=A o;have R:(n:Int)<=199:=O;rcases h.2 with⟨p,F⟩|⟨g,q,T,p,_,G,U,J,K,L⟩
 ·subst p F;clear h o;go_enter Qb,ntmps221;go_wp2_with (first|(at_builtin;refine OC _ rfl _ _ 303 rfl 0 308 y (M1 #[Q I 0,MS Mq,Q I 0,Q I 0]) 4 40 mN z B C D rfl US _ 0 b rfl H.o ⟨l,0,S⟩ 1 1 a rfl (by rw[v]) (λj u r=>by rw[NM,NO];exact E.o j u r) x US UT O (NG _) _ rfl ?_))
  intro c d s f i k M;have t:=A (show bn 308 4 (MR S 0 0) 0 (b++a) w (MZ (MR (N ⟨c,0,S⟩) 1 d)) s from⟨c,d,rfl,f,by rcases k with e|e;exact Mf e;exact MX O,aH.grown i λ_ e=>e⟩);clear f i k;go_wp2;go_ret;exact t.o
 ·subst p;clear h o L K G;have V:q<=9223372036854775807:=by unfold Nj at J;omega
  have W:(n:Int)<=q:=O;go_enter Qb,ntmps221;go_wp2_with (first|(at_builtin;refine OC _ rfl _ _ 303 rfl 0 308 y (M1 #[Q I 0,MS Mq,Q I 0,Q I 0]) 4 40 mN z B C D rfl US _ n b rfl H.o ⟨l,0,S⟩ 1 1 a rfl (by rw[v]) (λj u r=>by rw[NM,NO];exact E.o j u r) x US UT O (NG _) _ rfl ?_))
  all_goals
   intro c d s f i k M;have t:=A (show bn 308 4 (MR (N ⟨g,0,S⟩) n q) n (b++a) w (MZ (MR (N ⟨c,0,S⟩) (n+1) d)) s from⟨c,d,rfl,f,by rcases k with e|e;exact Mf e;exact MX O,aH.grown i λ_ e=>e⟩);clear f i k;go_wp2;go_ret;exact t.o
theorem Eh(g n c i:Nat)(f:Array Ma)(h:List Ma)(k:Nat)(J:NL)(K:Nat)(d:List Ma)(w:MV)(o:w.heap[g]?=N (MY f 308 (0,0)))(s:c<=Nj)(L:f.size=c*4)(p:h.length=n*4)(t:f.toList.take (n*4)=h)(a0:∀u∈h,u.oneCell'=Mk)(hi:i<n)(a1:n+1<=c)(hn:n<=199)(q:d.length=4)(M:∀j u,d[j]?=N u->w.cell? ⟨k,j,S⟩=N u)(h1:∀u∈d,u.oneCell'=Mk)(P:k≠g)(a3:w.shape? k=N (J,K))(R:∀j,w.frozen? ⟨k,j,S⟩=Md):Mo MT 221 #[MR (N ⟨g,0,S⟩) n c,Q I i,MR (N ⟨k,0,S⟩) 1 1] w (bn 308 4 (MR (N ⟨g,0,S⟩) n c) n (h.take (i*4)++d++h.drop (i*4)) w):=by
 have T:w.shape? g=N (308,f.size):=by simp[World.shape?,o]
 have a4:∀y z,(callFunc 233 #[MR (N ⟨k,0,S⟩) 1 1,MR (N ⟨g,(i+1)*4,S⟩) y z]).run MT w=.ok (.value (M0 Md)) w:=λy z=>by
  rw[run_callFunc_extern func233 UR UR UR (e:=Extern.SlicesOverlaps.overlaps #[303,303] #[4]) UR,
   Lib.run_overlaps_apart w 303 4 308 mN 4 (λ_=>rfl) ⟨k,0,S⟩ ⟨g,(i+1)*4,S⟩ 1 1 y z P J 308 K f.size a3 T O (R _) (R _)]
  rfl
 have hb:c<=9223372036854775807:=by unfold Nj at s;omega
 have c7:(n:Int)<=c:=O;have c8:(n:Int)+1<=c:=O;have c9:¬((i:Int)=(n:Int)):=O;have d0:(i:Int)<n:=O;have d1:¬((c:Int)<(n:Int)+1):=O;have d2:¬(c=i):=O;have d3:¬(c=i+1):=O;have d4:IntKind.i64.wrap ((i:Int)+1)=(i:Int)+1:=by rw[Mm];omega
 have d5:IntKind.i64.wrap ((n:Int)+1)=(n:Int)+1:=by rw[Mm];omega
 have d6:((i:Int)+1).toNat=i+1:=O;have e0:((n:Int)+1).toNat=n+1:=O;have e1:(0:Int)<=(i:Int)+1:=O;have e2:i<=n:=O;have e3:(i:Int)<=(n:Int)+1:=O;have r:f.toList.length=c*4:=by rw[Nl];exact L
 obtain⟨D,m⟩:=UX (h.drop (i*4));have U:D.length=(n-i)*4:=by rw[m,M2,p];omega
 have V:∀j v,D[j]?=N v->w.cell? ⟨g,i*4+j,S⟩=N v:=λj v l=>by
  rw[m,N2,<-t,M5]at l;split at l
  ·exact aM o l
  ·cases l
 have W:∀u∈D,u.oneCell'=true:=λu X=>a0 u (by rw[m]at X;exact Nu X);have B:(M8 (M8 f.toList ((i+1)*4) D) (i*4) d).take ((n+1)*4)=h.take (i*4)++d++h.drop (i*4):=by
  rw[show(i+1)*4=i*4+4 by omega,show(n+1)*4=n*4+4 by omega,m];exact md f.toList h d (i*4) (n*4) 4 t p q O (by rw[r];omega)
 have Y:(M8 (M8 f.toList ((i+1)*4) D) (i*4) d).length=c*4:=by
  rw[NI _ _ _ (by rw[NI _ _ _ O];omega),NI _ _ _ O,r]
 obtain⟨E,F⟩:=UX (h.take (i*4)++d++h.drop (i*4));have Z:E.length=(n+1)*4:=by rw[F];simp only[Mz,Mh,M2,p,q];omega
 rw[<-F]at B⊢;have HG:aA (w.heap[g]?=N (MY f.toList.toArray 308 (0,0))):=A (by rw[o]);have HV:=A M;have G:=A r;have H:=A U;have a7:=A V;have a8:=A W;have HR:=A B;have b0:=A Y;have b1:=A Z;clear o M t p L T r U V W B Y Z F m;generalize f.toList=C at*;have b2:=A s;clear s;go_enter Qb,ntmps221;go_wp2_with (simp only[a4])
 go_region_law (refine cO rfl _ _ 303 303 rfl 308 4 mN Cs g ((i+1)*4) (n-i) (c- (i+1)) ⟨g,i*4,S⟩ (n+1-i) (c-i) UV UV C 308 HG.o D (n-i) UW H.o (λj v l=>by rw[NM];exact a7.o j v l) (by rw[H.o,G.o];omega) a8.o (λb=>b=g) w (aH.refl _ _).drew (Mf rfl) ?_;intro w1 G1 C1 O1)
 have b9:aA (∀j u,d[j]?=N u->w1.cell? ⟨k,j,S⟩=N u):=A λj u l=>(Mj (w:=w) (a:=⟨k,j,S⟩) (O1.o k P)).trans (HV.o j u l);have c0:aA (i*4+d.length<=(M8 C ((i+1)*4) D).length):=A (by rw[NI _ _ _ (by rw[H.o,G.o];omega),G.o,q];omega);go_wp2_with (refine bo rfl _ _ 303 303 rfl 308 4 mN Cs g (i*4) (n+1-i) (c-i) ⟨k,0,S⟩ 1 1 rfl rfl (M8 C ((i+1)*4) D) 308 G1.o d 1 UW (by rw[q]) (λj v l=>by rw[NM,NO];exact b9.o j v l) c0.o h1 (λb=>b=g) w C1.o (Mf rfl) ?_)
 intro w2 G2 C2 O2;go_wp2;go_ret;exact⟨g,c,rfl,⟨b1.o,MX ⟨g,c,_,rfl,NG _,G2.o,a1,b2.o,by rw[NY];exact b0.o,HR.o⟩⟩,Mf rfl,C2.o.mono λx _ hx=>by subst hx;rfl⟩
theorem ze:(N5 (M1 #[Q I 0,MS Mq,Q I 0,Q I 0])).size=4:=rfl
theorem Ei(g n c i:Nat)(Y:Array Ma)(e:List Ma)(p:Nat)(f:List Ma)(w:MV)(s:w.heap[g]?=N (MY Y 308 (0,0)))(t:e.length=n*4)(J:Y.toList.take (n*4)=e)(Z:∀u∈e,u.oneCell'=Mk)(hi:i<n)(e6:n<=c)(b4:c<n+1)(hn:n<=199)(y:f.length=4)(K:∀j u,f[j]?=N u->w.cell? ⟨p,j,S⟩=N u)(h1:∀u∈f,u.oneCell'=Mk):Mo MT 221 #[MR (N ⟨g,0,S⟩) n c,Q I i,MR (N ⟨p,0,S⟩) 1 1] w (bn 308 4 (MR (N ⟨g,0,S⟩) n c) n (e.take (i*4)++f++e.drop (i*4)) w):=by
 obtain rfl:c=n:=O;obtain⟨i0,b6,b9,c0,a1⟩:=Ob Js;have a2:g<w.heap.size:=(Array.getElem?_eq_some_iff.1 s).1;have a3:p<w.heap.size:=by
  obtain⟨u,z⟩:∃u,f[0]?=N u:=⟨_,List.getElem?_eq_getElem O⟩;exact MO (K 0 u z)
 obtain⟨D,q⟩:=UX (e.drop (i*4));have a4:D.length=(c-i)*4:=by rw[q,M2,t];omega
 have a5:∀j v,D[j]?=N v->w.cell? ⟨g,i*4+j,S⟩=N v:=λj v d=>by
  rw[q,N2,<-J,M5]at d;split at d
  ·exact aM s d
  ·cases d
 have a6:∀u∈D,u.oneCell'=true:=λu z=>Z u (by rw[q]at z;exact Nu z);have a7:(Builtin.firstCells i0.size i (MR (N ⟨g,0,S⟩) i c)).run MT w.drew=.ok (e.take (i*4)).toArray w.drew:=by
  rw[c0];exact run_firstCells_some w.drew 4 i ⟨g,0,S⟩ i c (e.take (i*4)) (by rw[Mh];omega) (λj v d=>by
   rw[NM,NO];rw[M5]at d;split at d
   ·rw[<-J,M5]at d;split at d
    ·exact aM s d
    ·cases d
   ·cases d)
 have L:i+(c+1-i)=c+1:=O;have a8:(c:Int)+1- (i:Int)=((c+1-i:Nat):Int):=O;obtain⟨G,B⟩:=UX (grownCap w (c+1) c 308);obtain⟨l,E⟩:=UX ((e.take (i*4)).toArray++NV (N5 (M1 #[Q I 0,MS Mq,Q I 0,Q I 0])) (c+1-i)++NV (N5 (M1 #[Q I 0,MS Mq,Q I 0,Q I 0])) (G- (c+1)):Array Ma);obtain⟨m,r⟩:=UX (w.drew.alloc (MY l 308));have a9:∀M,(Na #[303,3] M #[MR (N ⟨g,0,S⟩) i c,Q I ((c:Int)+1- (i:Int))]).run MT w=.ok (MR (N ⟨w.heap.size,0,S⟩) (c+1) G) m:=λM=>by
  have h:=Lib.run_append_grow_zeros w 303 3 M 308 i0 _ I I mN UR b6 b9 (N ⟨g,0,S⟩) i c (e.take (i*4)) a7 (c+1-i) O O O O (by rw[a1];omega) (by rw[a1,L];exact growslice_fits b4 O);rw[L]at h;rw[a8,r,E,B];exact h
 have c1:c+1<=G:=by rw[B];exact grownCap_ge w _ _ _
 have P:G<=maxLen:=by rw[B];exact grownCap_le_maxLen w (c+1) c 308 UT
 have e8:G<=9223372036854775807:=by unfold Nj at P;omega
 have F:l.toList.length=G*4:=by
  rw[E];simp only[NV,ze,Nq,Mz,Nl,Array.size_map,Array.size_range,Mh];omega
 have b0:l.toList.take (i*4)=e.take (i*4):=by
  rw[E,Nq,Nq,List.append_assoc,List.take_append_of_le_length (by rw[Mh];omega),List.take_take,Nat.min_self]
 have R:(M8 (M8 l.toList (i*4) f) ((i+1)*4) D).take ((c+1)*4)=e.take (i*4)++f++e.drop (i*4):=by
  rw[show(i+1)*4=i*4+4 by omega,show(c+1)*4=c*4+4 by omega,q];exact me l.toList e f (i*4) (c*4) 4 b0 t y O (by rw[F];omega)
 have T:(M8 l.toList (i*4) f).length=G*4:=by rw[NI _ _ _ O,F]
 have b1:(M8 (M8 l.toList (i*4) f) ((i+1)*4) D).length=G*4:=by rw[NI _ _ _ O,T]
 obtain⟨U,V⟩:=UX (e.take (i*4)++f++e.drop (i*4));have b2:U.length=(c+1)*4:=by rw[V];simp only[Mz,Mh,M2,t,y];omega
 rw[<-V]at R⊢;obtain⟨o,H⟩:=UX w.heap.size;have HG:aA (m.heap[o]?=N (MY l.toList.toArray 308 (0,0))):=A (by rw[r,H];exact(by simp:(w.heap.push (Obj.cells l 308))[w.heap.size]?=some (Obj.cells l.toList.toArray 308)));have W:aA (∀k,k<o->m.heap[k]?=w.heap[k]?):=A λk hk=>by rw[r];exact((MU w.heap.size w.drew).alloc (MP _) _).block k O
 have c3:aA (aH (λb=>b=g) w m):=A (by rw[r];exact(aH.refl _ w).drew.alloc _);rw[<-H]at a9 a2 a3;have c4:aA (∀j u,f[j]?=N u->m.cell? ⟨p,j,S⟩=N u):=A λj u d=>(Mj (w:=w) (a:=⟨p,j,S⟩) (W.o p a3)).trans (K j u d);have c5:aA (∀j v,D[j]?=N v->m.cell? ⟨g,i*4+j,S⟩=N v):=A λj v d=>(Mj (w:=w) (a:=⟨g,i*4+j,S⟩) (W.o g a2)).trans (a5 j v d);have b3:=A a4;have c6:=A a6;have HR:=A R;have c8:=A b1;have c9:=A F;have d0:=A T;have d1:=A b2;have d2:=A P;have X:=A H;have d3:g≠o:=O;clear s K J t a4 a5 a6 R b1 b2 V q a7 L a8 E F b0 T r B P H W Z;generalize l.toList=C at*;have hb:c<=9223372036854775807:=O;have f2:¬((i:Int)=(c:Int)):=O;have f3:(i:Int)<c:=O;have f4:(c:Int)<(c:Int)+1:=O;have f5:¬(c=i):=O;have f6:¬(G=i):=O;have f7:¬(G=i+1):=O;have f8:IntKind.i64.wrap ((i:Int)+1)=(i:Int)+1:=by rw[Mm];omega
 have f9:IntKind.i64.wrap ((c:Int)+1)=(c:Int)+1:=by rw[Mm];omega
 have g0:IntKind.i64.wrap ((c:Int)+1- (i:Int))=(c:Int)+1- (i:Int):=by rw[Mm];omega
 have g1:((i:Int)+1).toNat=i+1:=O;have g2:(0:Int)<=(i:Int)+1:=O;have g3:i<=c:=O;have g4:(i:Int)<=(c:Int)+1:=O;go_enter Qb,ntmps221;go_wp2_with (first|(at_builtin;refine Lib.wpList_append_run _ rfl _ _ 303 3 rfl _ _ rfl rfl _ _ (a9 _) ?_)|(refine bo rfl _ _ 303 303 rfl 308 4 mN Cs o (i*4) (c+1-i) (G-i) ⟨p,0,S⟩ 1 1 rfl rfl C 308 HG.o f 1 UW (by rw[y]) (λj v d=>by rw[NM,NO];exact c4.o j v d) (by rw[c9.o,y];omega) h1 (λb=>b=g) w c3.o (MX (OU X.o.symm)) ?_))
 intro w1 G1 C1 O1;have e1:aA (∀j v,D[j]?=N v->w1.cell? ⟨g,i*4+j,S⟩=N v):=A λj v d=>(Mj (w:=m) (a:=⟨g,i*4+j,S⟩) (O1.o g d3)).trans (c5.o j v d);go_wp2;go_region_law (refine cO rfl _ _ 303 303 rfl 308 4 mN Cs o ((i+1)*4) (c-i) (G- (i+1)) ⟨g,i*4,S⟩ (c-i) (c-i) UV UV (M8 C (i*4) f) 308 G1.o D (c-i) UW b3.o (λj v d=>by rw[NM];exact e1.o j v d) (by rw[b3.o,d0.o];omega) c6.o (λb=>b=g) w C1.o.drew (MX (OU X.o.symm)) ?_;intro w2 G2 C2 O2)
 go_wp2;go_ret;exact⟨o,G,rfl,⟨d1.o,MX ⟨o,G,_,rfl,NG _,G2.o,c1,d2.o,by rw[NY];exact c8.o,HR.o⟩⟩,MX (OU X.o.symm),C2.o.mono λx _ hx=>by subst hx;rfl⟩
theorem G4(d:Ma)(n i:Nat)(a:List Ma)(b:Nat)(p:NL)(q:Nat)(c:List Ma)(w:MV)(h:w.ownsRow 0 308 4 d n a)(r:∀u∈a,u.oneCell'=Mk)(L:i<=n)(f:n<=199)(k:c.length=4)(l:∀j u,c[j]?=N u->w.cell? ⟨b,j,S⟩=N u)(m:∀u∈c,u.oneCell'=Mk)(z:d.ownBlock≠N b)(B:w.shape? b=N (p,q))(C:∀j,w.frozen? ⟨b,j,S⟩=Md):Mo MT 221 #[d,Q I i,MR (N ⟨b,0,S⟩) 1 1] w (bn 308 4 d n (a.take (i*4)++c++a.drop (i*4)) w):=by
 by_cases D:i=n
 ·subst D;have E:a.take (i*4)=a:=List.take_of_length_le (by rw[h.1];exact MP _);have F:a.drop (i*4)=[]:=List.drop_eq_nil_of_le (by rw[h.1];exact MP _);rw[E,F,List.append_nil];exact G3 d i a b c w h f k l m
 ·have s:=h;rcases h.2 with⟨t,M⟩|⟨g,o,v,t,_,x,G,H,J,y⟩
  ·omega
  ·subst t;by_cases K:n+1<=o
   ·exact Eh g n o i v a b p q c w x H J s.1 y r O K f k l m (λe=>z (by rw[e];rfl)) B C
   ·exact Ei g n o i v a b c w x s.1 y r O G O f k l m
def fE(w:MV):Prop:=w.cell? ⟨1,0,S⟩=N (MS ⟨#[129,0]⟩)/\w.cell? ⟨1,1,S⟩=N (Q I 1)/\w.cell? ⟨1,2,S⟩=N (MS ⟨#[8,0]⟩)/\w.cell? ⟨1,3,S⟩=N (Q I 2)
theorem fE.aD{b:MV}(h:fE w)(a:Mb w.heap.size w b):fE b:=⟨MW a h.1,MW a h.2.1,MW a h.2.2.1,MW a h.2.2.2⟩
def cj(b:ByteArray):Int:=kG ⟨#[129,0]⟩ ⟨#[8,0]⟩ b
theorem yz(b:ByteArray)(w:MV)(h:fE w):Mo MT 168 #[MS b] w λe a=>e=MZ (Q I (cj b))/\Mb w.heap.size w a:=
 Bg b _ _ w h.1 h.2.1 h.2.2.1 h.2.2.2
def dh(b:ByteArray):Nat:=if h:b.size=2 then(b[0]'O).toNat*256+(b[1]'O).toNat else 0
def bd(d:ByteArray):Option Fr:=
 if d.size<14 then S
 else if cj (d.extract 12 14)=1 then
  (if d.size<18 then S else N ⟨d.extract 0 6,d.extract 6 12,Mk,((dh (d.extract 14 16)%4096:Nat):Int),((dh (d.extract 14 16)/4096:Nat):Int),d.extract 16 18,d.extract 18 d.size⟩)
 else N ⟨d.extract 0 6,d.extract 6 12,Md,0,0,d.extract 12 14,d.extract 14 d.size⟩
def gD:Fr:=⟨⟨#[]⟩,⟨#[]⟩,Md,0,0,⟨#[]⟩,⟨#[]⟩⟩
theorem wP{a:Array Ma}{cs:Array Ma}(c:W.heap[b]?=N (MY cs 146 (0,0)))(d:cs.size=7)(e:a.getD 2 NS=MQ (N ⟨b,0,S⟩)):(QO Tu a).run MT W=.ok (Nn #[M1 cs,a.getD 3 NS]) W:=by
 rw[results_cell_tmp (fn:=Tu) (p:=2) (u:=3) (ty:=146) rfl,e];have f:(prog.info? 146).map (·.size)=N cs.size:=by rw[d];kernel_rfl
 simp[asAddr,run_loadVar_row W b 146 146 cs (0,0) _ c underlying146 rfl f,Result.andThen]
theorem nE(w:MV)(n:Nat):(w.drewN n).heap=w.heap:=by simp
theorem yK{a c g i v0 v1 v2 v3 v4 v5 v6:Ma}(h:W.heap[b]?=N (MY #[a,c,d,e,f,g,i] t (0,0))):(((((((W.setCell ⟨b,0,S⟩ v0).setCell ⟨b,1,S⟩ v1).setCell ⟨b,2,S⟩ v2).setCell ⟨b,3,S⟩ v3).setCell ⟨b,4,S⟩ v4).setCell ⟨b,5,S⟩ v5).setCell ⟨b,6,S⟩ v6).heap[b]?=N (MY #[v0,v1,v2,v3,v4,v5,v6] t (0,0)):=by
 have j:=Mn W b 0 _ _ v0 h;have k:=Mn _ b 1 _ _ v1 j;have l:=Mn _ b 2 _ _ v2 k;have m:=Mn _ b 3 _ _ v3 l;have n:=Mn _ b 4 _ _ v4 m;have o:=Mn _ b 5 _ _ v5 n;have p:=Mn _ b 6 _ _ v6 o;simpa using p
theorem oy{c g i j:Ma}(h:Mb B w W)(a:B<=b):Mb B w (((((((W.setCell ⟨b,0,S⟩ c).setCell ⟨b,1,S⟩ d).setCell ⟨b,2,S⟩ e).setCell ⟨b,3,S⟩ f).setCell ⟨b,4,S⟩ g).setCell ⟨b,5,S⟩ i).setCell ⟨b,6,S⟩ j):=
 ((((((h.setCell a _).setCell a _).setCell a _).setCell a _).setCell a _).setCell a _).setCell a _
theorem Ey(d:ByteArray)(w:MV)(T:fE w)(hl:d.size<=600):Mo MT 104 #[MS d] w λe w'=>e=MZ (Nn #[M1 (dS ((bd d).getD gD)),M0 (bd d).isSome])/\Mb w.heap.size w w':=by
 by_cases J:d.size<14
 ·have hr:bd d=none:=by unfold bd;rw[if_pos J]
  rw[hr];have hi:(d.size:Int)<14:=O;go_enter TB,ntmps104;go_wp2;refine NQ (wP (b:=w.heap.size) (cs:=dS gD) (aU w _) rfl rfl) rfl ?_;exact⟨rfl,UQ⟩
 ·have hi:¬(d.size:Int)<14:=by omega
  have k6:(6:Int)<=d.size:=O;have f4:(12:Int)<=d.size:=O;have f5:(14:Int)<=d.size:=O;obtain⟨y,K⟩:=UX (bd d);rw[<-K];have t:=A K;have HM:=A T;have z:=A J;clear K T J;go_enter TB,ntmps104;go_wp2;go_region
  generalize B:Us _=C;have U:C.heap[w.heap.size]?=N (MY (dS gD) 146 (0,0)):=by rw[<-B];exact(((MU _ (w.alloc _)).alloc (MP _) _).block _ (by simp)).trans (aU _ _)
  have V:C.heap[w.heap.size+1]?=N (MY #[MS (d.extract 0 6),MS (d.extract 6 12),M0 Md,Q I 0,Q I 0,MS ⟨#[]⟩,MS ⟨#[]⟩] 146 (0,0)):=by rw[<-B];rw[<-xN w];exact aU _ _
  have G:Mb w.heap.size w C:=by rw[<-B];exact(((MU _ w).alloc (MP _) _).alloc (by simp) _).drew
  have d0:C.heap.size=w.heap.size+2:=by rw[<-B];simp
  clear B;have X:=A (yz (d.extract 12 14) C (HM.o.aD G));go_wp2_with fail
  refine X.o.mono ?_;rintro e c ⟨rfl,D⟩;have i:=(D.block _ O).trans U;have k:=(D.block _ O).trans V;have p:Mb w.heap.size w c:=G.trans (D.mono G.size);have d1:=D.size;have Z:w.heap.size<c.heap.size:=O;have z1:w.heap.size+1<c.heap.size:=O;clear X U V D G d0 d1;have q:w.heap.size≠w.heap.size+1:=O;have u:∀(W:MV) (f:Fr),W.heap[w.heap.size]?=N (MY (dS gD) 146 (0,0))->Mb w.heap.size w W->
   (((((((W.setCell ⟨w.heap.size,0,S⟩ (MS f.to)).setCell ⟨w.heap.size,1,S⟩ (MS f.fr)).setCell ⟨w.heap.size,2,S⟩ (M0 f.tagged)).setCell ⟨w.heap.size,3,S⟩ (Q I f.vlan)).setCell ⟨w.heap.size,4,S⟩ (Q I f.mark)).setCell ⟨w.heap.size,5,S⟩ (MS f.ty)).setCell ⟨w.heap.size,6,S⟩ (MS f.rest)).heap[w.heap.size]?=N (MY (dS f) 146 (0,0)):=λW f h _=>yK h
  by_cases o:cj (d.extract 12 14)=1
  ·have hd:(cj (d.extract 12 14)==1)=true:=by simpa using o
   by_cases H:d.size<18
   ·obtain rfl:y=none:=by rw[t.o];unfold bd;rw[if_neg z.o,if_pos o,if_pos H]
    have d3:(d.size:Int)<18:=O;have c0:c.cell? ⟨w.heap.size,0,S⟩=N (MS ⟨#[]⟩):=aB i rfl;have c1:c.cell? ⟨w.heap.size,1,S⟩=N (MS ⟨#[]⟩):=aB i rfl;have c2:c.cell? ⟨w.heap.size,2,S⟩=N (M0 Md):=aB i rfl;have c3:c.cell? ⟨w.heap.size,3,S⟩=N (Q I 0):=aB i rfl;have c4:c.cell? ⟨w.heap.size,4,S⟩=N (Q I 0):=aB i rfl;have c5:c.cell? ⟨w.heap.size,5,S⟩=N (MS ⟨#[]⟩):=aB i rfl;have c6:c.cell? ⟨w.heap.size,6,S⟩=N (MS ⟨#[]⟩):=aB i rfl;have f0:∀j,c.frozen? ⟨w.heap.size,j,S⟩=false:=λj=>bC i j;have E:=A (u c gD i p);have d4:=A p;clear u o H i k t p;go_wp2;refine NQ (wP E.o rfl rfl) rfl ?_;exact⟨rfl,oy d4.o (MP _)⟩
   ·obtain rfl:y=N ⟨d.extract 0 6,d.extract 6 12,Mk,((dh (d.extract 14 16)%4096:Nat):Int),((dh (d.extract 14 16)/4096:Nat):Int),d.extract 16 18,d.extract 18 d.size⟩:=by rw[t.o];unfold bd;rw[if_neg z.o,if_pos o,if_neg H]
    have d3:¬(d.size:Int)<18:=O;have f6:(16:Int)<=d.size:=O;have f7:(18:Int)<=d.size:=O;have v:(d.extract 14 16).size=2:=by rw[O9];omega
    have L:nz (d.extract 14 16) v=((dh (d.extract 14 16):Nat):Int):=by rw[Dq,dh,dif_pos v]
    have a9:dh (d.extract 14 16)<65536:=by
     rw[dh,dif_pos v];have:=((d.extract 14 16)[0]'O).toNat_lt;have:=((d.extract 14 16)[1]'O).toNat_lt;omega
    have b2:Oa BinOp.and I (nz (d.extract 14 16) v) 4095=((dh (d.extract 14 16)%4096:Nat):Int):=by rw[L,Ja _ a9]
    have b3:nz (d.extract 14 16) v/4096=((dh (d.extract 14 16)/4096:Nat):Int):=by rw[L];omega
    have M:=yP (w.heap.size+1) (d.extract 14 16) c v Md 0 0 (aB k rfl) (aB k rfl) (aB k rfl) (λj=>bC k j);rw[b2,b3]at M;have b4:=A M;clear M L a9 b2 b3 o H z;go_wp2_with fail
    refine b4.o.mono ?_;rintro e m ⟨rfl,n,x⟩;have b5:m.heap[w.heap.size]?=N (MY (dS gD) 146 (0,0)):=by
     rw[x,nE];exact(((NE _ _ _ _ q).trans (NE _ _ _ _ q)).trans (NE _ _ _ _ q)).trans i
    have F:m.heap[w.heap.size+1]?=N (MY #[MS (d.extract 0 6),MS (d.extract 6 12),M0 Mk,Q I ((dh (d.extract 14 16)%4096:Nat):Int),Q I ((dh (d.extract 14 16)/4096:Nat):Int),MS ⟨#[]⟩,MS ⟨#[]⟩] 146 (0,0)):=by
     rw[x,nE];exact(Mn _ _ 4 _ _ _ (Mn _ _ 3 _ _ _ (Mn _ _ 2 _ _ _ k))).trans (by simp)
    have b6:Mb w.heap.size w m:=by rw[x];exact below_drewN (((p.setCell (by simp) _).setCell (by simp) _).setCell (by simp) _) n
    have f8:w.heap.size<m.heap.size:=by rw[x,nE];simpa using Z
    have f9:w.heap.size+1<m.heap.size:=by rw[x,nE];simpa using z1
    clear x b4 Z z1;have x5:m.cell? ⟨w.heap.size+1,5,S⟩=N (MS ⟨#[]⟩):=aB F rfl;have x6:m.cell? ⟨w.heap.size+1,6,S⟩=N (MS ⟨#[]⟩):=aB F rfl;have r:∀j,m.frozen? ⟨w.heap.size+1,j,S⟩=false:=λj=>bC F j;have e0:=r 5;have e1:=r 6;obtain⟨Y,l⟩:=UX (((m.setCell ⟨w.heap.size+1,5,S⟩ (MS (d.extract 16 18))).setCell ⟨w.heap.size+1,6,S⟩ (MS (d.extract 18 d.size))).drew);have a:Y.heap[w.heap.size]?=N (MY (dS gD) 146 (0,0)):=by rw[l];exact((NE _ _ _ _ q).trans (NE _ _ _ _ q)).trans b5
    have g:Y.heap[w.heap.size+1]?=N (MY (dS ⟨d.extract 0 6,d.extract 6 12,Mk,((dh (d.extract 14 16)%4096:Nat):Int),((dh (d.extract 14 16)/4096:Nat):Int),d.extract 16 18,d.extract 18 d.size⟩) 146 (0,0)):=by rw[l];exact(Mn _ _ 6 _ _ _ (Mn _ _ 5 _ _ _ F)).trans (by simp[dS])
    have s:Mb w.heap.size w Y:=by rw[l];exact((b6.setCell (by simp) _).setCell (by simp) _).drew
    have c0:Y.cell? ⟨w.heap.size,0,S⟩=N (MS ⟨#[]⟩):=aB a rfl;have c1:Y.cell? ⟨w.heap.size,1,S⟩=N (MS ⟨#[]⟩):=aB a rfl;have c2:Y.cell? ⟨w.heap.size,2,S⟩=N (M0 Md):=aB a rfl;have c3:Y.cell? ⟨w.heap.size,3,S⟩=N (Q I 0):=aB a rfl;have c4:Y.cell? ⟨w.heap.size,4,S⟩=N (Q I 0):=aB a rfl;have c5:Y.cell? ⟨w.heap.size,5,S⟩=N (MS ⟨#[]⟩):=aB a rfl;have c6:Y.cell? ⟨w.heap.size,6,S⟩=N (MS ⟨#[]⟩):=aB a rfl;have y0:Y.cell? ⟨w.heap.size+1,0,S⟩=N (MS (d.extract 0 6)):=aB g rfl;have y1:Y.cell? ⟨w.heap.size+1,1,S⟩=N (MS (d.extract 6 12)):=aB g rfl;have y2:Y.cell? ⟨w.heap.size+1,2,S⟩=N (M0 Mk):=aB g rfl;have y3:Y.cell? ⟨w.heap.size+1,3,S⟩=N (Q I ((dh (d.extract 14 16)%4096:Nat):Int)):=aB g rfl;have y4:Y.cell? ⟨w.heap.size+1,4,S⟩=N (Q I ((dh (d.extract 14 16)/4096:Nat):Int)):=aB g rfl;have y5:Y.cell? ⟨w.heap.size+1,5,S⟩=N (MS (d.extract 16 18)):=aB g rfl;have y6:Y.cell? ⟨w.heap.size+1,6,S⟩=N (MS (d.extract 18 d.size)):=aB g rfl;have f0:∀j,Y.frozen? ⟨w.heap.size,j,S⟩=false:=λj=>bC a j;have E:=A (u Y ⟨d.extract 0 6,d.extract 6 12,Mk,((dh (d.extract 14 16)%4096:Nat):Int),((dh (d.extract 14 16)/4096:Nat):Int),d.extract 16 18,d.extract 18 d.size⟩ a s);have P:=A s;have R:=A l;clear u a g s l t p i k r;clear b5 F b6;go_wp2;go_region
    rw[<-R.o];go_wp2;refine NQ (wP E.o rfl rfl) rfl ?_;exact⟨rfl,oy P.o (MP _)⟩
  ·have hd:(cj (d.extract 12 14)==1)=false:=by simpa using o
   obtain rfl:y=N ⟨d.extract 0 6,d.extract 6 12,Md,0,0,d.extract 12 14,d.extract 14 d.size⟩:=by rw[t.o];unfold bd;rw[if_neg z.o,if_neg o]
   clear o z;have x5:c.cell? ⟨w.heap.size+1,5,S⟩=N (MS ⟨#[]⟩):=aB k rfl;have x6:c.cell? ⟨w.heap.size+1,6,S⟩=N (MS ⟨#[]⟩):=aB k rfl;have r:∀j,c.frozen? ⟨w.heap.size+1,j,S⟩=false:=λj=>bC k j;have e0:=r 5;have e1:=r 6;obtain⟨Y,l⟩:=UX (((c.setCell ⟨w.heap.size+1,5,S⟩ (MS (d.extract 12 14))).setCell ⟨w.heap.size+1,6,S⟩ (MS (d.extract 14 d.size))).drew);have a:Y.heap[w.heap.size]?=N (MY (dS gD) 146 (0,0)):=by rw[l];exact((NE _ _ _ _ q).trans (NE _ _ _ _ q)).trans i
   have g:Y.heap[w.heap.size+1]?=N (MY (dS ⟨d.extract 0 6,d.extract 6 12,Md,0,0,d.extract 12 14,d.extract 14 d.size⟩) 146 (0,0)):=by rw[l];exact(Mn _ _ 6 _ _ _ (Mn _ _ 5 _ _ _ k)).trans (by simp[dS])
   have s:Mb w.heap.size w Y:=by rw[l];exact((p.setCell (by simp) _).setCell (by simp) _).drew
   have c0:Y.cell? ⟨w.heap.size,0,S⟩=N (MS ⟨#[]⟩):=aB a rfl;have c1:Y.cell? ⟨w.heap.size,1,S⟩=N (MS ⟨#[]⟩):=aB a rfl;have c2:Y.cell? ⟨w.heap.size,2,S⟩=N (M0 Md):=aB a rfl;have c3:Y.cell? ⟨w.heap.size,3,S⟩=N (Q I 0):=aB a rfl;have c4:Y.cell? ⟨w.heap.size,4,S⟩=N (Q I 0):=aB a rfl;have c5:Y.cell? ⟨w.heap.size,5,S⟩=N (MS ⟨#[]⟩):=aB a rfl;have c6:Y.cell? ⟨w.heap.size,6,S⟩=N (MS ⟨#[]⟩):=aB a rfl;have y0:Y.cell? ⟨w.heap.size+1,0,S⟩=N (MS (d.extract 0 6)):=aB g rfl;have y1:Y.cell? ⟨w.heap.size+1,1,S⟩=N (MS (d.extract 6 12)):=aB g rfl;have y2:Y.cell? ⟨w.heap.size+1,2,S⟩=N (M0 Md):=aB g rfl;have y3:Y.cell? ⟨w.heap.size+1,3,S⟩=N (Q I 0):=aB g rfl;have y4:Y.cell? ⟨w.heap.size+1,4,S⟩=N (Q I 0):=aB g rfl;have y5:Y.cell? ⟨w.heap.size+1,5,S⟩=N (MS (d.extract 12 14)):=aB g rfl;have y6:Y.cell? ⟨w.heap.size+1,6,S⟩=N (MS (d.extract 14 d.size)):=aB g rfl;have f0:∀j,Y.frozen? ⟨w.heap.size,j,S⟩=false:=λj=>bC a j;have E:=A (u Y ⟨d.extract 0 6,d.extract 6 12,Md,0,0,d.extract 12 14,d.extract 14 d.size⟩ a s);have P:=A s;have R:=A l;clear u a g s l t p i k r;go_wp2;go_region
   rw[<-R.o];go_wp2;refine NQ (wP E.o rfl rfl) rfl ?_;exact⟨rfl,oy P.o (MP _)⟩
end Go.Proofs.YtnjalelblbjfiaaGreatDoor
