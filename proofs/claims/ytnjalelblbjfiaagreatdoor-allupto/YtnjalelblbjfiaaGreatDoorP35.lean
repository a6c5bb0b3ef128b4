import Derived.Test.YtnjalelblbjfiaaGreatDoorP28
import Derived.Test.YtnjalelblbjfiaaGreatDoorP21
namespace Go.Proofs.YtnjalelblbjfiaaGreatDoor
set_option maxRecDepth 100000
set_option maxHeartbeats 16000000
open Go.RowKit
open Go.Proofs.Tryz
open Go.Sort (grow)
open Bool renaming false→Md,and_false→Pj
open Decidable renaming decide→M9
open Go renaming World→MV,Calls→Mo,Value→Ma,info_parts→Ob,maxLen→Nj,cell_later→MW,block_lt_of_cell→MO,run_loadAt_mid→NW,heap_setCell_same→Mn
open Go.IntKind renaming i64→I,wrap_i64→Mm
open Go.Proofs.Tryz renaming prog→MT,func76→Ow,func74→PD
open Go.Value renaming int→Q,slice→MR,string→MS,oneCell'→NC,agg→M1,pointer→MQ
open Option renaming some→N,none→S
open Go.Addr renaming add_mid→Nx,off→St
open Go.Builtin renaming append_→Na
open Go.RowKit.Below renaming refl→MU,heap_setCell→Nh
open Nat renaming le_refl→MP,not_lt_zero→OV,zero_le→NG,zero_add→NO
open Go.World renaming cell?_setCell_same→Nf,cell?_setCell_other→NT
variable {l p:Int}{H:List bq}{W w:MV}{e v:Ma}{B k y:Nat}{x:aK}
def mG(n a:Nat):Nat:=n/mK a*mK a
theorem nd(n a:Nat)(w:MV)(j:a<=32)(l:n<4294967296):Mo MT 147 #[Q I n,Q I a] w λe g=>e=.returned (Q I (mG n a))/\g=w:=by
 obtain⟨k,c⟩:=UX (32-a);have m:IntKind.i64.wrap (32- (a:Int))=(k:Int):=by rw[Mm];omega
 have o:(32:Int) - (a:Int)=(k:Int):=O;unfold mG;obtain⟨p,b⟩:=UX (mK a);have r:(2:Int)^k=(p:Int):=by rw[b,c];simp[mK]
 have s:p<=4294967296/\0<p:=by rw[b];exact wa a
 rw[<-b];have d:Int.tdiv (n:Int) (p:Int)=((n/p:Nat):Int):=by rw[Int.tdiv_eq_ediv_of_nonneg O];rfl
 have h:n/p*p<=n:=Nat.div_mul_le_self n p;have i:n/p<=n:=Nat.div_le_self n p;obtain⟨q,f⟩:=UX (n/p);rw[<-f]at d h i⊢;have hm:IntKind.i64.wrap ((q:Int)*(p:Int))=((q*p:Nat):Int):=by
  rw[Mm];have:((q*p:Nat):Int)=(q:Int)*(p:Int):=by push_cast;rfl
  rw[<-this];omega
 have t:IntKind.i64.wrap (q:Int)=(q:Int):=by rw[Mm];omega
 have u:¬(p:Int)=0:=O;clear b c f;go_enter func147,ntmps147;go_wp2;go_ret;exact⟨by first|rfl|(go_num;done)|simp[hm,d],rfl⟩
theorem aT.Jz(h:aT w y x){k:List bq}(o:aH (λb=>b=y\/x.rv.ownBlock=N b) w W)(p:∃l,W.heap[y]?=N (.cells l 90 (0,0)))(a:∀j,j≠2->W.cell? ⟨y,j,S⟩=w.cell? ⟨y,j,S⟩)(r:W.cell? ⟨y,2,S⟩=N e)(u:aX bq.row 1 W 263 4 e k):aT W y {x with rv:=e,Hl:=k}:=by
 obtain⟨l,z⟩:=h.blk;have c:∀{t:TypeId} {s n B:Nat} {v:Ma} {C:List Ma},w.ownsRow B t s v n C->t≠90->t≠263->∀g,v.ownBlock=N g->W.heap[g]?=w.heap[g]?:=λf D E g i=>o.block g (f.lt g i).2 λd=>by
  rcases d with d|d
  ·exact dq f z D (i.trans (congrArg N d))
  ·exact kd f h.rr.1 E i d
 exact⟨p,(a 0 US).trans h.c0,(a 1 US).trans h.c1,r,(a 3 US).trans h.c3,(a 4 US).trans h.c4,(a 5 US).trans h.c5,h.rp.same (c h.rp.1 US US),h.rf.same (c h.rf.1 US US),u,h.rt.same (c h.rt.1 US US),h.rk.same (c h.rk.1 US US),λq m=>aY (h.tg q m) (c (h.tg q m) US US)⟩
theorem aT.LJ(h:aT w y x){k:List (Int×ByteArray)}(o:aH (λb=>b=y\/x.fv.ownBlock=N b) w W)(p:∃l,W.heap[y]?=N (.cells l 90 (0,0)))(a:∀j,j≠1->W.cell? ⟨y,j,S⟩=w.cell? ⟨y,j,S⟩)(r:W.cell? ⟨y,1,S⟩=N e)(u:aX gz 1 W 260 2 e k):aT W y {x with fv:=e,Fl:=k}:=by
 obtain⟨l,z⟩:=h.blk;have c:∀{t:TypeId} {s n B:Nat} {v:Ma} {C:List Ma},w.ownsRow B t s v n C->t≠90->t≠260->∀g,v.ownBlock=N g->W.heap[g]?=w.heap[g]?:=λf D E g i=>o.block g (f.lt g i).2 λd=>by
  rcases d with d|d
  ·exact dq f z D (i.trans (congrArg N d))
  ·exact kd f h.rf.1 E i d
 exact⟨p,(a 0 US).trans h.c0,r,(a 2 US).trans h.c2,(a 3 US).trans h.c3,(a 4 US).trans h.c4,(a 5 US).trans h.c5,h.rp.same (c h.rp.1 US US),u,h.rr.same (c h.rr.1 US US),h.rt.same (c h.rt.1 US US),h.rk.same (c h.rk.1 US US),λq m=>aY (h.tg q m) (c (h.tg q m) US US)⟩
theorem aT.oY(h:aT w y x):∃a d g,x.rv=MR a x.Hl.length d/\∀k (b:k<x.Hl.length),a=N ⟨g,0,S⟩/\w.cell? ⟨g,k*4,S⟩=N (Q I x.Hl[k].bits)/\w.cell? ⟨g,k*4+1,S⟩=N (Q I x.Hl[k].len)/\w.cell? ⟨g,k*4+2,S⟩=N (Q I x.Hl[k].vlan)/\w.cell? ⟨g,k*4+3,S⟩=N (MS x.Hl[k].mac):=by
 obtain⟨a,d,g,e,c⟩:=h.rr.row bq.dW;exact⟨a,d,g,e,λk b=>⟨(c k b).1,(c k b).2 0 _ rfl,(c k b).2 1 _ rfl,(c k b).2 2 _ rfl,(c k b).2 3 _ rfl⟩⟩
def jV(p l:Int):Bool:=M9 (0<=l)&&M9 (l<=32)&&M9 (0<=p)&&M9 (p<=4294967295)&&(mG p.toNat l.toNat==p.toNat)
def Ug(H:List bq)(p l:Int):Option Nat:=H.findIdx? λr=>r.bits==p&&r.len==l
def A7(H:List bq)(r:bq):List bq:=match Ug H r.bits r.len with|some i=>H.set i r|none=>H++[r]
def gE(H:List bq)(p l v:Int)(b:ByteArray):Int:=if jV p l=Md then 8 else if js v=Md then 2 else if fQ b=Md then 3 else if(Ug H p l).isNone&&M9 (100<=H.length)then 6 else 0
theorem zx(b:k<H.length)(c:(H[k].bits==p&&H[k].len==l)=true)(d:∀j (a:j<H.length),j<k->(H[j].bits==p&&H[j].len==l)=Md):Ug H p l=N k:=by
 unfold Ug;rw[List.findIdx?_eq_some_iff_getElem];exact⟨b,c,λj a=>by rw[d j O a];exact Bool.false_ne_true⟩
theorem zy(b:∀j (a:j<H.length),(H[j].bits==p&&H[j].len==l)=Md):Ug H p l=none:=by
 unfold Ug;rw[List.findIdx?_eq_none_iff];intro r c;obtain⟨j,a,rfl⟩:=List.getElem_of_mem c;exact b j a
section
def zJ(v:Ma):Sem Value:=Instr.loadAt 263 v
theorem oO(v:Ma):Instr.loadAt 263 v=zJ v:=rfl
def tP(p v:Ma):Sem Unit:=Instr.storeAt 263 p v
theorem ml(p v:Ma):Instr.storeAt 263 p v=tP p v:=rfl
attribute [local go_sem] Oper.semAt_some aI
attribute [local go_sem ↓ high] oO ml cu
theorem bq.ve(r:bq):∀u∈r.row,u.oneCell'=true:=by simp[bq.row,NC]
theorem tK:(prog.info? 263).map (λi=>(i.zero,i.size,i.bytes))=N (N (M1 #[Q I 0,Q I 0,Q I 0,MS ⟨#[]⟩]),4,40):=UR
theorem lI:prog.underlying 87=N (.slice 263):=UR
theorem qZ:∃d,prog.underlying 263=N d/\d.isRow=true:=gO UR
theorem fK:(prog.info? 263).map (·.size)=N 4:=UR
theorem FF{L:List bq}{e:bq}(h:aX bq.row B w 263 4 v L)(t:B<=w.heap.size)(x:L.length<=1000):∃g f d,(Na #[87,87] 87 #[v,MR (N ⟨w.heap.size,0,S⟩) 1 1]).run MT (w.alloc (.cells #[Q I e.bits,Q I e.len,Q I e.vlan,MS e.mac] 263)).drew=.ok (MR (N ⟨g,0,S⟩) (L.length+1) f) d/\aX bq.row B d 263 4 (MR (N ⟨g,0,S⟩) (L.length+1) f) (L++[e])/\aH (λb=>v.ownBlock=N b) w d/\(v.ownBlock=N g\/w.heap.size<=g):=by
 obtain⟨y,j,k,l,m⟩:=Ob tK;have i:Below w.heap.size w (w.alloc (.cells #[Q I e.bits,Q I e.len,Q I e.vlan,MS e.mac] 263)).drew:=((MU _ w).alloc (MP _) _).drew;obtain⟨g,f,d,n,o,p,r⟩:=(h.aD i).append (P:=MT) (tl:=87) (c:=1) bq.dW bq.ve lI j k l m rfl US [e] (by simp) (a:=⟨w.heap.size,0,S⟩) (λq u s=>by rw[Nx];exact aN w #[Q I e.bits,Q I e.len,Q I e.vlan,MS e.mac] 263 q u s) (by unfold Nj;simp;omega) UU UU;exact⟨g,f,d,n,o,(aH.aG i).trans p,r.imp id λh=>by simp at h;omega⟩
def jZ(y:Nat)(x:aK)(p l v:Int)(b:ByteArray)(w:MV)(W:MV):Prop:=(gE x.Hl p l v b≠0/\Below w.heap.size w W)\/(gE x.Hl p l v b=0/\∃a,aT W y {x with rv:=a,Hl:=A7 x.Hl ⟨p,l,v,b⟩}/\aH (λb=>b=y\/x.rv.ownBlock=N b) w W/\∀b,a.ownBlock=N b->x.rv.ownBlock=N b\/w.heap.size<=b)
theorem Ii{v:Int}{b:ByteArray}(h:jV p l=Md):gE H p l v b=8:=if_pos h
theorem AW(y:Nat)(p l v:Int)(b:ByteArray)(w:MV)(h:jV p l=Md):Mo MT 76 #[MQ (N ⟨y,0,S⟩),Q I p,Q I l,Q I v,MS b] w λe W=>e=.returned (Q I 8)/\W=w:=by
 by_cases k:l<0
 ·clear h;go_enter Ow,ntmps76;go_wp2;go_ret;exact⟨rfl,rfl⟩
 by_cases m:32<l
 ·clear h;go_enter Ow,ntmps76;go_wp2;go_ret;exact⟨rfl,rfl⟩
 by_cases n:p<0
 ·clear h;go_enter Ow,ntmps76;go_wp2;go_ret;exact⟨rfl,rfl⟩
 by_cases o:4294967295<p
 ·clear h;go_enter Ow,ntmps76;go_wp2;go_ret;exact⟨rfl,rfl⟩
 obtain⟨a,rfl⟩:∃a:Nat,p=a:=⟨p.toNat,O⟩;obtain⟨c,rfl⟩:∃c:Nat,l=c:=⟨l.toNat,O⟩;have f:¬mG a c=a:=λe=>by
  have:jV a c=true:=by unfold jV;simp[e];omega
  rw[this]at h;cases h
 have d:=A (nd a c w O O);obtain⟨u,g⟩:=UX (mG a c);rw[<-g]at d f;have j:¬(u:Int)=a:=O;have q:((u:Int)!=a)=true:=by simp only[bne_iff_ne];exact j
 clear h g f;go_enter Ow,ntmps76;go_wp2_with fail
 refine d.o.mono ?_;rintro e W ⟨rfl,i⟩;rw[i];clear i W d;go_wp2;go_ret;exact⟨rfl,rfl⟩
end
section
attribute [local go_sem] Oper.semAt_some aI
attribute [local go_sem ↓ high] oO ml cu
theorem AX(y:Nat)(x:aK)(p l v:Int)(b:ByteArray)(w:MV)(h:aT w y x)(hH:x.Hl.length<=100):Mo MT 76 #[MQ (N ⟨y,0,S⟩),Q I p,Q I l,Q I v,MS b] w λe W=>e=.returned (Q I (gE x.Hl p l v b))/\jZ y x p l v b w W:=by
 by_cases b1:jV p l=Md
 ·have L:=Ii (H:=x.Hl) (v:=v) (b:=b) b1;refine(AW y p l v b w b1).mono ?_;rintro e W ⟨he,hW⟩;exact⟨by rw[L];exact he,.inl ⟨by rw[L];decide,by rw[hW];exact MU _ _⟩⟩
 have c9:jV p l=true:=by simpa using b1
 have e7:(0<=l/\l<=32)/\(0<=p/\p<=4294967295)/\mG p.toNat l.toNat=p.toNat:=by
  have:=c9;unfold jV at this;simp only[Bool.and_eq_true,decide_eq_true_eq,beq_iff_eq]at this;omega
 obtain⟨c,rfl⟩:∃c:Nat,p=c:=⟨p.toNat,O⟩;obtain⟨d,rfl⟩:∃d:Nat,l=d:=⟨l.toNat,O⟩;have hu:mG c d=c:=e7.2.2;have a1:¬(d:Int)<0:=O;have a2:¬(32:Int)<d:=O;have a3:¬(c:Int)<0:=O;have a4:¬(4294967295:Int)<c:=O;have CU:=nd c d w O O;rw[hu]at CU;have t:=A CU;have q:=A (jx v w);have f0:gE x.Hl c d v b=if js v=Md then 2 else if fQ b=Md then 3 else if(Ug x.Hl c d).isNone&&M9 (100<=x.Hl.length)then 6 else 0:=by
  unfold gE;rw[if_neg (by rw[c9];decide)]
 have u:=A f0;clear f0 b1 c9 e7 hu CU;cases r:js v with
 |false=>
  rw[r]at q;have m:gE x.Hl c d v b=2:=by rw[u.o,r];rfl
  have V:aA (jZ y x c d v b w w):=A (.inl ⟨by rw[m];decide,MU _ _⟩);rw[m];clear h u m r;go_enter Ow,ntmps76;go_wp2_with fail
  refine t.o.mono ?_;rintro e W ⟨rfl,f⟩;rw[f];clear f W t;go_wp2_with fail
  refine q.o.mono ?_;rintro e W ⟨rfl,f⟩;rw[f];clear f W q;go_wp2;go_ret;exact⟨rfl,V.o⟩
 |true=>
  rw[r]at q;have B:=A (ni b w);by_cases C:b.size=6
  ·rw[show M9 (b.size=6)=true by simp[C]]at B;have M:=A (gW b w O);cases R:dH b with
   |true=>
    rw[R]at M;have m:gE x.Hl c d v b=3:=by rw[u.o,r];simp[fQ,C,R]
    have V:aA (jZ y x c d v b w w):=A (.inl ⟨by rw[m];decide,MU _ _⟩);rw[m];clear h u m r R C;go_enter Ow,ntmps76;go_wp2_with fail
    refine t.o.mono ?_;rintro e W ⟨rfl,f⟩;rw[f];clear f W t;go_wp2_with fail
    refine q.o.mono ?_;rintro e W ⟨rfl,f⟩;rw[f];clear f W q;go_wp2_with fail
    refine B.o.mono ?_;rintro e W ⟨rfl,f⟩;rw[f];clear f W B;go_wp2_with fail
    refine M.o.mono ?_;rintro e W ⟨rfl,f⟩;rw[f];clear f W M;go_wp2;go_ret;exact⟨rfl,V.o⟩
   |false=>
    rw[R]at M;have m:gE x.Hl c d v b=if(Ug x.Hl c d).isNone&&M9 (100<=x.Hl.length)then 6 else 0:=by rw[u.o,r];simp[fQ,C,R]
    obtain⟨dk,f2,f3⟩:=qZ;obtain⟨H,d1⟩:=UX x.Hl;obtain⟨a,h9,g,b2,L⟩:=h.oY;have i0:=h.lt;have c2:=h.c2;have b3:=h.rr;rw[<-d1]at L b2 b3 hH m;rw[b2]at c2 b3;obtain⟨D,b4⟩:=UX (w.alloc (.cells #[Q I c,Q I d,Q I v,MS b] 263));obtain⟨E,b5⟩:=UX w.heap.size;have b6:=UY b4;have i1:(tP (MQ (N ⟨w.heap.size,0,S⟩)) (M1 #[Q I c,Q I d,Q I v,MS b])).run MT (w.alloc (.cells #[Q I 0,Q I 0,Q I 0,MS ⟨#[]⟩] 263))=.ok () D:=by
     rw[b4];exact run_storeAt_new (P:=MT) w 263 #[Q I 0,Q I 0,Q I 0,MS ⟨#[]⟩] #[Q I c,Q I d,Q I v,MS b] fK rfl oc
    have d3:D.rangeAt E 0 [Q I c,Q I d,Q I v,MS b]:=by rw[b4,b5];exact aN _ _ _
    have yc:=MW b6 c2;have ly:y<D.heap.size:=MO yc;have lx:E<D.heap.size:=MO (bz d3);have k0:(H.length:Int)<=100:=O;have Y:=A h;have Z:=A (h.aD b6);have n:=A b6;have HR:=A L;have f5:=A b3;have c1:=A b2;have f6:=A d3;have a0:=A d1;have k1:=A b5;have HH:=A hH;have d4:=A m;clear h L b3 b2 d3 d1 b6 b4 m u r R C hH;go_enter Ow,ntmps76;go_wp2_with fail
    refine t.o.mono ?_;rintro e W ⟨rfl,f⟩;rw[f];clear f W t;go_wp2_with fail
    refine q.o.mono ?_;rintro e W ⟨rfl,f⟩;rw[f];clear f W q;go_wp2_with fail
    refine B.o.mono ?_;rintro e W ⟨rfl,f⟩;rw[f];clear f W B;go_wp2_with fail
    refine M.o.mono ?_;rintro e W ⟨rfl,f⟩;rw[f];clear f W M;go_wp2_with fail
    rw[<-b5];clear i1 b5 c2 i0 a1 a2 a3 a4;go_loopw [14] (λi wr=>wr=D/\∃k:Nat,k<=H.length/\i=Q I k/\∀j (G:j<H.length),j<k->(H[j].bits==(c:Int)&&H[j].len==(d:Int))=Md) (λi _=>H.length- (intOf i).toNat)
    case atStart=>exact⟨rfl,0,O,rfl,λj _ h=>absurd h (OV j)⟩
    case round=>
     obtain⟨rfl,k,hk,rfl,f7⟩:=hrel;have d5:=A f7;clear f7;by_cases c3:k<H.length
     ·have i3:(k:Int)<H.length:=by omega
      obtain⟨rfl,q0,q1,-,-⟩:=HR.o k c3;have q0:=MW n.o q0;have q1:=MW n.o q1;have k4:=MO q0;obtain⟨z,hz⟩:=UX (H[k]);rw[<-hz]at q0 q1;have HZ:=A hz;clear hz;have g0:((z.bits==(c:Int)&&z.len==(d:Int))=Md)->∀j (G:j<H.length),j<k+1->(H[j].bits==(c:Int)&&H[j].len==(d:Int))=false:=λhf j G k5=>by
       by_cases e:j=k
       ·subst e;rw[<-HZ.o];exact hf
       ·exact d5.o j G O
      have g1:=A g0;clear g0;cases h1:(z.bits==(c:Int))with
      |false=>
       have H1:=A h1;go_wp2_with fail
       go_roundw
       case rel=>exact⟨by trivial,k+1,O,by go_num,g1.o (by rw[H1.o];rfl)⟩
       case measure=>simp[intOf];omega
      |true=>
       cases h2:(z.len==(d:Int))with
       |false=>
        have H2:=A h2;go_wp2_with fail
        go_roundw
        case rel=>exact⟨by trivial,k+1,O,by go_num,g1.o (by rw[H2.o,Pj])⟩
        case measure=>simp[intOf];omega
       |true=>
        have F:=f5.o.aD n.o;have g4:=F.there rfl c3;have k6:(zJ (MQ (N ⟨E,0,S⟩))).run MT wr.drew=.ok (M1 #[Q I c,Q I d,Q I v,MS b]) wr.drew:=NW wr.drew E 0 263 [Q I c,Q I d,Q I v,MS b] dk f6.o f2 f3 fK;obtain⟨Wb,e1⟩:=UX (wr.drew.setCells g (k*4) [Q I c,Q I d,Q I v,MS b]);have k7:(tP (MQ (N ⟨g,k*4,S⟩)) (M1 #[Q I c,Q I d,Q I v,MS b])).run MT wr.drew=.ok () Wb:=by
         rw[e1];exact run_storeAt_mid (P:=MT) wr.drew g (k*4) 263 #[Q I c,Q I d,Q I v,MS b] g4 fK oc
        have s:Ug H c d=N k:=zx c3 (by rw[<-HZ.o,h1,h2];rfl) d5.o;have o:gE x.Hl c d v b=0:=by rw[<-a0.o,d4.o,s];rfl
        have a5:aA (jZ y x c d v b w Wb):=A (.inr ⟨o,by
         have T:g≠y:=Z.o.block F.1 US rfl;have i8:=F.nO bq.dW rfl c3 ⟨c,d,v,b⟩;rw[e1,gK];have g5:aH (λb=>b=y\/x.rv.ownBlock=N b) w (wr.setCells g (k*4) [Q I c,Q I d,Q I v,MS b]).drew:=(iA _ _ (.inr (by rw[c1.o];rfl)) (aH.aG n.o)).drew;obtain⟨cs,c6⟩:=Z.o.blk;have e2:A7 x.Hl ⟨c,d,v,b⟩=H.set k ⟨c,d,v,b⟩:=by unfold A7;rw[<-a0.o,s]
         rw[e2];refine⟨x.rv,Y.o.Jz g5 ⟨cs,?_⟩ (λj _=>?_) ?_ ?_,g5,λb J=>.inl J⟩
         ·show(wr.setCells g (k*4) _).heap[y]?=_;exact((iA (X:=λb=>b=g) [Q I c,Q I d,Q I v,MS b] (k*4) rfl (aH.refl _ wr)).block y ly (Ne.symm T)).trans c6
         ·show(wr.setCells g (k*4) _).cell? _=_;rw[(aV _ _ _ _ (Ne.symm T)).1];exact n.o.cell (p:=⟨y,j,S⟩) Y.o.lt
         ·show(wr.setCells g (k*4) _).cell? _=_;rw[(aV _ _ _ _ (Ne.symm T)).1];exact MW n.o Y.o.c2
         ·rw[c1.o];exact i8⟩)
        have a7:=A o;clear F g4 e1 s o;go_wp2_with fail
        go_region
        go_wp2;go_ret;exact⟨by rw[a7.o];rfl,a5.o⟩
     ·have i3:¬(k:Int)<H.length:=by omega
      have s:Ug H c d=none:=zy λj G=>d5.o j G O;by_cases g6:H.length<100
      ·have i9:¬(100:Int)<=H.length:=by omega
       have o:gE x.Hl c d v b=0:=by rw[<-a0.o,d4.o,s,if_neg UU]
       have j0:(zJ (MQ (N ⟨E,0,S⟩))).run MT wr.drew=.ok (M1 #[Q I c,Q I d,Q I v,MS b]) wr.drew:=NW wr.drew E 0 263 [Q I c,Q I d,Q I v,MS b] dk f6.o f2 f3 fK;have F:=f5.o.aD n.o;obtain⟨g9,e3,w9,g7,e4,U,g8⟩:=FF (e:=⟨c,d,v,b⟩) F O O;have j1:=dN g7;have a9:(MR a H.length h9).ownBlock≠N y:=λe=>Z.o.block F.1 US e rfl;have y9:=U.block.cell a9 yc;have f9:w9.frozen? ⟨y,2,S⟩=false:=by
        rw[(jr.aS (U.block y ly a9) 2).2];exact Z.o.frz 2
       have j3:=MO y9;obtain⟨W2,K⟩:=UX (w9.setCell ⟨y,2,S⟩ (MR (N ⟨g9,0,S⟩) (H.length+1) e3));obtain⟨cs,c6⟩:=Z.o.blk;have b9:w9.heap[y]?=N (.cells cs 90 (0,0)):=(U.block y ly a9).trans c6;have T:g9≠y:=λe=>dq e4.1 b9 US (by rw[<-e];rfl);have a5:aA (jZ y x c d v b w W2):=A (.inr ⟨o,by
        have j4:aH (λb=>b=y\/x.rv.ownBlock=N b) wr W2:=by
         rw[K];exact aH.setCell (p:=⟨y,2,S⟩) (U.mono λb _ J=>.inr (by rw[c1.o];exact J)) (.inl (.inl rfl)) _
        have k9:w.heap.size<=wr.heap.size:=n.o.size;have h0:aH (λb=>b=y\/x.rv.ownBlock=N b) w W2:=(aH.aG n.o).trans j4;have e2:A7 x.Hl ⟨c,d,v,b⟩=H++[⟨c,d,v,b⟩]:=by unfold A7;rw[<-a0.o,s]
        rw[e2];refine⟨MR (N ⟨g9,0,S⟩) (H.length+1) e3,Y.o.Jz h0 ?_ (λj G=>?_) (by rw[K];exact Nf _ _ _ y9) ?_,h0,λb J=>?_⟩
        ·exact⟨cs.setIfInBounds 2 (MR (N ⟨g9,0,S⟩) (H.length+1) e3),by rw[K];exact Mn w9 y 2 cs 90 _ b9⟩
        ·rw[K,NT _ _ _ _ (λe=>G (congrArg St e).symm),(jr.aS (U.block y ly a9) j).1];exact n.o.cell (p:=⟨y,j,S⟩) Y.o.lt
        ·rw[K];exact e4.same λb J=>by cases J;exact Nh _ _ _ _ T
        ·have j5:g9=b:=Option.some.inj J;subst j5;rcases g8 with e|e
         ·exact .inl (by rw[c1.o];exact e)
         ·exact .inr O⟩)
       have a7:=A o;clear g7 e4 U g8 F a9 b9 c6 g6 T s o;go_wp2_with fail
       go_region
       rw[<-K];clear K j0 j1 y9 f9 j3;go_wp2;go_ret;exact⟨by rw[a7.o];rfl,a5.o⟩
      ·have i9:(100:Int)<=H.length:=by omega
       have o:gE x.Hl c d v b=6:=by rw[<-a0.o,d4.o,s,if_pos UU]
       have a7:=A o;have a5:aA (jZ y x c d v b w wr):=A (.inl ⟨by rw[o];decide,n.o⟩);clear s o g6;go_wp2;go_ret;exact⟨by rw[a7.o];rfl,a5.o⟩
  ·rw[show M9 (b.size=6)=Md by simp[C]]at B;have m:gE x.Hl c d v b=3:=by rw[u.o,r];simp[fQ,C]
   have V:aA (jZ y x c d v b w w):=A (.inl ⟨by rw[m];decide,MU _ _⟩);rw[m];clear h u m r C;go_enter Ow,ntmps76;go_wp2_with fail
   refine t.o.mono ?_;rintro e W ⟨rfl,f⟩;rw[f];clear f W t;go_wp2_with fail
   refine q.o.mono ?_;rintro e W ⟨rfl,f⟩;rw[f];clear f W q;go_wp2_with fail
   refine B.o.mono ?_;rintro e W ⟨rfl,f⟩;rw[f];clear f W B;go_wp2;go_ret;exact⟨rfl,V.o⟩
end
section
attribute [local go_sem] Oper.semAt_some aI
attribute [local go_sem ↓ high] cu
section
variable {α:Type}{f:α->List Value}{B s:Nat}{w:World}{t:TypeId}{v:Value}{l:List α}
theorem aX.pf{P:Program}{tl:TypeId}{i:TypeInfo}{z:Ma}{p:Nat}(q:∀a,(f a).length=s)(D:∀a,∀u∈f a,u.oneCell'=true)(r:P.underlying tl=N (.slice t))(x:P.info? t=N i)(E:i.zero=N z)(F:i.size=s)(G:i.bytes=p)(H:z.cells.size=s)(J:0<s)(h:aX f B w t s v l)(m:List α){a:Addr}{c:Nat}(K:∀j u,(ed f m)[j]?=N u->w.cell? (a.add j)=N u)(L:l.length+m.length<=Nj)(M:(l.length+m.length)*p<=140737488355328)(R:B<=w.heap.size):∃d k n,(Na #[tl,tl] tl #[v,MR (N a) m.length c]).run P w=.ok (MR d (l.length+m.length) k) n/\aX f B n t s (MR d (l.length+m.length) k) (l++m)/\aH (λb=>v.ownBlock=N b) w n/\∀b,(MR d (l.length+m.length) k).ownBlock=N b->v.ownBlock=N b\/w.heap.size<=b:=by
 by_cases y:m=[]
 ·subst y;obtain⟨d,k,g,e,-⟩:=h.row q;subst e;refine⟨d,k,w,?_,by rw[List.append_nil];exact h,aH.refl _ _,λb o=>.inl o⟩;have T:l.length<=k:=by
   rcases h.1.2 with⟨e,Z⟩|⟨g',C,a1,e,-,-,U,-⟩
   ·omega
   ·cases e;exact U
  cases d<;>simp[Na,run_underlying r,sizeOf,typeInfo,x,Builtin.lenOf,Builtin.firstCells,loadCells,loadCellsFrom,storeCells,T]
 ·obtain⟨g,C,n,V,W,X,Y⟩:=h.append (P:=P) (c:=c) q D r x E F G H J m y K L M R;exact⟨_,C,n,V,W,X,λb o=>by
   obtain rfl:g=b:=by simpa[Value.ownBlock]using o
   exact Y⟩
end
def jN(H:List bq)(p l:Int):Int:=if(Ug H p l).isSome then 0 else 7
def Hz(H:List bq)(p l:Int):List bq:=match Ug H p l with|some k=>H.take k++H.drop (k+1)|none=>H
def ky(y:Nat)(x:aK)(p l:Int)(w:MV)(W:MV):Prop:=(jN x.Hl p l≠0/\W=w)\/(jN x.Hl p l=0/\∃a,aT W y {x with rv:=a,Hl:=Hz x.Hl p l}/\aH (λb=>b=y) w W/\∀b,a.ownBlock=N b->w.heap.size<=b)
theorem wB(y:Nat)(x:aK)(p l:Int)(w:MV)(h:aT w y x)(hH:x.Hl.length<=100):Mo MT 78 #[MQ (N ⟨y,0,S⟩),Q I p,Q I l] w λe W=>e=.returned (Q I (jN x.Hl p l))/\ky y x p l w W:=by
 obtain⟨i0,hi,a5,J,a8⟩:=Ob tK;obtain⟨H,a9⟩:=UX x.Hl;obtain⟨a,n,g,Y,hr⟩:=h.oY;have Z:=h.lt;have c2:=h.c2;have K:=h.rr;have fy:=h.frz 2;obtain⟨cs,c5⟩:=h.blk;rw[<-a9]at hr Y K hH⊢;rw[Y]at c2 K;have h3:H.length<=n:=by
  rcases K.1.2 with⟨e,e0⟩|⟨g',h5,h6,e,-,-,hc,-⟩
  ·rw[e0];exact NG _
  ·cases e;exact hc
 have e7:1<=w.heap.size:=Nat.lt_of_le_of_lt (NG _) Z;have h7:(H.length:Int)<=100:=O;have h8:(H.length:Int)<=n:=O;have HX:=A h;have HR:=A hr;have f1:=A K;have h9:=A Y;have b2:=A a9;have f2:=A c5;clear h hr K Y a9 c5;go_enter func78,ntmps78;go_wp2_with fail
 go_loopw [7] (λi wr=>wr=w/\∃k:Nat,k<=H.length/\i=Q I k/\∀j (r:j<H.length),j<k->(H[j].bits==p&&H[j].len==l)=Md) (λi _=>H.length- (intOf i).toNat)
 case atStart=>exact⟨rfl,0,O,rfl,λj _ h=>absurd h (OV j)⟩
 case round=>
  obtain⟨rfl,k,hk,rfl,c8⟩:=hrel;have b3:=A c8;clear c8;by_cases c9:k<H.length
  ·have f3:(k:Int)<H.length:=by omega
   obtain⟨rfl,q0,q1,-,-⟩:=HR.o k c9;have i2:=MO q0;obtain⟨z,hz⟩:=UX (H[k]);rw[<-hz]at q0 q1;have HZ:=A hz;clear hz;have d2:((z.bits==p&&z.len==l)=Md)->∀j (r:j<H.length),j<k+1->(H[j].bits==p&&H[j].len==l)=false:=λhf j r i3=>by
    by_cases e:j=k
    ·subst e;rw[<-HZ.o];exact hf
    ·exact b3.o j r O
   have d3:=A d2;clear d2;cases h1:(z.bits==p)with
   |false=>
    have H1:=A h1;go_wp2_with fail
    go_roundw
    case rel=>exact⟨by trivial,k+1,O,by go_num,d3.o (by rw[H1.o];rfl)⟩
    case measure=>simp[intOf];omega
   |true=>
    cases h2:(z.len==l)with
    |false=>
     have H2:=A h2;go_wp2_with fail
     go_roundw
     case rel=>exact⟨by trivial,k+1,O,by go_num,d3.o (by rw[H2.o,Pj])⟩
     case measure=>simp[intOf];omega
    |true=>
     have D:Ug H p l=N k:=zx c9 (by rw[<-HZ.o,h1,h2];rfl) b3.o;have C:jN H p l=0:=by unfold jN;rw[D];rfl
     have b5:∀j u,(ed bq.row H)[j]?=N u->wr.cell? ⟨g,j,S⟩=N u:=λj u d=>by
      have:=f1.o.1.cells (g:=g) rfl j u d;rwa[Nx,NO]at this
     have b6:(H.take k).length=k:=by rw[List.length_take];omega
     obtain⟨a6,c6,w6,b9,L,d6,e1⟩:=(aX.nil bq.row wr.heap.size wr 263 4).pf (P:=MT) (tl:=87) (c:=n) bq.dW bq.ve lI hi a5 J a8 rfl US (H.take k) (a:=⟨g,0,S⟩) (λj u d=>by
      rw[Nx,NO];refine b5 j u ?_;rw[<-D9 bq.dW H k O,List.getElem?_take]at d;split at d
      ·exact d
      ·cases d) (by unfold Nj;simp;omega) UU (MP _)
     rw[List.length_nil,NO,b6]at b9 L e1;rw[List.nil_append]at L;have i4:=dN b9;have M:Below wr.heap.size wr w6:=d6.aD (MP _) λx hx=>by cases hx
     have s6:=M.size;have y6:=MW M c2;have i5:=MO y6;have e2:(H.drop (k+1)).length=H.length- (k+1):=List.length_drop ..;have c1:∀j u,(ed bq.row (H.drop (k+1)))[j]?=N u->w6.cell? ((⟨g,(k+1)*4,S⟩:Addr).add j)=N u:=λj u d=>by
      rw[Nx];rw[<-EA bq.dW H (k+1) O,List.getElem?_drop]at d;exact MW M (b5 _ _ d)
     have a1:aA (∀a2,(∀j u,(ed bq.row (H.drop (k+1)))[j]?=N u->w6.cell? ((a2:Addr).add j)=N u)->∀c,∃o q m,(JY #[87,87] 87 #[MR a6 k c6,MR (N a2) (H.length- (k+1)) c]).run MT w6=.ok (MR o (k+(H.length- (k+1))) q) m/\m.cell? ⟨y,2,S⟩=N (MR (N ⟨g,0,S⟩) H.length n)/\m.frozen? ⟨y,2,S⟩=Md/\ky y x p l wr (m.setCell ⟨y,2,S⟩ (MR o (k+(H.length- (k+1))) q))):=A λa2 hA c=>by
      obtain⟨o,q,m,R,T,g4,g5⟩:=L.pf (P:=MT) (tl:=87) (c:=c) bq.dW bq.ve lI hi a5 J a8 rfl US (H.drop (k+1)) (a:=a2) hA UT O O;rw[b6,e2]at R T g5;have E:Below wr.heap.size wr m:=M.trans (g4.aD s6 λx hx=>L.iG hx);have F:=MW E c2;have f7:m.frozen? ⟨y,2,S⟩=false:=(E.frozen (p:=⟨y,2,S⟩) Z).trans fy;have g6:∀b,(MR o (k+(H.length- (k+1))) q).ownBlock=N b->b≠y:=λb U e=>by have:=T.iG U;omega
      refine⟨o,q,m,dN R,F,f7,.inr ⟨by rw[<-b2.o];exact C,_,HX.o.Jz ?_ ⟨cs.setIfInBounds 2 (MR o (k+(H.length- (k+1))) q),Mn m y 2 cs 90 _ ((E.block y Z).trans f2.o)⟩ (λj r=>?_) (Nf _ _ _ F) ?_,aH.setCell (X:=λb=>b=y) (p:=⟨y,2,S⟩) (aH.aG E) (.inl rfl) _,λb U=>T.iG U⟩⟩
      ·exact aH.setCell (p:=⟨y,2,S⟩) (aH.aG E) (.inl (.inl rfl)) _
      ·rw[NT _ _ _ _ (λe=>r (congrArg St e).symm)];exact E.cell (p:=⟨y,j,S⟩) Z
      ·have hd:Hz x.Hl p l=H.take k++H.drop (k+1):=by unfold Hz;rw[<-b2.o,D]
       rw[hd];exact⟨gM (T.same λb U=>Nh _ _ _ _ (g6 b U)).1 e7,T.2⟩
     have a3:=A C;have i6:(k:Int)<=n:=O;have i8:(k:Int)+1<=H.length:=O;have i9:IntKind.i64.wrap ((k:Int)+1)=((k+1:Nat):Int):=by rw[Mm];omega
     clear b9 L d6 e1 M b5 D C b6 e2 hi a5 J a8;by_cases g8:n=k+1
     ·obtain⟨o,q,m,R,F,f7,G⟩:=a1.o ⟨g,0,S⟩ (λj u d=>by rw[List.drop_eq_nil_of_le O]at d;cases d) 0;have g9:=MO F;have J:H.length- (k+1)=0:=O;rw[J,Nat.add_zero]at R G;have V:=A G;have j0:H.length=k+1:=O;clear G a1 c1;subst g8;go_wp2;go_ret;exact⟨by rw[a3.o];rfl,V.o⟩
     ·obtain⟨o,q,m,R,F,f7,G⟩:=a1.o ⟨g,(k+1)*4,S⟩ c1 (n- (k+1));have g9:=MO F;have V:=A G;have j1:k+1<n:=O;have j2:¬(n- (k+1)=0):=O;clear G a1 c1;go_wp2;go_ret;exact⟨by rw[a3.o];rfl,V.o⟩
  ·have f3:¬(k:Int)<H.length:=by omega
   have D:Ug H p l=none:=zy λj r=>b3.o j r O;have C:jN H p l=7:=by unfold jN;rw[D];rfl
   have a3:=A C;have V:aA (ky y x p l wr wr):=A (.inl ⟨by rw[<-b2.o,C];decide,rfl⟩);clear D C;go_wp2;go_ret;exact⟨by rw[a3.o];rfl,V.o⟩
theorem Ex(f:Int×ByteArray):∀u∈gz f,u.oneCell'=true:=by simp[gz,NC]
theorem Er:(prog.info? 260).map (λi=>(i.zero,i.size,i.bytes))=N (N (M1 #[Q I 0,MS ⟨#[]⟩]),2,24):=UR
theorem xd:prog.underlying 86=N (.slice 260):=UR
theorem kx{L:List (Int×ByteArray)}{e:Int×ByteArray}(h:aX gz B w 260 2 v L)(s:B<=w.heap.size)(t:L.length<=1000):∃g f d,(Na #[86,86] 86 #[v,MR (N ⟨w.heap.size,0,S⟩) 1 1]).run MT (w.alloc (.cells #[Q I e.1,MS e.2] 260))=.ok (MR (N ⟨g,0,S⟩) (L.length+1) f) d/\aX gz B d 260 2 (MR (N ⟨g,0,S⟩) (L.length+1) f) (L++[e])/\aH (λb=>v.ownBlock=N b) w d:=by
 obtain⟨x,j,k,l,m⟩:=Ob Er;have i:Below w.heap.size w (w.alloc (.cells #[Q I e.1,MS e.2] 260)):=(MU _ w).alloc (MP _) _;obtain⟨g,f,d,n,o,p,y⟩:=(h.aD i).append (P:=MT) (tl:=86) (c:=1) iO Ex xd j k l m rfl US [e] (by simp) (a:=⟨w.heap.size,0,S⟩) (λq u r=>by rw[Nx];exact aN w #[Q I e.1,MS e.2] 260 q u r) (by unfold Nj;simp;omega) UU UU;exact⟨g,f,d,n,o,(aH.aG i).trans p⟩
def ku(a:List (Int×ByteArray))(v:Int)(b:ByteArray):Int:=if js v=Md then 2 else if b.size≠0/\fQ b=Md then 3 else if b.size=0/\(cH a v).size=0 then 7 else if b.size≠0/\(cH a v).size=0/\16<=a.length then 6 else 0
def nX(a:List (Int×ByteArray))(v:Int)(b:ByteArray):List (Int×ByteArray):=a.filter (λf=>f.1 !=v)++(if b.size=0 then []else [(v,b)])
def qK(y:Nat)(x:aK)(v:Int)(b:ByteArray)(w:MV)(W:MV):Prop:=(ku x.Fl v b≠0/\W=w)\/(ku x.Fl v b=0/\∃a,aT W y {x with fv:=a,Fl:=nX x.Fl v b}/\aH (λb=>b=y) w W/\∀b,a.ownBlock=N b->w.heap.size<=b)
theorem gt{a:Type}(q:a->Bool){l:List a}(b:k<l.length):(l.take (k+1)).filter q=(l.take k).filter q++if q l[k]then [l[k]]else []:=by
 rw[List.take_add_one,List.getElem?_eq_getElem b,List.filter_append];simp[List.filter];split<;>simp_all
theorem gj(b:ByteArray):b.toList.isEmpty=M9 (b.size=0):=by
 rw[ByteArray.toList_eq];cases h:b.data.toList with
 |nil=>
  have:b.size=0:=by show b.data.size=0;rw[<-Array.length_toList,h];rfl
  simp[this]
 |cons a t=>
  have:b.size≠0:=by show b.data.size≠0;rw[<-Array.length_toList,h];simp
  simp[this]
theorem kw(b:ByteArray):b=⟨#[]⟩↔b.size=0:=by
 constructor
 ·rintro rfl;rfl
 ·intro h;refine jo ?_;have a:=gj b;rw[h]at a;have c:b.toList=[]:=by simpa using a
  rw[c,ByteArray.toList_eq]
theorem Dd(y:Nat)(x:aK)(v:Int)(b:ByteArray)(w:MV)(h:aT w y x)(L:x.Fl.length<=100)(d:ku x.Fl v b≠0):Mo MT 74 #[MQ (N ⟨y,0,S⟩),Q I v,MS b] w λe W=>e=.returned (Q I (ku x.Fl v b))/\W=w:=by
 have f:=A (jx v w);have j:=A (ni b w);have u:=A (eU y x v w h O);obtain⟨a,M,g,F,-⟩:=h.oc;have G:=h.c1;have P:=h.lt;rw[F]at G;obtain⟨n,k⟩:=UX x.Fl.length;rw[<-k]at G;obtain⟨o,l⟩:=UX (cH x.Fl v);rw[<-l]at u;have H:ku x.Fl v b=if js v=Md then 2 else if b.size≠0/\fQ b=Md then 3 else if b.size=0/\o.size=0 then 7 else if b.size≠0/\o.size=0/\16<=n then 6 else 0:=by unfold ku;rw[l,k]
 have r:=gj b;have z:=gj o;have m:=kw b;have p:=kw o;rw[H]at d⊢;clear H h F L;cases B:js v with
 |false=>
  rw[B]at f;rw[if_pos rfl];clear d r z m p k l B;go_enter PD,ntmps74;go_wp2_with fail
  refine f.o.mono ?_;rintro e W ⟨rfl,c⟩;rw[c];clear c W f;go_wp2;go_ret;exact⟨rfl,rfl⟩
 |true=>
  rw[B]at f d;rw[if_neg US]at d⊢;clear B;by_cases i:b.size=0
  ·have J:b=⟨#[]⟩:=m.2 i;rw[if_neg O]at d⊢;rw[show M9 (b.size=6)=Md by simp[i]]at j;by_cases C:o.size=0
   ·rw[if_pos ⟨i,C⟩];have D:o=⟨#[]⟩:=p.2 C;subst D;subst J;clear d r z m p k l i C;go_enter PD,ntmps74;go_wp2_with fail
    refine f.o.mono ?_;rintro e W ⟨rfl,c⟩;rw[c];clear c W f;go_wp2_with fail
    refine j.o.mono ?_;rintro e W ⟨rfl,c⟩;rw[c];clear c W j;go_wp2_with fail
    refine u.o.mono ?_;rintro e W ⟨rfl,c⟩;rw[c];clear c W u;go_wp2;go_ret;exact⟨rfl,rfl⟩
   ·rw[if_neg O,if_neg O]at d;exact absurd rfl d
  ·have J:¬b=⟨#[]⟩:=λe=>i (m.1 e);have R:b.toList.isEmpty=false:=by rw[r];simp[i]
   by_cases q:b.size=6
   ·rw[show M9 (b.size=6)=true by simp[q]]at j;have s:=A (gW b w O);cases t:dH b with
    |true=>
     rw[t]at s;rw[if_pos ⟨i,by simp[fQ,t]⟩];clear d r z m p k l i q t;go_enter PD,ntmps74;go_wp2_with fail
     refine f.o.mono ?_;rintro e W ⟨rfl,c⟩;rw[c];clear c W f;go_wp2_with fail
     refine j.o.mono ?_;rintro e W ⟨rfl,c⟩;rw[c];clear c W j;go_wp2_with fail
     refine s.o.mono ?_;rintro e W ⟨rfl,c⟩;rw[c];clear c W s;go_wp2;go_ret;exact⟨rfl,rfl⟩
    |false=>
     rw[t]at s;have K:¬(b.size≠0/\fQ b=Md):=λe=>by have:=e.2;simp[fQ,q,t]at this
     rw[if_neg K,if_neg O]at d⊢;by_cases E:o.size=0/\16<=n
     ·rw[if_pos ⟨i,E⟩];have D:o=⟨#[]⟩:=p.2 E.1;have T:(16:Int)<=n:=O;subst D;clear d r z m p k l i q t K E;go_enter PD,ntmps74;go_wp2_with fail
      refine f.o.mono ?_;rintro e W ⟨rfl,c⟩;rw[c];clear c W f;go_wp2_with fail
      refine j.o.mono ?_;rintro e W ⟨rfl,c⟩;rw[c];clear c W j;go_wp2_with fail
      refine s.o.mono ?_;rintro e W ⟨rfl,c⟩;rw[c];clear c W s;go_wp2_with fail
      refine u.o.mono ?_;rintro e W ⟨rfl,c⟩;rw[c];clear c W u;go_wp2;go_ret;exact⟨rfl,rfl⟩
     ·rw[if_neg O]at d;exact absurd rfl d
   ·rw[show M9 (b.size=6)=Md by simp[q]]at j;rw[if_pos ⟨i,by simp[fQ,q]⟩];clear d r z m p k l i q;go_enter PD,ntmps74;go_wp2_with fail
    refine f.o.mono ?_;rintro e W ⟨rfl,c⟩;rw[c];clear c W f;go_wp2_with fail
    refine j.o.mono ?_;rintro e W ⟨rfl,c⟩;rw[c];clear c W j;go_wp2;go_ret;exact⟨rfl,rfl⟩
end
end Go.Proofs.YtnjalelblbjfiaaGreatDoor
