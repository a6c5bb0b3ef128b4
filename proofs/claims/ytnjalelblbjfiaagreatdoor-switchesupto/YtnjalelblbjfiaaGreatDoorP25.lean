import Derived.Test.YtnjalelblbjfiaaGreatDoorP19
import Derived.Test.YtnjalelblbjfiaaGreatDoorP22
import Derived.Test.YtnjalelblbjfiaaGreatDoorP24
namespace Go.Proofs.YtnjalelblbjfiaaGreatDoor
set_option maxRecDepth 100000
set_option maxHeartbeats 16000000
open Go.RowKit
open Go.Proofs.Tryz
open Go.Sort (grow)
open Bool renaming true→Mk,false→Md,eq_iff_iff→Oq,false_and→RL,and_false→Pj
open Go renaming Value→Ma,World→MV,Calls→Mo,undef→NS,bodyPost_ret→NQ,heap_setCell_same→Mn,heap_setCell_other→NE,block_lt_of_cell→MO
open Go.IntKind renaming i64→I,wrap_i64→Mm
open Go.Proofs.Tryz renaming prog→MT,func132→RX,f134→Ty,func24→Rp
open Go.Value renaming pointer→MQ,int→Q,string→MS,slice→MR
open List renaming replicate→Nv,pairwise_singleton→RK,find?→SF,mem_cons→Nk,not_mem_nil→OE,range→PO,eq_of_mem_replicate→PC
open Option renaming some→N,none→S
open UInt8 renaming ofNat→NR
open Decidable renaming decide→M9
open Go.Ending renaming returned→MZ
open Go.RowKit renaming Below→Mb
open Go.RowKit.Below renaming refl→MU,trans→NA
open Go.Obj renaming cells→MY
open Nat renaming le_refl→MP
theorem Bt(s k m:Nat)(l j:Ma)(P:List b7)(K:List Mc)(g:Int)(c d f:List UInt8)(a b:UInt8)(w:MV)(h:bW w s l P k m j K)(y:P.length<=8)(t:∀p∈P,(Lit.int I p.nat).wf=Mk)(z:K.length<=64)(B:0<=g/\g<P.length)(u:(iD P g.toNat).nat=1)(n:c.length=6)(o:d.length=6)(q:¬(a=129/\b=0))(C:¬(a=8/\b=0))(D:f.length<=500)(E:dH (ce d)=Md):Mo MT 20 #[MQ (N ⟨s,0,S⟩),Q I g,MS (ce (c++d++[a,b]++f))] w (iS w k m j λr L i=>dy K ⟨1,ce d,g,0⟩ i/\L=fS P ⟨g,ce (c++d++[a,b]++f),⟨ce c,ce d,Md,1,0,ce [a,b],ce f⟩,⟨#[]⟩,0,0,Md,Md⟩ (iL (az i 1 (ce c))) (az i 1 (ce c)).isSome P.length/\r=if L.length=0 then 8 else 0):=by
 have F:=oD c d f a b n o q;refine(un s k m l j P K g _ w h y z t _ _ _ (I9 s k m l j P K g _ w h t (Bf c d f a b n o q C))).mono ?_;rintro e W ⟨r,L,i,G,H,rfl,J,M,R,T,U,V⟩;have X:cG (iD P g.toNat) ⟨ce c,ce d,Md,0,0,ce [a,b],ce f⟩=false:=by
  unfold cG eV;simp[u]
 obtain⟨v,x,Y⟩:=zM J B (Bw c d f a b n o q D E) F X;have Z:ja P g (ce (c++d++[a,b]++f)) ⟨ce c,ce d,Md,0,0,ce [a,b],ce f⟩=⟨g,ce (c++d++[a,b]++f),⟨ce c,ce d,Md,1,0,ce [a,b],ce f⟩,⟨#[]⟩,0,0,Md,Md⟩:=by
  unfold ja eV;simp[u]
 rw[Z]at v x;exact⟨r,L,i,G,H,rfl,⟨v,x,Y⟩,M,R,T,U,V⟩
def mA:List UInt8:=[2,97,97,97,97,97]
def mB:List UInt8:=[2,98,98,98,98,98]
def lz:List UInt8:=[116,101,120,116]
def uo:List UInt8:=[98,97,99,107]
def eA:Mc:=⟨1,ce mA,0,0⟩
def eB:Mc:=⟨1,ce mB,1,0⟩
def P2:List b7:=Nv 2 ⟨1,λ_=>Md⟩
def Jd:List b7:=[⟨1,λ_=>Md⟩,⟨0,gF [5,1]⟩]
theorem Kw:dH (ce mA)=false:=US
theorem Lk:dH (ce mB)=false:=US
theorem II:bL eA 1 (ce mB)<0:=by
 unfold bL eA;rw[cY,cY];decide
theorem KA:dy [] eA [eA]:=by
 refine⟨RK _ _,?_⟩;rw[if_pos (by simp)];exact⟨λq=>by simp,by simp[az]⟩
theorem Cq:bZ [eA,eB]:=List.Pairwise.cons (λq a=>by rw[List.mem_singleton.1 a];exact II) (RK _ _)
theorem Be(x:List UInt8)(K:List Mc):az K 1 (ce x)=K.find? λe=>e.vlan==1&&e.mac.toList==x:=by
 unfold az;rw[cY]
theorem yx:az [eA] 1 (ce mB)=none:=by
 rw[Be];simp[SF,eA,cY,mA,mB]
theorem yw:az [eA,eB] 1 (ce mA)=N eA:=by
 rw[Be];simp[SF,eA,cY,mA]
theorem Gp:az [eA,eB] 1 (ce mB)=N eB:=by
 rw[Be];simp[SF,eA,eB,cY,mA,mB]
theorem KJ:bL eB 1 (ce mA)≠0:=λh=>by
 have:=hZ.1 h;simp[eB,cY,mA,mB]at this
theorem J9:dy [eA] eB [eA,eB]:=by
 refine⟨Cq,?_⟩;have a:az [eA] eB.vlan eB.mac=none:=yx;rw[a,if_pos (by simp)];refine⟨λq=>?_,by simp⟩;simp only[Nk,OE,or_false];have:=II;constructor
 ·rintro(rfl|rfl)
  ·exact .inr ⟨rfl,λe=>by have b:bL eA 1 (ce mB)=0:=e;omega⟩
  ·exact .inl rfl
 ·rintro(rfl|⟨rfl,_⟩)
  ·exact .inr rfl
  ·exact .inl rfl
theorem J8:dy [eA,eB] eA [eA,eB]:=by
 refine⟨Cq,?_⟩;have a:az [eA,eB] eA.vlan eA.mac=N eA:=yw;rw[a,if_pos (by simp)];refine⟨λq=>?_,by simp⟩;simp only[Nk,OE,or_false];constructor
 ·rintro(rfl|rfl)
  ·exact .inl rfl
  ·exact .inr ⟨.inr rfl,λe=>KJ e⟩
 ·rintro(rfl|⟨rfl|rfl,_⟩)
  ·exact .inl rfl
  ·exact .inl rfl
  ·exact .inr rfl
theorem LR:gF [5,1] 1=true:=US
theorem LV(d:ByteArray):fS P2 ⟨0,d,⟨ce mB,ce mA,Md,1,0,ce [18,52],ce lz⟩,⟨#[]⟩,0,0,Md,Md⟩ 0 Md 2=[(1,ce (mB++mA++[18,52]++lz))]:=by
 have e:jF ⟨1,λ_=>Md⟩ ⟨ce mB,ce mA,Md,1,0,ce [18,52],ce lz⟩=ce (mB++mA++[18,52]++lz):=by
  rw[vB _ _ rfl];show ce mB++ce mA++ce [18,52]++ce lz=_;rw[dv,dv,dv]
 simp[fS,PO,List.range.loop,db,gH,P2,iD,e]
theorem LU(d:ByteArray):fS P2 ⟨1,d,⟨ce mA,ce mB,Md,1,0,ce [18,52],ce uo⟩,⟨#[]⟩,0,0,Md,Md⟩ 0 Mk 2=[(0,ce (mA++mB++[18,52]++uo))]:=by
 have e:jF ⟨1,λ_=>Md⟩ ⟨ce mA,ce mB,Md,1,0,ce [18,52],ce uo⟩=ce (mA++mB++[18,52]++uo):=by
  rw[vB _ _ rfl];show ce mA++ce mB++ce [18,52]++ce uo=_;rw[dv,dv,dv]
 simp[fS,PO,List.range.loop,db,gH,P2,iD,e]
theorem Uc(d:ByteArray):fS Jd ⟨0,d,⟨ce mB,ce mA,Md,1,0,ce [18,52],ce lz⟩,⟨#[]⟩,0,0,Md,Md⟩ 1 Mk 2=[(1,ce (mB++mA++[129,0,0,1]++[18,52]++lz))]:=by
 have e:jF ⟨0,gF [5,1]⟩ ⟨ce mB,ce mA,Md,1,0,ce [18,52],ce lz⟩=ce (mB++mA++[129,0,0,1]++[18,52]++lz):=by
  have a:px Mk 1 0=ce [129,0,0,1]:=by
   have b:Fk 1 0=1:=UR;unfold px;rw[b,if_pos rfl];show ce [129,0]++ce [NR ((1:Int)/256%256).toNat,NR ((1:Int)%256).toNat]=_;rw[dv,show NR ((1:Int)/256%256).toNat=0 by decide,show NR ((1:Int)%256).toNat=1 by decide];rfl
  unfold jF iq;show ce mB++ce mA++px Mk 1 0++ce [18,52]++ce lz=_;rw[a];rw[dv,dv,dv,dv]
 simp[fS,PO,List.range.loop,db,gH,Jd,iD,e,LR]
theorem Jo:eJ P2 1 0 [5,1]=0:=US
theorem GF:eT P2 1 0 [5,1]=Jd:=by
 unfold eT;rw[if_pos Jo];rfl
section
attribute [local go_sem] aI
theorem oe(b:ByteArray)(w:MV)(t:b.size<=1000):Mo MT 132 #[MS b] w λe R=>e=MZ (.bool (jX b))/\Mb w.heap.size w R:=by
 by_cases T:b.size<20
 ·have u:jX b=false:=by unfold jX;simp[show¬20<=b.size by omega]
  rw[u];have U:(b.size:Int)<20:=O;clear u;go_enter RX,ntmps132;go_wp2;go_ret;exact⟨rfl,MU _ _⟩
 ·have U:¬(b.size:Int)<20:=by omega
  have d:0<b.size:=O;have a8:=(b[0]'d).toNat_lt;have V:∀W:MV,(Instr.index 9 (MS b) (Q I 0)).run MT W=.ok (Q .u8 ((b[0]'d).toNat:Int)) W:=λW=>by
   simp[go_sem,d]
  have v:Kk b=(b[0]'d).toNat/16:=dif_pos d;have y:cn b=(b[0]'d).toNat%16*4:=dif_pos d;have n:=A λ(W:MV)=>iH b 2 W O t;have X:=A λ(i:Nat) (h:i+1<b.size) (W:MV)=>iH b i W h t;have z:jX b=((Kk b==4)&&(M9 (20<=cn b)&&M9 (cn b<=bT b 2)&&M9 (bT b 2<=b.size))&&(iU b (cn b/2)==65535)):=by
   unfold jX;simp[show 20<=b.size by omega]
  rw[z];generalize(b[0]'d).toNat=x at*;have Y:=eN b 2;obtain⟨c,B⟩:=UX (bT b 2);obtain⟨a,o⟩:=UX (cn b);have p:a=x%16*4:=by rw[o,y]
  rw[<-B]at n Y⊢;rw[<-o,v];have g:=A p;clear z v y B o T;by_cases j:x/16=4
  ·have C:((x:Int)/16 !=4)=false:=by rw[bne_eq_false_iff_eq];omega
   have f:(x/16==4)=true:=by rw[beq_iff_eq];exact j
   have Z:4*((x:Int)%16)=(a:Int):=O;rw[f,Bool.true_and];clear j f p;go_enter RX,ntmps132;go_wp2_with fail
   refine(n.o _).mono ?_;rintro e w1 ⟨rfl,D⟩;have l:=A D;clear D n V Z C;have b0:a<=60:=by have:=g.o;omega
   by_cases c1:a<20
   ·have a0:(a:Int)<20:=by omega
    have e:(M9 (20<=a)&&M9 (a<=c)&&M9 (c<=b.size)&&(iU b (a/2)==65535))=false:=by simp[show¬20<=a by omega]
    have E:=A e;clear e;go_wp2;go_ret;exact⟨by rw[E.o];rfl,l.o⟩
   ·have a0:¬(a:Int)<20:=by omega
    by_cases c2:c<a
    ·have a1:(c:Int)<a:=by omega
     have e:(M9 (20<=a)&&M9 (a<=c)&&M9 (c<=b.size)&&(iU b (a/2)==65535))=false:=by simp[show¬a<=c by omega]
     have E:=A e;clear e;go_wp2;go_ret;exact⟨by rw[E.o];rfl,l.o⟩
    ·have a1:¬(c:Int)<a:=by omega
     by_cases c3:b.size<c
     ·have a2:(b.size:Int)<c:=by omega
      have e:(M9 (20<=a)&&M9 (a<=c)&&M9 (c<=b.size)&&(iU b (a/2)==65535))=false:=by simp[show¬c<=b.size by omega]
      have E:=A e;clear e;go_wp2;go_ret;exact⟨by rw[E.o];rfl,l.o⟩
     ·have a2:¬(b.size:Int)<c:=by omega
      have e:(M9 (20<=a)&&M9 (a<=c)&&M9 (c<=b.size)&&(iU b (a/2)==65535))=(iU b (a/2)==65535):=by simp[show 20<=a by omega,show a<=c by omega,show c<=b.size by omega]
      have E:=A e;clear e;go_wp2_with fail
      go_loopw [5,6] (λsv i wr=>∃k:Nat,2*k<=a/\i=Q I (2*k:Nat)/\sv=Q I (iU b k)/\Mb w.heap.size w wr) (λ_ i _=>a- (intOf i).toNat)
      case atStart=>exact⟨0,O,rfl,rfl,l.o⟩
      case round=>
       obtain⟨k,hk,rfl,rfl,F⟩:=hrel;have q:=A F;clear F;have a4:=rX b k;by_cases b5:2*k<a
       ·have G:((2*k:Nat):Int)<a:=by omega
        obtain⟨i,m⟩:=UX (2*k);rw[<-m]at G⊢;have H:=A (X.o i (by have:=g.o;omega) wr);have hw:=eN b i;have r:=A m;have J:aA (iU b (k+1)=kR (iU b k) (bT b i)):=A (by rw[m];rfl);obtain⟨s,K⟩:=UX (iU b k);rw[<-K]at a4 J⊢;clear m K;have L:=A λ(W:MV)=>xY s (bT b i) W O O;have b9:(i:Int)<=60:=by have:=r.o;omega
        go_wp2_with fail
        refine H.o.mono ?_;rintro e w2 ⟨rfl,M⟩;have a5:=A (q.o.trans (M.mono q.o.size));clear M H;go_wp2_with fail
        refine(L.o _).mono ?_;rintro e W ⟨rfl,P⟩;rw[P];clear P W L;go_wp2_with fail
        go_roundw
        case rel=>exact⟨k+1,by have:=r.o;have:=g.o;omega,by rw[r.o];go_num,by rw[J.o],a5.o⟩
        case measure=>simp[intOf];omega
       ·have G:¬((2*k:Nat):Int)<a:=by omega
        have a6:k=a/2:=by have:=g.o;omega
        subst a6;have HG:aA (((iU b (a/2):Int)==65535)=(iU b (a/2)==65535)):=A (by
         rw[Oq,beq_iff_eq,beq_iff_eq];omega)
        go_wp2;go_ret;exact⟨by rw[E.o];simp[HG.o],q.o⟩
  ·have C:((x:Int)/16 !=4)=true:=by rw[bne_iff_ne];omega
   have f:(x/16==4)=false:=by rw[beq_eq_false_iff_ne];exact j
   rw[f,RL];clear j f p;go_enter RX,ntmps132;go_wp2;go_ret;exact⟨rfl,MU _ _⟩
end
theorem oz{g:Array Ma}{W:MV}{b:Nat}{a c d e f:Ma}(h:W.heap[b]?=N (MY #[a,c,d,e,f] 39 (0,0)))(i:g.getD 2 NS=MQ (N ⟨b,0,S⟩)):(results Ty g).run MT W=.ok (.agg #[a,c,d,e,f]) W:=by
 rw[nQ (fn:=Ty) (p:=2) (ty:=39) rfl,i];have j:(prog.info? 39).map (·.size)=N (#[a,c,d,e,f]:Array Ma).size:=UR;simp[asAddr,run_loadVar_row W b 39 39 #[a,c,d,e,f] (0,0) _ h underlying39 rfl j,Result.andThen]
theorem wA(b:ByteArray)(i:Nat)(w:MV)(h:i+3<b.size)(a:b.size<=1000):Mo MT 187 #[MS b,Q I i] w λe c=>e=MZ (Q I (i7 b i))/\Mb w.heap.size w c:=by
 have:=DY b i w h a;have e:65536*bT b i+bT b (i+2)=i7 b i:=by unfold i7;rw[Nat.mul_comm]
 rw[e]at this;exact this
theorem xW(b:ByteArray)(w:MV)(h:20<=b.size)(J:b.size<=1000)(ht:bT b 2<=b.size):Mo MT 134 #[MS b] w λe n=>e=MZ (.agg #[Q I (i7 b 12),Q I (i7 b 16),Q I (b8 b 9),Q I (pB b),Q I (pA b)])/\Mb w.heap.size w n:=by
 have hx:∀W:MV,(Instr.index 9 (MS b) (Q I 9)).run MT W=.ok (Q .u8 (b8 b 9:Int)) W:=λW=>pK b 9 O W;have hl:=rG b 9;have CA:aA (∀W:MV,Mo MT 187 #[MS b,Q I 12] W λe n=>e=MZ (Q I (i7 b 12))/\Mb W.heap.size W n):=A λW=>wA b 12 W O J;have CD:aA (∀W:MV,Mo MT 187 #[MS b,Q I 16] W λe n=>e=MZ (Q I (i7 b 16))/\Mb W.heap.size W n):=A λW=>wA b 16 W O J;go_enter func134,ntmps134;go_wp2_with fail
 obtain⟨c,K⟩:=UX (w.alloc (MY #[Q I 0,Q I 0,Q I 0,Q I 0,Q I 0] 39));have A0:c.heap[w.heap.size]?=N (MY #[Q I 0,Q I 0,Q I 0,Q I 0,Q I 0] 39 (0,0)):=by rw[K];exact aU _ _
 have f3:aA (Mb w.heap.size w c):=A (by rw[K];exact(MU _ w).alloc (MP _) _);have f4:c.heap.size=w.heap.size+1:=by rw[K];simp
 rw[<-K];have j6:w.heap.size<=c.heap.size:=O;have k5:=A f4;clear K f4;generalize f5:i7 b 12=x0 at*;generalize f6:i7 b 16=x1 at*;generalize f7:b8 b 9=x2 at*;have a4:=A f5;have a5:=A f6;have L:=A f7;clear f5 f6 f7;have m5:IntKind.i64.wrap (x2:Int)=(x2:Int):=by rw[Mm];omega
 rename_i Kc k7
 have h0:0<b.size:=O;obtain⟨z,a7⟩:=UX ((b[0]'h0).toNat);have m6:∀W:MV,(Instr.index 9 (MS b) (Q I 0)).run MT W=.ok (Q .u8 (z:Int)) W:=λW=>by rw[a7];simp[go_sem,h0]
 have n0:z<256:=by rw[a7];exact(b[0]'h0).toNat_lt
 have c0:cn b=z%16*4:=by rw[a7];exact dif_pos h0
 obtain⟨d,a8⟩:=UX (cn b);have hm:4*((z:Int)%16)=(d:Int):=by rw[a8,c0];omega
 have n2:d<=60:=by rw[a8,c0];omega
 have c1:=A a8;have C6:aA (∀W:MV,Mo MT 183 #[MS b,Q I 6] W λe n=>e=MZ (Q I (bT b 6))/\Mb W.heap.size W n):=A λW=>iH b 6 W O J;have C2:aA (∀W:MV,Mo MT 183 #[MS b,Q I 2] W λe n=>e=MZ (Q I (bT b 2))/\Mb W.heap.size W n):=A λW=>iH b 2 W O J;have f8:=A λ(i:Nat) (h:i+1<b.size) (W:MV)=>iH b i W h J;have l6:=eN b 6;have l2:=eN b 2;clear c0 a8 a7;have l1:∀(a:Nat) (g:MV),g.heap[a]?=N (MY #[Q I x0,Q I x1,Q I x2,Q I 0,Q I 0] 39 (0,0))->Mb c.heap.size c g->c.heap.size<=a->Kc {tmps:=#[MS b,NS,MQ (N ⟨w.heap.size,0,S⟩),MQ (N ⟨a,0,S⟩),NS,MS b,Q I x0,MS b,Q I x1,MS b,Q .u8 x2,Q I x2,.agg #[Q I x0,Q I x1,Q I x2,Q I 0,Q I 0],NS,NS,NS,NS,NS,NS,NS,NS,NS,NS,NS,NS,NS,NS,NS,NS,NS,NS,NS,NS,NS,NS,NS,NS,NS,NS,NS,NS,NS,NS,NS,NS,NS,NS,NS,NS],defers:=[]} g:=by
  intro a g o s M;have R0:=(s.block _ (aJ A0)).trans A0;have BL:Mb w.heap.size w g:=f3.o.trans (s.mono j6);have n6:w.heap.size<a:=by have:=k5.o;omega
  refine k7 _ _ ?_;have k2:g.cell? ⟨a,2,S⟩=N (Q I x2):=aB o rfl;have lk:a<g.heap.size:=aJ o;have t:=A o;have l:=A R0;have c3:=A BL;clear o R0 BL s A0 f3 CA CD hx;have n8:¬a=w.heap.size:=O;have o0:¬w.heap.size=a:=O;have eP:(b8 b 9==6||b8 b 9==17)=((x2:Int)==6||(x2:Int)==17):=by
   rw[L.o,Oq];simp only[Bool.or_eq_true,beq_iff_eq];omega
  have g2:mD b=((((x2:Int)==6||(x2:Int)==17))&&((bT b 6:Int)%8192==0)&&M9 ((d:Int)+4<=(bT b 2:Int))):=by
   unfold mD;rw[eP,<-c1.o];congr 1
   ·congr 1;rw[Oq,beq_iff_eq,beq_iff_eq];omega
   ·rw[Oq,decide_eq_true_iff,decide_eq_true_iff];omega
  have a9:=A g2;have o1:IntKind.i64.wrap ((d:Int)+4)=(d:Int)+4:=by rw[Mm];omega
  clear eP g2;obtain⟨pr,m⟩:=UX (((x2:Int)==6||(x2:Int)==17));cases pr with
  |false=>
   have f:mD b=false:=by rw[a9.o,<-m];rfl
   have x:aA (pB b=0):=A (by unfold pB;rw[f];rfl);have y:aA (pA b=0):=A (by unfold pA;rw[f];rfl);clear f;have p6:((x2:Int)==6)=false:=by
    cases h6:((x2:Int)==6)with
    |false=>rfl
    |true=>rw[h6]at m;cases m
   have l3:((x2:Int)==17)=false:=by
    cases h7:((x2:Int)==17)with
    |false=>rfl
    |true=>rw[p6,h7]at m;cases m
   clear m;have k0:=aB (j:=0) t.o rfl;have k1:=aB (j:=1) t.o rfl;have k2:=aB (j:=2) t.o rfl;have k3:=aB (j:=3) t.o rfl;have k4:=aB (j:=4) t.o rfl;have t0:=aB (j:=0) l.o rfl;have t1:=aB (j:=1) l.o rfl;have t2:=aB (j:=2) l.o rfl;have t3:=aB (j:=3) l.o rfl;have t4:=aB (j:=4) l.o rfl;have tf:=λj=>bC l.o j;have g7:=aJ t.o;have d3:=aJ l.o;have B:=A (iv (Q I x0) (Q I x1) (Q I x2) (Q I 0) (Q I 0) l.o c3.o (MP _));go_wp2;obtain⟨W9,C,D,E,_⟩:=B.o;rw[<-C];refine NQ (oz D rfl) rfl ?_;exact⟨by rw[a4.o,a5.o,L.o,x.o,y.o];rfl,E⟩
  |true=>
   have d5:aA (∀F,Mb g.heap.size g F->F.heap[a]?=N (MY #[Q I x0,Q I x1,Q I x2,Q I 0,Q I 0] 39 (0,0))/\F.heap[w.heap.size]?=N (MY #[Q I 0,Q I 0,Q I 0,Q I 0,Q I 0] 39 (0,0))/\Mb w.heap.size w F):=A λF P=>⟨(P.block _ (aJ t.o)).trans t.o,(P.block _ (aJ l.o)).trans l.o,c3.o.trans (P.mono c3.o.size)⟩;have l5:=A m;have l7:((x2:Int)==6)=Mk\/(((x2:Int)==6)=Md/\((x2:Int)==17)=Mk):=by
    cases h6:((x2:Int)==6)with
    |true=>exact .inl rfl
    |false=>
     rw[h6]at m;exact .inr ⟨rfl,by simpa using m.symm⟩
   clear m;rcases l7 with p6|⟨p6,l3⟩
   all_goals
    go_wp2_with fail
    refine(C6.o _).mono ?_;rintro e F ⟨rfl,d6⟩;obtain⟨G,p,g8⟩:=d5.o F d6;have g9:=A d6;clear d6;cases hf:((bT b 6:Int)%8192==0)with
    |false=>
     have f:mD b=false:=by rw[a9.o,hf,Pj,RL]
     have x:aA (pB b=0):=A (by unfold pB;rw[f];rfl);have y:aA (pA b=0):=A (by unfold pA;rw[f];rfl);clear f;have k0:=aB (j:=0) G rfl;have k1:=aB (j:=1) G rfl;have k2:=aB (j:=2) G rfl;have k3:=aB (j:=3) G rfl;have k4:=aB (j:=4) G rfl;have t0:=aB (j:=0) p rfl;have t1:=aB (j:=1) p rfl;have t2:=aB (j:=2) p rfl;have t3:=aB (j:=3) p rfl;have t4:=aB (j:=4) p rfl;have tf:=λj=>bC p j;have g7:=aJ G;have d3:=aJ p;have B:=A (iv (Q I x0) (Q I x1) (Q I x2) (Q I 0) (Q I 0) p g8 (MP _));go_wp2;obtain⟨W9,C,D,E,_⟩:=B.o;rw[<-C];refine NQ (oz D rfl) rfl ?_;exact⟨by rw[a4.o,a5.o,L.o,x.o,y.o];rfl,E⟩
    |true=>
     go_wp2_with fail
     refine(C2.o _).mono ?_;rintro e W4 ⟨rfl,h2⟩;obtain⟨r,k,b0⟩:=d5.o W4 (g9.o.trans (h2.mono g9.o.size));clear h2 G p g8;by_cases hg:(d:Int)+4<=(bT b 2:Int)
     ·have f:mD b=true:=by rw[a9.o,<-l5.o,hf,decide_eq_true hg];rfl
      have x:aA (pB b=bT b d):=A (by unfold pB;rw[f,c1.o];rfl);have y:aA (pA b=bT b (d+2)):=A (by unfold pA;rw[f,c1.o];rfl);have e2:IntKind.i64.wrap ((d:Int)+2)=((d+2:Nat):Int):=by rw[Mm];omega
      have D1:=A λ(W:MV)=>f8.o d O W;have D2:=A λ(W:MV)=>f8.o (d+2) O W;generalize bT b d=y3 at*;generalize bT b (d+2)=y4 at*;clear f d5;go_wp2_with fail
      refine(D1.o _).mono ?_;rintro e W5 ⟨rfl,b2⟩;have R:=(b2.block _ (aJ r)).trans r;have R5:=(b2.block _ (aJ k)).trans k;have i0:Mb w.heap.size w W5:=b0.trans (b2.mono b0.size);have j3:=aB (j:=3) R rfl;have jf:=bC R 3;have jl:=aJ R;obtain⟨T,U⟩:=UX (W5.setCell ⟨a,3,S⟩ (Q I y3));have e1:T.heap[a]?=N (MY #[Q I x0,Q I x1,Q I x2,Q I y3,Q I 0] 39 (0,0)):=by rw[U];exact(Mn _ _ 3 _ _ _ R).trans (by simp)
      have R6:T.heap[w.heap.size]?=N (MY #[Q I 0,Q I 0,Q I 0,Q I 0,Q I 0] 39 (0,0)):=by rw[U];exact(NE _ _ _ _ (λ(e:w.heap.size=a)=>O)).trans R5
      have e4:Mb w.heap.size w T:=by rw[U];exact i0.setCell (by show w.heap.size<=a;omega) _
      clear b2 r k b0 D1;go_wp2_with fail
      rw[<-U];clear U R R5 i0 j3 jf jl;refine(D2.o _).mono ?_;rintro e W7 ⟨rfl,b3⟩;have u:=(b3.block _ (aJ e1)).trans e1;have v:=(b3.block _ (aJ R6)).trans R6;have i5:Mb w.heap.size w W7:=e4.trans (b3.mono e4.size);have j0:=aB (j:=0) u rfl;have j1:=aB (j:=1) u rfl;have j2:=aB (j:=2) u rfl;have j3:=aB (j:=3) u rfl;have j4:=aB (j:=4) u rfl;have jf:=bC u 4;have jl:=aJ u;obtain⟨V,b4⟩:=UX (W7.setCell ⟨a,4,S⟩ (Q I y4));have m0:V.heap[a]?=N (MY #[Q I x0,Q I x1,Q I x2,Q I y3,Q I y4] 39 (0,0)):=by rw[b4];exact(Mn _ _ 4 _ _ _ u).trans (by simp)
      have R8:V.heap[w.heap.size]?=N (MY #[Q I 0,Q I 0,Q I 0,Q I 0,Q I 0] 39 (0,0)):=by rw[b4];exact(NE _ _ _ _ (λ(e:w.heap.size=a)=>O)).trans v
      have i8:Mb w.heap.size w V:=by rw[b4];exact i5.setCell (by show w.heap.size<=a;omega) _
      have t0:=aB (j:=0) v rfl;have t1:=aB (j:=1) v rfl;have t2:=aB (j:=2) v rfl;have t3:=aB (j:=3) v rfl;have t4:=aB (j:=4) v rfl;have tf:=λj=>bC v j;have d3:=aJ v;have B:=A (iv (Q I x0) (Q I x1) (Q I x2) (Q I y3) (Q I y4) R8 i8 (MP _));clear b3 e1 R6 e4 D2 m0 R8 i8 i5;go_wp2;obtain⟨W9,C,D,E,_⟩:=B.o;rw[<-b4,<-C];refine NQ (oz D rfl) rfl ?_;exact⟨by rw[a4.o,a5.o,L.o,x.o,y.o],E⟩
     ·have f:mD b=false:=by rw[a9.o,decide_eq_false hg,Pj]
      have x:aA (pB b=0):=A (by unfold pB;rw[f];rfl);have y:aA (pA b=0):=A (by unfold pA;rw[f];rfl);clear f;have k0:=aB (j:=0) r rfl;have k1:=aB (j:=1) r rfl;have k2:=aB (j:=2) r rfl;have k3:=aB (j:=3) r rfl;have k4:=aB (j:=4) r rfl;have t0:=aB (j:=0) k rfl;have t1:=aB (j:=1) k rfl;have t2:=aB (j:=2) k rfl;have t3:=aB (j:=3) k rfl;have t4:=aB (j:=4) k rfl;have tf:=λj=>bC k j;have g7:=aJ r;have d3:=aJ k;have B:=A (iv (Q I x0) (Q I x1) (Q I x2) (Q I 0) (Q I 0) k b0 (MP _));go_wp2;obtain⟨W9,C,D,E,_⟩:=B.o;rw[<-C];refine NQ (oz D rfl) rfl ?_;exact⟨by rw[a4.o,a5.o,L.o,x.o,y.o];rfl,E⟩
 have QA:aA (∀v1:MV,Mb (c.alloc (MY #[Q I 0,Q I 0,Q I 0,Q I 0,Q I 0] 39)).drew.heap.size (c.alloc (MY #[Q I 0,Q I 0,Q I 0,Q I 0,Q I 0] 39)).drew v1->v1.heap[c.heap.size]?=N (MY #[Q I 0,Q I 0,Q I 0,Q I 0,Q I 0] 39 (0,0))):=A λv1 P=>(P.block _ (by simp)).trans (heap_alloc_new c _);go_region_with
  (first
   |(go_at_call 187;with_reducible refine(CA.o _).mono ?_;rintro e w1 ⟨rfl,b5⟩;have e7:Mb c.heap.size c w1:=NA (b:=_) UQ (b5.mono SZ);have m1:=e7.size;(first|(have q:=(b5.block _ (aJ q)).trans q;have X:=aB (j:=0) q rfl;have Y:=aB (j:=1) q rfl;have Z:=aB (j:=2) q rfl;have q3:=aB (j:=3) q rfl;have q4:=aB (j:=4) q rfl;have qf:=λj=>bC q j;have ql:=aJ q)|(have q:=QA.o _ b5;have X:=aB (j:=0) q rfl;have Y:=aB (j:=1) q rfl;have Z:=aB (j:=2) q rfl;have q3:=aB (j:=3) q rfl;have q4:=aB (j:=4) q rfl;have qf:=λj=>bC q j;have ql:=aJ q)|(have q:=(b5.block w2.heap.size (by simp)).trans (aU w2 _);have X:=aB (j:=0) q rfl;have Y:=aB (j:=1) q rfl;have Z:=aB (j:=2) q rfl;have q3:=aB (j:=3) q rfl;have q4:=aB (j:=4) q rfl;have qf:=λj=>bC q j;have ql:=aJ q)|skip))
   |(go_at_call 187;with_reducible refine(CD.o _).mono ?_;rintro e w2 ⟨rfl,b6⟩;have f0:Mb c.heap.size c w2:=NA (b:=_) UQ (b6.mono SZ);have m2:=f0.size;(first|(have q:=(b6.block _ (aJ q)).trans q;have X:=aB (j:=0) q rfl;have Y:=aB (j:=1) q rfl;have Z:=aB (j:=2) q rfl;have q3:=aB (j:=3) q rfl;have q4:=aB (j:=4) q rfl;have qf:=λj=>bC q j;have ql:=aJ q)|(have q:=QA.o _ b6;have X:=aB (j:=0) q rfl;have Y:=aB (j:=1) q rfl;have Z:=aB (j:=2) q rfl;have q3:=aB (j:=3) q rfl;have q4:=aB (j:=4) q rfl;have qf:=λj=>bC q j;have ql:=aJ q)|(have q:=(b6.block w1.heap.size (by simp)).trans (aU w1 _);have X:=aB (j:=0) q rfl;have Y:=aB (j:=1) q rfl;have Z:=aB (j:=2) q rfl;have q3:=aB (j:=3) q rfl;have q4:=aB (j:=4) q rfl;have qf:=λj=>bC q j;have ql:=aJ q)|skip)))
 all_goals
  first
  |(obtain⟨g,H,o,s,M⟩:=iv (Q I x0) (Q I x1) (Q I x2) (Q I 0) (Q I 0) q f0 O;rw[<-H])
  |(obtain⟨g,H,o,s,M⟩:=iv (Q I x0) (Q I x1) (Q I x2) (Q I 0) (Q I 0) q e7 O;rw[<-H])
  |(obtain⟨g,H,o,s,M⟩:=yL #[Q I x0,Q I x1,Q I x2,Q I 0,Q I 0] 39 f0 m2;rw[<-H])
  |(obtain⟨g,H,o,s,M⟩:=yL #[.int .i64 x0,.int .i64 x1,.int .i64 x2,.int .i64 0,.int .i64 0] 39 e7 m1;rw[<-H])
 all_goals exact l1 _ _ o s M
section
attribute [local go_sem] Oper.semAt_some
attribute [local go_sem ↓ high] cu
theorem m9:(prog.info? 159).map (λi=>(i.zero,i.size,i.bytes))=N (N (.agg #[Q I 0,MR S 0 0]),2,32):=UR
theorem xc:prog.underlying 85=N (.slice 159):=UR
def jG:ee:=⟨1,MR S 0 0,[]⟩
theorem FG{w:MV}{B:Nat}{v:Ma}{L:List ee}(h:aX ee.row B w 159 2 v L)(D:B<=w.heap.size)(E:L.length<=1000)(_hone:∀q∈L,q.tv.oneCell'=Mk):∃g a c,(Builtin.append_ #[85,85] 85 #[v,MR (N ⟨w.heap.size,0,S⟩) 1 1]).run MT (w.alloc (MY #[Q I 1,MR S 0 0] 159))=.ok (MR (N ⟨g,0,S⟩) (L.length+1) a) c/\aX ee.row B c 159 2 (MR (N ⟨g,0,S⟩) (L.length+1) a) (L++[jG])/\aH (λb=>v.ownBlock=N b) w c:=by
 obtain⟨i,k,l,m,n⟩:=info_parts m9;have d:Mb w.heap.size w (w.alloc (MY #[Q I 1,MR S 0 0] 159)):=(MU _ w).alloc (MP _) _;have o:∀j u,(ed ee.row [jG])[j]?=N u->(w.alloc (MY #[Q I 1,MR S 0 0] 159)).cell? ((⟨w.heap.size,0,S⟩:Addr).add j)=N u:=λq u p=>by rw[Addr.add_mid];exact aN w #[Q I 1,MR S 0 0] 159 q u p
 have r:∀u∈ed ee.row [jG],u.oneCell'=true:=by simp[ed,ee.row,jG,Value.oneCell']
 have s:=(h.aD d).1;obtain⟨t,c,x,f,y,F⟩:=run_append_own (P:=MT) (w.alloc (MY #[Q I 1,MR S 0 0] 159)) B 85 85 159 i _ 2 32 xc k l m n rfl US v L.length (ed ee.row L) s ⟨w.heap.size,0,S⟩ 1 1 (ed ee.row [jG]) rfl o r UT O UU;have z:∃g a,t=MR (N ⟨g,0,S⟩) (L.length+1) a:=by
  rcases f.2 with⟨e,G⟩|⟨g,a,_,e,_⟩
  ·omega
  ·exact⟨g,a,e⟩
 obtain⟨g,a,rfl⟩:=z;refine⟨g,a,c,x,⟨?_,λe=>by simp at e⟩,(aH.aG d).trans (aH.grown y λ_ C=>C)⟩;rw[List.length_append,eh];exact f
theorem AZ(n:Int)(w:MV)(a:n<1\/8<n):Mo MT 24 #[Q I n] w λe W=>e=MZ (MQ S)/\W=w:=by
 by_cases h:n<1
 ·go_enter Rp,ntmps24;go_wp2;go_ret;exact⟨rfl,rfl⟩
 ·have b:(8:Int)<n:=by omega
  go_enter Rp,ntmps24;go_wp2;go_ret;exact⟨rfl,rfl⟩
def tS(a:Ma)(n:Nat):aK:=⟨a,Nv n jG,MR S 0 0,[],MR S 0 0,[],MR S 0 0,[],MR S 0 0,[],0⟩
theorem Aa(n:Nat)(w:MV)(Z:1<=n/\n<=8)(C:0<w.heap.size):Mo MT 24 #[Q I n] w λe W=>e=MZ (MQ (N ⟨w.heap.size,0,S⟩))/\∃a,aT W w.heap.size (tS a n)/\Mb w.heap.size w W/\∀b,a.ownBlock=N b->w.heap.size<b:=by
 have a1:¬(n:Int)<1:=O;have a2:¬(8:Int)<n:=O;obtain⟨g,p⟩:=UX (w.alloc (MY #[MR S 0 0,MR S 0 0,MR S 0 0,MR S 0 0,MR S 0 0,Q I 0] 90));obtain⟨y,r⟩:=UX w.heap.size;have D:=UY p;have t:g.heap[y]?=N (MY #[MR S 0 0,MR S 0 0,MR S 0 0,MR S 0 0,MR S 0 0,Q I 0] 90 (0,0)):=by rw[p,r];exact aU _ _
 have L:=A D;have M:=A t;have h:=A r;have HP:=A C;have P:aA (y+1<=g.heap.size):=A (Array.getElem?_eq_some_iff.1 t).1;clear D t C;go_enter Rp,ntmps24;go_wp2_with fail
 rw[<-p,<-r];clear p r;go_loopw [4] (λi wr=>∃(k:Nat) (a:Ma),k<=n/\i=Q I k/\wr.heap[y]?=N (MY #[a,MR S 0 0,MR S 0 0,MR S 0 0,MR S 0 0,Q I 0] 90 (0,0))/\aX ee.row (y+1) wr 159 2 a (Nv k jG)/\Mb w.heap.size w wr/\y+1<=wr.heap.size) (λi _=>n- (intOf i).toNat)
 case atStart=>exact⟨0,MR S 0 0,O,rfl,M.o,aX.nil _ _ _ _ _,L.o,P.o⟩
 case round=>
  obtain⟨k,a,hk,rfl,c,f,j,R⟩:=hrel;by_cases a6:k<n
  ·have T:(k:Int)<n:=by omega
   obtain⟨l,m,d,E,u,v⟩:=FG f R UU (λq x=>by rw[PC x];rfl);obtain⟨la,a8,lg,z,-⟩:=f.row ee.dW;have U:=dN E;rw[z]at U;have F:wr.cell? ⟨y,0,S⟩=N a:=aB c rfl;have G:a.ownBlock≠N y:=λe=>by have:=f.iG e;omega
   have s:=(v.block y (Array.getElem?_eq_some_iff.1 c).1 G).trans c;have H:d.cell? ⟨y,0,S⟩=N a:=aB s rfl;have f3:d.frozen? ⟨y,0,S⟩=false:=bC s 0;have ly:y<wr.heap.size:=MO F;have b2:y<d.heap.size:=MO H;have J:Mb w.heap.size w d:=j.trans (v.aD j.size λb o=>by have:=f.iG o;have:=h.o;omega);rw[z]at F H;have V:aA (∃(B:Nat) (K:Ma),B<=n/\Q I ((k:Int)+1)=Q I B/\(d.setCell ⟨y,0,S⟩ (MR (N ⟨l,0,S⟩) ((Nv k jG).length+1) m)).heap[y]?=N (MY #[K,MR S 0 0,MR S 0 0,MR S 0 0,MR S 0 0,Q I 0] 90 (0,0))/\aX ee.row (y+1) (d.setCell ⟨y,0,S⟩ (MR (N ⟨l,0,S⟩) ((Nv k jG).length+1) m)) 159 2 K (Nv B jG)/\Mb w.heap.size w (d.setCell ⟨y,0,S⟩ (MR (N ⟨l,0,S⟩) ((Nv k jG).length+1) m))/\y+1<=(d.setCell ⟨y,0,S⟩ (MR (N ⟨l,0,S⟩) ((Nv k jG).length+1) m)).heap.size):=A (by
    refine⟨k+1,MR (N ⟨l,0,S⟩) ((Nv k jG).length+1) m,O,by go_num,(Mn d y 0 _ 90 _ s).trans (by simp),?_,J.setCell (by show w.heap.size<=y;rw[h.o];exact MP _) _,by simp;omega⟩;rw[List.replicate_succ'];exact u.same λb o=>Below.heap_setCell d ⟨y,0,S⟩ _ b λ(e:b=y)=>by
     have:=u.iG o;omega)
   clear E u v s J f c j G z;simp only[List.length_replicate]at*;go_wp2_with fail
   go_roundw
   case rel=>exact V.o
   case measure=>simp[intOf];omega
  ·have T:¬(k:Int)<n:=by omega
   have X:k=n:=O;subst X;have Y:aA (∃a,aT wr w.heap.size (tS a k)/\Mb w.heap.size w wr/\∀b,a.ownBlock=N b->w.heap.size<b):=A (by
    rw[<-h.o];refine⟨a,⟨⟨_,c⟩,aB c rfl,aB c rfl,aB c rfl,aB c rfl,aB c rfl,aB c rfl,f.uc O,aX.nil _ _ _ _ _,aX.nil _ _ _ _ _,bU.nil _ US,aX.nil _ _ _ _ _,λq x=>?_⟩,by rw[h.o];exact j,λb o=>by have:=f.iG o;omega⟩;have:q=jG:=PC x;rw[this];exact World.ownsRow_nil _ _ _ _)
   clear f c j;go_wp2;go_ret;exact⟨by rw[h.o];rfl,Y.o⟩
end
end Go.Proofs.YtnjalelblbjfiaaGreatDoor
