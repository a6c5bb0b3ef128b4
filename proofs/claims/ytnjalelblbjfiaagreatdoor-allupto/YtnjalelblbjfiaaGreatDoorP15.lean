import Derived.Test.YtnjalelblbjfiaaGreatDoorP2
import Derived.RangeFuncNested
namespace Go.Proofs.YtnjalelblbjfiaaGreatDoor
set_option maxRecDepth 100000
set_option maxHeartbeats 16000000
open Go.RowKit
open Go.Proofs.Tryz
open Go.Sort (grow)
open Bool renaming false→Md,true→Mk,true_or→TA,not_eq_true→NB,false_or→Ur,eq_iff_iff→Oq
open Go renaming World→MV,Value→Ma,unitElem→QT,Calls→Mo,block_lt_of_cell→MO,heap_setCell_same→Mn,cell_later→MW,heap_setCell_other→NE,below_drewN→UN,bodyPost_ret→NQ,wpList_mapUpdate_own→Sh,unitElem_mk→UO
open Go.ByteArray renaming toList_eq→No
open Go.Ending renaming returned→MZ
open Go.IntKind renaming i64→I
open Go.Lit renaming int→Ny
open Go.Maps renaming has→Uk,keyOf_int_mk→Un,IsMap→Ut
open Go.Obj renaming cells→MY
open Go.Proofs.Tryz renaming prog→MT,underlying3→Pv,func106→S5,func122→S6,func65→Td,func103→S7,func105→S8,f66→UA,func66→Rj
open Go.RowKit renaming Below→Mb,intOf→N1,wrap64→QR
open Go.RowKit.Below renaming refl→MU
open Go.Value renaming agg→M1,map→N4,int→Q,bool→M0,tuple→Nn,string→MS,slice→MR,pointer→MQ,func→Nm
open Nat renaming lt_or_ge→N8,le_refl→MP,zero_le→NG,le_of_lt→QU
open Option renaming some→N,none→S
open Go.World renaming cell?→M7,frozen?→Nz,alloc_heap_new→Ng
open Go.Fn renaming func→OO
open _root_.Array renaming getElem?_eq_some_iff→Mu
open List renaming getElem_mem→Ms,take_of_length_le→NN
variable {D:DataW Unit}{T:List Int}{a c w wr:MV}{v:Ma}{b g k:Nat}
section
open Go.RowKit Go.Maps
theorem jo{a b:ByteArray}(h:a.toList=b.toList):a=b:=by
 rw[No,No]at h;obtain⟨⟨x⟩⟩:=a;obtain⟨⟨y⟩⟩:=b;simp at h;rw[h]
structure b7 where
 nat:Int
 tg:Int->Bool
theorem Bh:Keyed MT 3:=int_keyed Pv
theorem Jl(w:MV):(zeroValue 242).run MT w=.ok (M1 #[]) w:=UR
theorem oi:prog.underlying 141=N (.map 3 242):=underlying141
def gT(w:MV)(a:Ma)(c:Int->Bool):Prop:=
 (a=N4 S/\∀v,c v=Md)\/∃b n D,a=N4 (N b)/\w.ownsMap (H:=Unit) MT 3 QT b n D/\∀v,(Ny I v).wf=Mk->Uk D (Ny I v)=c v
theorem gT.same{c:Ma}{d:Int->Bool}(h:gT w c d)(f:∀(b:Nat) (o:Obj),w.heap[b]?=N o->o.isCells=Md->a.heap[b]?=N o):gT a c d:=by
 rcases h with h|⟨b,n,D,e,⟨g,i,j,k⟩,l⟩
 ·exact .inl h
 ·exact .inr ⟨b,n,D,e,⟨g,i,f b _ j rfl,k⟩,l⟩
theorem gT.aD{d:Ma}{e:Int->Bool}(h:gT w d e)(f:Mb w.heap.size w c):gT c d e:=
 h.same λb o a _=>by
  have g:b<w.heap.size:=by
   rcases N8 b w.heap.size with h|h
   ·exact h
   ·rw[Array.getElem?_eq_none h]at a;cases a
  rw[f.block b g,a]
theorem nW(i:Int)(a:Ma)(c:Int->Bool)(v:Int)(w:MV)(h:gT w a c)(d:(Ny I v).wf=Mk):Mo MT 106 #[M1 #[Q I i,a],Q I v] w λe j=>e=MZ (M0 (c v))/\Mb w.heap.size w j:=by
 have f:=Un Pv d;rcases h with⟨rfl,k⟩|⟨b,n,D,rfl,l,g⟩
 ·have o:∀W:MV,(Instr.lookup 141 (N4 S) (Q I v) Mk).run MT W=.ok (Nn #[M1 #[],M0 Md]) W:=λW=>Maps.look_nil (w:=W) Mk Bh oi (Jl W) f;rw[k];go_enter S5,ntmps106;go_wp2;go_ret;exact⟨rfl,((MU _ w).alloc (MP _) _).alloc (by simp) _⟩
 ·have m:=A (g v d);clear g;go_enter S5,ntmps106;go_wp2_with (first|(at_lookup;refine wpList_lookup_own_unit _ rfl _ _ 141 rfl 3 242 Bh oi (Jl _) b n D rfl (l.alloc _) _ _ rfl f ?_))
  go_ret;exact⟨by rw[<-m.o];rfl,((MU _ w).alloc (MP _) _).alloc (by simp) _⟩
theorem wu(a:Int)(c:Ma)(d:Int->Bool)(v:Int)(w:MV)(h:gT w c d)(i:(Ny I v).wf=Mk):Mo MT 122 #[M1 #[Q I a,c],Q I v] w λe j=>e=MZ (M0 (v==a||d v))/\Mb w.heap.size w j:=by
 have f:Mb w.heap.size w (w.alloc (MY #[Q I a,c] 143)):=(MU _ w).alloc (MP _) _;have C:=A (nW a c d v _ (h.aD f) i);have m:c.oneCell'=true:=by rcases h with⟨rfl,_⟩|⟨b,n,D,rfl,_⟩<;>rfl
 have g:=A f;by_cases k:v=a
 ·subst k;rw[show(v==v)=Mk from by simp,TA];go_enter S6,ntmps122;go_wp2_with fail
  go_ret;exact⟨rfl,g.o⟩
 ·go_enter S6,ntmps122;go_wp2_with fail
  refine C.o.mono ?_;rintro e o ⟨rfl,l⟩;go_wp2_with fail
  go_ret;exact⟨rfl,g.o.trans (l.mono (by simp))⟩
end
structure Fr where
 to:ByteArray
 fr:ByteArray
 tagged:Bool
 vlan:Int
 mark:Int
 ty:ByteArray
 rest:ByteArray
structure Pg where
 port:Int
 data:ByteArray
 f:Fr
 pb:ByteArray
 ph:Int
 pt:Int
 right:Bool
 routed:Bool
def dS(f:Fr):Array Value:=#[MS f.to,MS f.fr,M0 f.tagged,Q I f.vlan,Q I f.mark,MS f.ty,MS f.rest]
def en(p:Pg)(a:Ma):Array Value:=#[Q I p.port,MS p.data,MS p.f.to,MS p.f.fr,M0 p.f.tagged,Q I p.f.vlan,Q I p.f.mark,MS p.f.ty,MS p.f.rest,MS p.pb,Q I p.ph,Q I p.pt,M0 p.right,M0 p.routed,a]
def cJ(w:MV)(g:Nat)(p:Pg)(a:Ma):Prop:=w.heap[g]?=N (MY (en p a) 150 (0,0))
theorem cJ.cell{p:Pg}{a:Ma}(h:cJ w g p a){i:Nat}(b:(en p a)[i]?=N v):w.cell? ⟨g,i,S⟩=N v:=by
 unfold cJ at h;simp[M7,h,b]
theorem cJ.frozen{p:Pg}{a:Ma}(h:cJ w g p a)(i:Nat):w.frozen? ⟨g,i,S⟩=false:=by
 unfold cJ at h;unfold Nz;simp only[h];rfl
theorem cJ.lt{p:Pg}{a:Ma}(h:cJ w g p a):g<w.heap.size:=MO (h.cell (i:=0) rfl)
theorem cJ.aD{p:Pg}{b:Ma}(h:cJ w g p b)(c:Mb w.heap.size w a):cJ a g p b:=(c.block g h.lt).trans h
theorem cJ.set{p q:Pg}{a ov':Ma}(h:cJ w g p a)(i:Nat)(v:Ma)(e:(en p a).setIfInBounds i v=en q ov'):cJ (w.setCell ⟨g,i,S⟩ v) g q ov':=by
 unfold cJ at*;rw[Mn w g i _ _ v h,e]
def eM(w:MV)(d:Ma)(P:List b7):Prop:=
 ∃(a:Option Addr) (e b:Nat),d=MR a P.length e/\∀j (h:j<P.length),a=N ⟨b,0,S⟩/\w.cell? ⟨b,j*2,S⟩=N (Q I P[j].nat)/\∃c,w.cell? ⟨b,j*2+1,S⟩=N c/\gT w c P[j].tg
theorem eM.aD{d:MV}{f:Ma}{P:List b7}(h:eM w f P)(c:Mb w.heap.size w d):eM d f P:=by
 obtain⟨a,g,b,e,i⟩:=h;refine⟨a,g,b,e,λj k=>?_⟩;obtain⟨l,m,n,o,p⟩:=i j k;exact⟨l,MW c m,n,MW c o,p.aD c⟩
theorem kJ(s:Nat)(c:Ma)(P:List b7)(q:Int)(w:MV)(i:w.cell? ⟨s,0,S⟩=N c)(d:eM w c P):Mo MT 65 #[MQ (N ⟨s,0,S⟩),Q I q] w λe f=>e=MZ (M0 (decide (0<=q)&&decide (q<P.length)))/\f=w:=by
 obtain⟨a,j,b,rfl,_⟩:=d;by_cases h:0<=q
 ·have g:decide (0<=q)=true:=decide_eq_true h;go_enter Td,ntmps65;go_wp2;go_ret;exact⟨by simp[h],rfl⟩
 ·have g:decide (0<=q)=false:=decide_eq_false h;go_enter Td,ntmps65;go_wp2;go_ret;exact⟨by simp,rfl⟩
theorem Ez(s g:Nat)(a:Ma)(P:List b7)(p:Pg)(d:Ma)(w:MV)(f:w.cell? ⟨s,0,S⟩=N a)(b:eM w a P)(c:cJ w g p d):Mo MT 56 #[MQ (N ⟨s,0,S⟩),MQ (N ⟨g,0,S⟩)] w λe h=>e=MZ (Q I (if decide (0<=p.port)&&decide (p.port<P.length)then -1 else 9))/\h=w:=by
 have C:=A (kJ s a P p.port w f b);have j:w.cell? ⟨g,0,S⟩=N (Q I p.port):=c.cell rfl;generalize(decide (0<=p.port)&&decide (p.port<P.length))=i at*;clear c b;go_enter func56,ntmps56;go_wp2_with fail
 refine C.o.mono ?_;rintro e k ⟨rfl,rfl⟩;cases i
 ·go_wp2;go_ret;exact⟨rfl,rfl⟩
 ·go_wp2;go_ret;exact⟨rfl,rfl⟩
theorem yu(g n b:Nat)(a:Option Addr)(p:Pg)(w:MV)(c:cJ w g p (MR a n b)):Mo MT 103 #[MQ (N ⟨g,0,S⟩)] w λe f=>e=MZ (Q I (if n=0 then 8 else 0))/\f=w:=by
 have h:w.cell? ⟨g,14,S⟩=N (MR a n b):=c.cell rfl;clear c;by_cases d:n=0
 ·subst d;go_enter S7,ntmps103;go_wp2;go_ret;exact⟨rfl,rfl⟩
 ·rw[if_neg d];have i:¬(n:Int)=0:=O;go_enter S7,ntmps103;go_wp2;go_ret;exact⟨rfl,rfl⟩
theorem zu:ByteArray.empty.toList=[]:=by rw[No];rfl
def dH(b:ByteArray):Bool:=if h:0<b.size then b[0].toNat%2==1 else Md
theorem JZ:∀n,n<256->(bits BinOp.and IntKind.u8 (n:Nat) 1==1)=(n%2==1):=US
theorem qv(b:ByteArray)(w:MV):Mo MT 105 #[MS b] w λe d=>e=MZ (M0 (dH b))/\d=w:=by
 by_cases h:0<b.size
 ·have f:¬b.toList=[]:=by
   intro e;have g:b=ByteArray.empty:=jo (by rw[e,zu]);rw[g]at h;exact absurd h US
  have i:b.toList.isEmpty=false:=by
   rw[<-NB,List.isEmpty_iff];exact f
  have c:=JZ b[0].toNat b[0].toNat_lt;have a:dH b=(b[0].toNat%2==1):=by rw[dH,dif_pos h]
  rw[a,<-c];have j:=A i;clear c a;go_enter S8,ntmps105;go_wp2;go_ret;exact⟨by simp,rfl⟩
 ·have e:b=ByteArray.empty:=by
   apply ByteArray.ext;exact Array.eq_empty_of_size_eq_zero (by simpa using h)
  subst e;have a:dH ByteArray.empty=false:=rfl;rw[a];have k:ByteArray.empty.toList=[]:=zu;go_enter S8,ntmps105;go_wp2;go_ret;exact⟨rfl,rfl⟩
section
def kG(t p b:ByteArray):Int:=if t.toList==b.toList then 1 else if p.toList==b.toList then 2 else 0
theorem Le(t p:ByteArray)(a c:Int)(w:MV):(Instr.index 327 (M1 #[MS t,Q I a,MS p,Q I c]) (Q I 0)).run MT w=.ok (M1 #[MS t,Q I a]) w:=UR
theorem Ld(t p:ByteArray)(a c:Int)(w:MV):(Instr.index 327 (M1 #[MS t,Q I a,MS p,Q I c]) (Q I 1)).run MT w=.ok (M1 #[MS p,Q I c]) w:=UR
attribute [local go_sem] Le Ld
theorem Bg(b t p:ByteArray)(w:MV)(n:w.cell? ⟨1,0,S⟩=N (MS t))(o:w.cell? ⟨1,1,S⟩=N (Q I 1))(q:w.cell? ⟨1,2,S⟩=N (MS p))(r:w.cell? ⟨1,3,S⟩=N (Q I 2)):Mo MT 168 #[MS b] w λe l=>e=MZ (Q I (kG t p b))/\Mb w.heap.size w l:=by
 go_enter func168,ntmps168;go_wp2;go_loopw [6] (λi wr=>∃k:Nat,k<=2/\i=Q I k/\(1<=k->(t.toList==b.toList)=Md)/\(2<=k->(p.toList==b.toList)=Md)/\Mb w.heap.size w wr) (λi _=>2- (N1 i).toNat)
 case atStart=>exact⟨0,O,rfl,λh=>O,λh=>O,MU _ _⟩
 case round=>
  obtain⟨k,a,rfl,g,m,c⟩:=hrel;match k,a with
  |0,_=>
   by_cases d:(t.toList==b.toList)=Mk
   ·have a:kG t p b=1:=by rw[kG,d];rfl
    have f:=A a;clear a;go_wp2;go_ret;exact⟨by rw[f.o];rfl,c.alloc c.size _⟩
   ·rw[NB]at d;go_wp2;go_roundw
    case rel=>exact⟨1,O,rfl,λ_=>d,λh=>O,c.alloc c.size _⟩
    case measure=>simp[N1]
  |1,_=>
   have j:=g O;by_cases d:(p.toList==b.toList)=Mk
   ·have a:kG t p b=2:=by rw[kG,j,d];rfl
    have f:=A a;clear a;go_wp2;go_ret;exact⟨by rw[f.o];rfl,c.alloc c.size _⟩
   ·rw[NB]at d;go_wp2;go_roundw
    case rel=>exact⟨2,O,rfl,λ_=>j,λ_=>d,c.alloc c.size _⟩
    case measure=>simp[N1]
  |2,_=>
   have a:kG t p b=0:=by rw[kG,g O,m O];rfl
   have f:=A a;clear a;go_wp2;go_ret;exact⟨by rw[f.o];rfl,c⟩
end
def nz(b:ByteArray)(h:b.size=2):Int:=bits BinOp.or I (QR (QR ((b[0]'O).toNat:Nat)*256)) (QR ((b[1]'O).toNat:Nat))
theorem yP(f:Nat)(b:ByteArray)(w:MV)(a:b.size=2)(g:Bool)(v k:Int)(d:w.cell? ⟨f,2,S⟩=N (M0 g))(h:w.cell? ⟨f,3,S⟩=N (Q I v))(i:w.cell? ⟨f,4,S⟩=N (Q I k))(l:∀j,w.frozen? ⟨f,j,S⟩=Md):Mo MT 169 #[MQ (N ⟨f,0,S⟩),MS b] w λe c=>e=MZ (Nn #[])/\∃n,c=(((w.setCell ⟨f,2,S⟩ (M0 Mk)).setCell ⟨f,3,S⟩ (Q I (bits BinOp.and I (nz b a) 4095))).setCell ⟨f,4,S⟩ (Q I (nz b a/4096))).drewN n:=by
 have m:(0:Int)<b.size:=O;have o:(1:Int)<b.size:=O;have p:0<b.size:=O;have q:1<b.size:=O;go_enter func169,ntmps169;go_wp2;go_region_with fail
 all_goals go_wp2
 all_goals go_end0
 all_goals first|exact⟨rfl,1,rfl⟩|exact⟨rfl,0,rfl⟩|exact⟨rfl,2,rfl⟩
theorem nn(n:Nat)(h:n<9223372036854775808):QR (n:Int)=n:=by unfold QR;omega
theorem Dq(b:ByteArray)(h:b.size=2):nz b h=(((b[0]'O).toNat*256+(b[1]'O).toNat:Nat):Int):=by
 have a:=(b[0]'O).toNat_lt;have c:=(b[1]'O).toNat_lt;unfold nz;generalize(b[0]'O).toNat=x at*;generalize(b[1]'O).toNat=y at*;rw[nn x O,nn y O];have e:(x:Int)*256=((x*256:Nat):Int):=O;rw[e,nn _ O,ik _ _ O O];congr 1;have:=Nat.shiftLeft_add_eq_or_of_lt (i:=8) (b:=y) O x;rw[Nat.shiftLeft_eq]at this;exact this.symm
theorem Ja(n:Nat)(h:n<65536):bits BinOp.and I (n:Int) 4095=((n%4096:Nat):Int):=by
 have:=gx n 4095 O O;rw[show((4095:Nat):Int)=4095 from rfl]at this;rw[this];congr 1;exact Nat.and_two_pow_sub_one_eq_mod n 12
section
attribute [local go_sem] aI
def dn(g:Nat)(w a:MV):Prop:=a.os=w.os/\a.tape=w.tape/\a.output=w.output/\w.heap.size<=a.heap.size/\∀b,b<w.heap.size->b≠g->a.heap[b]?=w.heap[b]?
theorem dn.aG(h:Mb w.heap.size w a):dn g w a:=⟨h.os,h.tape,h.output,h.size,λb c _=>h.block b c⟩
theorem dn.trans{b:MV}(h:dn g a b)(k:dn g b c):dn g a c:=
 ⟨k.1.trans h.1,k.2.1.trans h.2.1,k.2.2.1.trans h.2.2.1,Nat.le_trans h.2.2.2.1 k.2.2.2.1,λx d e=>(k.2.2.2.2 x (Nat.lt_of_lt_of_le d h.2.2.2.1) e).trans (h.2.2.2.2 x d e)⟩
theorem dn.set(h:dn g w a)(i:Nat)(v:Ma):dn g w (a.setCell ⟨g,i,S⟩ v):=
 ⟨h.1,h.2.1,h.2.2.1,by simp;exact h.2.2.2.1,λb d c=>(NE _ _ b _ c).trans (h.2.2.2.2 b d c)⟩
theorem dn.drewN(h:dn g w a)(n:Nat):dn g w (a.drewN n):=h.trans (dn.aG (UN (MU _ _) n))
theorem cJ.drewN{p:Pg}{a:Ma}(h:cJ w g p a)(n:Nat):cJ (w.drewN n) g p a:=h.aD (UN (MU _ _) n)
def eV(p:b7)(f:Fr):Int:=if f.tagged then f.vlan else p.nat
def cG(p:b7)(f:Fr):Bool:=eV p f==0||(f.tagged&&!p.tg (eV p f))
theorem FJ(s g:Nat)(W:Ma)(P:List b7)(p:Pg)(L:Ma)(k:Nat)(w:MV)(X:w.cell? ⟨s,0,S⟩=N W)(hp:eM w W P)(t:cJ w g p L)(hk:k<P.length)(Y:p.port=k)(_hsg:s≠g)(b0:(Ny I p.f.vlan).wf=Mk)(_hw2:(Ny I (P[k]).nat).wf=Mk):Mo MT 58 #[MQ (N ⟨s,0,S⟩),MQ (N ⟨g,0,S⟩)] w λe Z=>e=MZ (Q I (if cG (P[k]) p.f then 3 else -1))/\cJ Z g {p with f:={p.f with vlan:=eV (P[k]) p.f}} L/\dn g w Z:=by
 obtain⟨a,c4,b,rfl,hc⟩:=hp;obtain⟨rfl,n0,mv,n1,M⟩:=hc k hk;have g0:w.cell? ⟨g,0,S⟩=N (Q I k):=by rw[<-Y];exact t.cell rfl
 have c5:=t.lt;have c6:=MO X;have c7:=MO n0;have c8:(k:Int)<P.length:=O;generalize b4:P[k]=c at*;clear hc b4;obtain⟨u,rfl⟩:∃u,mv=N4 u:=by rcases M with⟨rfl,_⟩|⟨b,n,D,rfl,_⟩<;>exact⟨_,rfl⟩
 obtain⟨B,R⟩:=UX (if cG c p.f then 3 else -1:Int);obtain⟨C,T⟩:=UX (eV c p.f:Int);rw[<-R,<-T];have E:=A R;have F:=A T;have U:=A t;have HT:=A M;clear R T Y;have d4:w.cell? ⟨g,4,S⟩=N (M0 p.f.tagged):=t.cell rfl;have d5:w.cell? ⟨g,5,S⟩=N (Q I p.f.vlan):=t.cell rfl;clear t M;go_enter func58,ntmps58;go_wp2;go_region
 obtain⟨i,z⟩:=UX ((w.alloc (MY #[Q I c.nat,N4 u] 143)).drew);rw[<-z];have q:Mb w.heap.size w i:=by rw[z];exact((MU _ w).alloc (MP _) _).drew
 have b5:i.heap.size=w.heap.size+1:=by rw[z];simp
 have V:i.heap[w.heap.size]?=N (MY #[Q I c.nat,N4 u] 143 (0,0)):=by rw[z];exact Ng w _
 have p0:i.cell? ⟨w.heap.size,0,S⟩=N (Q I c.nat):=by simp[M7,V]
 have p1:i.cell? ⟨w.heap.size,1,S⟩=N (N4 u):=by simp[M7,V]
 have e4:=MW q d4;have e5:=MW q d5;have f5:i.frozen? ⟨g,5,S⟩=false:=(U.o.aD q).frozen 5;have a6:=A q;have G:=A (U.o.aD q);have b6:=A (HT.o.aD q);have d3:¬g=w.heap.size:=O;have d6:¬w.heap.size=g:=O;have e0:g<i.heap.size:=O;have e1:w.heap.size<i.heap.size:=O;clear z V q d4 d5 g0 X n0 n1 U HT b5;cases j:p.f.tagged with
 |false=>
  rw[j]at e4;obtain rfl:C=c.nat:=by rw[F.o];unfold eV;rw[j];rfl
  have l:aA (B=if(c.nat==0)=Mk then 3 else -1):=A (by rw[E.o];unfold cG eV;rw[j];simp);obtain⟨v,H⟩:=UX (i.setCell ⟨g,5,S⟩ (Q I c.nat));have J:aA (cJ v g {p with f:={p.f with vlan:=c.nat}} L):=A (H▸G.o.set 5 _ rfl);have q4:v.cell? ⟨g,4,S⟩=N (M0 Md):=by rw[<-j];exact J.o.cell rfl
  have q5:v.cell? ⟨g,5,S⟩=N (Q I c.nat):=J.o.cell rfl;have x:aA (dn g w v):=A (H▸(dn.aG a6.o).set 5 _);have b9:=A H;clear j E F H;go_wp2;rw[<-b9.o];by_cases m:c.nat=0
  ·have r:(c.nat==0)=true:=by simpa using m
   have h:=l.o;rw[r]at h;have o:=A h;clear h m l;go_quiet (fail)
   go_wp2;go_ret;exact⟨by rw[o.o];rfl,J.o.drewN _,x.o.drewN _⟩
  ·have r:(c.nat==0)=false:=by simpa using m
   have h:=l.o;rw[r]at h;have o:=A h;clear h m l;go_quiet (fail)
   go_wp2;go_ret;exact⟨by rw[o.o];rfl,J.o.drewN _,x.o.drewN _⟩
 |true=>
  rw[j]at e4;obtain rfl:C=p.f.vlan:=by rw[F.o];unfold eV;rw[j];rfl
  have l:aA (B=if(p.f.vlan==0||!c.tg p.f.vlan)=Mk then 3 else -1):=A (by rw[E.o];unfold cG eV;rw[j];simp);have CT:=A λ(d:Nat) (os:Array Obj)=>nW c.nat (N4 u) c.tg p.f.vlan (Go.Sort.grow (redrawn i d) os) (b6.o.aD (below_regrown i d os)) b0;have x:aA (dn g w i):=A (dn.aG a6.o);clear j E F;by_cases m:p.f.vlan=0
  ·have r:(p.f.vlan==0)=true:=by simpa using m
   have h:=l.o;rw[r,TA]at h;have o:=A h;clear h m l;go_wp2;go_quiet (fail)
   go_wp2;go_ret;exact⟨by rw[o.o];rfl,G.o.drewN _,x.o.drewN _⟩
  ·have r:(p.f.vlan==0)=false:=by simpa using m
   have h:=l.o;rw[r,Ur]at h;have o:=A h;clear h m l;go_wp2;refine wp_region_quiet_below UR UR ?_
   repeat(first|go_big_quiet_skip|quiet_step (exact Calls.regrown_of (CT.o _ _)))
   refine wpQuiet_nil ?_;intro wq y;replace y:=aE y;obtain⟨c1,c2⟩:=aW y;have e7:=y.size;have K:=A y;clear c1 c2 y;generalize c.tg p.f.vlan=ok at*;cases ok
   ·go_wp2;go_ret;exact⟨by rw[o.o];rfl,G.o.aD K.o,x.o.trans (dn.aG K.o)⟩
   ·go_wp2;go_ret;exact⟨by rw[o.o];rfl,G.o.aD K.o,x.o.trans (dn.aG K.o)⟩
end
def kM(f:Nat)(b:Array Ma)(c d:MV->Prop)(g:Int->MV->Prop):Prop:=
 ∀W,c W->Mo MT f b W λe a=>∃r:Int,e=MZ (Q I r)/\((r= -1/\d a)\/(r≠ -1/\g r a))
def cV(s:Nat):Array Value:=#[Nm (OO 56) #[MQ (N ⟨s,0,S⟩)] #[],Nm (OO 57) #[] #[],Nm (OO 58) #[MQ (N ⟨s,0,S⟩)] #[],Nm (OO 59) #[MQ (N ⟨s,0,S⟩)] #[],Nm (OO 60) #[] #[],Nm (OO 61) #[MQ (N ⟨s,0,S⟩)] #[],Nm (OO 62) #[MQ (N ⟨s,0,S⟩)] #[],Nm (OO 63) #[MQ (N ⟨s,0,S⟩)] #[]]
theorem GG(s g j:Nat)(f:Nat->MV->Prop)(l:Int->MV->Prop)(w:MV)(D:f 0 w)(h:∀i W,f i W->W.heap[j]?=N (MY (cV s) 217 (0,0)))(m:kM 56 #[MQ (N ⟨s,0,S⟩),MQ (N ⟨g,0,S⟩)] (f 0) (f 1) l)(n:kM 57 #[MQ (N ⟨g,0,S⟩)] (f 1) (f 2) l)(o:kM 58 #[MQ (N ⟨s,0,S⟩),MQ (N ⟨g,0,S⟩)] (f 2) (f 3) l)(p:kM 59 #[MQ (N ⟨s,0,S⟩),MQ (N ⟨g,0,S⟩)] (f 3) (f 4) l)(q:kM 60 #[MQ (N ⟨g,0,S⟩)] (f 4) (f 5) l)(t:kM 61 #[MQ (N ⟨s,0,S⟩),MQ (N ⟨g,0,S⟩)] (f 5) (f 6) l)(u:kM 62 #[MQ (N ⟨s,0,S⟩),MQ (N ⟨g,0,S⟩)] (f 6) (f 7) l)(v:kM 63 #[MQ (N ⟨s,0,S⟩),MQ (N ⟨g,0,S⟩)] (f 7) (f 8) l)(x:∀W,f 8 W->Mo MT 103 #[MQ (N ⟨g,0,S⟩)] W λe y=>∃r:Int,e=MZ (Q I r)/\l r y):Mo MT 55 #[MQ (N ⟨g,0,S⟩),MR (N ⟨j,0,S⟩) 8 8] w λe E=>∃r:Int,e=MZ (Q I r)/\l r E:=by
 go_enter func55,ntmps55;go_wp2;go_loopw [10] (λi wr=>∃k:Nat,k<=8/\i=Q I k/\aA (f k wr)) (λi _=>8- (N1 i).toNat)
 case atStart=>exact⟨0,O,rfl,A D⟩
 case round=>
  obtain⟨k,F,rfl,b⟩:=hrel;match k,F,b with
  |0,_,b=>
   have z:wr.cell? ⟨j,0,S⟩=N (Nm (OO 56) #[MQ (N ⟨s,0,S⟩)] #[]):=by simp[M7,h _ _ b.o,cV]
   have C:=A (m wr b.o);clear h m n o p q t u v x;go_wp2_with fail
   refine C.o.mono ?_;rintro e y ⟨r,rfl,⟨rfl,d⟩|⟨B,c⟩⟩
   ·have a:=A d;clear d C;go_wp2;go_roundw
    case rel=>exact⟨1,O,rfl,a⟩
    case measure=>simp[N1]
   ·have a:=A c;clear c C;go_wp2;go_ret;exact⟨r,rfl,a.o⟩
  |1,_,b=>
   have z:wr.cell? ⟨j,1,S⟩=N (Nm (OO 57) #[] #[]):=by simp[M7,h _ _ b.o,cV]
   have C:=A (n wr b.o);clear h m n o p q t u v x;go_wp2_with fail
   refine C.o.mono ?_;rintro e y ⟨r,rfl,⟨rfl,d⟩|⟨B,c⟩⟩
   ·have a:=A d;clear d C;go_wp2;go_roundw
    case rel=>exact⟨2,O,rfl,a⟩
    case measure=>simp[N1]
   ·have a:=A c;clear c C;go_wp2;go_ret;exact⟨r,rfl,a.o⟩
  |2,_,b=>
   have z:wr.cell? ⟨j,2,S⟩=N (Nm (OO 58) #[MQ (N ⟨s,0,S⟩)] #[]):=by simp[M7,h _ _ b.o,cV]
   have C:=A (o wr b.o);clear h m n o p q t u v x;go_wp2_with fail
   refine C.o.mono ?_;rintro e y ⟨r,rfl,⟨rfl,d⟩|⟨B,c⟩⟩
   ·have a:=A d;clear d C;go_wp2;go_roundw
    case rel=>exact⟨3,O,rfl,a⟩
    case measure=>simp[N1]
   ·have a:=A c;clear c C;go_wp2;go_ret;exact⟨r,rfl,a.o⟩
  |3,_,b=>
   have z:wr.cell? ⟨j,3,S⟩=N (Nm (OO 59) #[MQ (N ⟨s,0,S⟩)] #[]):=by simp[M7,h _ _ b.o,cV]
   have C:=A (p wr b.o);clear h m n o p q t u v x;go_wp2_with fail
   refine C.o.mono ?_;rintro e y ⟨r,rfl,⟨rfl,d⟩|⟨B,c⟩⟩
   ·have a:=A d;clear d C;go_wp2;go_roundw
    case rel=>exact⟨4,O,rfl,a⟩
    case measure=>simp[N1]
   ·have a:=A c;clear c C;go_wp2;go_ret;exact⟨r,rfl,a.o⟩
  |4,_,b=>
   have z:wr.cell? ⟨j,4,S⟩=N (Nm (OO 60) #[] #[]):=by simp[M7,h _ _ b.o,cV]
   have C:=A (q wr b.o);clear h m n o p q t u v x;go_wp2_with fail
   refine C.o.mono ?_;rintro e y ⟨r,rfl,⟨rfl,d⟩|⟨B,c⟩⟩
   ·have a:=A d;clear d C;go_wp2;go_roundw
    case rel=>exact⟨5,O,rfl,a⟩
    case measure=>simp[N1]
   ·have a:=A c;clear c C;go_wp2;go_ret;exact⟨r,rfl,a.o⟩
  |5,_,b=>
   have z:wr.cell? ⟨j,5,S⟩=N (Nm (OO 61) #[MQ (N ⟨s,0,S⟩)] #[]):=by simp[M7,h _ _ b.o,cV]
   have C:=A (t wr b.o);clear h m n o p q t u v x;go_wp2_with fail
   refine C.o.mono ?_;rintro e y ⟨r,rfl,⟨rfl,d⟩|⟨B,c⟩⟩
   ·have a:=A d;clear d C;go_wp2;go_roundw
    case rel=>exact⟨6,O,rfl,a⟩
    case measure=>simp[N1]
   ·have a:=A c;clear c C;go_wp2;go_ret;exact⟨r,rfl,a.o⟩
  |6,_,b=>
   have z:wr.cell? ⟨j,6,S⟩=N (Nm (OO 62) #[MQ (N ⟨s,0,S⟩)] #[]):=by simp[M7,h _ _ b.o,cV]
   have C:=A (u wr b.o);clear h m n o p q t u v x;go_wp2_with fail
   refine C.o.mono ?_;rintro e y ⟨r,rfl,⟨rfl,d⟩|⟨B,c⟩⟩
   ·have a:=A d;clear d C;go_wp2;go_roundw
    case rel=>exact⟨7,O,rfl,a⟩
    case measure=>simp[N1]
   ·have a:=A c;clear c C;go_wp2;go_ret;exact⟨r,rfl,a.o⟩
  |7,_,b=>
   have z:wr.cell? ⟨j,7,S⟩=N (Nm (OO 63) #[MQ (N ⟨s,0,S⟩)] #[]):=by simp[M7,h _ _ b.o,cV]
   have C:=A (v wr b.o);clear h m n o p q t u v x;go_wp2_with fail
   refine C.o.mono ?_;rintro e y ⟨r,rfl,⟨rfl,d⟩|⟨B,c⟩⟩
   ·have a:=A d;clear d C;go_wp2;go_roundw
    case rel=>exact⟨8,O,rfl,a⟩
    case measure=>simp[N1]
   ·have a:=A c;clear c C;go_wp2;go_ret;exact⟨r,rfl,a.o⟩
  |8,_,b=>
   have C:=A (x wr b.o);clear h m n o p q t u v x;go_wp2_with fail
   refine C.o.mono ?_;rintro e y ⟨r,rfl,c⟩;have a:=A c;clear c C;go_wp2;go_ret;exact⟨r,rfl,a.o⟩
section
open Go.RowKit Go.Maps
def ir(w:MV)(v:Ma)(T:List Int):Prop:=
 ∃(a:Option Addr) (c b:Nat),v=MR a T.length c/\∀j (h:j<T.length),a=N ⟨b,0,S⟩/\w.cell? ⟨b,j,S⟩=N (Q I T[j])
theorem ir.aD(h:ir w v T)(g:Mb w.heap.size w c):ir c v T:=by
 obtain⟨a,i,b,e,d⟩:=h;exact⟨a,i,b,e,λj f=>⟨(d j f).1,MW g (d j f).2⟩⟩
def gF(T:List Int)(v:Int):Bool:=T.contains v
def js(v:Int):Bool:=bD 1 4094 v
theorem oJ(v:Int)(w:MV):Mo MT 121 #[Q I v] w λe a=>e=MZ (M0 (js v))/\Mb w.heap.size w a:=by
 have C:=A λ(W:MV)=>fL 1 4094 v W;go_enter func121,ntmps121;go_wp2_with fail
 refine(C.o _).mono ?_;rintro e c ⟨rfl,b⟩;go_wp2;go_ret;exact⟨rfl,b⟩
theorem oA{a:Array Ma}{W:MV}{x y:Ma}(c:W.heap[b]?=N (MY #[x,y] 143 (0,0)))(d:a.getD 4 undef=MQ (N ⟨b,0,S⟩)):(results UA a).run MT W=.ok (Nn #[M1 #[x,y],a.getD 5 undef]) W:=by
 rw[results_cell_tmp (fn:=UA) (p:=4) (u:=5) (ty:=143) rfl,d];have e:(prog.info? 143).map (·.size)=N (#[x,y]:Array Ma).size:=UR;simp[asAddr,run_loadVar_row W b 143 143 #[x,y] (0,0) _ c underlying143 rfl e,Result.andThen]
def eX(a:Int)(T:List Int)(k:Nat):Bool:=decide (∀j,j<k->∀h:j<T.length,(js T[j]&&!(T[j]==a||(T.take j).contains T[j]))=Mk)
theorem xl(a:Int)(T:List Int):eX a T 0=true:=by simp[eX]
theorem xm{a:Int}(h:eX a T k=Mk)(d:k<T.length):eX a T (k+1)=(js T[k]&&!(T[k]==a||(T.take k).contains T[k])):=by
 rw[eX,decide_eq_true_eq]at h;rw[Oq,eX,decide_eq_true_eq];constructor
 ·intro b;exact b k O d
 ·intro b j f e;rcases N8 j k with c|c
  ·exact h j c e
  ·obtain rfl:j=k:=by omega
   exact b
theorem m7{a:Int}(b:k<T.length)(h:(js T[k]&&!(T[k]==a||(T.take k).contains T[k]))=Md):eX a T T.length=false:=by
 rw[eX,decide_eq_false_iff_not];intro c;rw[c k b b]at h;cases h
def du(a:Int)(T:List Int):Bool:=(a==0||js a)&&eX a T T.length
structure fI (w:MV) (nat:Int) (T:List Int) (Bm Bp k:Nat) (wr:MV):Prop where
 ok:eX nat T k=Mk
 mp:∃D,wr.ownsMap (H:=Unit) MT 3 QT Bm k D/\Ut D/\∀v,(Ny I v).wf=Mk->Uk D (Ny I v)=(T.take k).contains v
 bp:wr.heap[Bp]?=N (MY #[Q I nat,N4 (N Bm)] 143 (0,0))
 b0:wr.heap[w.heap.size]?=N (MY #[Q I 0,N4 S] 143 (0,0))
 lo:Mb w.heap.size w wr
 hBm:w.heap.size<Bm
 hBp:Bm<Bp
theorem fI.LD{b:Int}{a c:Nat}(h:fI w b T a c k wr):gT wr (N4 (N a)) λv=>(T.take k).contains v:=by
 obtain⟨D,d,_,e⟩:=h.mp;exact .inr ⟨a,k,D,rfl,d,e⟩
theorem uO{n:Nat}(h:w.ownsMap (H:=Unit) MT 3 QT b n D)(d:Mb w.heap.size w a):a.ownsMap (H:=Unit) MT 3 QT b n D:=by
 obtain⟨e,f,c,g⟩:=h;have i:b<w.heap.size:=(Mu.1 c).1;exact⟨e,f,(d.block b i).trans c,g⟩
theorem fI.aD{d:Int}{e:Nat}(h:fI w d T e b k wr)(a:Mb wr.heap.size wr c):fI w d T e b k c:=by
 obtain⟨D,f,g,i⟩:=h.mp;have j:b<wr.heap.size:=(Mu.1 h.bp).1;have l:w.heap.size<wr.heap.size:=(Mu.1 h.b0).1;exact⟨h.ok,⟨D,uO f a,g,i⟩,(a.block _ j).trans h.bp,(a.block _ l).trans h.b0,h.lo.trans (a.mono h.lo.size),h.hBm,h.hBp⟩
theorem uJ(a:k<T.length)(v:Int):(T.take (k+1)).contains v=(v==T[k]||(T.take k).contains v):=by
 rw[List.take_succ_eq_append_getElem a,Oq];simp only[List.contains_iff_mem,List.mem_append,List.mem_singleton,Bool.or_eq_true,beq_iff_eq];exact Or.comm
theorem fI.put{b:MV}{c:Int}{a d:Nat}(h:fI w c T a d k wr)(g:Ut D)(l:∀v,(Ny I v).wf=Mk->Uk D (Ny I v)=(T.take k).contains v)(i:k<T.length)(m:(js T[k]&&!(T[k]==c||(T.take k).contains T[k]))=Mk)(n:b.ownsMap (H:=Unit) MT 3 QT a (k+1) (D.put (Ny I T[k]) (.agg [])))(f:wr.grownBy b (N a)):fI w c T a d (k+1) b:=by
 have o:d<wr.heap.size:=(Mu.1 h.bp).1;have p:w.heap.size<wr.heap.size:=(Mu.1 h.b0).1;have q:=h.hBm;have r:=h.hBp;refine⟨by rw[xm h.ok i];exact m,⟨_,n,g.put _ _,λv s=>?_⟩,(f.block _ o UU).trans h.bp,(f.block _ p UU).trans h.b0,h.lo.grown f h.lo.size (λj t=>by cases t;omega),q,r⟩;rw[uJ i];by_cases e:v=T[k]
 ·subst e;rw[has_put_same g (by simp[WideAt.IsKeyLit])];simp
 ·rw[has_put_other (λu=>e (by simpa using u)),l v s];have:(v==T[k])=false:=by simpa using e
  rw[this,Ur]
def MC(w:MV)(b:Int)(T:List Int)(e:Ending)(c:MV):Prop:=
 Mb w.heap.size w c/\if du b T then∃a,w.heap.size<=a/\e=MZ (Nn #[M1 #[Q I b,N4 (N a)],M0 Mk])/\gT c (N4 (N a)) (gF T)else e=MZ (Nn #[M1 #[Q I 0,N4 S],M0 Md])
theorem BE(c:Int)(T:List Int)(tv:Ma)(w:MV)(s:ir w tv T)(hw:∀t∈T,(Ny I t).wf=Mk)(hl:T.length<1000000000000):Mo MT 66 #[Q I c,tv] w (MC w c T):=by
 obtain⟨a,f4,b,rfl,hc⟩:=s;have C:=A oJ;have e3:=@run_makeMap MT;have E:=A hc;have F:=A hw;have d3:∀W:MV,Mb w.heap.size w W->W.heap[w.heap.size]?=N (MY #[Q I 0,N4 S] 143 (0,0))->(c==0||js c)=Mk->
   fI w c T W.heap.size (W.heap.size+1) 0 ((W.alloc (.map #[] 0)).alloc (MY #[Q I c,N4 (N W.heap.size)] 143)):=by
  intro W hB h0 _;have l2:w.heap.size<W.heap.size:=(Mu.1 h0).1;have bb:Mb W.heap.size W ((W.alloc (.map #[] 0)).alloc (MY #[Q I c,N4 (N W.heap.size)] 143)):=((MU _ W).alloc (MP _) _).alloc (by simp) _;refine⟨xl _ _,⟨.map [],(World.ownsMap_made W MT 3 QT).alloc _,?_,λv _=>by simp[Uk]⟩,?_,(bb.block _ l2).trans h0,hB.trans (bb.mono O),l2,O⟩
  ·exact⟨_,rfl⟩
  ·have:=Ng (W.alloc (.map #[] 0)) (MY #[Q I c,N4 (N W.heap.size)] 143);rwa[World.size_alloc]at this
 have HM:=A d3;clear hc hw d3;by_cases hz:c=0
 ·have hd:(c !=0)=false:=by simpa using hz
  have HP:=A (HM.o _ ((MU _ w).alloc (MP _) (MY #[Q I 0,N4 S] 143)) (Ng w _) (by simp[hz]));have PK:du c T=eX c T T.length:=by unfold du;simp[hz]
  have P:=A PK;clear PK HM hz;go_enter Rj,ntmps66;go_wp2;generalize hW:w.alloc (MY #[Q I 0,N4 S] 143)=W at*;have e1:W.heap.size=w.heap.size+1:=by rw[<-hW];simp
  try rw[<-e1]
  clear hW e1;go_loopw [22] (λi wr=>∃k:Nat,k<=T.length/\i=Q I k/\aA (fI w c T W.heap.size (W.heap.size+1) k wr)) (λi _=>T.length- (N1 i).toNat)
  case atStart=>exact⟨0,NG _,rfl,HP⟩
  case round=>
   obtain⟨k,hk,rfl,f⟩:=hrel;clear HP;by_cases G:k<T.length
   ·obtain⟨rfl,H⟩:=E.o k G;have b4:b<w.heap.size:=MO H;have e7:wr.cell? ⟨b,k,S⟩=N (Q I T[k]):=(f.o.lo.cell (p:=⟨b,k,S⟩) b4).trans H;have e8:(k:Int)<T.length:=O;have a8:=F.o T[k] (Ms G);have f0:b<wr.heap.size:=by have:=f.o.lo.size;omega
    have l:=A (C.o T[k] wr);cases m:js T[k]with
    |false=>
     have X:aA (eX c T T.length=Md):=A (m7 G (by rw[m];rfl));rw[m]at l;generalize T[k]=tk at*;clear C E F H m;go_wp2_with fail
     refine l.o.mono ?_;rintro e g ⟨rfl,n⟩;have q:=A (f.o.aD n);clear n l f;have d:=q.o.b0;have k0:g.cell? ⟨w.heap.size,0,S⟩=N (Q I 0):=by simp[M7,d]
     have k1:g.cell? ⟨w.heap.size,1,S⟩=N (N4 S):=by simp[M7,d]
     have kf:∀j,g.frozen? ⟨w.heap.size,j,S⟩=false:=λj=>by simp[Nz,d]
     have u:aA (Mb w.heap.size w ((g.setCell ⟨w.heap.size,0,S⟩ (Q I 0)).setCell ⟨w.heap.size,1,S⟩ (N4 S))):=A ((q.o.lo.setCell (by simp) _).setCell (by simp) _);have y:aA (((g.setCell ⟨w.heap.size,0,S⟩ (Q I 0)).setCell ⟨w.heap.size,1,S⟩ (N4 S)).heap[w.heap.size]?=N (MY #[Q I 0,N4 S] 143 (0,0))):=A ((Mn _ _ 1 _ _ _ (Mn _ _ 0 _ _ _ d)).trans (by simp));clear d q;go_wp2;refine NQ (oA y.o rfl) rfl ?_;exact⟨u.o,by rw[P.o,X.o];rfl⟩
    |true=>
     rw[m]at l;have z:=A λ(W2:MV) (h:fI w c T W.heap.size (W.heap.size+1) k W2)=>wu c (N4 (N W.heap.size)) (λv=>(T.take k).contains v) T[k] W2 h.LD a8;cases B:(T[k]==c||(T.take k).contains T[k])with
     |true=>
      have X:aA (eX c T T.length=Md):=A (m7 G (by rw[m,B];rfl));simp only[B]at z;generalize T[k]=tk at*;clear C E F H m B;go_wp2_with fail
      refine l.o.mono ?_;rintro e g ⟨rfl,n⟩;have h:=f.o.aD n;have R:g.cell? ⟨W.heap.size+1,0,S⟩=N (Q I c):=by simp[M7,h.bp]
      have U:g.cell? ⟨W.heap.size+1,1,S⟩=N (N4 (N W.heap.size)):=by simp[M7,h.bp]
      have J:=A (z.o g h);have K:=A h;clear n l z f h;go_wp2_with fail
      refine J.o.mono ?_;rintro e r ⟨rfl,L⟩;have q:=A (K.o.aD L);clear K L J R U;have d:=q.o.b0;have k0:r.cell? ⟨w.heap.size,0,S⟩=N (Q I 0):=by simp[M7,d]
      have k1:r.cell? ⟨w.heap.size,1,S⟩=N (N4 S):=by simp[M7,d]
      have kf:∀j,r.frozen? ⟨w.heap.size,j,S⟩=false:=λj=>by simp[Nz,d]
      have u:aA (Mb w.heap.size w ((r.setCell ⟨w.heap.size,0,S⟩ (Q I 0)).setCell ⟨w.heap.size,1,S⟩ (N4 S))):=A ((q.o.lo.setCell (by simp) _).setCell (by simp) _);have y:aA (((r.setCell ⟨w.heap.size,0,S⟩ (Q I 0)).setCell ⟨w.heap.size,1,S⟩ (N4 S)).heap[w.heap.size]?=N (MY #[Q I 0,N4 S] 143 (0,0))):=A ((Mn _ _ 1 _ _ _ (Mn _ _ 0 _ _ _ d)).trans (by simp));clear d q;go_wp2;refine NQ (oA y.o rfl) rfl ?_;exact⟨u.o,by rw[P.o,X.o];rfl⟩
     |false=>
      have b6:aA ((js T[k]&&!(T[k]==c||(T.take k).contains T[k]))=Mk):=A (by rw[m,B];rfl);simp only[B]at z;have b9:=Un Pv a8;clear C E F H m B;go_wp2_with fail
      refine l.o.mono ?_;rintro e g ⟨rfl,n⟩;have h:=f.o.aD n;have R:g.cell? ⟨W.heap.size+1,0,S⟩=N (Q I c):=by simp[M7,h.bp]
      have U:g.cell? ⟨W.heap.size+1,1,S⟩=N (N4 (N W.heap.size)):=by simp[M7,h.bp]
      have J:=A (z.o g h);have K:=A h;clear n l z f h;go_wp2_with fail
      refine J.o.mono ?_;rintro e r ⟨rfl,L⟩;have V:=K.o.aD L;have q1:r.cell? ⟨W.heap.size+1,1,S⟩=N (N4 (N W.heap.size)):=by simp[M7,V.bp]
      obtain⟨D,c1,hD,M⟩:=V.mp;have c2:=A V;have HD:=A hD;have HV:=A M;clear K L J R U V hD M;go_wp2_with (first|(at_mapUpdate;refine Sh _ rfl _ _ _ 141 rfl 3 242 Bh oi QT W.heap.size k D rfl c1 UT _ _ (Ny I T[k]) rfl rfl b9 (.agg []) [] UO ?_;intro w4 b1 b2))
      have HN:=A (c2.o.put HD.o HV.o G b6.o b1 b2);clear b1 b2;go_roundw
      case rel=>exact⟨k+1,O,by go_num,HN⟩
      case measure=>simp[N1];omega
   ·obtain rfl:k=T.length:=by omega
    have s:=f.o.LD;rw[NN (MP _)]at s;replace s:gT wr (N4 (N W.heap.size)) (gF T):=s;have d:=f.o.b0;have k0:wr.cell? ⟨w.heap.size,0,S⟩=N (Q I 0):=by simp[M7,d]
    have k1:wr.cell? ⟨w.heap.size,1,S⟩=N (N4 S):=by simp[M7,d]
    have kf:∀j,wr.frozen? ⟨w.heap.size,j,S⟩=false:=λj=>by simp[Nz,d]
    have R:wr.cell? ⟨W.heap.size+1,0,S⟩=N (Q I c):=by simp[M7,f.o.bp]
    have U:wr.cell? ⟨W.heap.size+1,1,S⟩=N (N4 (N W.heap.size)):=by simp[M7,f.o.bp]
    have u:aA (Mb w.heap.size w ((wr.setCell ⟨w.heap.size,0,S⟩ (Q I c)).setCell ⟨w.heap.size,1,S⟩ (N4 (N W.heap.size)))):=A ((f.o.lo.setCell (by simp) _).setCell (by simp) _);have y:aA (((wr.setCell ⟨w.heap.size,0,S⟩ (Q I c)).setCell ⟨w.heap.size,1,S⟩ (N4 (N W.heap.size))).heap[w.heap.size]?=N (MY #[Q I c,N4 (N W.heap.size)] 143 (0,0))):=A ((Mn _ _ 1 _ _ _ (Mn _ _ 0 _ _ _ d)).trans (by simp));have c6:=A f.o.hBm;have c7:=A f.o.ok;have HT:aA (gT ((wr.setCell ⟨w.heap.size,0,S⟩ (Q I c)).setCell ⟨w.heap.size,1,S⟩ (N4 (N W.heap.size))) (N4 (N W.heap.size)) (gF T)):=A (s.same λx o Y c9=>by
     have hx:x≠w.heap.size:=by rintro rfl;rw[d]at Y;cases Y;cases c9
     exact((NE _ _ _ _ hx).trans (NE _ _ _ _ hx)).trans Y)
    clear d s f E F C;go_wp2;refine NQ (oA y.o rfl) rfl ?_;refine⟨u.o,?_⟩;rw[P.o,c7.o];exact⟨_,QU c6.o,rfl,HT.o⟩
 ·have hd:(c !=0)=true:=by simpa using hz
  cases M:js c with
  |false=>
   have P:aA (du c T=Md):=A (by unfold du;rw[M];simp[hz]);go_enter Rj,ntmps66;go_wp2_with fail
   refine(C.o _ _).mono ?_;rintro e w1 ⟨rfl,Z⟩;rw[M];have d:w1.heap[w.heap.size]?=N (MY #[Q I 0,N4 S] 143 (0,0)):=(Z.block _ (by simp)).trans (Ng w _);have k0:w1.cell? ⟨w.heap.size,0,S⟩=N (Q I 0):=by simp[M7,d]
   have k1:w1.cell? ⟨w.heap.size,1,S⟩=N (N4 S):=by simp[M7,d]
   have kf:∀j,w1.frozen? ⟨w.heap.size,j,S⟩=false:=λj=>by simp[Nz,d]
   have u:aA (Mb w.heap.size w ((w1.setCell ⟨w.heap.size,0,S⟩ (Q I 0)).setCell ⟨w.heap.size,1,S⟩ (N4 S))):=A (((((MU _ w).alloc (MP _) _).trans (Z.mono (by simp))).setCell (by simp) _).setCell (by simp) _);have y:aA (((w1.setCell ⟨w.heap.size,0,S⟩ (Q I 0)).setCell ⟨w.heap.size,1,S⟩ (N4 S)).heap[w.heap.size]?=N (MY #[Q I 0,N4 S] 143 (0,0))):=A ((Mn _ _ 1 _ _ _ (Mn _ _ 0 _ _ _ d)).trans (by simp));clear d Z HM E F e3;go_wp2;refine NQ (oA y.o rfl) rfl ?_;exact⟨u.o,by rw[P.o];rfl⟩
  |true=>
   go_enter Rj,ntmps66;go_wp2_with fail
   refine(C.o _ _).mono ?_;rintro e W ⟨rfl,Z⟩;rw[M];have e2:Mb w.heap.size w W:=((MU _ w).alloc (MP _) _).trans (Z.mono (by simp));have HP:=A (HM.o _ e2 ((Z.block _ (by simp)).trans (Ng w _)) (by rw[M];simp));have PK:du c T=eX c T T.length:=by unfold du;rw[M];simp
   have P:=A PK;clear PK HM e2 Z;go_wp2;go_loopw [22] (λi wr=>∃k:Nat,k<=T.length/\i=Q I k/\aA (fI w c T W.heap.size (W.heap.size+1) k wr)) (λi _=>T.length- (N1 i).toNat)
   case atStart=>exact⟨0,NG _,rfl,HP⟩
   case round=>
    obtain⟨k,hk,rfl,f⟩:=hrel;clear HP;by_cases G:k<T.length
    ·obtain⟨rfl,H⟩:=E.o k G;have b4:b<w.heap.size:=MO H;have e7:wr.cell? ⟨b,k,S⟩=N (Q I T[k]):=(f.o.lo.cell (p:=⟨b,k,S⟩) b4).trans H;have e8:(k:Int)<T.length:=O;have a8:=F.o T[k] (Ms G);have f0:b<wr.heap.size:=by have:=f.o.lo.size;omega
     have l:=A (C.o T[k] wr);cases m:js T[k]with
     |false=>
      have X:aA (eX c T T.length=Md):=A (m7 G (by rw[m];rfl));rw[m]at l;generalize T[k]=tk at*;clear C E F H m;go_wp2_with fail
      refine l.o.mono ?_;rintro e g ⟨rfl,n⟩;have q:=A (f.o.aD n);clear n l f;have d:=q.o.b0;have k0:g.cell? ⟨w.heap.size,0,S⟩=N (Q I 0):=by simp[M7,d]
      have k1:g.cell? ⟨w.heap.size,1,S⟩=N (N4 S):=by simp[M7,d]
      have kf:∀j,g.frozen? ⟨w.heap.size,j,S⟩=false:=λj=>by simp[Nz,d]
      have u:aA (Mb w.heap.size w ((g.setCell ⟨w.heap.size,0,S⟩ (Q I 0)).setCell ⟨w.heap.size,1,S⟩ (N4 S))):=A ((q.o.lo.setCell (by simp) _).setCell (by simp) _);have y:aA (((g.setCell ⟨w.heap.size,0,S⟩ (Q I 0)).setCell ⟨w.heap.size,1,S⟩ (N4 S)).heap[w.heap.size]?=N (MY #[Q I 0,N4 S] 143 (0,0))):=A ((Mn _ _ 1 _ _ _ (Mn _ _ 0 _ _ _ d)).trans (by simp));clear d q;go_wp2;refine NQ (oA y.o rfl) rfl ?_;exact⟨u.o,by rw[P.o,X.o];rfl⟩
     |true=>
      rw[m]at l;have z:=A λ(W2:MV) (h:fI w c T W.heap.size (W.heap.size+1) k W2)=>wu c (N4 (N W.heap.size)) (λv=>(T.take k).contains v) T[k] W2 h.LD a8;cases B:(T[k]==c||(T.take k).contains T[k])with
      |true=>
       have X:aA (eX c T T.length=Md):=A (m7 G (by rw[m,B];rfl));simp only[B]at z;generalize T[k]=tk at*;clear C E F H m B;go_wp2_with fail
       refine l.o.mono ?_;rintro e g ⟨rfl,n⟩;have h:=f.o.aD n;have R:g.cell? ⟨W.heap.size+1,0,S⟩=N (Q I c):=by simp[M7,h.bp]
       have U:g.cell? ⟨W.heap.size+1,1,S⟩=N (N4 (N W.heap.size)):=by simp[M7,h.bp]
       have J:=A (z.o g h);have K:=A h;clear n l z f h;go_wp2_with fail
       refine J.o.mono ?_;rintro e r ⟨rfl,L⟩;have q:=A (K.o.aD L);clear K L J R U;have d:=q.o.b0;have k0:r.cell? ⟨w.heap.size,0,S⟩=N (Q I 0):=by simp[M7,d]
       have k1:r.cell? ⟨w.heap.size,1,S⟩=N (N4 S):=by simp[M7,d]
       have kf:∀j,r.frozen? ⟨w.heap.size,j,S⟩=false:=λj=>by simp[Nz,d]
       have u:aA (Mb w.heap.size w ((r.setCell ⟨w.heap.size,0,S⟩ (Q I 0)).setCell ⟨w.heap.size,1,S⟩ (N4 S))):=A ((q.o.lo.setCell (by simp) _).setCell (by simp) _);have y:aA (((r.setCell ⟨w.heap.size,0,S⟩ (Q I 0)).setCell ⟨w.heap.size,1,S⟩ (N4 S)).heap[w.heap.size]?=N (MY #[Q I 0,N4 S] 143 (0,0))):=A ((Mn _ _ 1 _ _ _ (Mn _ _ 0 _ _ _ d)).trans (by simp));clear d q;go_wp2;refine NQ (oA y.o rfl) rfl ?_;exact⟨u.o,by rw[P.o,X.o];rfl⟩
      |false=>
       have b6:aA ((js T[k]&&!(T[k]==c||(T.take k).contains T[k]))=Mk):=A (by rw[m,B];rfl);simp only[B]at z;have b9:=Un Pv a8;clear C E F H m B;go_wp2_with fail
       refine l.o.mono ?_;rintro e g ⟨rfl,n⟩;have h:=f.o.aD n;have R:g.cell? ⟨W.heap.size+1,0,S⟩=N (Q I c):=by simp[M7,h.bp]
       have U:g.cell? ⟨W.heap.size+1,1,S⟩=N (N4 (N W.heap.size)):=by simp[M7,h.bp]
       have J:=A (z.o g h);have K:=A h;clear n l z f h;go_wp2_with fail
       refine J.o.mono ?_;rintro e r ⟨rfl,L⟩;have V:=K.o.aD L;have q1:r.cell? ⟨W.heap.size+1,1,S⟩=N (N4 (N W.heap.size)):=by simp[M7,V.bp]
       obtain⟨D,c1,hD,M⟩:=V.mp;have c2:=A V;have HD:=A hD;have HV:=A M;clear K L J R U V hD M;go_wp2_with (first|(at_mapUpdate;refine Sh _ rfl _ _ _ 141 rfl 3 242 Bh oi QT W.heap.size k D rfl c1 UT _ _ (Ny I T[k]) rfl rfl b9 (.agg []) [] UO ?_;intro w4 b1 b2))
       have HN:=A (c2.o.put HD.o HV.o G b6.o b1 b2);clear b1 b2;go_roundw
       case rel=>exact⟨k+1,O,by go_num,HN⟩
       case measure=>simp[N1];omega
    ·obtain rfl:k=T.length:=by omega
     have s:=f.o.LD;rw[NN (MP _)]at s;replace s:gT wr (N4 (N W.heap.size)) (gF T):=s;have d:=f.o.b0;have k0:wr.cell? ⟨w.heap.size,0,S⟩=N (Q I 0):=by simp[M7,d]
     have k1:wr.cell? ⟨w.heap.size,1,S⟩=N (N4 S):=by simp[M7,d]
     have kf:∀j,wr.frozen? ⟨w.heap.size,j,S⟩=false:=λj=>by simp[Nz,d]
     have R:wr.cell? ⟨W.heap.size+1,0,S⟩=N (Q I c):=by simp[M7,f.o.bp]
     have U:wr.cell? ⟨W.heap.size+1,1,S⟩=N (N4 (N W.heap.size)):=by simp[M7,f.o.bp]
     have u:aA (Mb w.heap.size w ((wr.setCell ⟨w.heap.size,0,S⟩ (Q I c)).setCell ⟨w.heap.size,1,S⟩ (N4 (N W.heap.size)))):=A ((f.o.lo.setCell (by simp) _).setCell (by simp) _);have y:aA (((wr.setCell ⟨w.heap.size,0,S⟩ (Q I c)).setCell ⟨w.heap.size,1,S⟩ (N4 (N W.heap.size))).heap[w.heap.size]?=N (MY #[Q I c,N4 (N W.heap.size)] 143 (0,0))):=A ((Mn _ _ 1 _ _ _ (Mn _ _ 0 _ _ _ d)).trans (by simp));have c6:=A f.o.hBm;have c7:=A f.o.ok;have HT:aA (gT ((wr.setCell ⟨w.heap.size,0,S⟩ (Q I c)).setCell ⟨w.heap.size,1,S⟩ (N4 (N W.heap.size))) (N4 (N W.heap.size)) (gF T)):=A (s.same λx o Y c9=>by
      have hx:x≠w.heap.size:=by rintro rfl;rw[d]at Y;cases Y;cases c9
      exact((NE _ _ _ _ hx).trans (NE _ _ _ _ hx)).trans Y)
     clear d s f E F C;go_wp2;refine NQ (oA y.o rfl) rfl ?_;refine⟨u.o,?_⟩;rw[P.o,c7.o];exact⟨_,QU c6.o,rfl,HT.o⟩
end
end Go.Proofs.YtnjalelblbjfiaaGreatDoor
