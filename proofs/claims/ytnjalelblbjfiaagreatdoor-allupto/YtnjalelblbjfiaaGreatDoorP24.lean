import Derived.Test.YtnjalelblbjfiaaGreatDoorP23
import Derived.Test.YtnjalelblbjfiaaGreatDoorP18
import Derived.Deep.WholeRow
namespace Go.Proofs.YtnjalelblbjfiaaGreatDoor
set_option maxRecDepth 100000
set_option maxHeartbeats 16000000
open Go.RowKit
open Go.Proofs.Tryz
open Go.Sort (grow)
open Bool renaming false→Md,true→Mk,eq_iff_iff→Oq,and_false→Pj,and_comm→Sw
open Decidable renaming decide→M9
open Go renaming World→MV,Calls→Mo,cell_later→MW,block_lt_of_cell→MO,Value→Ma,TypeId→NL,info_parts→Ob
open Go.Ending renaming returned→MZ
open Go.IntKind renaming wrap_i64→Mm,i64→I
open Go.Obj renaming cells→MY
open Go.Proofs.Tryz renaming prog→MT,func188→TE,func184→RY,func136→TF
open Go.RowKit renaming Below→Mb
open Go.RowKit.Below renaming refl→MU
open Go.Value renaming agg→M1,bool→M0,string→MS,int→Q,slice→MR,pointer→MQ,oneCell'→NC,tuple→Nn
open Nat renaming le_refl→MP,not_lt_zero→OV,le_trans→Mx
open Or renaming inl→Mf,inr→MX
open Go.Addr renaming add_mid→Nx
open List renaming getElem_mem→Ms,getElem?_map→Oh,getElem?_eq_getElem→NZ,find?_eq_none→OQ,getElem_of_mem→Mt,take_add_one→Uo,map_append→Pd,length_map→ND,length_take→Mh,range→PO,range_succ→Sk,mem_of_find?_eq_some→OT,getElem_take→PR,set_append_right→QE,mem_append→Od,mem_cons→Nk,pairwise_iff_getElem→Mr,getElem_drop→Pt,length_set→Mw,getElem_set→OA,mem_iff_getElem→Rq
open Option renaming some→N,none→S
open Go.Proofs renaming intOf→Nw
open _root_.Array renaming getElem?_eq_some_iff→Mu
variable {K:List Mc}{W w:MV}{v:Ma}{c:Mc}{t:NL}{B g i j k n s:Nat}{a b d:Type}
theorem Fj{v k:Int}(c:0<=v/\v<4096)(d:0<=k/\k<16):Fk v k=4096*k+v:=by
 obtain⟨x,rfl⟩:∃x:Nat,v=x:=⟨v.toNat,O⟩;obtain⟨y,rfl⟩:∃y:Nat,k=y:=⟨k.toNat,O⟩;unfold Fk;have a:wrap64 ((y:Int)*4096)=((y*4096:Nat):Int):=by
  unfold wrap64;omega
 rw[a,ik _ _ O O];have:=Nat.shiftLeft_add_eq_or_of_lt (i:=12) (b:=x) O y;rw[Nat.shiftLeft_eq]at this;rw[show(2:Nat)^12=4096 from rfl]at this;rw[<-this];omega
theorem vw(f:Fr)(c:Bool)(w:MV)(l:0<=f.vlan/\f.vlan<4096)(m:0<=f.mark/\f.mark<16)(n:f.to.size+f.fr.size+f.ty.size+f.rest.size<=10000):Mo MT 188 #[M1 (an f),M0 c] w λe o=>e=MZ (MS (iq {f with tagged:=c}))/\Mb w.heap.size w o:=by
 obtain⟨t,r,g,v,k,y,z⟩:=f;have i:iq ⟨t,r,c,v,k,y,z⟩=t++r++(if c then⟨#[129,0]⟩++r9 (4096*k+v)else⟨#[]⟩)++y++z:=by
  unfold iq px;rw[Fj l m];rfl
 show Mo _ _ _ _ λe o=>e=MZ (MS (iq ⟨t,r,c,v,k,y,z⟩))/\_;rw[i];simp only[an];have x:((t++r).size:Int)<=10000:=by rw[ByteArray.size_append];simp only at n;omega
 simp only at l m n;cases c with
 |false=>
  have d:t++r++(if Md=Mk then(⟨#[129,0]⟩:ByteArray)++r9 (4096*k+v)else⟨#[]⟩)++y++z=t++r++y++z:=by
   rw[if_neg US];congr 2;exact ByteArray.append_empty
  rw[d];clear i d;go_enter TE,ntmps188;go_wp2;go_ret;exact⟨rfl,(MU _ w).alloc (MP _) _⟩
 |true=>
  have d:t++r++(if Mk=Mk then(⟨#[129,0]⟩:ByteArray)++r9 (4096*k+v)else⟨#[]⟩)++y++z=t++r++⟨#[129,0]⟩++r9 (4096*k+v)++y++z:=by
   rw[if_pos rfl,<-ByteArray.append_assoc (a:=t++r) (b:=⟨#[129,0]⟩)]
  rw[d];have B:IntKind.i64.wrap (4096*k)=4096*k:=by rw[Mm];omega
  have C:IntKind.i64.wrap (4096*k+v)=4096*k+v:=by rw[Mm];omega
  have D:(r9 (4096*k+v)).size=2:=rfl;have p:=A λ(W:MV)=>qS (4096*k+v) W O;clear i d;go_enter TE,ntmps188;go_wp2_with fail
  refine(p.o _).mono ?_;rintro e q ⟨rfl,h⟩;have j:(w.alloc (MY #[MS t,MS r,Q I v,Q I k,M0 g,MS y,MS z] 248)).rangeAt w.heap.size 0 [MS t,MS r,Q I v,Q I k,M0 g,MS y,MS z]:=aN _ _ _;have s:=MW h (j 5 _ rfl);have E:=MW h (j 6 _ rfl);have F:w.heap.size<q.heap.size:=MO s;have u:=A ((((MU _ w).alloc (MP _) (MY #[MS t,MS r,Q I v,Q I k,M0 g,MS y,MS z] 248))).trans (h.mono (by simp)));clear j h p;go_wp2;go_ret;exact⟨rfl,u.o⟩
theorem xX(a b j k l m:Int)(d f:ByteArray)(w:MV):Mo MT 184 #[M1 #[Q I a,MS d,Q I j,Q I l],M1 #[Q I b,MS f,Q I k,Q I m]] w λe n=>e=MZ (M0 (M9 (jK a d.toList b f.toList<0)))/\Mb w.heap.size w n:=by
 by_cases i:a<b
 ·have c:M9 (jK a d.toList b f.toList<0)=true:=decide_eq_true (fw.2 (Mf i));rw[c];clear c;go_enter RY,ntmps184;go_wp2;go_ret;exact⟨rfl,((MU _ w).alloc (MP _) _).alloc (by simp) _⟩
 ·by_cases g:a=b
  ·have c:M9 (jK a d.toList b f.toList<0)=Op.bytesLess d.toList f.toList:=by
    rw[Oq,decide_eq_true_iff,fw];constructor
    ·rintro(h|h)
     ·omega
     ·exact h.2
    ·exact λh=>MX ⟨g,h⟩
   rw[c];clear c;have o:(a==b)=true:=by simp[g]
   clear g;go_enter RY,ntmps184;go_wp2
   all_goals go_ret
   all_goals exact⟨by simp_all,((MU _ w).alloc (MP _) _).alloc (by simp) _⟩
  ·have c:M9 (jK a d.toList b f.toList<0)=false:=by
    rw[<-Bool.not_eq_true,decide_eq_true_iff,fw];rintro(h|h)
    ·exact i h
    ·exact g h.1
   rw[c];clear c;have o:(a==b)=false:=by simp[g]
   clear g;go_enter RY,ntmps184;go_wp2;go_ret;exact⟨rfl,((MU _ w).alloc (MP _) _).alloc (by simp) _⟩
structure ee where
 nat:Int
 tv:Ma
 T:List Int
def ee.row(q:ee):List Value:=[Q I q.nat,q.tv]
def ee.FQ(q:ee):b7:=⟨q.nat,gF q.T⟩
def gz(f:Int×ByteArray):List Value:=[Q I f.1,MS f.2]
structure bq where
 bits:Int
 len:Int
 vlan:Int
 mac:ByteArray
def bq.row(r:bq):List Value:=[Q I r.bits,Q I r.len,Q I r.vlan,MS r.mac]
def d8(a:Int)(e:Mc):List Value:=[Q I e.vlan,MS e.mac,Q I e.port,Q I (a-e.age)]
theorem ee.dW(q:ee):q.row.length=2:=rfl
theorem iO(f:Int×ByteArray):(gz f).length=2:=rfl
theorem bq.dW(r:bq):r.row.length=4:=rfl
theorem dF(a:Int)(e:Mc):(d8 a e).length=4:=rfl
structure aK where
 pv:Ma
 Q:List ee
 fv:Ma
 Fl:List (Int×ByteArray)
 rv:Ma
 Hl:List bq
 tv:Ma
 rs:List Rl
 kv:Ma
 K:List Mc
 now:Int
def aK.P(x:aK):List b7:=x.Q.map ee.FQ
structure aT (w:MV) (y:Nat) (x:aK):Prop where
 blk:∃cs,w.heap[y]?=N (MY cs 90 (0,0))
 c0:w.cell? ⟨y,0,S⟩=N x.pv
 c1:w.cell? ⟨y,1,S⟩=N x.fv
 c2:w.cell? ⟨y,2,S⟩=N x.rv
 c3:w.cell? ⟨y,3,S⟩=N x.tv
 c4:w.cell? ⟨y,4,S⟩=N x.kv
 c5:w.cell? ⟨y,5,S⟩=N (Q I x.now)
 rp:aX ee.row 1 w 159 2 x.pv x.Q
 rf:aX gz 1 w 260 2 x.fv x.Fl
 rr:aX bq.row 1 w 263 4 x.rv x.Hl
 rt:bU 1 w x.tv x.rs
 rk:aX (d8 x.now) 1 w 92 4 x.kv x.K
 tg:∀q∈x.Q,w.ownsRow 1 3 1 q.tv q.T.length (q.T.map λt=>Q I t)
section
variable {w c:World}{y:Nat}{x:aK}
def aK.cR(x:aK)(y:Nat):Nat->Prop:=λb=>b=y\/x.pv.ownBlock=N b\/x.fv.ownBlock=N b\/x.rv.ownBlock=N b\/x.tv.ownBlock=N b\/x.kv.ownBlock=N b\/∃q∈x.Q,q.tv.ownBlock=N b
theorem aT.frz(h:aT w y x)(j:Nat):w.frozen? ⟨y,j,S⟩=false:=by
 obtain⟨b,a⟩:=h.blk;exact bC a j
theorem aT.lt(h:aT w y x):y<w.heap.size:=MO h.c0
theorem aT.aj(h:aT w y x)(d:∀b,x.cR y b->b<w.heap.size->c.heap[b]?=w.heap[b]?):aT c y x:=by
 have i:c.heap[y]?=w.heap[y]?:=d y (Mf rfl) h.lt;have e:∀j,c.cell? ⟨y,j,S⟩=w.cell? ⟨y,j,S⟩:=λj=>(jr.aS i j).1;obtain⟨k,l⟩:=h.blk;exact⟨⟨k,i.trans l⟩,(e 0).trans h.c0,(e 1).trans h.c1,(e 2).trans h.c2,(e 3).trans h.c3,(e 4).trans h.c4,(e 5).trans h.c5,
  h.rp.same λg a=>d g (MX (Mf a)) (h.rp.lt a),h.rf.same λg a=>d g (MX (MX (Mf a))) (h.rf.lt a),h.rr.same λg a=>d g (MX (MX (MX (Mf a)))) (h.rr.lt a),h.rt.same λg a=>d g (MX (MX (MX (MX (Mf a))))) (h.rt.lt a),h.rk.same λg a=>d g (MX (MX (MX (MX (MX (Mf a)))))) (h.rk.lt a),
  λq f=>aY (h.tg q f) λg a=>d g (MX (MX (MX (MX (MX (MX ⟨q,f,a⟩)))))) ((h.tg q f).lt g a).2⟩
theorem aT.aD(h:aT w y x)(a:Mb w.heap.size w c):aT c y x:=h.aj λb _ d=>a.block b d
theorem kd{f:NL}{l m:Nat}{i:Ma}{o p:List Ma}(h:w.ownsRow B t s v n o)(q:w.ownsRow m f k i l p)(r:t≠f)(a:v.ownBlock=N g):i.ownBlock≠N g:=λb=>by
 rcases h.2 with⟨e,_⟩|⟨z,C,D,e,_,u,_⟩
 ·rw[e]at a;cases a
 ·rcases q.2 with⟨d,_⟩|⟨E,F,G,d,_,j,_⟩
  ·rw[d]at b;cases b
  ·rw[e]at a;rw[d]at b;cases a;cases b;rw[u]at j;cases j;exact r rfl
theorem dq{b:NL}{f:List Ma}{i:Array Ma}{j:Nat×Nat}(h:w.ownsRow B t s v n f)(d:w.heap[g]?=N (MY i b j))(k:t≠b):v.ownBlock≠N g:=λa=>by
 rcases h.2 with⟨e,_⟩|⟨m,o,p,e,_,l,_⟩
 ·rw[e]at a;cases a
 ·rw[e]at a;cases a;rw[l]at d;cases d;exact k rfl
theorem aT.jd(h:aT w y x):∃a b g,x.pv=MR a x.Q.length b/\∀k (d:k<x.Q.length),a=N ⟨g,0,S⟩/\w.cell? ⟨g,k*2,S⟩=N (Q I x.Q[k].nat)/\w.cell? ⟨g,k*2+1,S⟩=N x.Q[k].tv/\ir w x.Q[k].tv x.Q[k].T:=by
 obtain⟨a,b,g,e,n⟩:=h.rp.row ee.dW;refine⟨a,b,g,e,λk d=>?_⟩;obtain⟨o,f⟩:=n k d;refine⟨o,f 0 _ rfl,f 1 _ rfl,?_⟩;have i:=h.tg _ (Ms d);rcases i.2 with⟨e,p⟩|⟨l,q,r,e,_⟩
 ·exact⟨S,0,0,by rw[e,p],λj m=>O⟩
 ·refine⟨_,q,l,e,λj m=>⟨rfl,?_⟩⟩;have:=i.cells (g:=l) (by rw[e];rfl) j (Q I x.Q[k].T[j]) (by rw[Oh,NZ m];rfl);rwa[Nx,Nat.zero_add]at this
theorem aK.vh(x:aK)(a:k<x.Q.length):iD x.P k=x.Q[k].FQ:=by
 unfold iD aK.P;rw[Oh,NZ a];rfl
end
theorem od(y k:Nat)(x:aK)(v:Int)(w:MV)(h:aT w y x)(f:k<x.Q.length)(o:∀q∈x.Q,q.T.length<1000000000000)(_hQ:x.Q.length<=8):Mo MT 135 #[MQ (N ⟨y,0,S⟩),Q I k,Q I v] w λe c=>e=MZ (M0 (gH (iD x.P k) v))/\Mb w.heap.size w c:=by
 obtain⟨a,R,g,e,p⟩:=h.jd;obtain⟨rfl,r,J,s⟩:=p k f;have t:=h.c0;rw[e]at t;have U:=h.lt;have V:g<w.heap.size:=MO r;have K:(k:Int)<x.Q.length:=O;have u:gH (iD x.P k) v=(gF x.Q[k].T v||x.Q[k].nat==v):=by
  rw[x.vh f];show(v==x.Q[k].nat||gF x.Q[k].T v)=_;rw[Bool.or_comm,Bool.beq_comm]
 rw[u];have b:=A λ(W:MV) (L:Mb w.heap.size w W)=>vz x.Q[k].T x.Q[k].tv v W (s.aD L) (o _ (Ms f));obtain⟨T,z⟩:=UX (x.Q[k].T);obtain⟨B,D⟩:=UX (x.Q[k].tv);obtain⟨i,E⟩:=UX (x.Q[k].nat);obtain⟨n,F⟩:=UX x.Q.length;obtain⟨M,P,X,j,-⟩:=s;rw[<-D]at J j b;rw[<-E]at r⊢;rw[<-z]at b⊢j;rw[<-F]at K _hQ t;subst j;clear p h e o u z D E F;have l:Mb w.heap.size w (w.alloc (MY #[Q I i,MR M T.length P] 159)):=(MU _ w).alloc (MP _) _;have C:=A (b.o _ l);have G:=A l;clear b l;go_enter func135,ntmps135;go_wp2_with fail
 refine C.o.mono ?_;rintro e W ⟨rfl,H⟩;rw[H];clear H W C;cases d:gF T v with
 |true=>
  have m:=A d;clear d;go_wp2;go_ret;exact⟨by rw[m.o];rfl,G.o⟩
 |false=>
  have m:=A d;clear d;go_wp2;go_ret;exact⟨by rw[m.o];simp,G.o⟩
theorem tV{l:List a}{p:a->Bool}(c:k<l.length)(d:p l[k]=Mk)(e:∀j (b:j<k),p (l[j]'O)=Md):l.find? p=N l[k]:=by
 rw[List.find?_eq_some_iff_getElem];refine⟨d,k,c,rfl,λj b=>?_⟩;rw[e j b];rfl
theorem mq{l:List b}{p:b->Bool}(d:∀j (c:j<l.length),p l[j]=Md):l.find? p=none:=by
 rw[OQ];intro a e;obtain⟨j,c,rfl⟩:=Mt e;rw[d j c];decide
def jU(K:List Mc)(v:Int)(b:ByteArray):Int:=match az K v b with|some e=>e.port|none=> -1
section
variable {w:World}{y:Nat}{x:aK}
theorem aT.pe(h:aT w y x):∃a c g,x.kv=MR a x.K.length c/\∀k (d:k<x.K.length),a=N ⟨g,0,S⟩/\w.cell? ⟨g,k*4,S⟩=N (Q I x.K[k].vlan)/\w.cell? ⟨g,k*4+1,S⟩=N (MS x.K[k].mac)/\w.cell? ⟨g,k*4+2,S⟩=N (Q I x.K[k].port)/\w.cell? ⟨g,k*4+3,S⟩=N (Q I (x.now-x.K[k].age)):=by
 obtain⟨a,c,g,e,f⟩:=h.rk.row (dF x.now);refine⟨a,c,g,e,λk d=>?_⟩;obtain⟨i,b⟩:=f k d;exact⟨i,b 0 _ rfl,b 1 _ rfl,b 2 _ rfl,b 3 _ rfl⟩
theorem aT.oc(h:aT w y x):∃a b g,x.fv=MR a x.Fl.length b/\∀k (c:k<x.Fl.length),a=N ⟨g,0,S⟩/\w.cell? ⟨g,k*2,S⟩=N (Q I x.Fl[k].1)/\w.cell? ⟨g,k*2+1,S⟩=N (MS x.Fl[k].2):=by
 obtain⟨a,b,g,e,f⟩:=h.rf.row iO;refine⟨a,b,g,e,λk c=>?_⟩;obtain⟨i,d⟩:=f k c;exact⟨i,d 0 _ rfl,d 1 _ rfl⟩
end
theorem AR(y:Nat)(x:aK)(v:Int)(b:ByteArray)(w:MV)(h:aT w y x)(G:x.K.length<=1000):Mo MT 190 #[MQ (N ⟨y,0,S⟩),Q I v,MS b] w λe H=>e=MZ (Q I (jU x.K v b))/\H=w:=by
 obtain⟨a,V,g,e,o⟩:=h.pe;have q:=h.c4;rw[e]at q;have W:=h.lt;have r:=A o;obtain⟨K,s⟩:=UX x.K;rw[<-s]at r G q⊢;clear o h e s;go_enter func190,ntmps190;go_wp2_with fail
 go_loopw [7] (λi wr=>wr=w/\∃k:Nat,k<=K.length/\i=Q I k/\∀j (c:j<K.length),j<k->(K[j].vlan==v&&K[j].mac.toList==b.toList)=Md) (λi _=>K.length- (Nw i).toNat)
 case atStart=>exact⟨rfl,0,O,rfl,λj _ h=>absurd h (OV j)⟩
 case round=>
  obtain⟨rfl,k,X,rfl,t⟩:=hrel;have f:=A t;clear t;by_cases u:k<K.length
  ·have J:(k:Int)<K.length:=by omega
   obtain⟨rfl,B,L,M,-⟩:=r.o k u;have Y:=MO B;obtain⟨z,l⟩:=UX (K[k]);rw[<-l]at B L M;have m:=A l;clear l;have C:((z.vlan==v&&z.mac.toList==b.toList)=Md)->∀j (c:j<K.length),j<k+1->(K[j].vlan==v&&K[j].mac.toList==b.toList)=false:=λP j c Z=>by
    by_cases e:j=k
    ·subst e;rw[<-m.o];exact P
    ·exact f.o j c O
   have D:=A C;clear C;cases E:(z.vlan==v)with
   |false=>
    have R:=A E;go_wp2_with fail
    go_roundw
    case rel=>exact⟨by trivial,k+1,O,by go_num,D.o (by rw[R.o];rfl)⟩
    case measure=>simp[Nw];omega
   |true=>
    cases F:(z.mac.toList==b.toList)with
    |false=>
     have T:=A F;go_wp2_with fail
     go_roundw
     case rel=>exact⟨by trivial,k+1,O,by go_num,D.o (by rw[T.o,Pj])⟩
     case measure=>simp[Nw];omega
    |true=>
     have d:jU K v b=z.port:=by
      have U:(K[k].vlan==v&&K[k].mac.toList==b.toList)=true:=by rw[<-m.o,E,F];rfl
      unfold jU az;rw[tV (p:=λe=>e.vlan==v&&e.mac.toList==b.toList) u U λj c=>f.o j O c,m.o]
     have n:=A d;clear d;go_wp2;go_ret;exact⟨lN n.o.symm,rfl⟩
  ·have J:¬(k:Int)<K.length:=by omega
   have d:jU K v b= -1:=by
    unfold jU az;rw[mq (p:=λe=>e.vlan==v&&e.mac.toList==b.toList) λj c=>f.o j c O]
   have n:=A d;clear d;go_wp2;go_ret;exact⟨lN n.o.symm,rfl⟩
def cH(a:List (Int×ByteArray))(v:Int):ByteArray:=match a.find? (λf=>f.1==v)with|some f=>f.2|none=>⟨#[]⟩
theorem eU(y:Nat)(x:aK)(v:Int)(w:MV)(h:aT w y x)(D:x.Fl.length<=1000):Mo MT 137 #[MQ (N ⟨y,0,S⟩),Q I v] w λe E=>e=MZ (MS (cH x.Fl v))/\E=w:=by
 obtain⟨a,L,g,e,o⟩:=h.oc;have q:=h.c1;rw[e]at q;have M:=h.lt;have r:=A o;obtain⟨K,s⟩:=UX x.Fl;rw[<-s]at r D q⊢;clear o h e s;go_enter func137,ntmps137;go_wp2_with fail
 go_loopw [5] (λi wr=>wr=w/\∃k:Nat,k<=K.length/\i=Q I k/\∀j (b:j<K.length),j<k->(K[j].1==v)=Md) (λi _=>K.length- (Nw i).toNat)
 case atStart=>exact⟨rfl,0,O,rfl,λj _ h=>absurd h (OV j)⟩
 case round=>
  obtain⟨rfl,k,P,rfl,t⟩:=hrel;have d:=A t;clear t;by_cases u:k<K.length
  ·have F:(k:Int)<K.length:=by omega
   obtain⟨rfl,B,G⟩:=r.o k u;have R:=MO B;obtain⟨z,l⟩:=UX (K[k]);rw[<-l]at B G;have m:=A l;clear l;cases C:(z.1==v)with
   |false=>
    have H:=A C;go_wp2_with fail
    go_roundw
    case rel=>exact⟨by trivial,k+1,O,by go_num,λj b T=>by
     by_cases e:j=k
     ·subst e;rw[<-m.o];exact H.o
     ·exact d.o j b O⟩
    case measure=>simp[Nw];omega
   |true=>
    have c:cH K v=z.2:=by
     have J:(K[k].1==v)=true:=by rw[<-m.o,C]
     unfold cH;rw[tV (p:=λf=>f.1==v) u J λj b=>d.o j O b,m.o]
    have n:=A c;clear c;go_wp2;go_ret;exact⟨by rw[n.o];rfl,rfl⟩
  ·have F:¬(k:Int)<K.length:=by omega
   have c:cH K v=⟨#[]⟩:=by
    unfold cH;rw[mq (p:=λf=>f.1==v) λj b=>d.o j b O]
   have n:=A c;clear c;go_wp2;go_ret;exact⟨by rw[n.o];rfl,rfl⟩
section
attribute [local go_sem] Oper.semAt_some aI
attribute [local go_sem ↓ high] cu
def eY(e:Int×ByteArray):List Value:=[Q I e.1,MS e.2]
theorem iy(e:Int×ByteArray):(eY e).length=2:=rfl
theorem BH(e:Int×ByteArray):∀u∈eY e,u.oneCell'=true:=by simp[eY,NC]
theorem Dh:prog.underlying 59=N (.slice 66):=UR
theorem Ce{L:List (Int×ByteArray)}{j:Int}{o:ByteArray}(h:aX eY B w 66 2 v L)(t:B<=w.heap.size)(x:L.length<=1000):∃g e d,(Builtin.append_ #[59,59] 59 #[v,MR (N ⟨w.heap.size,0,S⟩) 1 1]).run MT (w.alloc (MY #[Q I j,MS o] 66))=.ok (MR (N ⟨g,0,S⟩) (L.length+1) e) d/\aX eY B d 66 2 (MR (N ⟨g,0,S⟩) (L.length+1) e) (L++[(j,o)])/\aH (λb=>v.ownBlock=N b) w d:=by
 obtain⟨y,i,k,l,m⟩:=Ob DE;have f:Mb w.heap.size w (w.alloc (MY #[Q I j,MS o] 66)):=(MU _ w).alloc (MP _) _;obtain⟨g,e,d,n,p,r,_⟩:=(h.aD f).append (P:=MT) (tl:=59) (c:=1) iy BH Dh i k l m rfl US [(j,o)] (by simp) (a:=⟨w.heap.size,0,S⟩) (λq u s=>by rw[Nx];exact aN w #[Q I j,MS o] 66 q u s) (by unfold maxLen;simp;omega) UU UU;exact⟨g,e,d,n,p,(aH.aG f).trans r⟩
def jE(P:List b7)(f:Fr)(T:List Int):List (Int×ByteArray):=T.map λt=>(t,jF (iD P t.toNat) f)
theorem mM(y:Nat)(x:aK)(f:Fr)(T:List Int)(v:Ma)(w:MV)(h:aT w y x)(hT:ir w v T)(hr:∀t∈T,0<=t/\t<x.Q.length)(hl:T.length<=100)(hQ:x.Q.length<=8)(hv:0<=f.vlan/\f.vlan<4096)(hk:0<=f.mark/\f.mark<16)(hs:f.to.size+f.fr.size+f.ty.size+f.rest.size<=10000):Mo MT 136 #[MQ (N ⟨y,0,S⟩),M1 (an f),v] w λe X=>∃Y,e=MZ (Nn #[Y,Q I (if T=[]then 8 else 0)])/\aX eY w.heap.size X 66 2 Y (jE x.P f T)/\Mb w.heap.size w X:=by
 obtain⟨ta,i4,K,rfl,a7⟩:=hT;by_cases Z:T=[]
 ·subst Z;have HF:=A (aX.nil eY w.heap.size (w.alloc (MY (an f) 248)) 66 2);have M:=A (show Mb w.heap.size w (w.alloc (MY (an f) 248))from(MU _ w).alloc (MP _) _);simp only[an]at HF M⊢;simp only[List.length_nil]at*;clear h a7 hr hl;go_enter TF,ntmps136;go_wp2;go_ret2;exact⟨_,rfl,HF.o,M.o⟩
 ·have i5:0<T.length:=List.length_pos_iff.2 Z;have i6:((T.length:Int)==0)=false:=by rw[beq_eq_false_iff_ne];omega
  rw[if_neg Z];obtain⟨pa,a8,C,d3,d4⟩:=h.jd;obtain⟨P,a1⟩:=UX (w.alloc (MY (an f) 248));obtain⟨a,a9⟩:=UX w.heap.size;have J:=UY a1;have d5:P.heap[a]?=N (MY (an f) 248 (0,0)):=by rw[a1,a9];exact aU _ _
  have c0:=h.c0;rw[d3]at c0;have b2:=A c0;have g0:=A d4;have HT:=A a7;have HR:=A hr;have g2:=A J;have g4:=A d5;have g5:=A a1;have L:=A a9;obtain⟨n,hn⟩:=UX x.Q.length;have HN:=A hn;have CW:=A λ(g8:Bool) (W:MV)=>vw f g8 W hv hk hs;rw[<-hn]at b2 hQ;have HQ:=A hQ;have HL:=A hl;clear h a7 hr J d5 a1 a9 d4 d3 c0 hn hv hk hs Z;have j0:(T.length:Int)<=100:=O;obtain⟨g,l,u,c,p,q,r⟩:=f;simp only[an]at*;have h1:aA (P=w.alloc (MY #[MS g,MS l,Q I c,Q I p,M0 u,MS q,MS r] 248)):=g5;go_enter TF,ntmps136;go_wp2_with fail
  rw[<-h1.o,<-L.o];go_loopw [8,9] (λY i wr=>∃k:Nat,k<=T.length/\i=Q I k/\aX eY a wr 66 2 Y (jE x.P ⟨g,l,u,c,p,q,r⟩ (T.take k))/\Mb w.heap.size w wr/\wr.heap[a]?=N (MY #[MS g,MS l,Q I c,Q I p,M0 u,MS q,MS r] 248 (0,0))) (λ_ i _=>T.length- (Nw i).toNat)
  case atStart=>exact⟨0,O,rfl,aX.nil _ _ _ _ _,g2.o,g4.o⟩
  case round=>
   obtain⟨k,hk,rfl,B,D,z⟩:=hrel;obtain⟨la,b6,lg,h2,-⟩:=B.row iy;subst h2;obtain⟨m,hm⟩:=UX ((jE x.P ⟨g,l,u,c,p,q,r⟩ (T.take k)).length);rw[<-hm]at B⊢;by_cases a3:k<T.length
   ·have h3:(k:Int)<T.length:=by omega
    obtain⟨t,ht⟩:∃t:Nat,T[k]=t:=⟨T[k].toNat,by have:=(HR.o _ (Ms a3)).1;omega⟩;have c1:t<x.Q.length:=by have:=(HR.o _ (Ms a3)).2;omega
    obtain⟨rfl,a4⟩:=HT.o k a3;rw[ht]at a4;have tc:=MW D a4;obtain⟨rfl,pc,-⟩:=g0.o t c1;obtain⟨E,c3⟩:=UX (x.Q[t].nat);have c4:=MW D pc;rw[<-c3]at c4;have yc:=MW D b2.o;have j2:(t:Int)<n:=by rw[HN.o];omega
    have e0:wr.cell? ⟨a,0,S⟩=N (MS g):=aB z rfl;have e1:wr.cell? ⟨a,1,S⟩=N (MS l):=aB z rfl;have e2:wr.cell? ⟨a,2,S⟩=N (Q I c):=aB z rfl;have e3:wr.cell? ⟨a,3,S⟩=N (Q I p):=aB z rfl;have e4:wr.cell? ⟨a,4,S⟩=N (M0 u):=aB z rfl;have e5:wr.cell? ⟨a,5,S⟩=N (MS q):=aB z rfl;have e6:wr.cell? ⟨a,6,S⟩=N (MS r):=aB z rfl;have lb:a<wr.heap.size:=MO e0;have lt:K<wr.heap.size:=MO tc;have lp:C<wr.heap.size:=MO c4;have ly:y<wr.heap.size:=MO yc;have k5:(n:Int)<=8:=by have:=HQ.o;omega
    have f0:aA (jE x.P ⟨g,l,u,c,p,q,r⟩ (T.take (k+1))=jE x.P ⟨g,l,u,c,p,q,r⟩ (T.take k)++[((t:Int),iq ⟨g,l,E !=c,c,p,q,r⟩)]):=A (by
     rw[Uo,NZ a3,ht];unfold jE;rw[Pd];congr 1;show [((t:Int),jF (iD x.P (t:Int).toNat) ⟨g,l,u,c,p,q,r⟩)]=_;rw[Int.toNat_natCast,x.vh c1];unfold jF;show [((t:Int),iq ⟨g,l,c !=x.Q[t].nat,c,p,q,r⟩)]=_;rw[<-c3,bne_comm])
    have k6:=A B;have M:=A D;have k7:=A z;have c5:(jE x.P ⟨g,l,u,c,p,q,r⟩ (T.take k)).length<=1000:=by unfold jE;rw[ND,Mh];omega
    have k9:=A c5;have h6:=A (show a<=wr.heap.size by omega);obtain⟨o,c6⟩:=UX (iq ⟨g,l,E !=c,c,p,q,r⟩);rw[<-c6]at f0;have C1:aA (Mo MT 188 #[M1 #[MS g,MS l,Q I c,Q I p,M0 u,MS q,MS r],M0 (E !=c)] wr.drew λe X=>e=MZ (MS o)/\Mb wr.drew.heap.size wr.drew X):=A (by rw[c6];exact CW.o (E !=c) wr.drew);have l0:(0:Int)<=t:=O;have nb:(MR la m b6).ownBlock≠N a:=dq B.1 z US;have c7:∀b,b<a->(MR la m b6).ownBlock≠N b:=λb f1 e=>by have:=B.iG e;omega
    have h9:y<a:=by rw[L.o];exact MO b2.o
    have i0:K<a:=by rw[L.o];exact MO a4
    have i1:C<a:=by rw[L.o];exact MO pc
    have i2:aA (∀d,Mb wr.drew.heap.size wr.drew d->∃R U s,(JY #[59,59] 59 #[MR la m b6,MR (N ⟨d.heap.size,0,S⟩) 1 1]).run MT (d.alloc (MY #[Q I t,MS o] 66))=.ok (MR (N ⟨R,0,S⟩) (m+1) U) s/\(d.cell? ⟨y,0,S⟩=N (MR (N ⟨C,0,S⟩) n a8)/\d.cell? ⟨K,k,S⟩=N (Q I t)/\d.cell? ⟨C,t*2,S⟩=N (Q I E)/\d.cell? ⟨a,0,S⟩=N (MS g)/\d.cell? ⟨a,1,S⟩=N (MS l)/\d.cell? ⟨a,2,S⟩=N (Q I c)/\d.cell? ⟨a,3,S⟩=N (Q I p)/\d.cell? ⟨a,4,S⟩=N (M0 u)/\d.cell? ⟨a,5,S⟩=N (MS q)/\d.cell? ⟨a,6,S⟩=N (MS r))/\(s.cell? ⟨y,0,S⟩=N (MR (N ⟨C,0,S⟩) n a8)/\s.cell? ⟨K,k,S⟩=N (Q I t)/\s.cell? ⟨C,t*2,S⟩=N (Q I E)/\s.cell? ⟨a,0,S⟩=N (MS g)/\s.cell? ⟨a,1,S⟩=N (MS l)/\s.cell? ⟨a,2,S⟩=N (Q I c)/\s.cell? ⟨a,3,S⟩=N (Q I p)/\s.cell? ⟨a,4,S⟩=N (M0 u)/\s.cell? ⟨a,5,S⟩=N (MS q)/\s.cell? ⟨a,6,S⟩=N (MS r))/\a<d.heap.size/\aA (aX eY a s 66 2 (MR (N ⟨R,0,S⟩) (m+1) U) (jE x.P ⟨g,l,u,c,p,q,r⟩ (T.take (k+1)))/\Mb w.heap.size w s/\s.heap[a]?=N (MY #[MS g,MS l,Q I c,Q I p,M0 u,MS q,MS r] 248 (0,0)))):=A λd J=>by
     have F:Mb wr.heap.size wr d:=((MU _ wr).drew).trans J;obtain⟨R,U,s,f2,f3,V⟩:=Ce (j:=(t:Int)) (o:=o) (B.aD F) (Mx h6.o F.size) c5;rw[<-hm]at f2 f3;have G:=(F.block a lb).trans z;have y1:=MW F yc;have t1:=MW F tc;have p1:=MW F c4;have H:=(V.block a (by have:=F.size;omega) nb).trans G;have f7:Mb w.heap.size w d:=D.trans (F.mono D.size);rw[f0.o];refine⟨R,U,s,dN f2,⟨y1,t1,p1,aB G rfl,aB G rfl,aB G rfl,aB G rfl,aB G rfl,aB G rfl,aB G rfl⟩,⟨V.block.cell (c7 y h9) y1,V.block.cell (c7 K i0) t1,V.block.cell (c7 C i1) p1,aB H rfl,aB H rfl,aB H rfl,aB H rfl,aB H rfl,aB H rfl,aB H rfl⟩,by have:=F.size;omega,A ⟨f3,f7.trans (V.aD f7.size λb f1=>?_),H⟩⟩;have:=B.iG f1;rw[L.o]at this;exact this
    clear B D z a4 pc c3 c5 ht c1 c6 hm;go_wp2_with fail
    go_region_held3 (λW=>W.cell? ⟨y,0,S⟩=N (MR (N ⟨C,0,S⟩) n a8)/\W.cell? ⟨K,k,S⟩=N (Q I t)/\W.cell? ⟨C,t*2,S⟩=N (Q I E)/\W.cell? ⟨a,0,S⟩=N (MS g)/\W.cell? ⟨a,1,S⟩=N (MS l)/\W.cell? ⟨a,2,S⟩=N (Q I c)/\W.cell? ⟨a,3,S⟩=N (Q I p)/\W.cell? ⟨a,4,S⟩=N (M0 u)/\W.cell? ⟨a,5,S⟩=N (MS q)/\W.cell? ⟨a,6,S⟩=N (MS r)) (go_keep)
     (first|(go_at_call 188;refine C1.o.mono ?_;rintro e d ⟨rfl,J⟩;obtain⟨R,U,s,l1,⟨z0,z1,z2,z3,z4,z5,z6,z7,z8,z9⟩,⟨u0,u1,u2,u3,u4,u5,u6,u7,u8,u9⟩,n6,c8⟩:=i2.o d J;clear J))
    go_wp2_with fail
    go_roundw
    case rel=>
     exact⟨k+1,O,by go_num,c8.o.1,c8.o.2.1,c8.o.2.2⟩
    case measure=>simp[Nw];omega
   ·have h3:¬(k:Int)<T.length:=by omega
    have f8:T.take k=T:=List.take_of_length_le O;rw[f8,L.o]at B;have HF:=A B;have M:=A D;clear B D z hm f8;go_wp2;go_ret2;exact⟨_,rfl,HF.o,M.o⟩
end
def dC(P:List b7)(a:Int)(b:Bool)(v:Int)(n:Nat):List Int:=((PO n).filter λj=>gH (iD P j) v&&(((j:Int)!=a)||b)).map λ(j:Nat)=>(j:Int)
theorem rA(c:b->Bool)(g:b->d):∀l:List b,(l.flatMap λj=>if c j then [g j]else [])=(l.filter c).map g
 |[]=>rfl
 |a::l=>by
  rw[List.flatMap_cons,rA c g l];cases h:c a<;>simp[h]
theorem DI(c:Nat->Bool)(g:Nat->d)(k:Nat):∀n,((PO n).flatMap λj=>if M9 (j=k)&&c j then [g j]else [])=if M9 (k<n)&&c k then [g k]else []
 |0=>by simp
 |n+1=>by
  rw[Sk,List.flatMap_append,DI c g k n,List.flatMap_singleton];by_cases h:n=k
  ·subst h;cases e:c n<;>simp
  ·by_cases b:k<n
   ·have a:k<n+1:=by omega
    simp[h,b,a]
   ·have a:¬k<n+1:=by omega
    simp[h,b,a]
theorem JI(P:List b7)(q:Pg)(a:Int)(n:Nat):fS P q a Md n=jE P q.f (dC P q.port q.routed q.f.vlan n):=by
 unfold fS jE dC;rw[List.map_map];have e:(λj:Nat=>if db q a Md j&&gH (iD P j) q.f.vlan then [((j:Int),jF (iD P j) q.f)]else [])=λj:Nat=>if(gH (iD P j) q.f.vlan&&(((j:Int)!=q.port)||q.routed))then [((j:Int),jF (iD P j) q.f)]else []:=by
  funext j;unfold db;rw[Bool.not_false,Bool.or_true,Bool.and_true,Sw]
 rw[e];exact rA _ _ _
theorem JH(P:List b7)(q:Pg)(k n:Nat)(a:k<n):fS P q k Mk n=if(((k:Int)!=q.port)||q.routed)&&gH (iD P k) q.f.vlan then jE P q.f [(k:Int)]else []:=by
 unfold fS;have e:(λj:Nat=>if db q k Mk j&&gH (iD P j) q.f.vlan then [((j:Int),jF (iD P j) q.f)]else [])=λj:Nat=>if M9 (j=k)&&((((j:Int)!=q.port)||q.routed)&&gH (iD P j) q.f.vlan)then [((j:Int),jF (iD P j) q.f)]else []:=by
  funext j;unfold db;have:((j:Int)==(k:Int)||!Mk)=M9 (j=k):=by
   rw[Bool.not_true,Bool.or_false,Oq,beq_iff_eq,decide_eq_true_iff];omega
  rw[this,<-Bool.and_assoc,Sw (M9 (j=k))]
 rw[e,DI (λj=>(((j:Int)!=q.port)||q.routed)&&gH (iD P j) q.f.vlan) _ k n];have:M9 (k<n)=true:=decide_eq_true a;rw[this,Bool.true_and];rfl
theorem qw(P:List b7)(a:Int)(b:Bool)(v:Int)(n:Nat):∀t∈dC P a b v n,0<=t/\t<n:=λt c=>by
 obtain⟨j,d,rfl⟩:=List.mem_map.1 c;have:=List.mem_range.1 (List.mem_filter.1 d).1;omega
theorem fq(P:List b7)(a:Int)(b:Bool)(v:Int)(n:Nat):(dC P a b v n).length<=n:=by
 unfold dC;rw[ND];exact Mx (List.length_filter_le _ _) (by simp)
theorem fR(P:List b7)(a:Int)(b:Bool)(v:Int)(n:Nat):dC P a b v (n+1)=if gH (iD P n) v&&(((n:Int)!=a)||b)then dC P a b v n++[(n:Int)]else dC P a b v n:=by
 unfold dC;rw[Sk,List.filter_append,Pd];cases h:(gH (iD P n) v&&(((n:Int)!=a)||b))<;>simp[h]
def mc(t:Int):List Value:=[Q I t]
theorem iz(t:Int):(mc t).length=1:=rfl
theorem Bk(t:Int):∀u∈mc t,u.oneCell'=true:=by simp[mc,NC]
theorem aX.Ke{T:List Int}(h:aX mc B w 3 1 v T):ir w v T:=by
 obtain⟨a,b,g,e,c⟩:=h.row iz;refine⟨a,b,g,e,λj d=>?_⟩;obtain⟨f,i⟩:=c j d;have:=i 0 _ rfl;rw[Nat.mul_one,Nat.add_zero]at this;exact⟨f,this⟩
theorem lj{L:List Int}{j:Int}(h:aX mc B w 3 1 v L)(s:B<=w.heap.size)(t:L.length<=1000000000):∃g e d,(Builtin.append_ #[32,32] 32 #[v,MR (N ⟨w.heap.size,0,S⟩) 1 1]).run MT (w.alloc (MY #[Q I j] 3))=.ok (MR (N ⟨g,0,S⟩) (L.length+1) e) d/\aX mc B d 3 1 (MR (N ⟨g,0,S⟩) (L.length+1) e) (L++[j])/\aH (λb=>v.ownBlock=N b) w d:=by
 obtain⟨x,i,k,l,m⟩:=Ob pJ;have f:Mb w.heap.size w (w.alloc (MY #[Q I j] 3)):=(MU _ w).alloc (MP _) _;obtain⟨g,e,d,n,o,p,_⟩:=(h.aD f).append (P:=MT) (tl:=32) (c:=1) iz Bk fl i k l m rfl US [j] (by simp) (a:=⟨w.heap.size,0,S⟩) (λq u r=>by rw[Nx];exact aN w #[Q I j] 3 q u r) (by unfold maxLen;simp;omega) UU UU;exact⟨g,e,d,n,o,(aH.aG f).trans p⟩
section
attribute [local go_sem] Oper.semAt_some
attribute [local go_sem ↓ high] cu
def zk(x:aK)(q:Pg):List (Int×ByteArray):=fS x.P q (iL (az x.K q.f.vlan q.f.to)) (az x.K q.f.vlan q.f.to).isSome x.Q.length
def mw(x:aK)(q:Pg)(w:MV)(e:Ending)(W:MV):Prop:=∃a,e=MZ (Nn #[a,Q I (if(zk x q).length=0 then 8 else 0)])/\aX eY w.heap.size W 66 2 a (zk x q)/\Mb w.heap.size w W
theorem aX.uc{f:a->List Ma}{b:Nat}{l:List a}(h:aX f B w t s v l)(c:b<=B):aX f b w t s v l:=⟨gM h.1 c,h.2⟩
theorem E9{x:aK}{q:Pg}{a:Ma}(b:az x.K q.f.vlan q.f.to=S)(c:aX eY B W 66 2 a (jE x.P q.f (dC x.P q.port q.routed q.f.vlan x.Q.length)))(d:Mb w.heap.size w W)(f:w.heap.size<=B):mw x q w (MZ (Nn #[a,Q I (if dC x.P q.port q.routed q.f.vlan x.Q.length=[]then 8 else 0)])) W:=by
 have e:zk x q=jE x.P q.f (dC x.P q.port q.routed q.f.vlan x.Q.length):=by
  unfold zk;rw[b];exact JI _ _ _ _
 refine⟨a,?_,by rw[e];exact c.uc f,d⟩;rw[e];have:(jE x.P q.f (dC x.P q.port q.routed q.f.vlan x.Q.length)).length=0↔dC x.P q.port q.routed q.f.vlan x.Q.length=[]:=by
  unfold jE;rw[ND,List.length_eq_zero_iff]
 simp only[this]
theorem dE(y:Nat)(x:aK)(q:Pg)(w:MV)(h:aT w y x)(hT:∀q∈x.Q,q.T.length<1000000000000)(hQ:x.Q.length<=8)(hK:x.K.length<=64)(f4:∀e∈x.K,(0<=e.port/\e.port<x.Q.length)/\dH e.mac=Md)(ht:0<q.f.to.size)(l:0<=q.f.vlan/\q.f.vlan<4096)(hk:0<=q.f.mark/\q.f.mark<16)(hs:q.f.to.size+q.f.fr.size+q.f.ty.size+q.f.rest.size<=10000):Mo MT 139 #[MQ (N ⟨y,0,S⟩),M1 (an q.f),Q I q.port,M0 q.routed] w (mw x q w):=by
 obtain⟨d,c9,⟨f,o,p,a,r,s,u⟩,pb,ph,pt,d3,g⟩:=q;simp only at ht l hk hs⊢;obtain⟨L,f0⟩:=UX (w.alloc (MY #[MS f,MS o,Q I a,Q I r,M0 p,MS s,MS u] 248));obtain⟨c,f6⟩:=UX w.heap.size;have d4:=UY f0;have a9:L.heap[c]?=N (MY #[MS f,MS o,Q I a,Q I r,M0 p,MS s,MS u] 248 (0,0)):=by rw[f0,f6];exact aU _ _
 obtain⟨pa,p3,pg,i9,l6⟩:=h.jd;have c0:=h.c0;rw[i9]at c0;have k0:=A c0;have HX:=A h;have f7:=A hT;have a1:=A hQ;have d5:=A d4;have f8:=A a9;have l7:=A f0;have b2:=A f6;have f9:aA (0<=(Fr.mk f o p a r s u).vlan/\(Fr.mk f o p a r s u).vlan<4096):=A l;have g0:aA (0<=(Fr.mk f o p a r s u).mark/\(Fr.mk f o p a r s u).mark<16):=A hk;have g1:aA ((Fr.mk f o p a r s u).to.size+(Fr.mk f o p a r s u).fr.size+(Fr.mk f o p a r s u).ty.size+(Fr.mk f o p a r s u).rest.size<=10000):=A hs;have k1:aA (az x.K a f=S->∀(G:Ma) {B:Nat} (W:MV) (rr:Int),rr=(if dC x.P d g a x.Q.length=[]then 8 else 0)->aX eY B W 66 2 G (jE x.P ⟨f,o,p,a,r,s,u⟩ (dC x.P d g a x.Q.length))->Mb w.heap.size w W->w.heap.size<=B->mw x ⟨d,c9,⟨f,o,p,a,r,s,u⟩,pb,ph,pt,d3,g⟩ w (MZ (Nn #[G,Q I rr])) W):=A λhn G B W rr b3 M D hB=>b3▸E9 (q:=⟨d,c9,⟨f,o,p,a,r,s,u⟩,pb,ph,pt,d3,g⟩) hn M D hB;have CG:=A (gW f L ht);have k3:=A (AR y x a f L (h.aD d4) O);have p5:(x.Q.length:Int)<=8:=O;have p6:=h.lt;have q0:y<L.heap.size:=by have:=d4.size;omega
 have l8:c<L.heap.size:=(Mu.1 a9).1;have i0:L.cell? ⟨c,0,S⟩=N (MS f):=aB a9 rfl;have i1:L.cell? ⟨c,1,S⟩=N (MS o):=aB a9 rfl;have i2:L.cell? ⟨c,2,S⟩=N (Q I a):=aB a9 rfl;have i3:L.cell? ⟨c,3,S⟩=N (Q I r):=aB a9 rfl;have i4:L.cell? ⟨c,4,S⟩=N (M0 p):=aB a9 rfl;have i5:L.cell? ⟨c,5,S⟩=N (MS s):=aB a9 rfl;have i6:L.cell? ⟨c,6,S⟩=N (MS u):=aB a9 rfl;have n0:=MW d4 c0;have n1:=A f4;have k4:dH f=Mk->az x.K a f=none:=λhg=>by
  cases b0:az x.K a f with
  |none=>rfl
  |some e=>
   have X:=OT b0;have k6:=List.find?_some b0;simp only[Bool.and_eq_true,beq_iff_eq]at k6;have:e.mac=f:=jo k6.2;rw[<-this,(f4 e X).2]at hg;cases hg
 have n2:=A k4;clear h l6 i9 c0 d4 a9 f0 f6 hT hK l hk hs f4 k4;simp only[an];go_enter func139,ntmps139;go_wp2_with fail
 rw[<-l7.o,<-b2.o];refine CG.o.mono ?_;rintro e W ⟨rfl,d6⟩;rw[d6];clear d6 W CG;cases g5:dH f with
 |true=>
  have n3:=A g5;clear g5;go_wp2_with fail
  go_loopw [13,14] (λg6 i wr=>∃k:Nat,k<=x.Q.length/\i=Q I k/\aX mc c wr 3 1 g6 (dC x.P d g a k)/\Mb w.heap.size w wr/\wr.heap[c]?=N (MY #[MS f,MS o,Q I a,Q I r,M0 p,MS s,MS u] 248 (0,0))) (λ_ i _=>x.Q.length- (Nw i).toNat)
  case atStart=>exact⟨0,O,rfl,aX.nil _ _ _ _ _,d5.o,f8.o⟩
  case round=>
   obtain⟨k,hk,rfl,Z,D,v⟩:=hrel;obtain⟨la,b6,lg,g7,-⟩:=Z.row iz;subst g7;obtain⟨m,X⟩:=UX ((dC x.P d g a k).length);rw[<-X]at Z⊢;have yc:=MW D k0.o;have ly:y<wr.heap.size:=MO yc;have e2:wr.cell? ⟨c,2,S⟩=N (Q I a):=aB v rfl;have lb:c<wr.heap.size:=MO e2;by_cases c6:k<x.Q.length
   ·have f2:(k:Int)<x.Q.length:=by omega
    have Y:=A (od y k x a wr (HX.o.aD D) c6 f7.o a1.o);have h1:=A Z;have HB:=A D;have h2:=A v;have HM:=A X;clear Z D v X;go_wp2_with fail
    refine Y.o.mono ?_;rintro e n ⟨rfl,E⟩;have H:Mb w.heap.size w n:=HB.o.trans (E.mono HB.o.size);have C:=(E.block c lb).trans h2.o;have a3:=h1.o.aD E;have F:=A H;have J:=A C;have K:=A a3;cases l:gH (iD x.P k) a with
    |false=>
     have P:aA (dC x.P d g a (k+1)=dC x.P d g a k):=A (by rw[fR,l];rfl);clear l E H C a3 Y;go_wp2_with fail
     go_roundw
     case rel=>exact⟨k+1,O,by go_num,by rw[P.o];exact K.o,F.o,J.o⟩
     case measure=>simp[Nw];omega
    |true=>
     cases hp:((k:Int)!=d)with
     |false=>
      cases g with
      |false=>
       have P:aA (dC x.P d Md a (k+1)=dC x.P d Md a k):=A (by rw[fR,l,hp];rfl);clear l E H C a3 Y;go_wp2_with fail
       go_roundw
       case rel=>exact⟨k+1,O,by go_num,by rw[P.o];exact K.o,F.o,J.o⟩
       case measure=>simp[Nw];omega
      |true=>
       have P:aA (dC x.P d Mk a (k+1)=dC x.P d Mk a k++[(k:Int)]):=A (by rw[fR,l,hp];rfl);clear l E H C a3 Y;obtain⟨g3,h4,w3,R,T,U⟩:=lj (j:=(k:Int)) K.o (by have:=F.o.size;rw[b2.o];exact this) (by have:=fq x.P d Mk a k;have:=a1.o;omega);rw[<-HM.o]at R T;have h5:=dN R;have nb:(MR la m b6).ownBlock≠N c:=dq K.o.1 J.o US;have a5:=(U.block c (Mu.1 J.o).1 nb).trans J.o;have a6:Mb w.heap.size w w3:=F.o.trans (U.aD F.o.size λb c1=>by have:=K.o.iG c1;rw[b2.o]at this;exact this);have c2:=A T;have c3:=A a5;have c4:=A a6;clear R T U nb a5 a6;go_wp2_with fail
       go_roundw
       case rel=>exact⟨k+1,O,by go_num,by rw[P.o];exact c2.o,c4.o,c3.o⟩
       case measure=>simp[Nw];omega
     |true=>
      have P:aA (dC x.P d g a (k+1)=dC x.P d g a k++[(k:Int)]):=A (by rw[fR,l,hp];rfl);clear l E H C a3 Y;obtain⟨g3,h4,w3,R,T,U⟩:=lj (j:=(k:Int)) K.o (by have:=F.o.size;rw[b2.o];exact this) (by have:=fq x.P d g a k;have:=a1.o;omega);rw[<-HM.o]at R T;have h5:=dN R;have nb:(MR la m b6).ownBlock≠N c:=dq K.o.1 J.o US;have a5:=(U.block c (Mu.1 J.o).1 nb).trans J.o;have a6:Mb w.heap.size w w3:=F.o.trans (U.aD F.o.size λb c1=>by have:=K.o.iG c1;rw[b2.o]at this;exact this);have c2:=A T;have c3:=A a5;have c4:=A a6;clear R T U nb a5 a6;go_wp2_with fail
      go_roundw
      case rel=>exact⟨k+1,O,by go_num,by rw[P.o];exact c2.o,c4.o,c3.o⟩
      case measure=>simp[Nw];omega
   ·have f2:¬(k:Int)<x.Q.length:=by omega
    have h6:k=x.Q.length:=O;subst h6;have hT:=Z.Ke;have V:=A (mM y x ⟨f,o,p,a,r,s,u⟩ (dC x.P d g a x.Q.length) (MR la m b6) wr (HX.o.aD D) hT (qw _ _ _ _ _) (by have:=fq x.P d g a x.Q.length;have:=a1.o;omega) a1.o f9.o g0.o g1.o);have e0:wr.cell? ⟨c,0,S⟩=N (MS f):=aB v rfl;have e1:wr.cell? ⟨c,1,S⟩=N (MS o):=aB v rfl;have e3:wr.cell? ⟨c,3,S⟩=N (Q I r):=aB v rfl;have e4:wr.cell? ⟨c,4,S⟩=N (M0 p):=aB v rfl;have e5:wr.cell? ⟨c,5,S⟩=N (MS s):=aB v rfl;have e6:wr.cell? ⟨c,6,S⟩=N (MS u):=aB v rfl;have HB:=A D;clear Z D v X hT;simp only[an]at V;obtain⟨rr,b3⟩:=UX ((if dC x.P d g a x.Q.length=[]then 8 else 0):Int);rw[<-b3]at V;have h7:=A b3;clear b3;go_wp2_with fail
    refine V.o.mono ?_;rintro e W ⟨G,rfl,M,a7⟩;have HF:=A (k1.o (n2.o n3.o) G W rr h7.o M (HB.o.trans (a7.mono HB.o.size)) HB.o.size);clear M a7 V;go_wp2;go_ret2;exact HF.o
 |false=>
  clear g5;go_wp2_with fail
  refine k3.o.mono ?_;rintro e W ⟨rfl,d6⟩;rw[d6];clear d6 W k3;cases b0:az x.K a f with
  |none=>
   have e8:jU x.K a f= -1:=by unfold jU;rw[b0]
   rw[e8];have o6:=A b0;clear e8 b0;go_wp2_with fail
   go_loopw [13,14] (λg6 i wr=>∃k:Nat,k<=x.Q.length/\i=Q I k/\aX mc c wr 3 1 g6 (dC x.P d g a k)/\Mb w.heap.size w wr/\wr.heap[c]?=N (MY #[MS f,MS o,Q I a,Q I r,M0 p,MS s,MS u] 248 (0,0))) (λ_ i _=>x.Q.length- (Nw i).toNat)
   case atStart=>exact⟨0,O,rfl,aX.nil _ _ _ _ _,d5.o,f8.o⟩
   case round=>
    obtain⟨k,hk,rfl,Z,D,v⟩:=hrel;obtain⟨la,b6,lg,g7,-⟩:=Z.row iz;subst g7;obtain⟨m,X⟩:=UX ((dC x.P d g a k).length);rw[<-X]at Z⊢;have yc:=MW D k0.o;have ly:y<wr.heap.size:=MO yc;have e2:wr.cell? ⟨c,2,S⟩=N (Q I a):=aB v rfl;have lb:c<wr.heap.size:=MO e2;by_cases c6:k<x.Q.length
    ·have f2:(k:Int)<x.Q.length:=by omega
     have Y:=A (od y k x a wr (HX.o.aD D) c6 f7.o a1.o);have h1:=A Z;have HB:=A D;have h2:=A v;have HM:=A X;clear Z D v X;go_wp2_with fail
     refine Y.o.mono ?_;rintro e n ⟨rfl,E⟩;have H:Mb w.heap.size w n:=HB.o.trans (E.mono HB.o.size);have C:=(E.block c lb).trans h2.o;have a3:=h1.o.aD E;have F:=A H;have J:=A C;have K:=A a3;cases l:gH (iD x.P k) a with
     |false=>
      have P:aA (dC x.P d g a (k+1)=dC x.P d g a k):=A (by rw[fR,l];rfl);clear l E H C a3 Y;go_wp2_with fail
      go_roundw
      case rel=>exact⟨k+1,O,by go_num,by rw[P.o];exact K.o,F.o,J.o⟩
      case measure=>simp[Nw];omega
     |true=>
      cases hp:((k:Int)!=d)with
      |false=>
       cases g with
       |false=>
        have P:aA (dC x.P d Md a (k+1)=dC x.P d Md a k):=A (by rw[fR,l,hp];rfl);clear l E H C a3 Y;go_wp2_with fail
        go_roundw
        case rel=>exact⟨k+1,O,by go_num,by rw[P.o];exact K.o,F.o,J.o⟩
        case measure=>simp[Nw];omega
       |true=>
        have P:aA (dC x.P d Mk a (k+1)=dC x.P d Mk a k++[(k:Int)]):=A (by rw[fR,l,hp];rfl);clear l E H C a3 Y;obtain⟨g3,h4,w3,R,T,U⟩:=lj (j:=(k:Int)) K.o (by have:=F.o.size;rw[b2.o];exact this) (by have:=fq x.P d Mk a k;have:=a1.o;omega);rw[<-HM.o]at R T;have h5:=dN R;have nb:(MR la m b6).ownBlock≠N c:=dq K.o.1 J.o US;have a5:=(U.block c (Mu.1 J.o).1 nb).trans J.o;have a6:Mb w.heap.size w w3:=F.o.trans (U.aD F.o.size λb c1=>by have:=K.o.iG c1;rw[b2.o]at this;exact this);have c2:=A T;have c3:=A a5;have c4:=A a6;clear R T U nb a5 a6;go_wp2_with fail
        go_roundw
        case rel=>exact⟨k+1,O,by go_num,by rw[P.o];exact c2.o,c4.o,c3.o⟩
        case measure=>simp[Nw];omega
      |true=>
       have P:aA (dC x.P d g a (k+1)=dC x.P d g a k++[(k:Int)]):=A (by rw[fR,l,hp];rfl);clear l E H C a3 Y;obtain⟨g3,h4,w3,R,T,U⟩:=lj (j:=(k:Int)) K.o (by have:=F.o.size;rw[b2.o];exact this) (by have:=fq x.P d g a k;have:=a1.o;omega);rw[<-HM.o]at R T;have h5:=dN R;have nb:(MR la m b6).ownBlock≠N c:=dq K.o.1 J.o US;have a5:=(U.block c (Mu.1 J.o).1 nb).trans J.o;have a6:Mb w.heap.size w w3:=F.o.trans (U.aD F.o.size λb c1=>by have:=K.o.iG c1;rw[b2.o]at this;exact this);have c2:=A T;have c3:=A a5;have c4:=A a6;clear R T U nb a5 a6;go_wp2_with fail
       go_roundw
       case rel=>exact⟨k+1,O,by go_num,by rw[P.o];exact c2.o,c4.o,c3.o⟩
       case measure=>simp[Nw];omega
    ·have f2:¬(k:Int)<x.Q.length:=by omega
     have h6:k=x.Q.length:=O;subst h6;have hT:=Z.Ke;have V:=A (mM y x ⟨f,o,p,a,r,s,u⟩ (dC x.P d g a x.Q.length) (MR la m b6) wr (HX.o.aD D) hT (qw _ _ _ _ _) (by have:=fq x.P d g a x.Q.length;have:=a1.o;omega) a1.o f9.o g0.o g1.o);have e0:wr.cell? ⟨c,0,S⟩=N (MS f):=aB v rfl;have e1:wr.cell? ⟨c,1,S⟩=N (MS o):=aB v rfl;have e3:wr.cell? ⟨c,3,S⟩=N (Q I r):=aB v rfl;have e4:wr.cell? ⟨c,4,S⟩=N (M0 p):=aB v rfl;have e5:wr.cell? ⟨c,5,S⟩=N (MS s):=aB v rfl;have e6:wr.cell? ⟨c,6,S⟩=N (MS u):=aB v rfl;have HB:=A D;clear Z D v X hT;simp only[an]at V;obtain⟨rr,b3⟩:=UX ((if dC x.P d g a x.Q.length=[]then 8 else 0):Int);rw[<-b3]at V;have h7:=A b3;clear b3;go_wp2_with fail
     refine V.o.mono ?_;rintro e W ⟨G,rfl,M,a7⟩;have HF:=A (k1.o o6.o G W rr h7.o M (HB.o.trans (a7.mono HB.o.size)) HB.o.size);clear M a7 V;go_wp2;go_ret2;exact HF.o
  |some z=>
   have X:z∈x.K:=OT b0;obtain⟨⟨o7,o8⟩,-⟩:=n1.o z X;obtain⟨k,h8⟩:∃k:Nat,z.port=k:=⟨z.port.toNat,O⟩;have e8:jU x.K a f=(k:Int):=by unfold jU;rw[b0,<-h8]
   have c6:k<x.Q.length:=O;rw[e8];have Y:=A (od y k x a L (HX.o.aD d5.o) c6 f7.o a1.o);have f2:(k:Int)<x.Q.length:=O;have HL:aA (zk x ⟨d,c9,⟨f,o,p,a,r,s,u⟩,pb,ph,pt,d3,g⟩=if(((k:Int)!=d)||g)&&gH (iD x.P k) a then jE x.P ⟨f,o,p,a,r,s,u⟩ [(k:Int)]else []):=A (by
    unfold zk;show fS x.P _ (iL (az x.K a f)) (az x.K a f).isSome x.Q.length=_;rw[b0];show fS x.P _ z.port Mk x.Q.length=_;rw[h8];exact JH _ _ _ _ c6)
   clear e8 b0 X o7 o8 h8;go_wp2_with fail
   refine Y.o.mono ?_;rintro e n ⟨rfl,E⟩;have H:Mb w.heap.size w n:=d5.o.trans (E.mono d5.o.size);have C:=(E.block c l8).trans f8.o;have F:=A H;have k9:aA (((((k:Int)!=d)||g)&&gH (iD x.P k) a)=Md->mw x ⟨d,c9,⟨f,o,p,a,r,s,u⟩,pb,ph,pt,d3,g⟩ w (MZ (Nn #[MR S 0 0,Q I 8])) n):=A λhc=>by
    have e:=HL.o;rw[hc]at e;exact⟨_,by rw[e];rfl,by rw[e];exact aX.nil _ _ _ _ _,F.o⟩
   have l0:aA (((((k:Int)!=d)||g)&&gH (iD x.P k) a)=Mk->∀(G:Ma) (W:MV) {B:Nat},aX eY B W 66 2 G (jE x.P ⟨f,o,p,a,r,s,u⟩ [(k:Int)])->Mb w.heap.size w W->w.heap.size<=B->mw x ⟨d,c9,⟨f,o,p,a,r,s,u⟩,pb,ph,pt,d3,g⟩ w (MZ (Nn #[G,Q I 0])) W):=A λhc G W B M D hB=>by
    have e:=HL.o;rw[hc]at e;exact⟨_,by rw[e];rfl,by rw[e];exact M.uc hB,D⟩
   have V:aA (Mo MT 136 #[MQ (N ⟨y,0,S⟩),M1 (an ⟨f,o,p,a,r,s,u⟩),MR (N ⟨n.heap.size,0,S⟩) 1 1] (n.alloc (MY #[Q I k] 3)) λe w'=>∃G,e=MZ (Nn #[G,Q I 0])/\aX eY (n.alloc (MY #[Q I k] 3)).heap.size w' 66 2 G (jE x.P ⟨f,o,p,a,r,s,u⟩ [(k:Int)])/\Mb (n.alloc (MY #[Q I k] 3)).heap.size (n.alloc (MY #[Q I k] 3)) w'):=A (by
    have o9:Mb n.heap.size n (n.alloc (MY #[Q I k] 3)):=(MU _ n).alloc (MP _) _;have hn:ir (n.alloc (MY #[Q I k] 3)) (MR (N ⟨n.heap.size,0,S⟩) 1 1) [(k:Int)]:=⟨_,_,n.heap.size,rfl,λj hj=>by
     have:j=0:=by simp at hj;exact hj
     subst this;exact⟨rfl,aB (aU _ _) rfl⟩⟩
    have hx:=mM y x ⟨f,o,p,a,r,s,u⟩ [(k:Int)] (MR (N ⟨n.heap.size,0,S⟩) 1 1) (n.alloc (MY #[Q I k] 3)) ((HX.o.aD H).aD o9) hn (λt ht=>by rw[List.mem_singleton]at ht;subst ht;omega) (by simp) a1.o f9.o g0.o g1.o;exact hx)
   simp only[an]at V;have j0:n.cell? ⟨c,0,S⟩=N (MS f):=aB C rfl;have j1:n.cell? ⟨c,1,S⟩=N (MS o):=aB C rfl;have j2:n.cell? ⟨c,2,S⟩=N (Q I a):=aB C rfl;have j3:n.cell? ⟨c,3,S⟩=N (Q I r):=aB C rfl;have j4:n.cell? ⟨c,4,S⟩=N (M0 p):=aB C rfl;have j5:n.cell? ⟨c,5,S⟩=N (MS s):=aB C rfl;have j6:n.cell? ⟨c,6,S⟩=N (MS u):=aB C rfl;have q7:c<n.heap.size:=MO j0;have f3:=A (show w.heap.size<=(n.alloc (MY #[Q I k] 3)).heap.size by have:=H.size;simp;omega);have l3:=A (show Mb w.heap.size w (n.alloc (MY #[Q I k] 3))from H.alloc H.size _);clear E C H Y i0 i1 i2 i3 i4 i5 i6 n0;cases l:gH (iD x.P k) a with
   |false=>
    have HF:=A (k9.o (by rw[l,Pj]));clear l;go_wp2;go_ret2;exact HF.o
   |true=>
    cases hp:((k:Int)==d)with
    |true=>
     cases g with
     |false=>
      have HF:=A (k9.o (by rw[l];simp[bne,hp]));clear l;go_wp2;go_ret2;exact HF.o
     |true=>
      have HO:=A (l0.o (by rw[l];simp));clear l;go_wp2_with fail
      refine V.o.mono ?_;rintro e W ⟨G,rfl,M,a7⟩;have HF:=A (HO.o G W M (l3.o.trans (a7.mono f3.o)) f3.o);clear M a7 V;go_wp2;go_ret2;exact HF.o
    |false=>
     have HO:=A (l0.o (by rw[l];simp[bne,hp]));clear l;go_wp2_with fail
     refine V.o.mono ?_;rintro e W ⟨G,rfl,M,a7⟩;have HF:=A (HO.o G W M (l3.o.trans (a7.mono f3.o)) f3.o);clear M a7 V;go_wp2;go_ret2;exact HF.o
end
section
variable {α:Type}{l:List α}{r:α}
theorem eq(a:k<=l.length):(l.take k++r::l.drop k).length=l.length+1:=by
 simp only[List.length_append,Mh,List.length_cons,List.length_drop];omega
theorem J6(a:k<=l.length):(l.take k++r::l.drop k)[k]'(by rw[eq a];omega)=r:=by
 rw[List.getElem_append_right (by rw[Mh];omega)];simp[Nat.min_eq_left a]
theorem JB(a:j+1<=l.length):(l.take (j+1)++r::l.drop (j+1))[j]'(by rw[eq a];omega)=l[j]'O:=by
 rw[List.getElem_append_left (by rw[Mh];omega),PR]
theorem Gb(d:j+1<=l.length):(((l.take (j+1)++r::l.drop (j+1)).set (j+1) (l[j]'O)).set j r)=l.take j++r::l.drop j:=by
 have b:l.take (j+1)=l.take j++[l[j]'O]:=by
  rw[Uo,NZ O];rfl
 have c:l.drop j=(l[j]'O)::l.drop (j+1):=List.drop_eq_getElem_cons O;have a:(l.take j).length=j:=by rw[Mh];omega
 rw[c,b,List.append_assoc,List.singleton_append];rw[QE _ _ (by rw[a];omega),a,show j+1-j=1 by omega];rw[QE _ _ (by rw[a];omega),a,Nat.sub_self];rfl
theorem JA(q:α):q∈l.take k++r::l.drop k↔q=r\/q∈l:=by
 rw[Od,Nk];constructor
 ·rintro(h|h|h)
  ·exact MX (List.mem_of_mem_take h)
  ·exact Mf h
  ·exact MX (List.mem_of_mem_drop h)
 ·rintro(h|h)
  ·exact MX (Mf h)
  ·rw[<-List.take_append_drop k l,Od]at h;rcases h with h|h
   ·exact Mf h
   ·exact MX (MX h)
end
theorem tZ{a b:Mc}(h:bL a b.vlan b.mac<0)(k:bL b c.vlan c.mac<0):bL a c.vlan c.mac<0:=rF h k
theorem Eb(f:bZ K)(v:i<=K.length)(w:K.length<64)(m:az K c.vlan c.mac=S)(n:∀j (d:j<K.length),i<=j->bL c K[j].vlan K[j].mac<0)(x:∀(h:0<i),¬bL c (K[i-1]'O).vlan (K[i-1]'O).mac<0):dy K c (K.take i++c::K.drop i):=by
 have o:∀q∈K,bL q c.vlan c.mac≠0:=λq g p=>by
  rw[hZ]at p;have:=OQ.1 m q g;exact this p
 have y:∀j (d:j<K.length),j<i->bL K[j] c.vlan c.mac<0:=λj d s=>by
  have t:bL (K[i-1]'O) c.vlan c.mac<0:=by
   rcases Int.lt_trichotomy (bL (K[i-1]'O) c.vlan c.mac) 0 with h|h|h
   ·exact h
   ·exact absurd h (o _ (Ms _))
   ·exact absurd (vR h) (x O)
  by_cases e:j=i-1
  ·subst e;exact t
  ·exact tZ (Mr.1 f j (i-1) d O O) t
 refine⟨?_,?_⟩
 ·show(K.take i++c::K.drop i).Pairwise λa b=>bL a b.vlan b.mac<0;rw[List.pairwise_append];refine⟨f.sublist (List.take_sublist i K),List.pairwise_cons.2 ⟨λq g=>?_,f.sublist (List.drop_sublist i K)⟩,λa z b k=>?_⟩
  ·obtain⟨j,d,rfl⟩:=Mt g;rw[Pt];exact n _ _ O
  ·obtain⟨j,d,rfl⟩:=Mt z;rw[PR];have s:j<i:=by rw[Mh]at d;omega
   have u:=y j (by rw[Mh]at d;omega) s;rcases Nk.1 k with rfl|k
   ·exact u
   ·obtain⟨B,C,rfl⟩:=Mt k;rw[Pt];exact tZ u (n _ _ O)
 ·rw[m];have:(Option.isSome (S:Option Mc)||M9 (K.length<64))=true:=by simp[w]
  rw[if_pos this];refine⟨λq=>?_,by rw[eq v];rfl⟩;rw[JA];constructor
  ·rintro(h|h)
   ·exact Mf h
   ·exact MX ⟨h,o q h⟩
  ·rintro(h|h)
   ·exact Mf h
   ·exact MX h.1
theorem Ea{b:Mc}(f:bZ K)(d:k<K.length)(g:bL K[k] b.vlan b.mac=0):dy K b (K.set k b):=by
 have c:K[k].vlan=b.vlan/\K[k].mac=b.mac:=by
  have:=gn.1 g;exact⟨this.1,jo this.2⟩
 have x:∀j (a:j<K.length),j≠k->bL K[j] b.vlan b.mac≠0:=λj a m n=>by
  have s:=gn.1 n;have t:K[j].vlan=K[k].vlan:=s.1.trans c.1.symm;have u:K[j].mac=K[k].mac:=(jo s.2).trans c.2.symm;rcases Nat.lt_or_gt_of_ne m with h|h
  ·have:=Mr.1 f j k a d h;rw[<-t,<-u]at this;exact kL _ this
  ·have:=Mr.1 f k j d a h;rw[t,u]at this;exact kL _ this
 have v:(az K b.vlan b.mac).isSome=true:=by
  unfold az;rw[List.find?_isSome];exact⟨K[k],Ms d,hZ.1 g⟩
 refine⟨?_,?_⟩
 ·refine Mr.2 λi j w a y=>?_;rw[Mw]at w a;have o:=Mr.1 f i j w a y;rw[OA,OA];split
  ·rename_i e
   subst e;rw[if_neg O];have:bL b K[j].vlan K[j].mac=bL K[k] K[j].vlan K[j].mac:=by unfold bL;rw[c.1,c.2]
   rw[this];exact o
  ·split
   ·rename_i e
    subst e;rw[<-c.1,<-c.2];exact o
   ·exact o
 ·rw[if_pos (by rw[v];rfl),if_pos v];refine⟨λq=>?_,Mw ..⟩;constructor
  ·intro p;obtain⟨j,a,rfl⟩:=Mt p;rw[Mw]at a;rw[OA];split
   ·exact Mf rfl
   ·rename_i e
    exact MX ⟨Ms a,x j a (λh=>e h.symm)⟩
  ·rintro(rfl|⟨p,n⟩)
   ·exact Rq.2 ⟨k,by rw[Mw];exact d,List.getElem_set_self ..⟩
   ·obtain⟨j,a,rfl⟩:=Mt p;have m:k≠j:=λe=>by subst e;exact n g
    exact Rq.2 ⟨j,by rw[Mw];exact a,List.getElem_set_ne m ..⟩
theorem aT.KV{y:Nat}{x:aK}(h:aT w y x){e:Ma}{k:List Mc}(p:aH (λb=>b=y\/x.kv.ownBlock=N b) w W)(u:∃m,W.heap[y]?=N (MY m 90 (0,0)))(a:∀j,j≠4->W.cell? ⟨y,j,S⟩=w.cell? ⟨y,j,S⟩)(z:W.cell? ⟨y,4,S⟩=N e)(C:aX (d8 x.now) 1 W 92 4 e k):aT W y {x with kv:=e,K:=k}:=by
 obtain⟨m,D⟩:=h.blk;have c:∀{t:NL} {s n B:Nat} {v:Ma} {E:List Ma},w.ownsRow B t s v n E->t≠90->t≠92->∀g,v.ownBlock=N g->W.heap[g]?=w.heap[g]?:=λf F G g i=>p.block g (f.lt g i).2 λd=>by
  rcases d with d|d
  ·exact dq f D F (i.trans (congrArg N d))
  ·exact kd f h.rk.1 G i d
 exact⟨u,(a 0 US).trans h.c0,(a 1 US).trans h.c1,(a 2 US).trans h.c2,(a 3 US).trans h.c3,z,(a 5 US).trans h.c5,h.rp.same (c h.rp.1 US US),h.rf.same (c h.rf.1 US US),h.rr.same (c h.rr.1 US US),h.rt.same (c h.rt.1 US US),C,λq o=>aY (h.tg q o) (c (h.tg q o) US US)⟩
def xQ(y:Nat)(x:aK)(d:Mc)(w:MV)(e:Ending)(W:MV):Prop:=e=MZ (Nn #[])/\∃a c,dy x.K d c/\aT W y {x with kv:=a,K:=c}/\aH (λb=>b=y\/x.kv.ownBlock=N b) w W/\∀b,a.ownBlock=N b->x.kv.ownBlock=N b\/w.heap.size<=b
theorem vC(f:Int)(e:Mc):∀u∈d8 f e,u.oneCell'=true:=by simp[d8,NC]
theorem vK:(prog.info? 92).map (λi=>(i.zero,i.size,i.bytes))=N (N (M1 #[Q I 0,MS ⟨#[]⟩,Q I 0,Q I 0]),4,40):=UR
theorem qd:prog.underlying 88=N (.slice 92):=UR
theorem r8:∃d,prog.underlying 92=N d/\d.isRow=true:=gO UR
theorem dp:(prog.info? 92).map (·.size)=N 4:=UR
theorem FH{w:MV}{f:Int}{L:List Mc}{e:Mc}(h:aX (d8 f) B w 92 4 v L)(C:B<=w.heap.size)(D:L.length<=1000):∃g m d,(Builtin.append_ #[88,88] 88 #[v,MR (N ⟨w.heap.size,0,S⟩) 1 1]).run MT (w.alloc (MY #[Q I e.vlan,MS e.mac,Q I e.port,Q I (f-e.age)] 92)).drew=.ok (MR (N ⟨g,0,S⟩) (L.length+1) m) d/\aX (d8 f) B d 92 4 (MR (N ⟨g,0,S⟩) (L.length+1) m) (L++[e])/\aH (λb=>v.ownBlock=N b) w d/\(v.ownBlock=N g\/w.heap.size<=g):=by
 obtain⟨E,j,n,o,p⟩:=Ob vK;have i:Mb w.heap.size w (w.alloc (MY #[Q I e.vlan,MS e.mac,Q I e.port,Q I (f-e.age)] 92)).drew:=((MU _ w).alloc (MP _) _).drew;obtain⟨g,m,d,r,s,t,x⟩:=(h.aD i).append (P:=MT) (tl:=88) (c:=1) (dF f) (vC f) qd j n o p rfl US [e] (by simp) (a:=⟨w.heap.size,0,S⟩) (λq u z=>by rw[Nx];exact aN w #[Q I e.vlan,MS e.mac,Q I e.port,Q I (f-e.age)] 92 q u z) (by unfold maxLen;simp;omega) UU UU;exact⟨g,m,d,r,s,(aH.aG i).trans t,x.imp id λh=>by simp at h;omega⟩
structure dz (y g m:Nat) (f:Int) (K:List Mc) (l:Mc) (w:MV) (k:Nat) (W:MV):Prop where
 own:aX (d8 f) 1 W 92 4 (MR (N ⟨g,0,S⟩) (K.length+1) m) (K.take k++l::K.drop k)
 cell:W.cell? ⟨y,4,S⟩=N (MR (N ⟨g,0,S⟩) (K.length+1) m)
 bef:∀j (hj:j<K.length),k<=j->bL l K[j].vlan K[j].mac<0
 chg:aH (λb=>b=g) w W
 ne:g≠y
section
variable {y g m k:Nat}{f:Int}{K:List Mc}{l:Mc}{w W:World}
theorem dz.aD(h:dz y g m f K l w k W){W':MV}(a:Mb W.heap.size W W'):dz y g m f K l w k W':=
 ⟨h.own.aD a,MW a h.cell,h.bef,h.chg.trans (aH.aG a),h.ne⟩
theorem dz.range(h:dz y g m f K l w k W)(b:k<=K.length):W.rangeAt g (k*4) (d8 f l):=by
 obtain⟨a,c,n,e,d⟩:=h.own.row (dF f);injection e with l _ _;subst l;obtain⟨i,j⟩:=d k (by rw[eq b];omega);cases i;rwa[J6 b]at j
theorem dz.re(h:dz y g m f K l w (j+1) W)(b:j+1<=K.length):W.rangeAt g (j*4) (d8 f (K[j]'O)):=by
 obtain⟨a,c,o,e,d⟩:=h.own.row (dF f);injection e with l _ _;subst l;obtain⟨i,n⟩:=d j (by rw[eq b];omega);cases i;rwa[JB b]at n
theorem dz.there(h:dz y g m f K l w k W)(a:k<=K.length)(b:i<=K.length):W.there g (i*4) 4:=
 h.own.there (by rw[eq a]) (by rw[eq a];omega)
theorem iA{X:Nat->Prop}{a:MV}{g:Nat}:∀(c:List Ma) (o:Nat) {b:MV},X g->aH X a b->aH X a (b.setCells g o c)
 |[],_,_,_,h=>h
 |v::c,o,_,d,h=>iA c (o+1) d (aH.setCell (p:=⟨g,o,S⟩) h (Mf d) v)
theorem dz.Jv(h:dz y g m f K l w (j+1) W)(c:j+1<=K.length)(e:bL l (K[j]'O).vlan (K[j]'O).mac<0):dz y g m f K l w j ((W.setCells g ((j+1)*4) (d8 f (K[j]'O))).setCells g (j*4) (d8 f l)):=by
 have a:=eq (r:=l) c;have n:=h.own.nO (dF f) (by rw[a]) (i:=j+1) (by rw[a];omega) (K[j]'O);have d:=n.nO (dF f) (by rw[Mw,a]) (i:=j) (by rw[Mw,a];omega) l;rw[Gb c]at d;refine⟨d,?_,λi o p=>?_,?_,h.ne⟩
 ·rw[(aV _ _ _ _ (Ne.symm h.ne)).1,(aV _ _ _ _ (Ne.symm h.ne)).1];exact h.cell
 ·rcases Nat.lt_or_eq_of_le p with b|b
  ·exact h.bef i o b
  ·subst b;exact e
 ·exact iA (d8 f l) (j*4) rfl (iA (d8 f (K[j]'O)) ((j+1)*4) rfl h.chg)
theorem dz.AH(h:dz y g m f K l w (j+1) W)(b:j+1<=K.length):(W.setCells g ((j+1)*4) (d8 f (K[j]'O))).there g (j*4) 4:=by
 have a:=eq (r:=l) b;have c:=h.own.nO (dF f) (by rw[a]) (i:=j+1) (by rw[a];omega) (K[j]'O);exact c.there (by rw[Mw,a]) (by rw[Mw,a];omega)
theorem dz.drew(h:dz y g m f K l w k W):dz y g m f K l w k W.drew:=h.aD ((MU _ W).drew)
end
end Go.Proofs.YtnjalelblbjfiaaGreatDoor
