import Derived.Test.YtnjalelblbjfiaaGreatDoorP8
import Derived.Test.YtnjalelblbjfiaaGreatDoorP3
namespace Go.Proofs.YtnjalelblbjfiaaGreatDoor
set_option maxRecDepth 100000
set_option maxHeartbeats 16000000
open Go.RowKit
open Go.Proofs.Tryz
open Go.Sort (grow)
open Go renaming World→MV,Value→Ma,Oper→Sc,Addr→Oz,wpList→SJ,info_parts→Ob,block_lt_of_cell→MO,TypeId→NL,heap_setCell_same→Mn,Calls→Mo,cell_later→MW,Program→Q4,maxLen→Nj,run_append_own→QF,callsIn_wide→PF,undef→NS
open Go.IntKind renaming i64→I
open Go.Obj renaming cells→MY
open Go.Proofs.Tryz renaming prog→MT
open Go.RowKit renaming Below→Mb
open Go.Value renaming slice→MR,int→Q,agg→M1,pointer→MQ,ownBlock→NF
open List renaming length_append→Mz,length_cons→N6,mem_cons→Nk,not_mem_nil→OE,take_append_drop→Np,length_take→Mh,getElem?_eq_some_iff→OR,getElem_of_mem→Mt,length_drop→M2,append_assoc→Oi,length_set→Mw,length→SN,set_append_right→QE,getElem_mem→Ms,mem_cons_self→PY,pairwise_cons→PJ,mem_cons_of_mem→PB,getElem_take→PR,pairwise_iff_getElem→Mr,length_map→ND,mem_map→OD,map_append→Pd,getElem_map→Qi,map_map→S2
open Nat renaming min_eq_left→Oo,lt_or_eq_of_le→Nr,le_trans→Mx,le_refl→MP,mul_le_mul_right→NX,zero_add→NO,lt_of_lt_of_le→Mi,lt_trichotomy→Qf
open Option renaming none→S,some→N
open Or renaming inr→MX,inl→Mf
open Bool renaming false→Md,true→Mk,and_eq_true→NH
open Go.Ending renaming returned→MZ
open Go.World renaming frozen?_setCell→Ni,cell?_of_block→Mj,frozen?_of_block→NJ,cell?_setCell_same→Nf,setCells→PX
open Ne renaming symm→O7
open Go.RowKit.Below renaming heap_setCell→Nh,refl→MU
open Go.Builtin renaming append_→Na
variable {d x:Int}{L:List af}{a w:MV}{v:Ma}{t:NL}{B b c g i j k m n o s y:Nat}{F:Nat->Prop}{P:Q4}{r:Rl}
def d7(f:List Rl):List Value:=f.flatMap λr=>r.cells.toList
theorem ex(r:Rl):r.cells.toList.length=19:=rfl
theorem ef(f:List Rl):(d7 f).length=f.length*19:=by
 induction f with
 |nil=>rfl
 |cons e t a=>
  have:d7 (e::t)=e.cells.toList++d7 t:=rfl;rw[this,Mz,a,ex,N6];omega
theorem eH(a b:List Rl):d7 (a++b)=d7 a++d7 b:=List.flatMap_append
theorem ow(f:List Rl):∀u∈d7 f,u.oneCell'=true:=by
 intro u a;obtain⟨r,_,h⟩:=List.mem_flatMap.1 a;simp only[Rl.cells,Nk,OE,or_false]at h;rcases h with h|h|h|h|h|h|h|h|h|h|h|h|h|h|h|h|h|h|h<;>(rw[h];rfl)
theorem yE:∀(f:List Rl) (k:Nat) (a:k<f.length) (j:Nat),j<19->(d7 f)[k*19+j]?=f[k].cells[j]?
 |[],k,a,_,_=>absurd a (by simp)
 |e::t,k,a,j,b=>by
  have h:d7 (e::t)=e.cells.toList++d7 t:=rfl;rw[h];match k,a with
  |0,_=>rw[List.getElem?_append_left (by rw[ex];omega)];simp
  |k+1,a=>
   rw[List.getElem?_append_right (by rw[ex];omega),ex,show(k+1)*19+j-19=k*19+j by omega,yE t k (by simpa using a) j b];rfl
theorem D4(f:List Rl)(k:Nat)(a:k<=f.length):(d7 f).take (k*19)=d7 (f.take k):=by
 have h:=eH (f.take k) (f.drop k);rw[Np]at h;have b:(d7 (f.take k)).length=k*19:=by rw[ef,Mh,Oo a]
 rw[h,<-b,List.take_left]
theorem D5(f:List Rl)(k:Nat)(a:k<=f.length):(d7 f).drop (k*19)=d7 (f.drop k):=by
 have h:=eH (f.take k) (f.drop k);rw[Np]at h;have b:(d7 (f.take k)).length=k*19:=by rw[ef,Mh,Oo a]
 rw[h,<-b,List.drop_left]
def bU(B:Nat)(w:MV)(v:Ma)(f:List Rl):Prop:=w.ownsRow B 37 19 v f.length (d7 f)/\(f=[]->v=MR S 0 0)/\0<B
section
variable {B:Nat}{w w':World}{v:Value}{f:List Rl}
theorem bU.nil(w:MV)(a:0<B):bU B w (MR S 0 0) []:=⟨World.ownsRow_nil w B 37 19,λ_=>rfl,a⟩
theorem bU.row(h:bU B w v f):∃a c g,v=MR a f.length c/\∀k,(d:k<f.length)->a=N ⟨g,0,S⟩/\w.rangeAt g (k*19) f[k].cells.toList:=by
 rcases h.1.2 with⟨b,m⟩|⟨g,c,n,b,_⟩
 ·exact⟨S,0,0,by rw[b,m],λj e=>O⟩
 ·refine⟨_,c,g,b,λk d=>⟨rfl,λj u i=>?_⟩⟩;have l:=h.1;rw[b]at l;have e:j<19:=by have:=(OR.1 i).1;rwa[ex]at this
  rw[l.cellAt _ O,yE f k d j e];simpa using i
theorem bU.qP(h:bU B w v f)(i:v.ownBlock=N g):g≠0/\∃l t n a b c d,w.heap[g]?=N (MY l t n)/\l.size≠29/\w.cell? ⟨g,0,S⟩=N (Q I a)/\w.cell? ⟨g,1,S⟩=N (Q I b)/\w.cell? ⟨g,2,S⟩=N (Q I c)/\w.cell? ⟨g,3,S⟩=N (Q I d):=by
 have o:f≠[]:=by
  intro e;rw[h.2.1 e]at i;cases i
 have p:0<f.length:=List.length_pos_iff.2 o;obtain⟨a,x,y,m,q⟩:=h.row;obtain⟨r,j⟩:=q 0 p;rcases h.1.2 with⟨k,_⟩|⟨z,C,s,k,D,u,_,_,E,_⟩
 ·rw[k]at i;cases i
 ·rw[k]at i m;cases i;cases m;cases r;exact⟨by have:=h.2.2;simp;omega,s,_,_,_,_,_,_,u,O,j 0 _ rfl,j 1 _ rfl,j 2 _ rfl,j 3 _ rfl⟩
theorem bU.lE(h:bU B w v f)(a:v.ownBlock=N g):dB w g:=MX (MX (MX (MX (MX (h.qP a)))))
theorem bU.same(h:bU B w v f)(a:∀g,v.ownBlock=N g->w'.heap[g]?=w.heap[g]?):bU B w' v f:=⟨aY h.1 a,h.2⟩
theorem bU.lt(h:bU B w v f)(a:v.ownBlock=N g):g<w.heap.size:=(h.1.lt g a).2
theorem bU.aD(h:bU B w v f)(a:Mb w.heap.size w w'):bU B w' v f:=h.same λ_ b=>a.block _ (h.lt b)
end
theorem pI:(prog.info? 37).map (λi=>(i.zero,i.size,i.bytes))=N (N (M1 #[Q I 0,Q I 0,Q I 0,Q I 0,Q I 0,Q I 0,Q I 0,Q I 0,Q I 0,Q I 0,Q I 0,Q I 0,Q I 0,Q I 0,Q I 0,Q I 0,Q I 0,Q I 0,Q I 0]),19,152):=UR
theorem ib:prog.underlying 54=N (.slice 37):=UR
theorem lH{k:Array Sc}{l:List Sc}{o:Sc}{a:Act}{n:Exit->Act->MV->Prop}{B:Nat}{w:MV}{v:Ma}{f:List Rl}(h:bU B w v f)(p:o.guard=S)(s x:Operand)(q:o.op=.call {callee:=.builtin .append,args:=#[s,x],argTypes:=#[54,54]})(r:a.eval s=v)(g:Oz)(m c:Nat)(t:a.eval x=MR (N g) m c)(b:List Rl)(i:b.length=m)(y:∀j u,(d7 b)[j]?=N u->w.cell? (g.add j)=N u)(R:f.length+m<=1000)(z:B<=w.heap.size)(C:∀d w',bU B w' d (f++b)->w.grownBy w' v.ownBlock->SJ MT k n l (a.put o.dst d) w'):SJ MT k n (o::l) a w:=by
 obtain⟨D,E,F,G,H⟩:=Ob pI;refine wpList_append_own w p s x 54 q B 37 D _ 19 152 ib E F G H rfl US v f.length (d7 f) r h.1 g m c (d7 b) t (by rw[ef,i]) y (ow b) UT O z ?_;intro d w' J K L;refine C d w' ⟨?_,λe=>?_,h.2.2⟩ K
 ·rw[eH,Mz,i];exact J
 ·obtain⟨M,P⟩:=List.append_eq_nil_iff.1 e;subst P;exact L.2 ⟨h.2.1 M,by simpa using i.symm⟩
theorem bU.AO{B:Nat}{w:MV}{f:List Rl}(h:bU B w (MR (N ⟨g,0,S⟩) n b) f)(k:Nat)(c:k<=f.length):∀j u,(d7 (f.take k))[j]?=N u->w.cell? ((⟨g,0,S⟩:Oz).add j)=N u:=λj u a=>by
 refine h.1.cells (g:=g) rfl j u ?_;rw[<-D4 f k c,List.getElem?_take]at a;split at a
 ·exact a
 ·cases a
theorem bU.AP{B:Nat}{w:MV}{f:List Rl}(h:bU B w (MR (N ⟨g,0,S⟩) n b) f)(k:Nat)(c:k<=f.length):∀j u,(d7 (f.drop k))[j]?=N u->w.cell? ((⟨g,k*19,S⟩:Oz).add j)=N u:=λj u a=>by
 rw[<-D5 f k c,List.getElem?_drop]at a;have:=h.1.cells (g:=g) rfl (k*19+j) u a;rw[Addr.add_mid]at this⊢;simpa using this
theorem bQ.lt{w:MV}{t:Nat}(h:bQ w t F L){x:Nat}(a:F x):x<w.heap.size:=by
 obtain⟨b,c,d,e,g,T,_,_,rfl⟩:=h;rcases a with rfl|(rfl|h)|(rfl|h)
 ·exact MO T.c0
 ·exact MO T.mI.1
 ·exact T.hI.lt h
 ·exact MO T.mR.1
 ·exact T.hR.lt h
theorem bj{B:Nat}{w w':MV}{a:Option Nat}(h:w.grownBy w' a)(b:B<=w.heap.size)(c:∀x,a=N x->B<=x):Mb B w w':=
 (aH.grown (X:=λx=>a=N x) h λ_ d=>d).aD b λx e=>c x e
theorem bU.iG{B:Nat}{w:MV}{v:Ma}{f:List Rl}(h:bU B w v f):∀x,v.ownBlock=N x->B<=x:=λx a=>(h.1.lt x a).1
theorem vS(w:MV)(R:Rl)(t:NL):∀j u,(d7 [R])[j]?=N u->(w.alloc (MY R.cells t)).cell? ((⟨w.heap.size,0,S⟩:Oz).add j)=N u:=λj u a=>by
 rw[Addr.add_mid];have h:d7 [R]=R.cells.toList:=by simp[d7]
 rw[h]at a;exact aN w R.cells t j u a
theorem A4(R:Rl):R.cells.all (·.oneCell')=true:=by simp[Rl.cells,Value.oneCell']
theorem tj(R:Rl)(w:MV):(Instr.buildSlice 54 1 #[(0,M1 #[Q I R.id,Q I R.pr,Q I R.k0,Q I R.v0,Q I R.m0,Q I R.k1,Q I R.v1,Q I R.m1,Q I R.k2,Q I R.v2,Q I R.m2,Q I R.k3,Q I R.v3,Q I R.m3,Q I R.k4,Q I R.v4,Q I R.m4,Q I R.ac,Q I R.po])]).run MT w=.ok (MR (N ⟨w.heap.size,0,S⟩) 1 1) (w.alloc (MY #[Q I R.id,Q I R.pr,Q I R.k0,Q I R.v0,Q I R.m0,Q I R.k1,Q I R.v1,Q I R.m1,Q I R.k2,Q I R.v2,Q I R.m2,Q I R.k3,Q I R.v3,Q I R.m3,Q I R.k4,Q I R.v4,Q I R.m4,Q I R.ac,Q I R.po] 37)):=UR
def iB(B:Nat)(w:MV)(y o:Nat)(v:Ma)(a:List Rl):Prop:=w.cell? ⟨y,o,S⟩=N v/\w.frozen? ⟨y,o,S⟩=Md/\bU B w v a/\a.length<=200/\o<=3
theorem iB.slice{b:List Rl}(h:iB B w y o v b):∃a c g,v=MR a b.length c/\∀k,(d:k<b.length)->a=N ⟨g,0,S⟩/\w.rangeAt g (k*19) b[k].cells.toList:=h.2.2.1.row
def jr(w W:MV)(y o:Nat):Prop:=∀j,j≠o->W.cell? ⟨y,j,S⟩=w.cell? ⟨y,j,S⟩/\W.frozen? ⟨y,j,S⟩=w.frozen? ⟨y,j,S⟩
def Ju(w W:MV)(y:Nat):Prop:=∀a t,w.heap[y]?=N (MY a t (0,0))->∃b,W.heap[y]?=N (MY b t (0,0))
theorem Ju.set(h:a.heap[y]?=w.heap[y]?)(o:Nat)(v:Ma):Ju w (a.setCell ⟨y,o,S⟩ v) y:=λb t c=>⟨_,Mn a y o b t v (h.trans c)⟩
theorem Ju.aS(h:a.heap[y]?=w.heap[y]?):Ju w a y:=λb _ c=>⟨b,h.trans c⟩
theorem Ju.trans{b c:MV}(h:Ju a b y)(k:Ju b c y):Ju a c y:=λd t e=>by
 obtain⟨f,g⟩:=h d t e;exact k f t g
theorem jr.set(h:∀j,a.cell? ⟨y,j,S⟩=w.cell? ⟨y,j,S⟩/\a.frozen? ⟨y,j,S⟩=w.frozen? ⟨y,j,S⟩)(v:Ma):jr w (a.setCell ⟨y,o,S⟩ v) y o:=λj b=>
 ⟨(cB (MX (O7 b))).trans (h j).1,(Ni ..).trans (h j).2⟩
theorem jr.aS{b:MV}(h:b.heap[y]?=w.heap[y]?)(j:Nat):b.cell? ⟨y,j,S⟩=w.cell? ⟨y,j,S⟩/\b.frozen? ⟨y,j,S⟩=w.frozen? ⟨y,j,S⟩:=
 ⟨Mj (a:=⟨y,j,S⟩) h,NJ (a:=⟨y,j,S⟩) h⟩
def K4(a:List Rl)(x:Int)(z:Int):Prop:=(z= -1/\∀q∈a,q.id≠x)\/∃k,∃b:k<a.length,z=k/\a[k].id=x/\∀j (c:j<k),(a[j]'O).id≠x
theorem rn(B y o:Nat)(v:Ma)(b:List Rl)(x:Int)(w:MV)(h:iB B w y o v b):Mo MT 124 #[MQ (N ⟨y,o,S⟩),Q I x] w λe F=>F=w/\∃z:Int,e=MZ (Q I z)/\K4 b x z:=by
 obtain⟨a,M,g,rfl,p⟩:=h.slice;have P:=h.1;have R:=h.2.2.2.1;have G:=A p;clear h p;go_enter func124,ntmps124;go_wp2;go_loopw [5] (λi wr=>aA (wr=w)/\∃k:Nat,k<=b.length/\i=Q I k/\∀j (c:j<k) (r:j<b.length),b[j].id≠x) (λi _=>b.length- (intOf i).toNat)
 case atStart=>exact⟨A rfl,0,O,rfl,λj c=>absurd c O⟩
 case round=>
  obtain⟨s,k,H,rfl,t⟩:=hrel;obtain rfl:=s.o;clear s;have f:=A t;clear t;by_cases u:k<b.length
  ·obtain⟨rfl,C⟩:=G.o k u;have D:wr.cell? ⟨g,k*19,S⟩=N (Q I b[k].id):=C 0 _ rfl;have T:=MO D;have J:(k:Int)<b.length:=O;have U:aA (b[k].id=b[k].id):=A rfl;obtain⟨z,l⟩:=UX (b[k].id);rw[<-l]at D;have E:=A l;clear C l;by_cases d:z=x
   ·have K:(z==x)=true:=by simp[d]
    have m:=A d;clear d;go_wp2;go_ret;exact⟨rfl,k,rfl,MX ⟨k,u,rfl,E.o▸m.o,λj c=>f.o j c O⟩⟩
   ·have K:(z==x)=false:=by simpa using d
    have m:=A d;clear d;go_wp2;go_roundw
    case rel=>
     refine⟨A (by trivial),k+1,O,by go_num,λj c r=>?_⟩;rcases Nr (show j<=k by omega)with n|n
     ·exact f.o j n r
     ·subst n;rw[<-E.o];exact m.o
    case measure=>simp[intOf];omega
  ·have J:¬(k:Int)<b.length:=by omega
   have V:=A H;go_wp2;go_ret;refine⟨rfl,-1,rfl,Mf ⟨rfl,λq L=>?_⟩⟩;obtain⟨j,c,rfl⟩:=Mt L;exact f.o j O c
theorem gM{a:Nat}{b:List Ma}(h:w.ownsRow B t s v n b)(c:a<=B):w.ownsRow a t s v n b:=by
 refine⟨h.1,?_⟩;rcases h.2 with h|⟨g,d,f,e,i,r⟩
 ·exact Mf h
 ·exact MX ⟨g,d,f,e,Mx c i,r⟩
def FK(B y o:Nat)(a:List Rl)(x:Int)(w:MV)(e:Ending)(W:MV):Prop:=
 (e=MZ (Q I 7)/\W=w/\∀q∈a,q.id≠x)\/∃k,∃d:k<a.length,a[k].id=x/\e=MZ (Q I 0)/\∃c,iB B W y o c (a.take k++a.drop (k+1))/\aH (λb=>b=y) w W/\jr w W y o/\(∀b,c.ownBlock=N b->w.heap.size<=b)/\Ju w W y
theorem FK.AN{a:List Rl}{w6 w7:MV}{v6 v7:Ma}(h:iB B w y o v a)(l:0<B/\B<=w.heap.size)(q:k<a.length)(r:a[k].id=x)(s:bU w.heap.size w6 v6 (a.take k))(t:w.grownBy w6 S)(d:bU w.heap.size w7 v7 (a.take k++a.drop (k+1)))(u:w6.grownBy w7 v6.ownBlock):FK B y o a x w (MZ (Q I 0)) (w7.setCell ⟨y,o,S⟩ v7):=by
 have f:y<w.heap.size:=MO h.1;have m:Mb w.heap.size w w6:=bj t (MP _) λx z=>by cases z
 have c:Mb w.heap.size w w7:=m.trans (bj u m.size s.iG);have C:=MW c h.1;have D:∀g,v7.ownBlock=N g->g≠y:=λg i e=>by have:=d.iG g i;omega
 refine MX ⟨k,q,r,rfl,v7,⟨Nf _ _ _ C,?_,?_,?_,h.2.2.2.2⟩,?_,jr.set (λj=>jr.aS (c.block y f) j) _,d.iG,Ju.set (c.block y f) _ _⟩
 ·rw[Ni];exact(c.frozen (p:=⟨y,o,S⟩) f).trans h.2.1
 ·have n:=d.same (w':=w7.setCell ⟨y,o,S⟩ v7) λg i=>Nh _ _ _ _ (D g i);exact⟨gM n.1 l.2,n.2.1,l.1⟩
 ·have:=h.2.2.2.1;simp only[Mz,Mh,M2];omega
 ·exact aH.setCell (X:=λb=>b=y) (p:=⟨y,o,S⟩) (aH.aG c) (Mf rfl) _
theorem qW(B y o:Nat)(v:Ma)(f:List Rl)(x:Int)(w:MV)(h:iB B w y o v f)(R:0<B/\B<=w.heap.size):Mo MT 68 #[MQ (N ⟨y,o,S⟩),Q I x] w (FK B y o f x w):=by
 have Y:=A (rn B y o v f x w h);have G:=h.1;have Z:=h.2.1;have hn:=h.2.2.2.1;have a0:=MO G;have H:=A h;have a1:=A λ(k:Nat) (T:k<f.length) (J:f[k].id=x) (l n:MV) (K v7:Ma) a b c d=>FK.AN (w6:=l) (w7:=n) (v6:=K) (v7:=v7) h R T J a b c d;have HB:=A R;clear h R;go_enter func68,ntmps68;go_wp2_with fail
 refine Y.o.mono ?_;rintro e W ⟨a2,z,rfl,hz⟩;rw[a2];clear a2 W Y;rcases hz with⟨rfl,a3⟩|⟨k,T,rfl,J,_⟩
 ·have b2:=A a3;clear a3;go_wp2;go_ret;exact Mf ⟨rfl,rfl,b2.o⟩
 ·obtain⟨g,i,rfl⟩:∃g i,v=MR (N ⟨g,0,S⟩) f.length i:=by
   rcases H.o.2.2.1.1.2 with⟨_,C⟩|⟨g,i,b3,C,_⟩
   ·omega
   ·exact⟨g,i,C⟩
  have d1:f.length<=i:=by
   rcases H.o.2.2.1.1.2 with⟨C,_⟩|⟨g',d3,b3,C,_,_,hc,_⟩
   ·cases C
   ·cases C;exact hc
  have D:=A H.o.2.2.1;have b5:0<w.heap.size:=O;have L:=A (a1.o k T J);have d4:(k:Int)<f.length:=O;have d5:¬(k:Int)<0:=O;have d6:(k:Int)<=i:=O;have e0:(k:Int)+1<=f.length:=O;have e1:(f.length:Int)<=i:=O;clear a1 J H;go_wp2_with ((with_reducible show SJ _ _ _ _ _ _);at_builtin;refine lH (bU.nil w b5) rfl _ _ rfl rfl ⟨g,0,S⟩ k i rfl (f.take k) UU (D.o.AO k O) UU (MP _) ?_)
  intro K l a4 M;have U:=A (D.o.same λb hb=>M.block b (D.o.lt hb) (by simp[NF]));have m:=A a4;have q:aA (w.grownBy l S):=A M;have P:w.heap.size<=l.heap.size:=M.size;have V:l.cell? ⟨y,o,S⟩=N (MR (N ⟨g,0,S⟩) f.length i):=MW (bj q.o (MP _) λx E=>by cases E) G;have a5:=MO V;clear a4 M;by_cases b9:i=k+1
  ·have a6:f.drop (k+1)=[]:=List.drop_eq_nil_of_le O;have a8:∀j u,(d7 (f.drop (k+1)))[j]?=N u->l.cell? ((⟨g,0,S⟩:Oz).add j)=N u:=λj u hu=>by rw[a6]at hu;cases hu
   have c0:(f.take k).length+0<=1000:=by rw[Mh];omega
   subst b9;clear a6;go_wp2_with ((with_reducible show SJ _ _ _ _ _ _);at_builtin;refine lH m.o rfl _ _ rfl rfl ⟨g,0,S⟩ 0 _ rfl (f.drop (k+1)) (by rw[M2];omega) a8 c0 P ?_)
   intro l7 n r s;obtain⟨a7,c7,g7,rfl,_⟩:=r.row;have F:=A (L.o l n K _ m.o q.o r s);generalize(f.take k++f.drop (k+1)).length=n7 at F⊢;have t:Mb w.heap.size w n:=(bj q.o (MP _) λx E=>by cases E).trans (bj s P m.o.iG);have X:=MW t G;have f7:=(t.frozen (p:=⟨y,o,S⟩) a0).trans Z;have c8:=MO X;clear r s t m U D q L a8 V a5;go_wp2;go_ret;exact F.o
  ·have e2:k+1<i:=by omega
   have e3:¬(i- (k+1)=0):=O;go_wp2_with ((with_reducible show SJ _ _ _ _ _ _);at_builtin;refine lH m.o rfl _ _ rfl rfl ⟨g,(k+1)*19,S⟩ (f.length- (k+1)) _ rfl (f.drop (k+1)) (by simp) (U.o.AP (k+1) O) UU P ?_)
   intro l7 n r s;obtain⟨a7,c7,g7,rfl,_⟩:=r.row;have F:=A (L.o l n K _ m.o q.o r s);generalize(f.take k++f.drop (k+1)).length=n7 at F⊢;have t:Mb w.heap.size w n:=(bj q.o (MP _) λx E=>by cases E).trans (bj s P m.o.iG);have X:=MW t G;have f7:=(t.frozen (p:=⟨y,o,S⟩) a0).trans Z;have c8:=MO X;clear r s t m U D q L V a5;go_wp2;go_ret;exact F.o
def jz:List Ma->Nat->List Ma->List Ma
 |a,_,[]=>a
 |a,o,v::r=>jz (a.set o v) (o+1) r
theorem mP:∀(d a b c:List Ma),b.length=d.length->jz (a++b++c) a.length d=a++d++c
 |[],a,[],c,_=>by simp[jz]
 |v::d,a,x::b,c,h=>by
  have f:(a++x::b++c).set a.length v=(a++[v])++b++c:=by simp
  rw[jz,f];have e:=mP d (a++[v]) b c (by simpa using h);rw[Mz,List.length_singleton]at e;rw[e];simp
theorem wM(a:List Rl)(i:Nat)(b:i<a.length)(r:Rl):jz (d7 a) (i*19) r.cells.toList=d7 (a.set i r):=by
 have c:a=a.take i++[a[i]]++a.drop (i+1):=by
  rw[Oi];simp
 have d:a.set i r=a.take i++[r]++a.drop (i+1):=by
  rw[List.set_eq_take_append_cons_drop,if_pos b,Oi];rfl
 have h:=mP r.cells.toList (d7 (a.take i)) (d7 [a[i]]) (d7 (a.drop (i+1))) (by rw[ef,ex];rfl);rw[<-eH,<-eH,<-c,ef,Mh,Oo O]at h;rw[h,d,eH,eH];simp[d7]
theorem wg{a:Nat}{b:List Ma}(h:w.ownsRow B t s (MR (N ⟨g,0,S⟩) n a) n b)(_hj:j<n*s)(v:Ma):(w.setCell ⟨g,j,S⟩ v).ownsRow B t s (MR (N ⟨g,0,S⟩) n a) n (b.set j v):=by
 refine⟨by rw[Mw];exact h.1,?_⟩;rcases h.2 with⟨h,_⟩|⟨o,p,c,e,d,f,i,k,l,m⟩
 ·cases h
 ·cases e;refine MX ⟨g,a,c.setIfInBounds j v,rfl,d,?_,i,k,by simpa using l,?_⟩
  ·exact Mn w g j _ _ v f
  ·rw[<-m];simp[List.take_set]
theorem ii:∀(a:List Ma) (o:Nat) {w:MV} {b:List Ma},w.ownsRow B t s (MR (N ⟨g,0,S⟩) n c) n b->o+a.length<=n*s->(w.setCells g o a).ownsRow B t s (MR (N ⟨g,0,S⟩) n c) n (jz b o a)
 |[],_,_,_,h,_=>h
 |v::r,o,w,b,h,d=>by
  rw[PX,jz];exact ii r (o+1) (wg h (by simp at d;omega) v) (by simp at d;omega)
theorem bU.nO{a:List Rl}(h:bU B w (MR (N ⟨g,0,S⟩) n c) a)(f:n=a.length)(b:i<a.length)(r:Rl):bU B (w.setCells g (i*19) r.cells.toList) (MR (N ⟨g,0,S⟩) n c) (a.set i r):=by
 subst f;refine⟨?_,λe=>?_,h.2.2⟩
 ·have d:=ii r.cells.toList (i*19) h.1 (by rw[ex];omega);rw[wM a i b r]at d;rw[Mw];exact d
 ·have:=congrArg SN e;rw[Mw]at this;simp at this;rw[this]at b;exact absurd b (by simp)
theorem zq{a:List Rl}(e:j+1<=a.length):(((a.take (j+1)++r::a.drop (j+1)).set (j+1) (a[j]'O)).set j r)=a.take j++r::a.drop j:=by
 have c:a.take (j+1)=a.take j++[a[j]'O]:=by
  rw[List.take_add_one,List.getElem?_eq_getElem O];rfl
 have d:a.drop j=(a[j]'O)::a.drop (j+1):=List.drop_eq_getElem_cons O;have b:(a.take j).length=j:=by rw[Mh];omega
 rw[d,c,Oi,List.singleton_append];rw[QE _ _ (by rw[b];omega),b,show j+1-j=1 by omega];rw[QE _ _ (by rw[b];omega),b,Nat.sub_self];rfl
section
theorem bz{a:List Ma}(h:w.rangeAt g o (v::a)):w.cell? ⟨g,o,S⟩=N v:=h 0 _ rfl
theorem cA{f:Array Sc}{C:MV->Prop}{i:Act->Prop}{o:Sc}{j:List Sc}{a:Act}(k:o.guard=S)(c:NL)(x:Operand)(l:o.op=.load c x)(b g:Nat)(m:a.eval x=MQ (N ⟨b,g,S⟩))(e:List Ma)(d:TypeDesc)(n:∀w,C w->w.rangeAt b g e)(p:P.underlying c=N d)(q:d.isRow=Mk)(r:(P.info? c).map (·.size)=N e.length)(h:wpQuiet P f C i j (a.put o.dst (M1 e.toArray))):wpQuiet P f C i (o::j) a:=
 wpQuiet_step λK s=>by
  have t:Region.wanted o (yielded f a.tmps)=true:=by simp[Region.wanted,k]
  rw[if_pos t];refine⟨_,λw u=>?_,s _ h⟩;unfold Oper.quietAt execOp;simp only[l,m,Instr.loadAt,Instr.sureAddr,Sem.run_bind,Sem.run_pure,Result.andThen_ok,run_loadVar_mid w b g c e d (n w u) p q r];exact⟨rfl,rfl⟩
theorem dQ{c:List Ma}(h:w.rangeAt b o c)(d:∃p:Regrown,a=grow (redrawn w p.d) p.os):a.rangeAt b o c:=λj u e=>by
 obtain⟨p,rfl⟩:=d;exact cell_regrown (h j u e) _ _
attribute [local go_sem] aI
theorem Ff:∃d,prog.underlying 39=N d/\d.isRow=true:=gO UR
theorem Ix:(prog.info? 39).map (·.size)=N 5:=UR
theorem mW{k v m e:Int}(h:dM k v m d e=Mk):k=0\/k=1:=by
 unfold dM at h;simp only[NH]at h;have a:=h.2.2;by_cases b:k=0
 ·exact Mf b
 ·rw[if_neg b]at a;by_cases c:k=1
  ·exact MX c
  ·rw[if_neg c]at a;cases a
theorem GQ(h:r.ok=Mk):aA ((r.k0=0\/r.k0=1)/\(r.k1=0\/r.k1=1)/\(r.k2=0\/r.k2=1)/\(r.k3=0\/r.k3=1)/\(r.k4=0\/r.k4=1)):=by
 unfold Rl.ok fM at h;simp only[NH]at h;exact A ⟨mW h.2.2.2.1,mW h.2.2.2.2.1,mW h.2.2.2.2.2.1,mW h.2.2.2.2.2.2.1,mW h.2.2.2.2.2.2.2.1⟩
def qJ(a:List Rl)(b c d e f:Int)(z:Int):Prop:=(z= -1/\∀q∈a,q.dX b c d e f=Md)\/∃k,∃g:k<a.length,z=k/\a[k].dX b c d e f=Mk/\∀j (h:j<k),(a[j]'O).dX b c d e f=Md
theorem nj(B y o:Nat)(v:Ma)(b:List Rl)(c f l m n:Int)(w:MV)(h:iB B w y o v b)(P:∀r∈b,r.ok=Mk):Mo MT 133 #[MQ (N ⟨y,o,S⟩),M1 #[Q I c,Q I f,Q I l,Q I m,Q I n]] w λe H=>(∃z:Int,e=MZ (Q I z)/\qJ b c f l m n z)/\Mb w.heap.size w H:=by
 obtain⟨dr,a2,a3⟩:=dJ;obtain⟨dk,a5,a6⟩:=Ff;obtain⟨a,c0,g,rfl,R⟩:=h.slice;have T:=h.1;have hn:=h.2.2.2.1;have a7:=MO T;have HC:=A R;have a9:=A P;clear h R P;go_enter func133,ntmps133;go_wp2_with fail
 go_loopw [5,6] (λi _ wr=>∃k:Nat,k<=b.length/\i=Q I k/\aA (∀j (s:j<k) (U:j<b.length),b[j].dX c f l m n=Md)/\Mb w.heap.size w wr/\wr.rangeAt w.heap.size 0 [Q I c,Q I f,Q I l,Q I m,Q I n]) (λi _ _=>b.length- (intOf i).toNat)
 case atStart=>exact⟨0,O,rfl,A λj s=>absurd s O,UQ,aN _ _ _⟩
 case round=>
  obtain⟨k,hk,rfl,J,x,C⟩:=hrel;have y0:=(x.cell (p:=⟨y,o,S⟩) a7).trans T;have c2:=MO y0;by_cases K:k<b.length
  ·obtain⟨r,E⟩:∃r,r=b[k]:=⟨_,rfl⟩;obtain⟨rfl,F⟩:=HC.o k K;rw[<-E]at F;have V:wr.rangeAt g (k*19) [Q I r.id,Q I r.pr,Q I r.k0,Q I r.v0,Q I r.m0,Q I r.k1,Q I r.v1,Q I r.m1,Q I r.k2,Q I r.v2,Q I r.m2,Q I r.k3,Q I r.v3,Q I r.m3,Q I r.k4,Q I r.v4,Q I r.m4,Q I r.ac,Q I r.po]:=λj u W=>(x.cell (p:=⟨g,k*19+j,S⟩) (MO (F j u W))).trans (F j u W);have X:r.ok=true:=a9.o r (by rw[E];exact Ms K);have Y:=A λd os=>vy r c f l m n (grow (redrawn wr d) os) (GQ X);have b3:(k:Int)<b.length:=O;have Z:=A E;have D:=A x;have c3:w.heap.size<wr.heap.size:=MO (C 0 _ rfl);clear E x F X;go_wp2_with fail
   refine wp_region_quiet_below UR UR ?_
   repeat(first|(refine cA rfl 37 _ rfl g (k*19) rfl [Q I r.id,Q I r.pr,Q I r.k0,Q I r.v0,Q I r.m0,Q I r.k1,Q I r.v1,Q I r.m1,Q I r.k2,Q I r.v2,Q I r.m2,Q I r.k3,Q I r.v3,Q I r.m3,Q I r.k4,Q I r.v4,Q I r.m4,Q I r.ac,Q I r.po] dr (λH h=>dQ V h) a2 a3 ay ?_)|(refine cA rfl 39 _ rfl w.heap.size 0 rfl [Q I c,Q I f,Q I l,Q I m,Q I n] dk (λH h=>dQ C h) a5 a6 Ix ?_)|quiet_step (exact Calls.regrown_of (Y.o _ _)))
   refine wpQuiet_nil ?_;intro wq t;replace t:=aE t;obtain⟨b4,b5⟩:=aW t;have c5:=t.size;have b6:=A (cd C t);have B2:=A (D.o.trans (t.mono D.o.size));clear V C b4 b5 t Y D;cases G:r.dX c f l m n with
   |true=>
    have L:=A G;clear G;go_wp2;go_ret;exact⟨⟨k,rfl,MX ⟨k,K,rfl,Z.o▸L.o,λj s=>J.o j s O⟩⟩,B2.o⟩
   |false=>
    have L:=A G;clear G;go_wp2;go_roundw
    case rel=>
     refine⟨k+1,O,by go_num,A λj s U=>?_,B2.o,b6.o⟩;rcases Nr (show j<=k by omega)with M|M
     ·exact J.o j M U
     ·subst M;rw[<-Z.o];exact L.o
    case measure=>simp[intOf];omega
  ·have b3:¬(k:Int)<b.length:=by omega
   have D:=A x;have HK:=A hk;clear x C;go_wp2;go_ret;refine⟨⟨-1,rfl,Mf ⟨rfl,λq hq=>?_⟩⟩,D.o⟩;obtain⟨j,s,rfl⟩:=Mt hq;exact J.o j O s
end
abbrev pX(l:List Rl):Prop:=l.Pairwise λa b=>a.al b=Mk
theorem sK(h:cC L):pX (L.map (·.2)):=List.pairwise_map.2 h
theorem Rl.vu{a b:Rl}(h:a.id≠b.id):a.al b=Mk\/b.al a=true:=by
 rw[Rl.cU,Rl.cU];omega
theorem qg:∀{d B:List Rl},pX d->pX B->(∀x,x∈d↔x∈B)->d=B
 |[],[],_,_,_=>rfl
 |[],b::B,_,_,h=>absurd ((h b).2 (PY)) (OE)
 |a::d,[],_,_,h=>absurd ((h a).1 (PY)) (OE)
 |a::d,b::B,k,l,h=>by
  have f:=PJ.1 k;have g:=PJ.1 l;have e:a=b:=by
   rcases Nk.1 ((h a).1 (PY))with e|e
   ·exact e
   ·rcases Nk.1 ((h b).2 (PY))with i|i
    ·exact i.symm
    ·have m:=g.1 a e;have j:=f.1 b i;rw[Rl.fh m]at j;cases j
  subst e;have n:∀x,x∈d->x≠a:=λx c e=>by
   have:=f.1 x c;rw[e,Rl.dj]at this;cases this
  have o:∀x,x∈B->x≠a:=λx c e=>by
   have:=g.1 x c;rw[e,Rl.dj]at this;cases this
  rw[qg f.2 g.2 λx=>⟨λc=>?_,λc=>?_⟩]
  ·rcases Nk.1 ((h x).1 (PB _ c))with e|e
   ·exact absurd e (n x c)
   ·exact e
  ·rcases Nk.1 ((h x).2 (PB _ c))with e|e
   ·exact absurd e (o x c)
   ·exact e
theorem Bl{a:List Rl}(d:pX a)(m:i<=a.length)(f:∀x∈a,x.id≠r.id)(g:∀j (b:j<a.length),i<=j->r.al a[j]=Mk)(k:∀(h:0<i),r.al (a[i-1]'O)=Md):pX (a.take i++r::a.drop i):=by
 refine pz i r d (λx c=>?_) (λx c=>?_)
 ·obtain⟨j,b,rfl⟩:=Mt c;rw[Mh]at b;rw[PR];have l:0<i:=O;have e:(a[i-1]'O).al r=true:=by
   rcases Rl.vu (f _ (Ms (show i-1<a.length by omega)))with h|h
   ·exact h
   ·rw[k l]at h;cases h
  rcases Nr (show j<=i-1 by omega)with h|h
  ·exact Rl.lF (Mr.1 d j (i-1) O O h) e
  ·subst h;exact e
 ·obtain⟨j,b,rfl⟩:=Mt c;rw[M2]at b;rw[List.getElem_drop];exact g _ _ O
theorem zF{a:List af}(g:cC L)(k:cC a)(c:∀x,x∈a↔x=(b,r)\/x∈L)(l:i<=L.length)(m:∀x∈L.map (·.2),x.id≠r.id)(n:∀j (p:j<(L.map (·.2)).length),i<=j->r.al (L.map (·.2))[j]=Mk)(o:∀(h:0<i),r.al ((L.map (·.2))[i-1]'(by rw[ND];omega))=Md):a.map (·.2)=(L.map (·.2)).take i++r::(L.map (·.2)).drop i:=by
 refine qg (sK k) (Bl (sK g) (by rw[ND];exact l) m n o) λx=>?_;rw[nC];constructor
 ·intro d;obtain⟨e,f,rfl⟩:=OD.1 d;rcases(c e).1 f with rfl|h
  ·exact Mf rfl
  ·exact MX (OD.2 ⟨e,h,rfl⟩)
 ·rintro(rfl|d)
  ·exact OD.2 ⟨(b,x),(c _).2 (Mf rfl),rfl⟩
  ·obtain⟨e,f,rfl⟩:=OD.1 d;exact OD.2 ⟨e,(c e).2 (MX f),rfl⟩
theorem zX(b:k<L.length)(c:L[k].2.id=x)(f:∀i j (h:i<L.length) (d:j<L.length),L[i].2.id=L[j].2.id->i=j):(L.filter λa=>a.2.id !=x).map (·.2)=(L.map (·.2)).take k++(L.map (·.2)).drop (k+1):=by
 rw[<-il (λa=>a.2.id !=x) b (by simp[c]) (λj d g=>by
  rw[bne_iff_ne];intro e;exact g (f j k d b (e.trans c.symm)))]
 rw[Pd,List.map_take,List.map_drop]
theorem zY(h:∀a∈L,a.2.id≠x):(L.filter λa=>a.2.id !=x)=L:=by
 rw[List.filter_eq_self];intro a b;rw[bne_iff_ne];exact h a b
theorem xD{i j k l m a b n o:Int}(h:cD L i j k l m a b)(e:cD L i j k l m n o):a=n/\b=o:=by
 unfold cD at h e;split at h
 ·rename_i g
  rw[if_pos g]at e;obtain⟨q,c,rfl,rfl⟩:=h;obtain⟨p,d,rfl,rfl⟩:=e;cases q with
  |none=>
   cases p with
   |none=>exact⟨rfl,rfl⟩
   |some f=>
    have:=c f d.1;rw[d.2.1]at this;cases this
  |some r=>
   cases p with
   |none=>
    have:=d r c.1;rw[c.2.1]at this;cases this
   |some f=>
    have s:=c.2.2 f d.1 d.2.1;have t:=d.2.2 r c.1 c.2.1;rw[<-Bool.not_eq_true,Rl.cU]at s t;refine⟨?_,rfl⟩;show r.2.id=f.2.id;omega
 ·rename_i g
  rw[if_neg g]at e;omega
theorem iB.aD{B y o:Nat}{w b:MV}{f:List Rl}(h:iB B w y o v f)(a:Mb w.heap.size w b):iB B b y o v f:=
 ⟨MW a h.1,(a.frozen (p:=⟨y,o,S⟩) (MO h.1)).trans h.2.1,h.2.2.1.same λ_ c=>a.block _ (h.2.2.1.lt c),h.2.2.2⟩
def uB(B y o:Nat)(v:Ma)(f:List Rl)(r:Rl)(w:MV)(e:Ending)(W:MV):Prop:=
 (e=MZ (Q I 4)/\r.ok=Md/\Mb w.heap.size w W)\/
 (e=MZ (Q I 5)/\r.ok=Mk/\(∃q∈f,q.id=r.id)/\Mb w.heap.size w W)\/
 (e=MZ (Q I 6)/\r.ok=Mk/\(∀q∈f,q.id≠r.id)/\200<=f.length/\Mb w.heap.size w W)\/
 (e=MZ (Q I 0)/\r.ok=Mk/\(∀q∈f,q.id≠r.id)/\f.length<200/\∃i,∃c:i<=f.length,(∀j (d:j<f.length),i<=j->r.al f[j]=Mk)/\(∀h:0<i,r.al (f[i-1]'O)=Md)/\
  ∃a,iB B W y o a (f.take i++r::f.drop i)/\aH (λb=>b=y\/v.ownBlock=N b) w W/\jr w W y o/\(∀b,a.ownBlock=N b->v.ownBlock=N b\/w.heap.size<=b)/\Ju w W y)
structure fG (B y o g cap:Nat) (f:List Rl) (r:Rl) (w:MV) (k:Nat) (W:MV):Prop where
 own:bU B W (MR (N ⟨g,0,S⟩) (f.length+1) cap) (f.take k++r::f.drop k)
 cell:W.cell? ⟨y,o,S⟩=N (MR (N ⟨g,0,S⟩) (f.length+1) cap)
 frz:W.frozen? ⟨y,o,S⟩=Md
 bef:∀j (hj:j<f.length),k<=j->r.al f[j]=Mk
 chg:aH (λb=>b=y\/b=g) w W
 ne:g≠y
 only:∀j,W.cell? ⟨y,j,S⟩=w.cell? ⟨y,j,S⟩/\W.frozen? ⟨y,j,S⟩=w.frozen? ⟨y,j,S⟩
 blk:W.heap[y]?=w.heap[y]?
theorem fX{f:List Rl}{r:Rl}{k:Nat}(a:k<=f.length):(f.take k++r::f.drop k).length=f.length+1:=by
 simp only[Mz,Mh,N6,M2];omega
theorem KK{f:List Rl}{r:Rl}{k:Nat}(a:k<=f.length):(f.take k++r::f.drop k)[k]'(by rw[fX a];omega)=r:=by
 rw[List.getElem_append_right (by rw[Mh];omega)];simp[Oo a]
theorem JS{f:List Rl}{r:Rl}(a:j+1<=f.length):(f.take (j+1)++r::f.drop (j+1))[j]'(by rw[fX a];omega)=f[j]'O:=by
 rw[List.getElem_append_left (by rw[Mh];omega),PR]
theorem kQ{w:MV}{B:Nat}{g cap:Nat}{b:List Ma}(h:w.ownsRow B t s (MR (N ⟨g,0,S⟩) n cap) n b){o:Nat}(d:o+m<=n*s):w.there g o m:=λj i=>by
 rcases h.2 with⟨e,_⟩|⟨l,p,q,e,u,a,c,v,x,z⟩
 ·cases e
 ·cases e;have C:n*s<=cap*s:=NX _ c;refine⟨?_,?_⟩
  ·simp[World.cell?,a];omega
  ·simp[World.frozen?,a]
theorem gK(g:Nat):∀(a:List Ma) (o:Nat) (w:MV),w.drew.setCells g o a=(w.setCells g o a).drew
 |[],_,_=>rfl
 |v::t,o,w=>by
  rw[PX,PX,<-gK g t (o+1)];rfl
theorem aV{g:Nat}:∀(a:List Ma) (o:Nat) (W:MV) (p:Oz),p.block≠g->(W.setCells g o a).cell? p=W.cell? p/\(W.setCells g o a).frozen? p=W.frozen? p
 |[],_,_,_,_=>⟨rfl,rfl⟩
 |v::t,o,W,p,b=>by
  rw[PX];obtain⟨c,d⟩:=aV t (o+1) (W.setCell ⟨g,o,S⟩ v) p b;exact⟨c.trans (Mj (Nh _ _ _ _ b)),d.trans (Ni ..)⟩
theorem uk{w:MV}{g o:Nat}{a:Option Oz}(h:g≠0/\∃i t q a b c d,w.heap[g]?=N (MY i t q)/\i.size≠29/\w.cell? ⟨g,0,S⟩=N (Q I a)/\w.cell? ⟨g,1,S⟩=N (Q I b)/\w.cell? ⟨g,2,S⟩=N (Q I c)/\w.cell? ⟨g,3,S⟩=N (Q I d))(u:o<=3)(e:w.cell? ⟨g,o,S⟩=N (MR a n c)):False:=by
 obtain⟨_,_,_,_,_,_,_,_,_,_,j,l,m,p⟩:=h;have s:o=0\/o=1\/o=2\/o=3:=O;rcases s with rfl|rfl|rfl|rfl
 ·rw[e]at j;cases j
 ·rw[e]at l;cases l
 ·rw[e]at m;cases m
 ·rw[e]at p;cases p
section
variable {B y o g cap k:Nat}{f:List Rl}{r:Rl}{w W:World}
theorem fG.aD(h:fG B y o g cap f r w k W){W':MV}(a:Mb W.heap.size W W'):fG B y o g cap f r w k W':=
 ⟨h.own.same λ_ b=>a.block _ (h.own.lt b),MW a h.cell,(a.frozen (p:=⟨y,o,S⟩) (MO h.cell)).trans h.frz,h.bef,h.chg.trans (aH.aG a),h.ne,λj=>⟨(jr.aS (a.block y (MO h.cell)) j).1.trans (h.only j).1,(jr.aS (a.block y (MO h.cell)) j).2.trans (h.only j).2⟩,(a.block y (MO h.cell)).trans h.blk⟩
theorem fG.range(h:fG B y o g cap f r w k W)(b:k<=f.length):W.rangeAt g (k*19) r.cells.toList:=by
 obtain⟨a,c,m,e,d⟩:=h.own.row;injection e with i _ _;subst i;obtain⟨j,l⟩:=d k (by rw[fX b];omega);cases j;rwa[KK b]at l
theorem fG.re(h:fG B y o g cap f r w (j+1) W)(b:j+1<=f.length):W.rangeAt g (j*19) (f[j]'O).cells.toList:=by
 obtain⟨a,c,n,e,d⟩:=h.own.row;injection e with i _ _;subst i;obtain⟨l,m⟩:=d j (by rw[fX b];omega);cases l;rwa[JS b]at m
theorem fG.there(h:fG B y o g cap f r w k W)(b:k<=f.length)(c:i<=f.length):W.there g (i*19) 19:=by
 have a:=h.own.1;rw[fX b]at a;exact kQ a O
theorem fG.Jv(h:fG B y o g cap f r w (j+1) W)(m:j+1<=f.length)(u:r.al (f[j]'O)=Mk):fG B y o g cap f r w j ((W.setCells g ((j+1)*19) (f[j]'O).cells.toList).setCells g (j*19) r.cells.toList):=by
 have d:=fX (r:=r) m;have x:=h.own.nO (by rw[d]) (i:=j+1) (by rw[d];omega) (f[j]'O);have n:=x.nO (by rw[Mw,d]) (i:=j) (by rw[Mw,d];omega) r;rw[zq m]at n;have q:∀(c:List Ma) (o:Nat) (a:MV),aH (λb=>b=y\/b=g) w a->aH (λb=>b=y\/b=g) w (a.setCells g o c):=by
  intro c;induction c with
  |nil=>intro o a h;exact h
  |cons v t e=>
   intro o a h;rw[PX];exact e _ _ (h.setCell (p:=⟨g,o,S⟩) (Mf (MX rfl)) v)
 have s:∀(c:List Ma) (o:Nat) (a:MV),(a.setCells g o c).heap[y]?=a.heap[y]?:=by
  intro c;induction c with
  |nil=>intro o a;rfl
  |cons v t e=>
   intro o a;rw[PX];exact(e _ _).trans (Nh _ _ _ _ (O7 h.ne))
 refine⟨n,?_,?_,λi z C=>?_,q _ _ _ (q _ _ _ h.chg),h.ne,λi=>?_,(s _ _ _).trans ((s _ _ _).trans h.blk)⟩
 ·rw[(aV _ _ _ _ (O7 h.ne)).1,(aV _ _ _ _ (O7 h.ne)).1];exact h.cell
 ·rw[(aV _ _ _ _ (O7 h.ne)).2,(aV _ _ _ _ (O7 h.ne)).2];exact h.frz
 ·rcases Nr C with l|l
  ·exact h.bef i z l
  ·subst l;exact u
 ·rw[(aV _ _ _ _ (O7 h.ne)).1,(aV _ _ _ _ (O7 h.ne)).1,(aV _ _ _ _ (O7 h.ne)).2,(aV _ _ _ _ (O7 h.ne)).2];exact h.only i
theorem fG.AH(h:fG B y o g cap f r w (j+1) W)(c:j+1<=f.length):(W.setCells g ((j+1)*19) (f[j]'O).cells.toList).there g (j*19) 19:=by
 have a:=fX (r:=r) c;have d:=h.own.nO (by rw[a]) (i:=j+1) (by rw[a];omega) (f[j]'O);have b:=d.1;rw[Mw,a]at b;exact kQ b O
theorem fG.oX{d:MV}{a:Option Oz}(m:o<=3)(e:bU B d (MR (N ⟨g,0,S⟩) (f.length+1) cap) (f++[r]))(i:d.cell? ⟨y,o,S⟩=N (MR a n c))(p:d.frozen? ⟨y,o,S⟩=Md):fG B y o g cap f r (d.setCell ⟨y,o,S⟩ (MR (N ⟨g,0,S⟩) (f.length+1) cap)) f.length (d.setCell ⟨y,o,S⟩ (MR (N ⟨g,0,S⟩) (f.length+1) cap)):=by
 have l:g≠y:=by
  rintro rfl;exact uk (e.qP (g:=g) rfl) m i
 refine⟨?_,Nf _ _ _ i,by rw[Ni];exact p,λj s h=>O,aH.refl _ _,l,λ_=>⟨rfl,rfl⟩,rfl⟩;rw[List.take_length,List.drop_length];exact e.same λb q=>by cases q;exact Nh _ _ _ _ l
end
theorem gA(w:MV)(T:Nat)(t s e:NL)(i:TypeInfo)(z:Ma)(D H:Nat)(x:P.underlying t=N (.slice e))(C:P.info? e=N i)(J:i.zero=N z)(U:i.size=D)(V:i.bytes=H)(v:Ma)(n:Nat)(E:List Ma)(F:w.ownsRow T e D v n E)(a:Oz)(m c:Nat)(h:List Ma)(p:h.length=m*D)(G:∀j u,h[j]?=N u->w.cell? (a.add j)=N u)(X:∀u∈h,u.oneCell'=Mk)(Y:n+m<=Nj)(K:(n+m)*H<=140737488355328){L:Ma}{Z:MV}(l:(Na #[t,t] s #[v,MR (N a) m c]).run P w=.ok L Z):∀b,L.ownBlock=N b->v.ownBlock=N b\/b=w.heap.size:=by
 subst U;subst V;have a6:n+m<=9223372036854775807:=by simp only[Nj]at Y;omega
 rcases F.2 with⟨rfl,rfl⟩|⟨g,cap,M,rfl,a7,hg,a8,a9,a1,b0⟩
 ·by_cases hm:m=0
  ·subst hm;have hn:h=[]:=List.eq_nil_of_length_eq_zero (by simpa using p);subst hn;simp[Na,run_underlying x,sizeOf,typeInfo,C,Builtin.lenOf,Builtin.firstCells,loadCells,loadCellsFrom]at l;rw[<-l.1];intro b d;cases d
  ·have q:=run_append_nil (P:=P) w t s e i z x C J a m c h p G O O (by have d:=K;simp only[NO]at d;omega);rw[q]at l;cases l;intro b d;cases d;exact MX rfl
 ·by_cases R:n+m<=cap
  ·have a4:n*i.size+h.length<=M.size:=by rw[p,a1,<-Nat.add_mul];exact NX _ R
   have q:=run_append_room (P:=P) w t s e i x C g n cap M hg a m c h p G X R a4;rw[q]at l;cases l;intro b d;exact Mf d
  ·have a5:∀j u,E[j]?=N u->w.cell? ((⟨g,0,S⟩:Oz).add j)=N u:=F.cells (g:=g) rfl;have q:=run_append_grow (P:=P) w t s e i z x C J ⟨g,0,S⟩ n cap E F.1 a5 a m c h p G O O (growslice_fits O K);rw[q]at l;cases l;intro b d;cases d;exact MX rfl
theorem AA{B:Nat}{w:MV}{f:List Rl}{r:Rl}(h:bU B w v f)(F:B<=w.heap.size)(G:f.length<=1000):∃g cap a,(Na #[54,54] 54 #[v,MR (N ⟨w.heap.size,0,S⟩) 1 1]).run MT (w.alloc (MY #[Q I r.id,Q I r.pr,Q I r.k0,Q I r.v0,Q I r.m0,Q I r.k1,Q I r.v1,Q I r.m1,Q I r.k2,Q I r.v2,Q I r.m2,Q I r.k3,Q I r.v3,Q I r.m3,Q I r.k4,Q I r.v4,Q I r.m4,Q I r.ac,Q I r.po] 37)).drew=.ok (MR (N ⟨g,0,S⟩) (f.length+1) cap) a/\bU B a (MR (N ⟨g,0,S⟩) (f.length+1) cap) (f++[r])/\aH (λb=>v.ownBlock=N b) w a/\(v.ownBlock=N g\/w.heap.size<=g):=by
 obtain⟨c,d,i,l,m⟩:=Ob pI;have n:(w.alloc (MY #[Q I r.id,Q I r.pr,Q I r.k0,Q I r.v0,Q I r.m0,Q I r.k1,Q I r.v1,Q I r.m1,Q I r.k2,Q I r.v2,Q I r.m2,Q I r.k3,Q I r.v3,Q I r.m3,Q I r.k4,Q I r.v4,Q I r.m4,Q I r.ac,Q I r.po] 37)).drew.ownsRow B 37 19 v f.length (d7 f):=h.1.alloc _;have p:∀j u,(d7 [r])[j]?=N u->(w.alloc (MY #[Q I r.id,Q I r.pr,Q I r.k0,Q I r.v0,Q I r.m0,Q I r.k1,Q I r.v1,Q I r.m1,Q I r.k2,Q I r.v2,Q I r.m2,Q I r.k3,Q I r.v3,Q I r.m3,Q I r.k4,Q I r.v4,Q I r.m4,Q I r.ac,Q I r.po] 37)).drew.cell? ((⟨w.heap.size,0,S⟩:Oz).add j)=N u:=vS w r 37;have H:(w.alloc (MY #[Q I r.id,Q I r.pr,Q I r.k0,Q I r.v0,Q I r.m0,Q I r.k1,Q I r.v1,Q I r.m1,Q I r.k2,Q I r.v2,Q I r.m2,Q I r.k3,Q I r.v3,Q I r.m3,Q I r.k4,Q I r.v4,Q I r.m4,Q I r.ac,Q I r.po] 37)).drew.heap.size=w.heap.size+1:=by simp
 obtain⟨t,a,q,s,x,J⟩:=QF (P:=MT) (w.alloc (MY #[Q I r.id,Q I r.pr,Q I r.k0,Q I r.v0,Q I r.m0,Q I r.k1,Q I r.v1,Q I r.m1,Q I r.k2,Q I r.v2,Q I r.m2,Q I r.k3,Q I r.v3,Q I r.m3,Q I r.k4,Q I r.v4,Q I r.m4,Q I r.ac,Q I r.po] 37)).drew B 54 54 37 c _ 19 152 ib d i l m rfl US v f.length (d7 f) n ⟨w.heap.size,0,S⟩ 1 1 (d7 [r]) (ef _) p (ow _) UT O O;have z:=gA (P:=MT) (w.alloc (MY #[Q I r.id,Q I r.pr,Q I r.k0,Q I r.v0,Q I r.m0,Q I r.k1,Q I r.v1,Q I r.m1,Q I r.k2,Q I r.v2,Q I r.m2,Q I r.k3,Q I r.v3,Q I r.m3,Q I r.k4,Q I r.v4,Q I r.m4,Q I r.ac,Q I r.po] 37)).drew B 54 54 37 c _ 19 152 ib d i l m v f.length (d7 f) n ⟨w.heap.size,0,S⟩ 1 1 (d7 [r]) (ef _) p (ow _) UT O q;have C:∃g cap,t=MR (N ⟨g,0,S⟩) (f.length+1) cap:=by
  rcases s.2 with⟨e,K⟩|⟨g,cap,_,e,_⟩
  ·omega
  ·exact⟨g,cap,e⟩
 obtain⟨g,cap,rfl⟩:=C;refine⟨g,cap,a,q,⟨?_,λe=>by simp at e,h.2.2⟩,?_,?_⟩
 ·rw[Mz,eH];exact s
 ·have D:aH (λb=>v.ownBlock=N b) w (w.alloc (MY #[Q I r.id,Q I r.pr,Q I r.k0,Q I r.v0,Q I r.m0,Q I r.k1,Q I r.v1,Q I r.m1,Q I r.k2,Q I r.v2,Q I r.m2,Q I r.k3,Q I r.v3,Q I r.m3,Q I r.k4,Q I r.v4,Q I r.m4,Q I r.ac,Q I r.po] 37)).drew:=aH.aG (((MU _ w).alloc (MP _) _).drew);exact D.trans (aH.grown x λ_ E=>E)
 ·rcases z g rfl with h|h
  ·exact Mf h
  ·exact MX O
theorem iB.ne{B y o:Nat}{w:MV}{f:List Rl}(h:iB B w y o v f):v.ownBlock≠N y:=by
 intro e;obtain⟨_,_,_,a,_⟩:=h.slice;exact uk (h.2.2.1.qP e) h.2.2.2.2 (h.1.trans (by rw[a]))
theorem uB.AN{B y o g cap:Nat}{f:List Rl}{r:Rl}{w n l W:MV}(F:o<=3)(m:y<w.heap.size)(u:v.ownBlock≠N y)(G:f.length<200)(H:r.ok=Mk)(J:∀q∈f,q.id≠r.id)(c:Mb w.heap.size w n)(s:aH (λb=>v.ownBlock=N b) n l)(z:v.ownBlock=N g\/n.heap.size<=g)(a:fG B y o g cap f r (l.setCell ⟨y,o,S⟩ (MR (N ⟨g,0,S⟩) (f.length+1) cap)) i W)(C:i<=f.length)(K:∀h:0<i,r.al (f[i-1]'O)=Md):uB B y o v f r w (MZ (Q I 0)) W:=by
 refine MX (MX (MX ⟨rfl,H,J,G,i,C,a.bef,K,_,⟨a.cell,a.frz,a.own,by rw[fX C];omega,F⟩,?_,λj L=>?_,λb M=>?_,?_⟩))
 ·have P:aH (λb=>b=y\/v.ownBlock=N b) w l:=(aH.aG c).trans (s.mono λx _ R=>MX R);have d:aH (λb=>b=y\/v.ownBlock=N b) w (l.setCell ⟨y,o,S⟩ (MR (N ⟨g,0,S⟩) (f.length+1) cap)):=P.setCell (p:=⟨y,o,S⟩) (Mf (Mf rfl)) _;refine⟨a.chg.os.trans d.os,a.chg.tape.trans d.tape,a.chg.output.trans d.output,Mx d.size a.chg.size,λb D t=>?_⟩;refine(a.chg.block b (Mi D d.size) ?_).trans (d.block b D t);rintro(h|h)
  ·exact t (Mf h)
  ·rcases z with e|e
   ·exact t (MX (by rw[h];exact e))
   ·have:=c.size;omega
 ·have E:=jr.set (o:=o) (λj=>jr.aS ((s.block y (Mi m c.size) u).trans (c.block y m)) j) (MR (N ⟨g,0,S⟩) (f.length+1) cap) j L;exact⟨(a.only j).1.trans E.1,(a.only j).2.trans E.2⟩
 ·cases M;rcases z with e|e
  ·exact Mf e
  ·have:=c.size;exact MX (by show w.heap.size<=g;omega)
 ·exact(Ju.set ((s.block y (Mi m c.size) u).trans (c.block y m)) o _).trans (Ju.aS a.blk)
abbrev n9(L:List af):List Rl:=L.map (·.2)
theorem tU{a b c f z:Int}(t:cC L)(g:iE a b c d f=Mk)(h:qJ (n9 L) a b c d f z):(z= -1->cD L a b c d f 0 7)/\∀k (g:k<(n9 L).length),z=k->cD L a b c d f (n9 L)[k].id 0:=by
 refine⟨λe=>?_,λk o e=>?_⟩
 ·rcases h with⟨_,l⟩|⟨k,_,p,_⟩
  ·unfold cD;rw[if_pos g];exact⟨S,λe m=>l e.2 (OD.2 ⟨e,m,rfl⟩),rfl,rfl⟩
  ·omega
 ·rcases h with⟨p,_⟩|⟨j,v,p,q,l⟩
  ·omega
  ·obtain rfl:j=k:=by omega
   have r:j<L.length:=by rw[ND]at o;exact o
   unfold cD;rw[if_pos g];rw[Qi]at q;refine⟨N L[j],⟨Ms r,q,λe m s=>?_⟩,by rw[Qi],rfl⟩;obtain⟨i,u,rfl⟩:=Mt m;rcases Qf i j with n|rfl|n
   ·have:=l i n;rw[Qi]at this;rw[this]at s;cases s
   ·exact Rl.dj _
   ·exact Rl.fh (Mr.1 t j i r u n)
theorem Dc(B y o:Nat)(v:Ma)(L:List af)(d f j l m:Int)(w:MV)(h:iB B w y o v (n9 L))(a3:∀r∈n9 L,r.ok=Mk)(hs:cC L):Mo MT 126 #[MQ (N ⟨y,o,S⟩),M1 #[Q I d,Q I f,Q I j,Q I l,Q I m]] w λe w'=>(∃a b,e=MZ (.tuple #[Q I a,Q I b])/\cD L d f j l m a b)/\Mb w.heap.size w w':=by
 have M:=A λ(i:Nat) (n:Int) (W:MV) (hi:i<5)=>qR i n W hi;have CF:=A λ(W:MV) (s:Mb w.heap.size w W)=>nj B y o v (n9 L) d f j l m W (show iB B W y o v (n9 L)from⟨MW s h.1,(s.frozen (p:=⟨y,o,S⟩) (MO h.1)).trans h.2.1,h.2.2.1.aD s,h.2.2.2⟩) a3;have b4:=A λ(z:Int) (P:iE d f j l m=Mk)=>tU (z:=z) hs P;obtain⟨a,c9,g,rfl,hc⟩:=h.slice;have a7:=h.1;have hn:=h.2.2.2.1;have d1:=MO a7;have HC:=A hc;clear h hc a3 hs;generalize n9 L=X at*;go_enter func126,ntmps126;go_wp2_with fail
 go_loopw [6,7] (λi _ wr=>∃k:Nat,k<=5/\i=Q I k/\Mb w.heap.size w wr/\w.heap.size<wr.heap.size/\wr.rangeAt w.heap.size 0 [Q I d,Q I f,Q I j,Q I l,Q I m]/\(0<k->bD 0 4294967295 d=Mk)/\(1<k->bD 0 4294967295 f=Mk)/\(2<k->bD 0 255 j=Mk)/\(3<k->bD 0 65535 l=Mk)/\(4<k->bD 0 65535 m=Mk)) (λi _ _=>5- (intOf i).toNat)
 case atStart=>exact⟨0,O,rfl,UQ,by simp,aN _ _ _,O,O,O,O,O⟩
 case round=>
  obtain⟨k,P,rfl,s,R,c,C,E,F,H,J⟩:=hrel;match k,P with
  |0,_=>
   have U:wr.cell? ⟨w.heap.size,0,S⟩=N (Q I d):=c 0 _ rfl;have G:=A c;have t:=A s;clear c s C E F H J;go_wp2_with fail
   refine(M.o 0 d _ O).mono ?_;rintro e W ⟨rfl,u⟩;rw[u];clear u W;have x:aA (bD 0 (bi 0) d=bD 0 4294967295 d):=A rfl;generalize bD 0 (bi 0) d=q at*;cases q with
   |false=>
    have D:aA (iE d f j l m=Md):=A (by unfold iE;rw[<-x.o];simp);go_wp2;go_ret2;exact⟨⟨0,4,rfl,by unfold cD;rw[if_neg (by rw[D.o];decide)];exact⟨rfl,rfl⟩⟩,t.o⟩
   |true=>
    go_wp2;go_roundw
    case rel=>exact⟨1,O,rfl,t.o,R,G.o,λ_=>x.o.symm,O,O,O,O⟩
    case measure=>simp[intOf]
  |1,_=>
   have U:wr.cell? ⟨w.heap.size,1,S⟩=N (Q I f):=c 1 _ rfl;have G:=A c;have t:=A s;have K:=A (C O);clear c s C E F H J;go_wp2_with fail
   refine(M.o 1 f _ O).mono ?_;rintro e W ⟨rfl,u⟩;rw[u];clear u W;have x:aA (bD 0 (bi 1) f=bD 0 4294967295 f):=A rfl;generalize bD 0 (bi 1) f=q at*;cases q with
   |false=>
    have D:aA (iE d f j l m=Md):=A (by unfold iE;rw[<-x.o];simp);go_wp2;go_ret2;exact⟨⟨0,4,rfl,by unfold cD;rw[if_neg (by rw[D.o];decide)];exact⟨rfl,rfl⟩⟩,t.o⟩
   |true=>
    go_wp2;go_roundw
    case rel=>exact⟨2,O,rfl,t.o,R,G.o,λ_=>K.o,λ_=>x.o.symm,O,O,O⟩
    case measure=>simp[intOf]
  |2,_=>
   have U:wr.cell? ⟨w.heap.size,2,S⟩=N (Q I j):=c 2 _ rfl;have G:=A c;have t:=A s;have K:=A (C O);have T:=A (E O);clear c s C E F H J;go_wp2_with fail
   refine(M.o 2 j _ O).mono ?_;rintro e W ⟨rfl,u⟩;rw[u];clear u W;have x:aA (bD 0 (bi 2) j=bD 0 255 j):=A rfl;generalize bD 0 (bi 2) j=q at*;cases q with
   |false=>
    have D:aA (iE d f j l m=Md):=A (by unfold iE;rw[<-x.o];simp);go_wp2;go_ret2;exact⟨⟨0,4,rfl,by unfold cD;rw[if_neg (by rw[D.o];decide)];exact⟨rfl,rfl⟩⟩,t.o⟩
   |true=>
    go_wp2;go_roundw
    case rel=>exact⟨3,O,rfl,t.o,R,G.o,λ_=>K.o,λ_=>T.o,λ_=>x.o.symm,O,O⟩
    case measure=>simp[intOf]
  |3,_=>
   have U:wr.cell? ⟨w.heap.size,3,S⟩=N (Q I l):=c 3 _ rfl;have G:=A c;have t:=A s;have K:=A (C O);have T:=A (E O);have Y:=A (F O);clear c s C E F H J;go_wp2_with fail
   refine(M.o 3 l _ O).mono ?_;rintro e W ⟨rfl,u⟩;rw[u];clear u W;have x:aA (bD 0 (bi 3) l=bD 0 65535 l):=A rfl;generalize bD 0 (bi 3) l=q at*;cases q with
   |false=>
    have D:aA (iE d f j l m=Md):=A (by unfold iE;rw[<-x.o];simp);go_wp2;go_ret2;exact⟨⟨0,4,rfl,by unfold cD;rw[if_neg (by rw[D.o];decide)];exact⟨rfl,rfl⟩⟩,t.o⟩
   |true=>
    go_wp2;go_roundw
    case rel=>exact⟨4,O,rfl,t.o,R,G.o,λ_=>K.o,λ_=>T.o,λ_=>Y.o,λ_=>x.o.symm,O⟩
    case measure=>simp[intOf]
  |4,_=>
   have U:wr.cell? ⟨w.heap.size,4,S⟩=N (Q I m):=c 4 _ rfl;have G:=A c;have t:=A s;have K:=A (C O);have T:=A (E O);have Y:=A (F O);have H3:=A (H O);clear c s C E F H J;go_wp2_with fail
   refine(M.o 4 m _ O).mono ?_;rintro e W ⟨rfl,u⟩;rw[u];clear u W;have x:aA (bD 0 (bi 4) m=bD 0 65535 m):=A rfl;generalize bD 0 (bi 4) m=q at*;cases q with
   |false=>
    have D:aA (iE d f j l m=Md):=A (by unfold iE;rw[<-x.o];simp);go_wp2;go_ret2;exact⟨⟨0,4,rfl,by unfold cD;rw[if_neg (by rw[D.o];decide)];exact⟨rfl,rfl⟩⟩,t.o⟩
   |true=>
    go_wp2;go_roundw
    case rel=>exact⟨5,O,rfl,t.o,R,G.o,λ_=>K.o,λ_=>T.o,λ_=>Y.o,λ_=>H3.o,λ_=>x.o.symm⟩
    case measure=>simp[intOf]
  |5,_=>
   have D:aA (iE d f j l m=Mk):=A (by unfold iE;rw[C O,E O,F O,H O,J O];rfl);have a8:=A (CF.o _ s);have Z:wr.cell? ⟨w.heap.size,0,S⟩=N (Q I d):=c 0 _ rfl;have c1:wr.cell? ⟨w.heap.size,1,S⟩=N (Q I f):=c 1 _ rfl;have c2:wr.cell? ⟨w.heap.size,2,S⟩=N (Q I j):=c 2 _ rfl;have c3:wr.cell? ⟨w.heap.size,3,S⟩=N (Q I l):=c 3 _ rfl;have c4:wr.cell? ⟨w.heap.size,4,S⟩=N (Q I m):=c 4 _ rfl;have t:=A s;clear C E F H J c s M CF;go_wp2_with fail
   refine a8.o.mono ?_;rintro e W ⟨⟨z,rfl,hz⟩,b0⟩;obtain⟨i1,i2⟩:=b4.o z D.o hz;have V:=A (t.o.trans (b0.mono t.o.size));have c8:=MW V.o a7;have d2:=MO c8;clear b0 a8 Z c1 c2 c3 c4;rcases hz with⟨rfl,_⟩|⟨k,P,rfl,_⟩
   ·have HI:=A (i1 rfl);clear i1 i2;go_wp2;go_ret2;exact⟨⟨0,7,rfl,HI.o⟩,V.o⟩
   ·have HI:=A (i2 k P rfl);obtain⟨rfl,b1⟩:=HC.o k P;have Z:W.cell? ⟨g,k*19,S⟩=N (Q I X[k].id):=MW V.o (b1 0 _ rfl);have d3:=MO Z;have d4:(k:Int)<X.length:=O;have d5:¬(k:Int)<0:=O;clear i1 i2 b1;generalize X[k].id=d6 at*;go_wp2;go_ret2;exact⟨⟨_,0,rfl,HI.o⟩,V.o⟩
structure dg (w:MV) (x:Nat):Prop where
 zero:x≠0
 ent:∀r,¬ak w x r
 leaf:∀a n c,w.cell? ⟨x,0,S⟩=N (MR a n c)->w.cell? ⟨x,3,S⟩≠N (MQ S)
 node:∀(f l:Int) (bl:Nat),w.cell? ⟨x,1,S⟩=N (Q I f)->w.cell? ⟨x,2,S⟩=N (Q I l)->w.cell? ⟨x,3,S⟩≠N (MQ (N ⟨bl,0,S⟩))
 bunch:∀e r,w.cell? ⟨x,0,S⟩=N (MQ (N ⟨e,0,S⟩))->¬ak w e r
section
variable {X:Nat->Prop}{w o:World}
theorem ak.iW(h:fF X w o)(c:∀x,X x->dg w x)(a:ak w b r):ak o b r:=
 a.same (h b a.lt λd=>(c b d).ent r a)
theorem bR.iW(h:fF X w o)(d:∀x,X x->dg w x){c:List af}(n:bR w v c):bR o v c:=by
 obtain⟨a,p,q,f,g⟩:=n;refine⟨a,p,q,λi r=>?_,λe s=>(g e s).iW h d⟩;obtain⟨b,t,⟨j,k⟩,u⟩:=f i r;refine⟨b,t,⟨j,k⟩,h.cell (λy=>?_) u⟩;obtain⟨z,B,⟨l,C⟩,m⟩:=f 0 O;rw[j]at l;cases l;subst k;rw[NO]at m;exact(d b y).bunch _ _ m (g c[0] (Ms O))
theorem eC.iW(h:fF X w o)(j:∀x,X x->dg w x):∀{n b:Nat} {i:List af},eC w n b i->eC o n b i:=by
 have k:∀{b:Nat} {v:Ma} {i:List af},bR w v i->w.cell? ⟨b,0,S⟩=N v->w.cell? ⟨b,3,S⟩=N (MQ S)->¬X b:=by
  intro b v i p l c g;obtain⟨a,C,q,_,_⟩:=p;rw[q]at l;exact(j b g).leaf _ _ _ l c
 intro n;induction n with
 |zero=>
  rintro b i ⟨v,d,e,c⟩;exact⟨v,d.iW h j,h.cell (k d e c) e,h.cell (k d e c) c⟩
 |succ n m=>
  rintro b i (⟨v,d,e,c⟩|⟨f,r,s,t,u,d,e,c,y,z,B⟩)
  ·exact Mf ⟨v,d.iW h j,h.cell (k d e c) e,h.cell (k d e c) c⟩
  ·have g:¬X b:=λg=>(j b g).node _ _ _ d e c;exact MX ⟨f,r,s,t,u,h.cell g d,h.cell g e,h.cell g c,h.cell g y,m z,m B⟩
theorem cP.iW(b:cP w)(h:fF X w o)(c:∀x,X x->dg w x):cP o:=by
 have e:∀i,o.cell? ⟨0,i,S⟩=w.cell? ⟨0,i,S⟩:=λi=>Mj (a:=⟨0,i,S⟩) (h 0 b.uE λd=>(c 0 d).zero rfl);simpa only[cP,e]using b
theorem bQ.iW{t:Nat}(h:bQ w t F L)(b:aH X w o)(l:∀x,X x->dg w x)(d:∀x,F x->¬X x):bQ o t F L:=by
 obtain⟨m,n,q,r,s,h,u,v,rfl⟩:=h;refine⟨m,n,q,r,s,?_,u,v,rfl⟩;have i:=d t (Mf rfl);refine⟨h.laid.iW b.block l,b.block.cell i h.c0,b.block.cell i h.c1,λj=>(NJ (a:=⟨t,j,S⟩) (b.block t (MO h.c0) i)).trans (h.tf j),h.mI.chg h.hI b (d m (MX (Mf (Mf rfl)))) (λg f=>d g (MX (Mf (MX f)))),h.sI,h.hI.chg b (λg f=>d g (MX (Mf (MX f)))),
  h.mR.chg h.hR b (d n (MX (MX (Mf rfl)))) (λg f=>d g (MX (MX (MX f)))),h.sR,h.hR.chg b (λg f=>d g (MX (MX (MX f)))),λe p=>⟨(h.ent e p).1.iW b.block l,(h.ent e p).2⟩,λk y=>?_⟩
 obtain⟨z,c,T⟩:=h.tree k y;exact⟨z,b.block.cell i c,T.iW b.block l⟩
end
theorem bQ.Lt{w:MV}{t:Nat}(h:bQ w t F L):∀i j (a:i<L.length) (b:j<L.length),L[i].2.id=L[j].2.id->i=j:=by
 obtain⟨n,r,s,u,v,T,c,_,rfl⟩:=h;have k:∀x y,x∈L->y∈L->x.2.id=y.2.id->x=y:=λx y l m e=>by
  obtain⟨p,d,rfl⟩:=Mt ((c x).2 l);obtain⟨q,f,rfl⟩:=Mt ((c y).2 m);rcases Qf p q with h|rfl|h
  ·have:=Mr.1 T.sI p q d f h;omega
  ·rfl
  ·have:=Mr.1 T.sI q p f d h;omega
 intro i j a b e;have g:=k _ _ (Ms a) (Ms b) e;rcases Qf i j with h|h|h
 ·have:=Mr.1 T.sR i j a b h;rw[g,Rl.dj]at this;cases this
 ·exact h
 ·have:=Mr.1 T.sR j i b a h;rw[g,Rl.dj]at this;cases this
theorem bQ.jw{w:MV}{t:Nat}(h:bQ w t F L):cC L:=by
 obtain⟨a,b,c,d,e,T,_,_,rfl⟩:=h;exact T.sR
section
variable {w:World}{x:Nat}
theorem qE{a b:Option Oz}{d:Nat}(g:w.cell? ⟨x,0,S⟩=N (MR a n c))(j:w.cell? ⟨x,1,S⟩=N (MR b m d))(i:∃a n c,w.cell? ⟨x,3,S⟩=N (MR a n c))(k:cP w):dg w x:=by
 obtain⟨q,s,t,i⟩:=i;refine⟨?_,λr p=>?_,λa n c _ h=>?_,λf l u h _ _=>?_,λe r h=>?_⟩
 ·rintro rfl;have:=k.1;rw[g]at this;cases this
 ·have:=p.c0;rw[g]at this;cases this
 ·rw[i]at h;cases h
 ·rw[j]at h;cases h
 ·rw[g]at h;cases h
theorem DK{a:Option Oz}(b:w.cell? ⟨x,0,S⟩=N (MR a n c))(d:w.cell? ⟨x,1,S⟩=S)(g:w.cell? ⟨x,3,S⟩=S)(i:cP w):dg w x:=by
 refine⟨?_,λr j=>?_,λa n c _ h=>?_,λf l k h _ _=>?_,λe r h=>?_⟩
 ·rintro rfl;have:=i.1;rw[b]at this;cases this
 ·have:=j.c0;rw[b]at this;cases this
 ·rw[g]at h;cases h
 ·rw[d]at h;cases h
 ·rw[b]at h;cases h
theorem DJ{p:Ma}(d:w.cell? ⟨x,0,S⟩=N (MQ (N ⟨b,0,S⟩)))(i:w.cell? ⟨b,0,S⟩=N p)(j:∀n,p≠Q I n)(k:∀f,w.cell? ⟨x,1,S⟩≠N (Q I f))(m:cP w):dg w x:=by
 refine⟨?_,λr g=>?_,λa n c h=>?_,λf l q h _ _=>absurd h (k f),λe r h g=>?_⟩
 ·rintro rfl;have:=m.1;rw[d]at this;cases this
 ·have:=g.c0;rw[d]at this;cases this
 ·rw[d]at h;cases h
 ·rw[d]at h;cases h;have:=g.c0;rw[i]at this;exact j _ (Option.some.inj this)
theorem zT{n:Int}{a:Option Oz}(d:w.cell? ⟨x,0,S⟩=N (Q I n))(b:w.cell? ⟨x,1,S⟩=N (MR a m c))(g:cP w):dg w x:=by
 refine⟨?_,λr i=>?_,λa n c h=>?_,λf l j h _ _=>?_,λe r h=>?_⟩
 ·rintro rfl;have:=g.2.1;rw[b]at this;cases this
 ·have:=i.c1;rw[b]at this;cases this
 ·rw[d]at h;cases h
 ·rw[b]at h;cases h
 ·rw[d]at h;cases h
theorem nH{k:List Rl}(h:bU B w v k)(i:v.ownBlock=N g):dg w g:=by
 have m:=h.lE i;obtain⟨p,t,u,y,a,b,c,d,z,C,j,D,E,q⟩:=h.qP i;refine⟨p,λr s=>m.vk s,λa n c h=>?_,λf l F _ _ h=>?_,λe r h=>?_⟩
 ·rw[j]at h;cases h
 ·rw[q]at h;cases h
 ·rw[j]at h;cases h
end
section
open Go.RowKit Go.Shelf
theorem E2{W:MV}(h:ak W b r):W.rangeAt b 0 [Q I r.id,Q I r.pr,Q I r.k0,Q I r.v0,Q I r.m0,Q I r.k1,Q I r.v1,Q I r.m1,Q I r.k2,Q I r.v2,Q I r.m2,Q I r.k3,Q I r.v3,Q I r.m3,Q I r.k4,Q I r.v4,Q I r.m4,Q I r.ac,Q I r.po]:=λj u a=>by
 have c:j<19:=(OR.1 a).1;rw[NO,h j O];match j,c,a with
 |0,_,a=>exact a
 |1,_,a=>exact a
 |2,_,a=>exact a
 |3,_,a=>exact a
 |4,_,a=>exact a
 |5,_,a=>exact a
 |6,_,a=>exact a
 |7,_,a=>exact a
 |8,_,a=>exact a
 |9,_,a=>exact a
 |10,_,a=>exact a
 |11,_,a=>exact a
 |12,_,a=>exact a
 |13,_,a=>exact a
 |14,_,a=>exact a
 |15,_,a=>exact a
 |16,_,a=>exact a
 |17,_,a=>exact a
 |18,_,a=>exact a
 |j+19,h,_=>exact absurd h O
theorem lQ{b:List Ma}(h:w.ownsRow B t s v n b)(c:v≠MR S 0 0):∃g a,v=MR (N ⟨g,0,S⟩) n a:=by
 rcases h.2 with⟨e,_⟩|⟨g,a,d,e,_⟩
 ·exact absurd e c
 ·exact⟨g,a,e⟩
attribute [local go_sem] Oper.semAt_some
def Ch(a:Array NL)(b:NL)(c:Array Ma):Sem Next:=do pure (.value (<-Na a b c))
theorem zo(a:Array NL)(b:NL)(d:Array Bool)(c:Array Ma):builtin .append a b d c=Ch a b c:=rfl
theorem Cg{a:Array NL}{b:NL}{c:Array Ma}{d:MV}(h:(Na a b c).run P w=.ok v d):(Ch a b c).run P w=.ok (.value v) d:=by
 simp[Ch,h,Result.andThen]
def DC(v:Ma):Sem Value:=Instr.loadAt 37 v
theorem yp(v:Ma):Instr.loadAt 37 v=DC v:=rfl
attribute [local go_sem high] tj
attribute [local go_sem ↓ high] zo yp
theorem Ax(t f:Nat)(X:Ma)(w:MV)(a:List {e:af//ak w e.1 e.2/\e.2.ok=Mk})(d0:a.length<=200)(Y:w.cell? ⟨t,1,S⟩=N (MQ (N ⟨f,0,S⟩)))(s:w.cell? ⟨f,1,S⟩=N X)(G:kN w.heap.size w X (a.map (·.1))):Mo MT 18 #[MQ (N ⟨t,0,S⟩)] w λe y=>∃g Z,e=MZ (MR (N ⟨g,0,S⟩) a.length Z)/\y.ownsRow w.heap.size 37 19 (MR (N ⟨g,0,S⟩) a.length Z) a.length (d7 (a.map λx=>x.1.2))/\Mb w.heap.size w y:=by
 have a0:=MO Y;have a1:=MO s;obtain⟨dr,d2,d3⟩:=dJ;obtain⟨i0,hi,a4,a5,a6⟩:=Ob pI;have d4:=G;obtain⟨ra,a8,rfl,_⟩:=d4;rw[ND]at s;refine(PF (n:=5)).1 ?_;have z:Fence.wide.round=none:=rfl;refine callsIn_of_wp_marks func18 rfl trivial ?_ z;simp only[ntmps18,List.size_toArray,N6,List.length_nil,Nat.reduceAdd,Nat.reduceSub,Array.replicate_succ,Array.replicate_zero,List.push_toArray,List.append_toArray,List.nil_append,List.cons_append];gi_wp2_with (first|(refine⟨trivial,?_⟩;gi_at_call 50;refine(PF.2 (Gh f ra a.length a8 _ s)).mono ?_;rintro e y ⟨rfl,a9⟩;rw[a9];clear a9)|(gi_at_make;refine wpListIn_make_own _ rfl _ _ 54 rfl w.heap.size 37 i0 _ 19 ib hi a4 a5 I I _ a.length rfl rfl rfl (by rw[a6];omega) UT (MP _) ?_;intro b d5 d6;have B:Mb w.heap.size w b:=bj d6 (MP _) (λx H=>by cases H);have k1:b.cell? ⟨t,1,S⟩=N (MQ (N ⟨f,0,S⟩)):=(B.cell (p:=⟨t,1,S⟩) a0).trans Y;have f3:t<b.heap.size:=Mi a0 B.size)|(refine⟨trivial,?_⟩;gi_at_call 51;refine(IU Fence.wide 4 trivial z f _).mono ?_;rintro e y ⟨rfl,rfl⟩))
 have b0:=B.size;have J:=(Boxed.new b 54 (MR (N ⟨w.heap.size,0,S⟩) 0 a.length)).alloc (MY #[MQ (N ⟨f,0,S⟩)] 97);have L:=Boxed.new (b.alloc (MY #[MR (N ⟨w.heap.size,0,S⟩) 0 a.length] 54)) 97 (MQ (N ⟨f,0,S⟩));simp only[World.size_alloc]at J L;have C:Mb w.heap.size w ((b.alloc (MY #[MR (N ⟨w.heap.size,0,S⟩) 0 a.length] 54)).alloc (MY #[MQ (N ⟨f,0,S⟩)] 97)):=(B.alloc b0 _).alloc UU _;have e0:((b.alloc (MY #[MR (N ⟨w.heap.size,0,S⟩) 0 a.length] 54)).alloc (MY #[MQ (N ⟨f,0,S⟩)] 97)).heap.size=b.heap.size+2:=by simp
 have b1:=(C.cell (p:=⟨f,1,S⟩) a1).trans s;have b3:=(d5.alloc (MY #[MR (N ⟨w.heap.size,0,S⟩) 0 a.length] 54)).alloc (MY #[MQ (N ⟨f,0,S⟩)] 97);rw[ND]at G;refine wpIn_rangeFunc_ownG z O (gf:=99) (lb:=#[MQ (N ⟨b.heap.size+1,0,S⟩)]) rfl trivial (enters_of func99 UR rfl)
  (vV Fence.wide 4 trivial z O (b.heap.size+1) f w.heap.size (MR ra a.length a8) a d0 _ O a1 O L.cell b1 (G.aD C)) belowK_t (belowK_b O) (MU _ _) (λ_=>rfl)
  (λd W=>(∃v,Boxed W b.heap.size 54 v/\W.ownsRow w.heap.size 37 19 v d.length (d7 (d.map λx=>x.1.2))/\v≠MR S 0 0)/\Mb w.heap.size w W)
  (λ_ _ _=>False)
  (OwnFrom.and (Own.from (holdsRow_own w.heap.size b.heap.size 54 37 19 (λ(d:List {e:af//ak w e.1 e.2/\e.2.ok=Mk})=>d.length) (λd=>d7 (d.map λx=>x.1.2)) (λ_ v=>v≠MR S 0 0)) _) (ownFrom_below (MP _) O))
  (λ_ _ _ _ _ hs _ _=>hs)
  ⟨⟨_,J,b3,by simp⟩,C⟩
  (λx=>{tmps:=#[MQ (N ⟨t,0,S⟩),NS,MR S 0 0,MQ (N ⟨b.heap.size,0,S⟩),NS,MQ (N ⟨x.1.1,0,S⟩),MQ (N ⟨t,0,S⟩),MQ (N ⟨t,0,S⟩),MQ (N ⟨t,1,S⟩),MQ (N ⟨f,0,S⟩),Q I a.length,MR (N ⟨w.heap.size,0,S⟩) 0 a.length,MQ (N ⟨t,0,S⟩),MQ (N ⟨t,0,S⟩),MQ (N ⟨t,1,S⟩),MQ (N ⟨f,0,S⟩),.func (.func 99) #[] #[MQ (N ⟨b.heap.size+1,0,S⟩)],M1 #[Q I x.1.2.pr,Q I x.1.2.id],MQ (N ⟨x.1.1,0,S⟩),NS,NS,NS,NS,NS,NS,NS,NS],defers:=[]}) ?assign ?body ?done ?stop
 case assign=>
  intro l x W K E;simp only[Hy];gi_wp2
  exact E
 case body=>
  rintro l d x W ⟨⟨v,m,i,q⟩,k⟩ f4;have f5:prog.follows .mixedOrders=true:=UR;obtain⟨g,r,rfl⟩:=lQ i q;have M:ak W x.1.1 x.1.2:=x.2.1.aD k x.2.1.lt;have b4:=E2 M;have f6:(DC (MQ (N ⟨x.1.1,0,S⟩))).run MT W.drew=.ok (M1 #[Q I x.1.2.id,Q I x.1.2.pr,Q I x.1.2.k0,Q I x.1.2.v0,Q I x.1.2.m0,Q I x.1.2.k1,Q I x.1.2.v1,Q I x.1.2.m1,Q I x.1.2.k2,Q I x.1.2.v2,Q I x.1.2.m2,Q I x.1.2.k3,Q I x.1.2.v3,Q I x.1.2.m3,Q I x.1.2.k4,Q I x.1.2.v4,Q I x.1.2.m4,Q I x.1.2.ac,Q I x.1.2.po]) W.drew:=run_loadAt_mid W.drew x.1.1 0 37 [Q I x.1.2.id,Q I x.1.2.pr,Q I x.1.2.k0,Q I x.1.2.v0,Q I x.1.2.m0,Q I x.1.2.k1,Q I x.1.2.v1,Q I x.1.2.m1,Q I x.1.2.k2,Q I x.1.2.v2,Q I x.1.2.m2,Q I x.1.2.k3,Q I x.1.2.v3,Q I x.1.2.m3,Q I x.1.2.k4,Q I x.1.2.v4,Q I x.1.2.m4,Q I x.1.2.ac,Q I x.1.2.po] dr (by simpa using b4) d2 d3 ay;have b5:∀j u,(d7 [x.1.2])[j]?=N u->(W.alloc (MY #[Q I x.1.2.id,Q I x.1.2.pr,Q I x.1.2.k0,Q I x.1.2.v0,Q I x.1.2.m0,Q I x.1.2.k1,Q I x.1.2.v1,Q I x.1.2.m1,Q I x.1.2.k2,Q I x.1.2.v2,Q I x.1.2.m2,Q I x.1.2.k3,Q I x.1.2.v3,Q I x.1.2.m3,Q I x.1.2.k4,Q I x.1.2.v4,Q I x.1.2.m4,Q I x.1.2.ac,Q I x.1.2.po] 37)).drew.cell? ((⟨W.heap.size,0,S⟩:Oz).add j)=N u:=vS W x.1.2 37;have b6:(W.alloc (MY #[Q I x.1.2.id,Q I x.1.2.pr,Q I x.1.2.k0,Q I x.1.2.v0,Q I x.1.2.m0,Q I x.1.2.k1,Q I x.1.2.v1,Q I x.1.2.m1,Q I x.1.2.k2,Q I x.1.2.v2,Q I x.1.2.m2,Q I x.1.2.k3,Q I x.1.2.v3,Q I x.1.2.m3,Q I x.1.2.k4,Q I x.1.2.v4,Q I x.1.2.m4,Q I x.1.2.ac,Q I x.1.2.po] 37)).drew.ownsRow w.heap.size 37 19 (MR (N ⟨g,0,S⟩) d.length r) d.length (d7 (d.map λx=>x.1.2)):=i.alloc _;obtain⟨v',w1,b9,R,o,c0⟩:=QF (P:=MT) (W.alloc (MY #[Q I x.1.2.id,Q I x.1.2.pr,Q I x.1.2.k0,Q I x.1.2.v0,Q I x.1.2.m0,Q I x.1.2.k1,Q I x.1.2.v1,Q I x.1.2.m1,Q I x.1.2.k2,Q I x.1.2.v2,Q I x.1.2.m2,Q I x.1.2.k3,Q I x.1.2.v3,Q I x.1.2.m3,Q I x.1.2.k4,Q I x.1.2.v4,Q I x.1.2.m4,Q I x.1.2.ac,Q I x.1.2.po] 37)).drew w.heap.size 54 54 37 i0 _ 19 152 ib hi a4 a5 a6 rfl US (MR (N ⟨g,0,S⟩) d.length r) d.length (d7 (d.map λx=>x.1.2)) b6 ⟨W.heap.size,0,S⟩ 1 1 (d7 [x.1.2]) (ef _) b5 (ow _) UT O (by have:=k.size;simp;omega);have c1:(W.alloc (MY #[Q I x.1.2.id,Q I x.1.2.pr,Q I x.1.2.k0,Q I x.1.2.v0,Q I x.1.2.m0,Q I x.1.2.k1,Q I x.1.2.v1,Q I x.1.2.m1,Q I x.1.2.k2,Q I x.1.2.v2,Q I x.1.2.m2,Q I x.1.2.k3,Q I x.1.2.v3,Q I x.1.2.m3,Q I x.1.2.k4,Q I x.1.2.v4,Q I x.1.2.m4,Q I x.1.2.ac,Q I x.1.2.po] 37)).grownBy w1 (NF (MR (N ⟨g,0,S⟩) d.length r)):=⟨o.os,o.tape,o.output,o.size,o.block⟩;obtain⟨g',f9,rfl⟩:=lQ R (λe=>by have:=c0.1 e;simp at this);have g0:=Cg b9;clear b9;obtain⟨T,c2,c3,c4,c5⟩:=m.appended US i k.size b0 R c1;have g1:=m.cell;have g3:=T.cell;have g4:=T.frozen;have e4:=A c2;have e5:=A c3;have e6:=A c4;have c6:=A c5;have F:=A k;have g5:x.1.1<W.heap.size:=M.lt;have g6:b.heap.size<W.heap.size:=m.lt;clear m i q k M b4 b5 b6 R c1 o c0 T c2 c3 c4 c5;gi_wp2
  gi_region_with_o (fail)
  all_goals
   gi_wp2
   exact⟨e6.o.from _,c6.o,⟨⟨_,e4.o,by rw[Pd,eH,Mz];exact e5.o,by simp⟩,F.o.trans c6.o⟩⟩
 case done=>
  rintro D ys W hD rfl ⟨⟨v,m,i,q⟩,k⟩ E;obtain⟨g,r,rfl⟩:=lQ i q;have g8:=m.cell;have HR:=A i;have F:=A k;have HK:=A E;have HD:=A hD;clear m i q k E hD J L C e0 b1 b3;gi_wp2
  have U:=HK.o;refine⟨by simp,Mf ⟨_,_,rfl,run_takeDeferred U,?_⟩⟩;have hg:=grownBy_putObj' W D (.deferred S);have f0:w.heap.size<=D:=by have:=HD.o;simp at this;omega
  refine⟨_,results_tmp rfl _ _ _,g,r,rfl,HR.o.kept hg (MX ?_),F.o.trans (bj hg F.o.size (λx H=>by cases H;exact f0))⟩;intro e;rcases HR.o.2 with⟨V,_⟩|⟨g2,h0,h1,V,_,f1,_⟩
  ·cases V
  ·cases V;cases e;rw[f1]at U;cases U
 case stop=>
  rintro D c d W _ _ h _;exact h.elim
theorem sG(t:Nat)(w:MV)(F:Nat->Prop)(L:List af)(h:bQ w t F L):Mo MT 18 #[MQ (N ⟨t,0,S⟩)] w λe m=>∃g c,e=MZ (MR (N ⟨g,0,S⟩) L.length c)/\m.ownsRow w.heap.size 37 19 (MR (N ⟨g,0,S⟩) L.length c) L.length (d7 (L.map (·.2)))/\Mb w.heap.size w m:=by
 obtain⟨s,p,u,n,v,T,_,_,rfl⟩:=h;let b:List {e:af//ak w e.1 e.2/\e.2.ok=Mk}:=L.attach.map λe=>⟨e.1,T.ent e.1 e.2⟩
 have d:b.map (·.1)=L:=by simp only[b,S2,Function.comp_def];exact List.attach_map_subtype_val L
 have q:kN w.heap.size w n (b.map (·.1)):=by
  rw[d];obtain⟨a,c,g,e,i⟩:=ic T.mR.2.2.1;exact⟨a,c,e,λj k=>⟨g,(i j k).1,MO (i j k).2.1,(i j k).2⟩⟩
 have o:b.length=L.length:=by have:=congrArg SN d;rwa[ND]at this
 have r:(b.map λx=>x.1.2)=L.map (·.2):=(S2 (g:=λ(x:af)=>x.2) (f:=λ(x:{e:af//ak w e.1 e.2/\e.2.ok=Mk})=>x.1) (l:=b)).symm.trans (congrArg (List.map λ(x:af)=>x.2) d);refine(Ax t p n w b (by rw[o];exact T.mR.2.2.2.2) T.c1 T.mR.2.1 q).mono ?_;rw[o,r];exact λ_ _ h=>h
end
end Go.Proofs.YtnjalelblbjfiaaGreatDoor
