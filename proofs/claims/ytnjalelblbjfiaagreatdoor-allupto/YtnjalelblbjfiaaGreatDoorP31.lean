import Derived.Test.YtnjalelblbjfiaaGreatDoorP25
import Derived.Test.YtnjalelblbjfiaaGreatDoorP28
import Derived.Test.YtnjalelblbjfiaaGreatDoorP26
import Derived.Test.YtnjalelblbjfiaaGreatDoorP27
import Derived.Test.YtnjalelblbjfiaaGreatDoorP12
import Derived.Test.YtnjalelblbjfiaaGreatDoorP30
namespace Go.Proofs.YtnjalelblbjfiaaGreatDoor
set_option maxRecDepth 100000
set_option maxHeartbeats 16000000
open Go.RowKit
open Go.Proofs.Tryz
open Go.Sort (grow)
open Go renaming World→MV,Value→Ma,Calls→Mo,block_lt_of_cell→MO,heap_setCell_same→Mn,cell_later→MW,wp_region_quiet_below→Mg,wpQuiet_nil→M3,redrawn→NK
open Go.Ending renaming returned→MZ
open Go.IntKind renaming i64→I,wrap_i64→Mm
open Go.Obj renaming cells→MY
open Go.Proofs.Tryz renaming prog→MT,func71→Pp,func83→Rr,func70→P9
open Go.RowKit renaming Below→Mb
open Go.RowKit.Below renaming refl→MU
open Go.Value renaming tuple→Nn,int→Q,slice→MR,pointer→MQ,string→MS,map→N4,ownBlock→NF
open Option renaming some→N,none→S,isSome→QJ
open Or renaming inl→Mf,inr→MX
open Go.World renaming cell?_of_block→Mj,frozen?_of_block→NJ,cell?_setCell_other→NT,cell?_setCell_same→Nf
open List renaming getElem_of_mem→Mt,getElem_mem→Ms,getElem?_eq_getElem→NZ,length_take→Mh,length_map→ND,length_set→Mw,contains_iff_mem→QH
open Nat renaming le_refl→MP,not_lt_zero→OV
variable {a n r:Int}{g:Int->Bool}{R:Int->List (Int×ByteArray)->List Mc->Prop}{L:List (Int×ByteArray)}{T:List Int}{B:List Mc}{W c w:MV}{m v:Ma}{b k y:Nat}{x:aK}
section
attribute [local go_sem] Oper.semAt_some aI
def gV(y:Nat)(x:aK)(R:Int->List (Int×ByteArray)->List Mc->Prop)(w:MV)(e:Ending)(W:MV):Prop:=∃d r L a c,e=MZ (Nn #[d,Q I r])/\R r L c/\aX eY w.heap.size W 66 2 d L/\aT W y {x with kv:=a,K:=c}/\aH (λb=>b=y\/x.kv.ownBlock=N b) w W/\(∀b,a.ownBlock=N b->x.kv.ownBlock=N b\/w.heap.size<=b)/\(c=[]->a=x.kv)
theorem dy.ne{K a:List Mc}{b:Mc}(h:dy K b a):a≠[]:=by
 rintro rfl;obtain⟨-,h⟩:=h;split at h
 ·exact absurd ((h.1 b).2 (Mf rfl)) List.not_mem_nil
 ·rename_i c
  rw[<-h]at c;simp at c
theorem gV.none(h:aT w y x)(c:R r [] x.K)(a:Mb w.heap.size w W):gV y x R w (MZ (Nn #[MR S 0 0,Q I r])) W:=
 ⟨_,r,[],x.kv,x.K,rfl,c,aX.nil _ _ _ _ _,h.aD a,⟨a.os,a.tape,a.output,a.size,λb d _=>a.block b d⟩,λ_ a=>Mf a,λ_=>rfl⟩
theorem Dr(b:ByteArray):dh b<65536:=by
 unfold dh;split
 ·rename_i h
  have:=(b[0]'O).toNat_lt;have:=(b[1]'O).toNat_lt;omega
 ·omega
theorem rU{d:ByteArray}{f:Fr}(h:bd d=N f)(a:d.size<=600):f.to.size=6/\f.fr.size=6/\f.ty.size=2/\(0<=f.vlan/\f.vlan<4096)/\(0<=f.mark/\f.mark<16)/\f.rest.size<=600:=by
 unfold bd at h;have b:=Dr (d.extract 14 16);split at h
 ·cases h
 ·split at h
  ·split at h
   ·cases h
   ·cases h;dsimp only;refine⟨?_,?_,?_,⟨O,O⟩,⟨O,O⟩,?_⟩<;>(simp only[ByteArray.size_extract];omega)
  ·cases h;dsimp only;refine⟨?_,?_,?_,⟨O,O⟩,⟨O,O⟩,?_⟩<;>(simp only[ByteArray.size_extract];omega)
theorem dw{j g h k:MV}{l:Ma}{i:List Mc}(d:Mb w.heap.size w j)(f:aH (λb=>b=y\/x.kv.ownBlock=N b) j g)(n:aT g y {x with kv:=l,K:=i})(o:∀b,l.ownBlock=N b->x.kv.ownBlock=N b\/j.heap.size<=b)(a:Mb g.heap.size g h)(c:Mb h.heap.size h k)(p:aX eY h.heap.size k 66 2 m L)(q:R r L i)(s:i≠[]):gV y x R w (MZ (Nn #[m,Q I r])) k:=by
 have z:=d.size;have B:=f.size;have C:=a.size;have D:=c.size;refine⟨m,r,L,l,i,rfl,q,p.uc O,(n.aD a).aD c,⟨?_,?_,?_,O,λb t u=>?_⟩,λb v=>(o b v).imp id O,λe=>absurd e s⟩
 ·rw[c.os,a.os,f.os,d.os]
 ·rw[c.tape,a.tape,f.tape,d.tape]
 ·rw[c.output,a.output,f.output,d.output]
 ·rw[c.block b O,a.block b O,f.block b O u,d.block b t]
theorem wo{b:ByteArray}(h:jX b=true):20<=b.size/\bT b 2<=b.size:=by
 unfold jX at h;simp only[Bool.and_eq_true,decide_eq_true_eq]at h;omega
theorem ry(y:Nat)(x:aK)(a:Int)(d:ByteArray)(w:MV)(h:aT w y x)(R:Int->List (Int×ByteArray)->List Mc->Prop)(b:¬(0<=a/\a<x.Q.length))(c:R 9 [] x.K):Mo MT 71 #[MQ (N ⟨y,0,S⟩),Q I a,MS d] w (gV y x R w):=by
 have E:=A (λW f=>gV.none (W:=W) h c f);obtain⟨i,j,k,e,-⟩:=h.jd;have g:=h.c0;rw[e]at g;clear h e c;by_cases l:a<0
 ·clear b;go_enter Pp,ntmps71;go_wp2;go_ret2;exact E.o _ (MU _ _)
 ·have m:(x.Q.length:Int)<=a:=by omega
  clear b;go_enter Pp,ntmps71;go_wp2;go_ret2;exact E.o _ (MU _ _)
theorem Ac(y:Nat)(x:aK)(j:Int)(d:ByteArray)(w:MV)(h:aT w y x)(R:Int->List (Int×ByteArray)->List Mc->Prop)(J:0<=j/\j<x.Q.length)(m:aq d≠ -1)(t:R (aq d) [] x.K):Mo MT 71 #[MQ (N ⟨y,0,S⟩),Q I j,MS d] w (gV y x R w):=by
 have E:aA (∀r,aq d=r->∀W,Mb w.heap.size w W->gV y x R w (MZ (Nn #[MR S 0 0,Q I r])) W):=A (λr K W c=>K▸gV.none (W:=W) h t c);obtain⟨Y,Z,pg,u,-⟩:=h.jd;have L:=h.c0;rw[u]at L;clear h u t;obtain⟨a1,a2⟩:=J;have a3:¬j<0:=O;have a4:¬(x.Q.length:Int)<=j:=O;by_cases g:600<d.size
 ·have b:aq d=10:=by unfold aq;rw[if_pos g]
  have k:=A (E.o 10 b);have M:(600:Int)<d.size:=O;clear m b E g;go_enter Pp,ntmps71;go_wp2;go_ret2;exact k.o _ (MU _ _)
 ·have M:¬(600:Int)<d.size:=by omega
  have a5:(d.size:Int)<=600:=O;have n:=A (ru d w O);cases a:bd d with
  |none=>
   have b:aq d=1:=by unfold aq;rw[if_neg g,a]
   have k:=A (E.o 1 b);have i:=n;rw[a]at i;clear m b E g n a;go_enter Pp,ntmps71;go_wp2_with fail
   refine i.o.mono ?_;rintro e W ⟨⟨P,rfl,o⟩,c⟩;obtain⟨⟨⟨v,q,z,B,C,D,F⟩,rfl⟩,-⟩:=o;simp only[QJ,an];have l:=A c;clear c i;go_wp2;go_ret2;exact k.o _ (l.o.alloc l.o.size _)
  |some f=>
   by_cases p:dH f.fr=true
   ·have b:aq d=2:=by unfold aq;rw[if_neg g,a];exact if_pos p
    have k:=A (E.o 2 b);have T:=(rU a O).2.1;have i:=n;rw[a]at i;have U:=A a;have V:=A p;clear m b E g n a p;go_enter Pp,ntmps71;go_wp2_with fail
    refine i.o.mono ?_;rintro e W ⟨⟨P,rfl,o⟩,c⟩;obtain rfl:=o.2 _ U.o;obtain⟨v,q,z,B,C,D,F⟩:=f;simp only[QJ,an];have s:=gW q (W.alloc (MY #[MS v,MS q,Q I B,Q I C,.bool z,MS D,MS F] 248)) (by simp only at T;omega);rw[V.o]at s;have G:=A s;have l:=A c;clear c i s o;go_wp2_with fail
    refine G.o.mono ?_;rintro e X ⟨rfl,H⟩;rw[H];clear H X G;go_wp2;go_ret2;exact k.o _ (l.o.alloc l.o.size _)
   ·exact absurd (by unfold aq;rw[if_neg g,a];exact if_neg p) m
end
theorem dy.pd{K j:List Mc}{k:Mc}(h:dy K k j)(e:dy K k B):j=B:=by
 obtain⟨l,h⟩:=h;obtain⟨m,e⟩:=e;split at h
 ·rename_i f
  rw[if_pos f]at e;exact mO l m λq=>(h.1 q).trans (e.1 q).symm
 ·rename_i f
  rw[if_neg f]at e;rw[h,e]
section
variable {P:List b7}{K:List Mc}{c:Pg->Pg}{g:Pg->Option (Int×List (Int×ByteArray))}{i:Pg->Int⊕Pg}{a:Int}{d:ByteArray}
theorem uX{C:Int}{D:List (Int×ByteArray)}{E:List Mc}(h:aR P K c g i a d r L E)(x:aR P K c g i a d C D B):r=C/\L=D/\E=B:=by
 cases h with
 |unknown p=>cases x<;>first|exact⟨rfl,rfl,rfl⟩|(exact absurd ‹0<=a/\a<_› p)
 |bad s t=>cases x<;>first|exact⟨rfl,rfl,rfl⟩|(exact absurd s ‹¬(0<=a/\a<_)›)|(exact absurd ‹aq d= -1› t)
 |barred f s t k u=>
  cases x with
  |unknown p=>exact absurd s p
  |bad _ v=>exact absurd t v
  |barred=>exact⟨rfl,rfl,rfl⟩
  |judged m _ _ _ _ _ e j=>rw[k]at e;cases e;rw[u]at j;cases j
  |stopped m _ _ _ _ e j=>rw[k]at e;cases e;rw[u]at j;cases j
  |out m _ _ _ _ e j=>rw[k]at e;cases e;rw[u]at j;cases j
 |judged f _ _ _ s t k u y w=>
  cases x with
  |unknown p=>exact absurd s p
  |bad _ v=>exact absurd t v
  |barred m _ _ e j=>rw[k]at e;cases e;rw[u]at j;cases j
  |judged m _ _ _ _ _ e j n l=>rw[k]at e;cases e;rw[w]at l;cases l;exact⟨rfl,rfl,y.pd n⟩
  |stopped m _ _ _ _ e j n l=>rw[k]at e;cases e;rw[w]at l;cases l
  |out m _ _ _ _ e j n l=>rw[k]at e;cases e;rw[w]at l;cases l
 |stopped f _ _ s t k u y w z=>
  cases x with
  |unknown p=>exact absurd s p
  |bad _ v=>exact absurd t v
  |barred m _ _ e j=>rw[k]at e;cases e;rw[u]at j;cases j
  |judged m _ _ _ _ _ e j n l=>rw[k]at e;cases e;rw[w]at l;cases l
  |stopped m _ _ _ _ e j n l o=>rw[k]at e;cases e;rw[z]at o;cases o;exact⟨rfl,rfl,y.pd n⟩
  |out m _ _ _ _ e j n l o=>rw[k]at e;cases e;rw[z]at o;cases o
 |out f _ q s t k u y w z=>
  cases x with
  |unknown p=>exact absurd s p
  |bad _ v=>exact absurd t v
  |barred m _ _ e j=>rw[k]at e;cases e;rw[u]at j;cases j
  |judged m _ _ _ _ _ e j n l=>rw[k]at e;cases e;rw[w]at l;cases l
  |stopped m _ _ _ _ e j n l o=>rw[k]at e;cases e;rw[z]at o;cases o
  |out m _ F _ _ e j n l o=>
   rw[k]at e;cases e;rw[z]at o;cases o;obtain rfl:=y.pd n;exact⟨rfl,rfl,rfl⟩
end
theorem eD.iW{w:MV}{x:Nat}(h:eD w x):dg w x:=⟨h.zero,h.ent,λa n c b=>absurd b (h.leaf a n c),h.node,h.bunch⟩
theorem gT.lw{w:MV}{a:Ma}(h:gT w a g)(j:∀b,a=N4 (N b)->c.heap[b]?=w.heap[b]?):gT c a g:=by
 rcases h with h|⟨b,n,D,e,⟨k,l,m,o⟩,p⟩
 ·exact Mf h
 ·exact MX ⟨b,n,D,e,⟨k,l,(j b e).trans m,o⟩,p⟩
theorem gT.lt{w:MV}{a:Ma}(h:gT w a g)(e:a=N4 (N b)):b<w.heap.size:=by
 rcases h with⟨h,-⟩|⟨k,n,D,c,⟨l,m,j,o⟩,p⟩
 ·rw[h]at e;cases e
 ·rw[e]at c;cases c;exact aJ j
structure aC where
 p:Nat
 s:Nat
 y:Nat
 pv:Ma
 P:List b7
 Q:List (Int×Ma)
 k:Nat
 m:Nat
 sv:Ma
 K:List Mc
 fm:Nat
 fsv:Ma
 Fs:List Fc
 t:Nat
 vb:Nat
 F:Nat->Prop
 L:List af
 V:Int->Int×Int
 rb:Nat
 hb:Nat
 hsv:Ma
 R:List Rt
 x:aK
def aC.bV(d:aC):Nat->Prop:=λb=>b=d.s\/b=d.k\/b=d.m\/d.sv.ownBlock=N b\/d.pv.ownBlock=N b\/(∃q∈d.Q,q.2=N4 (N b))\/b=d.fm\/d.fsv.ownBlock=N b\/b=d.vb\/d.F b\/b=d.rb\/b=d.hb\/d.hsv.ownBlock=N b
structure aC.aP (w:MV) (d:aC):Prop where
 p:bW w d.s d.pv d.P d.k d.m d.sv d.K
 r:be w d.s d.fm d.t d.vb d.fsv d.Fs d.F d.L d.V
 h:jA w d.s d.rb d.hb d.hsv d.R
 o:aQ w d.pv d.P d.Q
section
variable {w W:World}{d:aC}{X:Nat->Prop}{f i:Nat->Nat}
theorem aC.aP.lt(h:d.aP w)(a:d.bV b):b<w.heap.size:=by
 obtain⟨k,c,-⟩:=h.r.hV.AK;rcases a with rfl|rfl|rfl|e|e|⟨q,g,e⟩|rfl|e|rfl|e|rfl|rfl|e
 ·exact MO h.p.h0
 ·exact MO h.p.hK.1
 ·exact MO h.p.hK.2.2.1.1.1
 ·exact(ae h.p.hK.2.2.1.1.2.2.1 e).2
 ·exact(ae h.o.own e).2
 ·obtain⟨j,l,rfl⟩:=Mt g;exact(h.o.each j (by have:=h.o.len;omega)).2.lt e
 ·exact MO h.r.hF.1
 ·exact(ae h.r.hF.2.2.1 e).2
 ·exact aJ c
 ·exact h.r.hT.lt e
 ·exact MO h.h.h0
 ·exact MO h.h.hM.1.1
 ·exact(ae h.h.hM.1.2.2.1 e).2
theorem aC.aP.aj(h:d.aP w)(m:aH X w W)(t:¬X 1)(u:∀x,X x->x<w.heap.size->dg w x/\¬d.bV x):d.aP W:=by
 have p:∀b,d.bV b->W.heap[b]?=w.heap[b]?:=λb k=>m.block b (h.lt k) λo=>(u b o (h.lt k)).2 k;have c:∀{b j:Nat} {v:Ma},d.bV b->w.cell? ⟨b,j,S⟩=N v->W.cell? ⟨b,j,S⟩=N v:=λk y=>(Mj (a:=⟨_,_,S⟩) (p _ k)).trans y;have F:∀{b j:Nat},d.bV b->w.frozen? ⟨b,j,S⟩=false->W.frozen? ⟨b,j,S⟩=false:=λk y=>(NJ (a:=⟨_,_,S⟩) (p _ k)).trans y;have r:d.bV d.s:=Mf rfl;have J:d.bV d.k:=MX (Mf rfl);have K:d.bV d.m:=MX (MX (Mf rfl));have L:∀b,d.sv.ownBlock=N b->d.bV b:=λb e=>MX (MX (MX (Mf e)));have M:∀b,d.pv.ownBlock=N b->d.bV b:=λb e=>MX (MX (MX (MX (Mf e))));have P:∀b,(∃q∈d.Q,q.2=N4 (N b))->d.bV b:=λb e=>MX (MX (MX (MX (MX (Mf e)))));have z:d.bV d.fm:=MX (MX (MX (MX (MX (MX (Mf rfl))))));have B:∀b,d.fsv.ownBlock=N b->d.bV b:=λb e=>MX (MX (MX (MX (MX (MX (MX (Mf e)))))));have R:d.bV d.vb:=MX (MX (MX (MX (MX (MX (MX (MX (Mf rfl))))))));have T:∀b,d.F b->d.bV b:=λb e=>MX (MX (MX (MX (MX (MX (MX (MX (MX (Mf e)))))))));have U:d.bV d.rb:=MX (MX (MX (MX (MX (MX (MX (MX (MX (MX (Mf rfl))))))))));have C:d.bV d.hb:=MX (MX (MX (MX (MX (MX (MX (MX (MX (MX (MX (Mf rfl)))))))))));have s:∀b,d.hsv.ownBlock=N b->d.bV b:=λb e=>MX (MX (MX (MX (MX (MX (MX (MX (MX (MX (MX (MX e)))))))))));have G:aQ W d.pv d.P d.Q:=⟨h.o.len,ap h.o.own λb k=>p b (M b k),λj H=>⟨(h.o.each j H).1,(h.o.each j H).2.lw λb e=>p b (P b ⟨_,Ms _,e⟩)⟩⟩;have V:aH (λx=>X x/\x<w.heap.size) w W:=⟨m.os,m.tape,m.output,m.size,λb k Y=>m.block b k λo=>Y ⟨o,k⟩⟩;obtain⟨Z,f1,f2,f3,f4⟩:=h.r.hF;obtain⟨⟨g0,g1,g2,g3,g4⟩,g5⟩:=h.h.hM;refine⟨⟨c r h.p.h0,G.at,c r h.p.h5,h.p.hK.aj λb k e=>p b ?_,m.block.cell t h.p.hm.1,m.block.cell t h.p.hm.2.1,m.block.cell t h.p.hm.2.2.1,m.block.cell t h.p.hm.2.2.2⟩,⟨c r h.r.h1,⟨c z Z,c z f1,ap f2 λg l=>p g (B g l),λj=>F z (f3 j),f4⟩,h.r.sF,λg l=>?_,c r h.r.h3,h.r.hT.iW V (λx o=>(u x o.1 o.2).1) (λx hF o=>(u x o.1 o.2).2 (T x hF)),c r h.r.h4,h.r.hV.same (p _ R),h.r.hD⟩,⟨c r h.h.h2,c U h.h.h0,⟨⟨c C g0,c C g1,ap g2 λg l=>p g (s g l),λj=>F C (g3 j),g4⟩,λe g l=>by
  obtain⟨x0,x1,x2,x3,D,E,d2,d3⟩:=g5 e g l;exact⟨x0,x1,x2,x3,c (s g l) D,c (s g l) E,c (s g l) d2,c (s g l) d3⟩⟩,h.h.hS⟩,G⟩
 ·rcases e with rfl|rfl|e
  ·exact J
  ·exact K
  ·exact L b e
 ·obtain⟨n,v,D,E⟩:=h.r.hH g l;exact⟨n,v,c (B g l) D,c (B g l) E⟩
end
section
attribute [local go_sem] Oper.semAt_some aI
attribute [local go_sem ↓ high] tG qu cu
theorem Cf{B:Nat}{d:Int}{L:List Mc}{e:Mc}(h:aX (d8 d) B w 92 4 v L)(t:B<=w.heap.size)(x:L.length<=1000):∃g i f,(Builtin.append_ #[88,88] 88 #[v,MR (N ⟨w.heap.size,0,S⟩) 1 1]).run MT (w.alloc (MY #[Q I e.vlan,MS e.mac,Q I e.port,Q I (d-e.age)] 92))=.ok (MR (N ⟨g,0,S⟩) (L.length+1) i) f/\aX (d8 d) B f 92 4 (MR (N ⟨g,0,S⟩) (L.length+1) i) (L++[e])/\aH (λb=>v.ownBlock=N b) w f:=by
 obtain⟨y,k,l,m,n⟩:=info_parts vK;have j:Mb w.heap.size w (w.alloc (MY #[Q I e.vlan,MS e.mac,Q I e.port,Q I (d-e.age)] 92)):=(MU _ w).alloc (MP _) _;obtain⟨g,i,f,o,p,r,z⟩:=(h.aD j).append (P:=MT) (tl:=88) (c:=1) (dF d) (vC d) qd k l m n rfl US [e] (by simp) (a:=⟨w.heap.size,0,S⟩) (λq u s=>by rw[Addr.add_mid];exact aN w #[Q I e.vlan,MS e.mac,Q I e.port,Q I (d-e.age)] 92 q u s) (by unfold maxLen;simp;omega) UU UU;exact⟨g,i,f,o,p,(aH.aG j).trans r⟩
def xP(y:Nat)(x:aK)(a:Int)(w:MV)(W:MV):Prop:=∃c,aT W y {x with kv:=c,K:=eF a x.K,now:=x.now+a}/\aH (λb=>b=y) w W/\(∀b,c.ownBlock=N b->w.heap.size<=b)/\(eF a x.K=[]->c=MR S 0 0)
theorem aT.LG(h:aT w y x){e:Ma}(m:aH (λb=>b=y) w W)(o:∃f,W.heap[y]?=N (MY f 90 (0,0)))(d:∀j,j≠4->j≠5->W.cell? ⟨y,j,S⟩=w.cell? ⟨y,j,S⟩)(p:W.cell? ⟨y,4,S⟩=N e)(r:W.cell? ⟨y,5,S⟩=N (Q I (x.now+a)))(u:aX (d8 (x.now+a)) 1 W 92 4 e (eF a x.K)):aT W y {x with kv:=e,K:=eF a x.K,now:=x.now+a}:=by
 obtain⟨f,z⟩:=h.blk;have c:∀{t:TypeId} {s n B:Nat} {v:Ma} {C:List Ma},w.ownsRow B t s v n C->t≠90->∀g,v.ownBlock=N g->W.heap[g]?=w.heap[g]?:=λi D g k=>m.block g (i.lt g k).2 λE=>dq i z D (k.trans (congrArg N E));exact⟨o,(d 0 US US).trans h.c0,(d 1 US US).trans h.c1,(d 2 US US).trans h.c2,(d 3 US US).trans h.c3,p,r,h.rp.same (c h.rp.1 US),h.rf.same (c h.rf.1 US),h.rr.same (c h.rr.1 US),h.rt.same (c h.rt.1 US),u,λq l=>aY (h.tg q l) (c (h.tg q l) US)⟩
theorem DZ(y:Nat)(a:Int)(w:MV)(b:a<0\/1000000<a):Mo MT 83 #[MQ (N ⟨y,0,S⟩),Q I a] w λe W=>e=MZ (Q I 9)/\W=w:=by
 by_cases h:a<0
 ·go_enter Rr,ntmps83;go_wp2;go_ret;exact⟨rfl,rfl⟩
 ·have c:(1000000:Int)<a:=by omega
  go_enter Rr,ntmps83;go_wp2;go_ret;exact⟨rfl,rfl⟩
theorem Da(y:Nat)(x:aK)(c:Int)(w:MV)(h:aT w y x)(hs:0<=c/\c<=1000000)(hK:x.K.length<=64)(hN:0<=x.now/\x.now<=1000000000000000000)(hy:∀e∈x.K,iQ e):Mo MT 83 #[MQ (N ⟨y,0,S⟩),Q I c] w λe W=>e=MZ (Q I 0)/\xP y x c w W:=by
 obtain⟨dk,h0,h2⟩:=r8;obtain⟨a,h3,g,V,hr⟩:=h.pe;obtain⟨K,s⟩:=UX x.K;obtain⟨n,Y⟩:=UX (x.now+c);have a1:¬c<0:=O;have a2:¬(1000000:Int)<c:=O;have Z:=h.c4;have c5:=h.c5;have f5:=h.frz 5;have h7:=h.lt;rw[V,<-s]at Z;have c6:IntKind.i64.wrap (x.now+c)=n:=by rw[Mm,Y];omega
 obtain⟨d,t⟩:=UX (w.setCell ⟨y,5,S⟩ (Q I n));have c1:aH (λb=>b=y) w d:=by rw[t];exact aH.setCell (X:=λb=>b=y) (p:=⟨y,5,S⟩) (aH.refl _ w) (Mf rfl) _
 have a4:∀j,j≠5->d.cell? ⟨y,j,S⟩=w.cell? ⟨y,j,S⟩:=λj hj=>by rw[t];exact NT _ _ _ _ (λe=>hj (congrArg Addr.off e).symm)
 have y5:d.cell? ⟨y,5,S⟩=N (Q I n):=by rw[t];exact Nf _ _ _ c5
 have y4:d.cell? ⟨y,4,S⟩=N (MR a K.length h3):=(a4 4 US).trans Z;obtain⟨cs,c9⟩:=h.blk;have d0:d.heap[y]?=N (MY (cs.setIfInBounds 5 (Q I n)) 90 (0,0)):=by rw[t];exact Mn w y 5 cs 90 _ c9
 have d1:∀b,x.kv.ownBlock=N b->b≠y:=λb f=>h.block h.rk.1 US f;have d2:∀k (v:k<K.length),a=N ⟨g,0,S⟩/\d.rangeAt g (k*4) (d8 x.now K[k]):=λk v=>by
  subst s;obtain⟨ha,q0,q1,q2,F⟩:=hr k v;have i3:g≠y:=d1 g (by rw[V,ha];rfl);refine⟨ha,λi u l=>c1.block.cell i3 ?_⟩;match i,l with
  |0,l=>cases l;exact q0
  |1,l=>cases l;exact q1
  |2,l=>cases l;exact q2
  |3,l=>cases l;exact F
  |i+4,l=>simp[d8]at l
 have HR:=A d2;have HX:=A h;have i5:=A c1;have i6:=A a4;have d5:=A d0;have d6:=A s;have G:=A Y;have HY:aA (∀k (v:k<K.length),iQ K[k]):=A λk v=>by subst s;exact hy _ (Ms v)
 have l4:aA (K.length<=64):=A (by rw[s];exact hK);have i9:=A hs;have e0:=A hN;have a5:y<d.heap.size:=MO y4;have l5:(K.length:Int)<=64:=by rw[s];omega
 have e1:d.heap.size=w.heap.size:=by rw[t];simp
 have j0:=A e1;obtain⟨a6,a7⟩:=UX x.now;rw[<-a7]at c5 c6 HR e0;have e2:=A a7;clear h hr V d2 c1 a4 d0 s Y hy hK hs hN c9 e1 a7 d1;go_enter Rr,ntmps83;go_wp2_with fail
 rw[<-t];clear t Z c5 f5 c6 h7;go_loopw [5,6] (λlv i wr=>∃k:Nat,k<=K.length/\i=Q I k/\aX (d8 n) d.heap.size wr 92 4 lv (eF c (K.take k))/\Mb d.heap.size d wr/\(eF c (K.take k)=[]->lv=MR S 0 0)) (λ_ i _=>K.length- (intOf i).toNat)
 case atStart=>exact⟨0,O,rfl,aX.nil _ _ _ _ _,MU _ _,λ_=>rfl⟩
 case round=>
  obtain⟨k,v,rfl,q,f,a8⟩:=hrel;obtain⟨H,J,lg,j1,-⟩:=q.row (dF n);subst j1;obtain⟨m,L⟩:=UX ((eF c (K.take k)).length);rw[<-L]at q a8⊢;have e6:=A a8;clear a8;have M:=MW f y4;have e5:=MW f y5;have ly:y<wr.heap.size:=MO M;by_cases a9:k<K.length
  ·have j2:(k:Int)<K.length:=by omega
   obtain⟨rfl,e8⟩:=HR.o k a9;obtain⟨z,P⟩:=UX (K[k]);obtain⟨r,f0⟩:=UX (a6-z.age);have b0:wr.rangeAt g (k*4) [Q I z.vlan,MS z.mac,Q I z.port,Q I r]:=by
    have:=aO e8 f;rw[<-P]at this;rw[f0];exact this
   have F:wr.cell? ⟨g,k*4+3,S⟩=N (Q I r):=b0 3 _ rfl;have l8:g<wr.heap.size:=MO F;have b1:=HY.o k a9;rw[<-P]at b1;have f1:IntKind.i64.wrap (n-r)=z.age+c:=by
    have:=G.o;have:=e2.o;have:=e0.o;have:=i9.o;unfold iQ at b1;rw[Mm];omega
   have f2:eF c (K.take (k+1))=eF c (K.take k)++if z.age+c<=300 then [{z with age:=z.age+c}]else []:=by
    rw[List.take_add_one,NZ a9,<-P];exact ny c (K.take k) z
   have f3:r=n- (z.age+c):=by
    have:=G.o;have:=e2.o;omega
   have b2:=A f2;have f6:=A f3;have j3:=A q;have HB:=A f;have HM:=A L;have j4:=A b0;have f9:(eF c (K.take k)).length<=1000:=by
    have h1:(eF c (K.take k)).length<=(K.take k).length:=by unfold eF;exact Nat.le_trans (List.length_filter_le _ _) (by simp)
    rw[Mh]at h1;omega
   have j6:=A f9;obtain⟨C,g0⟩:=UX (z.age+c);rw[<-g0]at f1 b2 f6;clear q f L e8 b0 P f0 f2 f3 b1 f9 g0;go_wp2_with fail
   refine Mg UR UR ?_
   repeat(quiet_step (fail))
   refine M3 ?_;intro B o;replace o:=aE o;obtain⟨k0,k1⟩:=aW o;have k2:=o.size;have HQ:=A o;have g1:Mb d.heap.size d B:=HB.o.trans (o.mono HB.o.size);have g2:=j3.o.aD o;have R:=aO j4.o o;have f4:=MW o M;have m1:y<B.heap.size:=MO f4;have m2:g<B.heap.size:=MO (bz R);have T:=A g1;have b3:=A g2;clear o k0 k1 k2 F M e5 g1 g2 f1;by_cases g5:C<=300
   ·obtain⟨g3,m4,w3,U,b4,g6⟩:=Cf (e:={z with age:=C}) b3.o T.o.size j6.o;simp only at U;rw[<-HM.o,<-f6.o]at U;rw[<-HM.o]at b4;have m5:=dN U;have m6:(tH (MQ (N ⟨g,k*4,S⟩))).run MT B=.ok (.agg #[Q I z.vlan,MS z.mac,Q I z.port,Q I r]) B:=run_loadAt_mid B g (k*4) 92 [Q I z.vlan,MS z.mac,Q I z.port,Q I r] dk R h0 h2 dp;have g7:Mb d.heap.size d w3:=T.o.trans (g6.aD T.o.size λb D=>b3.o.iG D);have E:aA (eF c (K.take (k+1))=eF c (K.take k)++[{z with age:=C}]):=A (by rw[b2.o,if_pos g5]);have k4:=A b4;have k5:=A g7;clear U b4 g6 g7 R;go_wp2_with fail
    go_roundw
    case rel=>exact⟨k+1,O,by go_num,by rw[E.o];exact k4.o,k5.o,λe=>by rw[E.o]at e;simp at e⟩
    case measure=>simp[intOf];omega
   ·have E:aA (eF c (K.take (k+1))=eF c (K.take k)):=A (by rw[b2.o,if_neg g5,List.append_nil]);clear R;go_wp2_with fail
    go_roundw
    case rel=>exact⟨k+1,O,by go_num,by rw[E.o];exact b3.o,T.o,λe=>e6.o (E.o▸e)⟩
    case measure=>simp[intOf];omega
  ·have j2:¬(k:Int)<K.length:=by omega
   have b5:K.take k=K:=List.take_of_length_le O;have f4:wr.frozen? ⟨y,4,S⟩=false:=bC ((f.block y a5).trans d5.o) 4;rw[b5]at q;have k6:aA (xP y x c w (wr.setCell ⟨y,4,S⟩ (MR H m J))):=A (by
    have bw:=(f.block y a5).trans d5.o;have k9:(MR H m J).ownBlock≠N y:=λe=>by have:=q.iG e;omega
    have cW:aH (λb=>b=y) w (wr.setCell ⟨y,4,S⟩ (MR H m J)):=aH.setCell (p:=⟨y,4,S⟩) (i5.o.trans (aH.aG f)) (Mf rfl) _;refine⟨MR H m J,HX.o.LG cW ⟨_,Mn wr y 4 _ 90 _ bw⟩ (λj h4 h5=>?_) (Nf _ _ _ M) ?_ ?_,cW,λb D=>?_,λe=>e6.o (by rw[b5,d6.o];exact e)⟩
    ·rw[NT _ _ _ _ (λe=>h4 (congrArg Addr.off e).symm),(jr.aS (f.block y a5) j).1];exact i6.o j h5
    ·rw[NT _ _ _ _ (by simp),<-G.o];exact e5
    ·rw[<-G.o,<-d6.o];refine(q.uc ?_).same λb D=>Below.heap_setCell _ _ _ _ λe=>k9 (by rw[D];exact congrArg N e);omega
    ·have:=q.iG D;have:=j0.o;omega)
   clear q f L b5;go_wp2;go_ret;exact⟨rfl,k6.o⟩
end
section
variable {w W:World}{x:Nat}
theorem xE{v:ByteArray}(a:cP w)(b:w.cell? ⟨x,0,S⟩=N (Q I n))(c:w.cell? ⟨x,1,S⟩=N (MS v)):dg w x:=(zw a b c).iW
theorem tW{b:Option Nat}(m:cP w)(j:w.cell? ⟨x,0,S⟩=N (Q I n))(g:w.cell? ⟨x,1,S⟩=N (N4 b)):dg w x where
 zero:=by rintro rfl;have:=m.2.1;rw[g]at this;cases this
 ent r q:=by have:=q.c1;rw[g]at this;cases this
 leaf a n c h:=by rw[j]at h;cases h
 node f l t h _ _:=by rw[g]at h;cases h
 bunch e r h _:=by rw[j]at h;cases h
theorem qF{m:Nat}{q:Fn}{f c:Array Ma}(t:cP w)(b:w.cell? ⟨x,0,S⟩=N (MQ (N ⟨m,0,S⟩)))(j:w.cell? ⟨x,1,S⟩=S)(u:w.cell? ⟨m,0,S⟩=N (.func q f c)):dg w x where
 zero:=by rintro rfl;have:=t.2.1;rw[j]at this;cases this
 ent r g:=by have:=g.c0;rw[b]at this;cases this
 leaf a n c h:=by rw[b]at h;cases h
 node f l v h _ _:=by rw[j]at h;cases h
 bunch e r h g:=by rw[b]at h;cases h;have:=g.c0;rw[u]at this;cases this
end
structure aC.Ok (w:MV) (k:Nat->Nat) (i:Nat) (M:Int) (d:aC):Prop where
 c0:w.cell? ⟨d.p,0,S⟩=N (MQ (N ⟨d.s,0,S⟩))
 c1:w.cell? ⟨d.p,1,S⟩=N (MQ (N ⟨d.y,0,S⟩))
 cp:k d.p=4
 imp:d.aP w
 cI:∀b,d.bV b->k b=6*i+10
 one:w.cell? ⟨d.k,1,S⟩=S
 ref:aT w d.y d.x
 cX:∀b,d.x.cR d.y b->k b=6*i+13
 eP:d.P=d.x.P
 eK:d.K=d.x.K
 n0:0<d.x.Q.length
 n8:d.x.Q.length<=8
 k64:d.x.K.length<=64
 tl:∀q∈d.x.Q,q.T.length<=1000000000
 kp:∀e∈d.x.K,(0<=e.port/\e.port<d.x.Q.length)/\dH e.mac=false
 nt:∀q∈d.x.Q,0<=q.nat/\q.nat<4096
 yg:∀e∈d.x.K,iQ e
 nil:d.x.K=[]->d.x.kv=MR S 0 0
 now:0<=d.x.now/\d.x.now<=M
 vs:(dG w d.vb:Int)<=M
section
variable {w W:World}{k s:Nat->Nat}{i:Nat}{M:Int}{d:aC}{X:Nat->Prop}
theorem aT.AG{x:aK}(h:aT w y x)(a:x.cR y b):b<w.heap.size:=by
 rcases a with rfl|e|e|e|e|e|⟨q,c,e⟩
 ·exact h.lt
 ·exact h.rp.lt e
 ·exact h.rf.lt e
 ·exact h.rr.lt e
 ·exact h.rt.lt e
 ·exact h.rk.lt e
 ·exact((h.tg q c).lt b e).2
theorem aC.Ok.aj(h:d.Ok w k i M)(f:aH X w W)(r:¬X 1)(g:∀x,X x->x<w.heap.size->dg w x/\k x≠4/\k x≠6*i+10/\k x≠6*i+13)(l:∀x,x<w.heap.size->k x≠0->s x=k x):d.Ok W s i M:=by
 have n:d.p<w.heap.size:=MO h.c0;have q:¬X d.p:=λc=>(g _ c n).2.1 h.cp;have t:¬X d.k:=λc=>(g _ c (h.imp.lt (MX (Mf rfl)))).2.2.1 (h.cI _ (MX (Mf rfl)));have u:d.k<w.heap.size:=h.imp.lt (MX (Mf rfl));refine⟨f.block.cell q h.c0,f.block.cell q h.c1,(l _ n (by rw[h.cp];omega)).trans h.cp,h.imp.aj f r λx c j=>⟨(g x c j).1,λv=>(g x c j).2.2.1 (h.cI x v)⟩,λb e=>(l _ (h.imp.lt e) (by rw[h.cI b e];omega)).trans (h.cI b e),?_,h.ref.aj λb e j=>f.block b j λc=>(g b c j).2.2.2 (h.cX b e),λb e=>(l _ (h.ref.AG e) (by rw[h.cX b e];omega)).trans (h.cX b e),h.eP,h.eK,h.n0,h.n8,h.k64,h.tl,h.kp,h.nt,h.yg,h.nil,h.now,?_⟩
 ·exact(Mj (a:=⟨d.k,1,S⟩) (f.block d.k u t)).trans h.one
 ·have m:d.bV d.vb:=MX (MX (MX (MX (MX (MX (MX (MX (Mf rfl))))))));rw[dZ (f.block d.vb (h.imp.lt m) λc=>(g _ c (h.imp.lt m)).2.2.1 (h.cI _ m))];exact h.vs
theorem aC.Ok.later(h:d.Ok w k i M)(b:M<=a):d.Ok w k i a:={h with now:=⟨h.now.1,Int.le_trans h.now.2 b⟩,vs:=Int.le_trans h.vs b}
theorem aC.Ok.vn(h:d.Ok w k i M)(c:cP w)(a:b=d.k\/KX d.m d.sv b):dg w b:=by
 rcases a with rfl|a
 ·exact qF c h.imp.p.hK.1 h.one h.imp.p.hK.2.2.1.1.1
 ·exact(lW c h.imp.p.hK b a).iW
theorem aC.Ok.LO(h:d.Ok w k i M)(c:cP w)(f:d.pv.ownBlock=N b):dg w b:=by
 obtain⟨a,r,g,e,m⟩:=h.imp.p.hp;obtain⟨n,j,t,l,q⟩:=m 0 (by rw[h.eP];unfold aK.P;rw[ND];exact h.n0);rw[e,n]at f;obtain rfl:g=b:=by simpa[NF]using f
 rcases q with⟨rfl,-⟩|⟨u,-,-,rfl,-⟩
 ·exact tW c j l
 ·exact tW c j l
theorem aC.Ok.uG(h:d.Ok w k i M)(j:cP w):dg w d.y:=by
 obtain⟨a,n,g,e,-⟩:=h.ref.jd;obtain⟨q,r,t,l,-⟩:=h.ref.oc;obtain⟨u,v,y,m,-⟩:=h.ref.rt.row;have b:=h.ref.c0;have c:=h.ref.c1;have f:=h.ref.c3;rw[e]at b;rw[l]at c;rw[m]at f;exact qE b c ⟨_,_,_,f⟩ j
theorem aC.Ok.Ie(h:d.Ok w k i M)(j:cP w)(c:d.x.kv.ownBlock=N b):dg w b:=by
 obtain⟨a,t,g,e,l⟩:=h.ref.pe;have m:0<d.x.K.length:=by
  rcases Nat.eq_zero_or_pos d.x.K.length with f|f
  ·rw[h.nil (List.length_eq_zero_iff.1 f)]at c;cases c
  ·exact f
 obtain⟨n,q,r,-⟩:=l 0 m;rw[e,n]at c;obtain rfl:g=b:=by simpa[NF]using c
 exact xE j q r
theorem aC.Ok.Kh(h:d.Ok w k i M)(j:cP w)(c:d.x.pv.ownBlock=N b):dg w b:=by
 obtain⟨a,r,g,e,l⟩:=h.ref.jd;obtain⟨m,n,f,t,u,v,q,-⟩:=l 0 h.n0;rw[e,m]at c;obtain rfl:g=b:=by simpa[NF]using c
 rw[q]at f;exact zT n f j
end
structure LS (w:MV) (p:Ma) (o:List aC) (k:Nat->Nat) (M:Int):Prop where
 mean:fE w
 c1:k 1=4
 row:iX w 46 1 p o.length (o.map λd=>MQ (N ⟨d.p,0,S⟩))
 cS:∀x,p.ownBlock=N x->k x=7
 pS:∀x j u,p.ownBlock=N x->w.cell? ⟨x,j,S⟩=N u->∃q,u=MQ q
 sw:∀i (hi:i<o.length),(o[i]).Ok w k i M
theorem jH{w:MV}(h:fE w):1<w.heap.size:=MO h.1
section
variable {w W:World}{p:Value}{o:List aC}{k s:Nat->Nat}{M:Int}{X:Nat->Prop}
theorem LS.aj(h:LS w p o k M)(b:aH X w W)(c:∀x,X x->x<w.heap.size->dg w x/\k x≠7/\k x≠4/\∀i,k x≠6*i+10/\k x≠6*i+13)(g:∀x,x<w.heap.size->k x≠0->s x=k x):LS W p o s M:=by
 have e:¬X 1:=λa=>(c 1 a (jH h.mean)).2.2.1 h.c1;refine⟨⟨b.block.cell e h.mean.1,b.block.cell e h.mean.2.1,b.block.cell e h.mean.2.2.1,b.block.cell e h.mean.2.2.2⟩,(g 1 (jH h.mean) (by rw[h.c1];omega)).trans h.c1,h.row.aj λx a=>b.block x (h.row.lt a) λl=>(c x l (h.row.lt a)).2.1 (h.cS x a),λx a=>(g x (h.row.lt a) (by rw[h.cS x a];omega)).trans (h.cS x a),λx j u a m=>h.pS x j u a ?_,λi n=>(h.sw i n).aj b e (λx a f=>⟨(c x a f).1,(c x a f).2.2.1,((c x a f).2.2.2 i).1,((c x a f).2.2.2 i).2⟩) g⟩;rwa[(jr.aS (b.block x (h.row.lt a) λl=>(c x l (h.row.lt a)).2.1 (h.cS x a)) j).1]at m
end
section
variable {w W:World}{d:aC}
theorem aC.aP.kP(h:d.aP w)(K:0<d.P.length)(L:w.cell? ⟨d.k,1,S⟩=S):∀b,(b=d.k\/KX d.m d.sv b)->b≠d.s/\d.pv.ownBlock≠N b/\(∀q∈d.Q,q.2≠N4 (N b))/\b≠d.fm/\d.fsv.ownBlock≠N b/\b≠d.vb/\¬d.F b/\b≠d.rb/\b≠d.hb/\d.hsv.ownBlock≠N b/\b≠1:=by
 obtain⟨pa,a8,M,F,P⟩:=h.p.hp;obtain⟨R,u,U,G,V⟩:=P 0 K;rw[Nat.zero_mul]at u;rw[show 0*2+1=1 from rfl]at G;have s:=h.p.h0;rw[F]at s;have x:∀b,d.pv.ownBlock=N b->b=M:=λb e=>by rw[F,R]at e;exact(Option.some.inj e).symm
 have X:∃o,U=N4 o:=by
  rcases V with⟨e,-⟩|⟨Y,-,-,e,-⟩
  ·exact⟨_,e⟩
  ·exact⟨_,e⟩
 obtain⟨mo,rfl⟩:=X;obtain⟨ov,Z,a0⟩:=h.r.hV.AK;have a:=h.p.hK.1;have c:=h.p.hK.2.2.1.1.1;have y:=h.r.hF.1;have z:=h.h.h0;have m:=h.h.hM.1.1;have B:=h.p.hm.1;have a1:∀b q,q∈d.Q->q.2=N4 (N b)->∃o,w.heap[b]?=N o/\o.isCells=false:=λb q C e=>by
  obtain⟨j,hj,rfl⟩:=Mt C;rcases(h.o.each j (by have:=h.o.len;omega)).2 with⟨r,-⟩|⟨Y,n,D,r,⟨es,cl,h1,h2⟩,h3⟩
  ·rw[e]at r;cases r
  ·rw[e]at r;cases r;exact⟨_,h1,rfl⟩
 have k:∀b v,w.cell? ⟨b,0,S⟩=N v->(∀q∈d.Q,q.2≠N4 (N b))/\b≠d.vb:=λb v t=>by
  refine⟨λq C e=>?_,λe=>?_⟩
  ·obtain⟨o,ho,a4⟩:=a1 b q C e;rw[dL ho a4]at t;cases t
  ·subst e;rw[dL Z a0]at t;cases t
 rintro b (rfl|l)
 ·have i:¬d.F d.k:=λi=>by
   obtain⟨b1,b2,c4,c5,LI,T,_,_,e⟩:=h.r.hT;rw[e]at i;rcases i with e|(e|e)|(e|e)
   ·have:=T.c1;rw[<-e,L]at this;cases this
   ·have:=T.mI.1;rw[<-e,a]at this;cases this
   ·obtain⟨n,p,f,_⟩:=T.hI _ e;rw[a]at f;cases f
   ·have:=T.mR.1;rw[<-e,a]at this;cases this
   ·obtain⟨n,n',p,f,_⟩:=T.hR _ e;rw[a]at f;cases f
  refine⟨λe=>?_,λe=>?_,(k _ _ a).1,λe=>?_,λe=>?_,(k _ _ a).2,i,λe=>?_,λe=>?_,λe=>?_,λe=>?_⟩
  ·rw[e,s]at a;cases a
  ·rw[x _ e,u]at a;cases a
  ·rw[e,y]at a;cases a
  ·obtain⟨n,v,f,_⟩:=h.r.hH _ e;rw[a]at f;cases f
  ·rw[e,z]at a;have e2:d.hb=d.m:=by simpa using a
   rw[e2,c]at m;cases m
  ·rw[e,m]at a;cases a
  ·obtain⟨_,_,_,_,f,_⟩:=h.h.hM.xT e;rw[a]at f;cases f
  ·rw[e,B]at a;cases a
 ·have i:¬d.F b:=λi=>tC h.r.hT h.p.hK b i l;rcases l with rfl|l
  ·refine⟨λe=>?_,λe=>?_,(k _ _ c).1,λe=>?_,λe=>?_,(k _ _ c).2,i,λe=>?_,λe=>?_,λe=>?_,λe=>?_⟩
   ·rw[e,s]at c;cases c
   ·rw[x _ e,u]at c;cases c
   ·rw[e,y]at c;cases c
   ·obtain⟨n,v,f,_⟩:=h.r.hH _ e;rw[c]at f;cases f
   ·rw[e,z]at c;cases c
   ·rw[e,m]at c;cases c
   ·obtain⟨_,_,_,_,f,_⟩:=h.h.hM.xT e;rw[c]at f;cases f
   ·rw[e,B]at c;cases c
  ·obtain⟨n0,g⟩:=(h.p.hK.2.2.1.fB l).1;obtain⟨v1,E⟩:=h.p.hK.2.2.1.kY l;refine⟨λe=>?_,λe=>?_,(k _ _ g).1,λe=>?_,λe=>?_,(k _ _ g).2,i,λe=>?_,λe=>?_,λe=>?_,λe=>?_⟩
   ·rw[e,s]at g;cases g
   ·rw[x _ e,G]at E;cases E
   ·rw[e,y]at g;cases g
   ·obtain⟨cs,a6⟩:=ot h.r.hF.2.2.1 e;obtain⟨d1,H⟩:=ot h.p.hK.2.2.1.1.2.2.1 l;rw[a6]at H;cases H
   ·rw[e,z]at g;cases g
   ·rw[e,m]at g;cases g
   ·obtain⟨_,_,_,_,_,J,_⟩:=h.h.hM.xT e;rw[E]at J;cases J
   ·rw[e,B]at g;cases g
theorem aC.aP.Kg(h:d.aP w)(F:0<d.P.length)(s:w.cell? ⟨d.k,1,S⟩=S)(c:aH (λb=>b=d.k\/KX d.m d.sv b) w W){t:Nat}{u:Ma}{y:List Mc}(G:bB W d.k t u y):aC.aP W {d with m:=t,sv:=u,K:=y}:=by
 have f:=h.kP F s;have k:¬(d.s=d.k\/KX d.m d.sv d.s):=λe=>(f _ e).1 rfl;have o:¬(1=d.k\/KX d.m d.sv 1):=λe=>(f _ e).2.2.2.2.2.2.2.2.2.2 rfl;have p:¬(d.fm=d.k\/KX d.m d.sv d.fm):=λe=>(f _ e).2.2.2.1 rfl;have q:∀g,d.fsv.ownBlock=N g->¬(g=d.k\/KX d.m d.sv g):=λg i e=>(f _ e).2.2.2.2.1 i;have H:¬(d.vb=d.k\/KX d.m d.sv d.vb):=λe=>(f _ e).2.2.2.2.2.1 rfl;have J:¬(d.rb=d.k\/KX d.m d.sv d.rb):=λe=>(f _ e).2.2.2.2.2.2.2.1 rfl;have L:¬(d.hb=d.k\/KX d.m d.sv d.hb):=λe=>(f _ e).2.2.2.2.2.2.2.2.1 rfl;have M:∀g,d.hsv.ownBlock=N g->¬(g=d.k\/KX d.m d.sv g):=λg i e=>(f _ e).2.2.2.2.2.2.2.2.2.1 i;have z:=h.r.hT.laid;have P:∀x,(x=d.k\/KX d.m d.sv x)->dg w x:=λx l=>by
  rcases l with rfl|l
  ·exact qF z h.p.hK.1 s h.p.hK.2.2.1.1.1
  ·exact(lW z h.p.hK x l).iW
 obtain⟨ov,R,-⟩:=h.r.hV.AK;have B:aQ W d.pv d.P d.Q:=⟨h.o.len,ap h.o.own λb C=>c.block b (ae h.o.own C).2 λe=>(f _ e).2.1 C,λj r=>⟨(h.o.each j r).1,(h.o.each j r).2.lw λb e=>c.block b ((h.o.each j r).2.lt e) λT=>(f _ T).2.2.1 _ (Ms _) e⟩⟩;obtain⟨D,U,E,V,X⟩:=h.r.hF;refine⟨⟨c.block.cell k h.p.h0,B.at,c.block.cell k h.p.h5,G,c.block.cell o h.p.hm.1,c.block.cell o h.p.hm.2.1,c.block.cell o h.p.hm.2.2.1,c.block.cell o h.p.hm.2.2.2⟩,⟨c.block.cell k h.r.h1,⟨c.block.cell p D,c.block.cell p U,ap E λg i=>c.block g (ae E i).2 (q g i),λj=>(NJ (a:=⟨d.fm,j,S⟩) (c.block d.fm (MO D) p)).trans (V j),X⟩,h.r.sF,λg i=>?_,c.block.cell k h.r.h3,h.r.hT.iW c P λx Y l=>(f _ l).2.2.2.2.2.2.1 Y,c.block.cell k h.r.h4,h.r.hV.same (c.block d.vb (aJ R) H),h.r.hD⟩,h.h.aj c k J L M,B⟩;obtain⟨n,v,Z,d1⟩:=h.r.hH g i;exact⟨n,v,c.block.cell (q g i) Z,c.block.cell (q g i) d1⟩
end
section
variable {w W:World}{d:aC}
theorem aC.aP.lB(h:d.aP w)(j:0<d.P.length)(o:d.pv.ownBlock=N b):b≠d.s/\b≠d.k/\¬KX d.m d.sv b/\b≠d.fm/\d.fsv.ownBlock≠N b/\b≠d.vb/\¬d.F b/\b≠d.rb/\b≠d.hb/\d.hsv.ownBlock≠N b/\b≠1:=by
 obtain⟨n,z,a,i⟩:=h.p.Jh j o;obtain⟨E,F,G,q⟩:=h.p.vd;obtain⟨H,r,s⟩:=h.r.hV.AK;have t:=h.p.hK.1;have u:=h.r.hF.1;have x:=h.h.h0;have y:=h.h.hM.1.1;have B:=h.p.hm.1;refine⟨λe=>?_,λe=>?_,λe=>?_,λe=>?_,λe=>?_,λe=>?_,λe=>?_,λe=>?_,λe=>?_,λe=>?_,λe=>?_⟩
 ·rw[e,q]at a;cases a
 ·rw[e,t]at a;cases a
 ·rcases e with e|e
  ·rw[e,h.p.hK.2.2.1.1.1]at a;cases a
  ·obtain⟨J,C⟩:=h.p.hK.2.2.1.kY e;rw[C]at i;cases i
 ·rw[e,u]at a;cases a
 ·obtain⟨n,v,_,g⟩:=h.r.hH _ e;rw[i]at g;cases g
 ·rw[e,dL r s]at a;cases a
 ·obtain⟨K,L,P,R,U,T,_,_,D⟩:=h.r.hT;rw[D]at e;rcases e with e|(e|e)|(e|e)
  ·have:=T.c0;rw[<-e,a]at this;cases this
  ·have:=T.mI.1;rw[<-e,a]at this;cases this
  ·obtain⟨n,p,_,g⟩:=T.hI _ e;rw[i]at g;cases g
  ·have:=T.mR.1;rw[<-e,a]at this;cases this
  ·obtain⟨n,V,p,_,g,_⟩:=T.hR _ e;rw[i]at g;cases g
 ·rw[e,x]at a;cases a
 ·rw[e,y]at a;cases a
 ·obtain⟨_,_,_,_,_,g,_⟩:=h.h.hM.xT e;rw[i]at g;cases g
 ·rw[e,B]at a;cases a
end
section
variable {w W:World}{l:Value}{f:List aC}{c k:Nat->Nat}{M m:Int}{X:Nat->Prop}
theorem LS.nL(h:LS w l f c M){i:Nat}(t:i<f.length){o:aC}(v:o.p=f[i].p)(b:aH X w W)(e:∀x,X x->x<w.heap.size->dg w x/\(c x=6*i+10\/c x=6*i+13\/c x=1\/c x=3))(p:∀x,x<w.heap.size->c x≠0->k x=c x)(y:M<=m)(z:o.Ok W k i m):LS W l (f.set i o) k m:=by
 have g:¬X 1:=λa=>by
  have:=(e 1 a (jH h.mean)).2;rw[h.c1]at this;omega
 have q:∀x,l.ownBlock=N x->¬X x:=λx a B=>by
  have:=(e x B (h.row.lt a)).2;rw[h.cS x a]at this;omega
 refine⟨⟨b.block.cell g h.mean.1,b.block.cell g h.mean.2.1,b.block.cell g h.mean.2.2.1,b.block.cell g h.mean.2.2.2⟩,(p 1 (jH h.mean) (by rw[h.c1];omega)).trans h.c1,?_,λx a=>(p x (h.row.lt a) (by rw[h.cS x a];omega)).trans (h.cS x a),λx j u a C=>h.pS x j u a ?_,λj r=>?_⟩
 ·rw[Mw,lU (λd:aC=>MQ (N ⟨d.p,0,S⟩)) t (by simp only[v])];exact h.row.aj λx a=>b.block x (h.row.lt a) (q x a)
 ·rwa[(jr.aS (b.block x (h.row.lt a) (q x a)) j).1]at C
 ·rw[Mw]at r;by_cases s:i=j
  ·subst s;rw[List.getElem_set_self];exact z
  ·rw[List.getElem_set_ne s];exact((h.sw j r).aj b g (λx a n=>⟨(e x a n).1,by have:=(e x a n).2;omega,by have:=(e x a n).2;omega,by have:=(e x a n).2;omega⟩) p).later y
end
section
attribute [local go_sem] Oper.semAt_some aI
attribute [local go_sem ↓ high] cu
def iY(w:MV)(v:Ma)(T:List Int):Prop:=
 ∃(a:Option Addr) (d b c:Nat),v=MR a T.length d/\∀j (h:j<T.length),a=N ⟨b,c,S⟩/\w.cell? ⟨b,c+j,S⟩=N (Q I T[j])
theorem iY.aD(h:iY w v T)(g:Mb w.heap.size w c):iY c v T:=by
 obtain⟨a,i,b,k,e,d⟩:=h;exact⟨a,i,b,k,e,λj f=>⟨(d j f).1,MW g (d j f).2⟩⟩
theorem iY.KU{a:Option Addr}{c n:Nat}(h:iY w (MR a T.length c) T)(l:n<=T.length):iY w (MR a n c) (T.take n):=by
 obtain⟨m,o,b,d,e,f⟩:=h;injection e with g e2 i;subst g;subst i;have k:(T.take n).length=n:=by rw[Mh];omega
 refine⟨a,c,b,d,by rw[k],λj p=>?_⟩;rw[List.getElem_take];exact f j O
theorem Ij(T:List Int)(v:Ma)(x:Int)(w:MV)(h:iY w v T)(u:T.length<1000000000000):Mo MT 128 #[v,Q I x] w λe q=>e=MZ (.bool (gF T x))/\q=w:=by
 obtain⟨a,z,b,B,rfl,g⟩:=h;have r:=A g;clear g;go_enter func128,ntmps128;go_wp2_with fail
 go_loopw [5] (λi wr=>wr=w/\∃k:Nat,k<=T.length/\i=Q I k/\∀j (c:j<T.length),j<k->T[j]≠x) (λi _=>T.length- (intOf i).toNat)
 case atStart=>exact⟨rfl,0,O,rfl,λj _ h=>absurd h (OV j)⟩
 case round=>
  obtain⟨rfl,k,C,rfl,l⟩:=hrel;have m:=A l;clear l;by_cases n:k<T.length
  ·have s:(k:Int)<T.length:=by omega
   obtain⟨rfl,o⟩:=r.o k n;have D:=MO o;obtain⟨y,d⟩:=UX (T[k]);rw[<-d]at o;have p:=A d;clear d;by_cases f:y=x
   ·have E:=A f;subst f;go_wp2;go_ret;refine⟨?_,rfl⟩;have:gF T y=true:=by
     unfold gF;rw[QH,p.o];exact Ms n
    rw[this];rfl
   ·go_wp2_with fail
    go_roundw
    case rel=>exact⟨by trivial,k+1,O,by go_num,λj c F=>by
     by_cases e:j=k
     ·subst e;rw[<-p.o];exact f
     ·exact m.o j c O⟩
    case measure=>simp[intOf];omega
  ·have s:¬(k:Int)<T.length:=by omega
   go_wp2;go_ret;refine⟨?_,rfl⟩;have:gF T x=false:=by
    unfold gF;rw[<-Bool.not_eq_true,QH];intro t;obtain⟨j,c,e⟩:=Mt t;exact m.o j c O e
   rw[this];rfl
theorem zz(h:iY w m T)(L:T.length<=1000000000)(_hp:0<w.heap.size):∃d c f,(Builtin.append_ #[32,32] 32 #[MR (N ⟨w.heap.size,0,S⟩) 0 0,m]).run MT (w.alloc (MY #[] 3)).drew=.ok (MR d T.length c) f/\f.ownsRow w.heap.size 3 1 (MR d T.length c) T.length (T.map λt=>Q I t)/\Mb w.heap.size w f:=by
 obtain⟨y,n,z,B,C⟩:=info_parts pJ;have i:Mb w.heap.size w (w.alloc (MY #[] 3)).drew:=((MU _ w).alloc (MP _) _).drew;have o:(w.alloc (MY #[] 3)).drew.ownsRow w.heap.size 3 1 (MR (N ⟨w.heap.size,0,S⟩) 0 0) 0 []:=⟨rfl,MX ⟨w.heap.size,0,#[],rfl,MP _,heap_alloc_new w _,MP _,by unfold maxLen;omega,rfl,rfl⟩⟩;obtain⟨a,p,b,q,rfl,r⟩:=h;by_cases s:T=[]
 ·subst s;refine⟨N ⟨w.heap.size,0,S⟩,0,(w.alloc (MY #[] 3)).drew,?_,o,i⟩;cases a<;>simp[Builtin.append_,run_underlying fl,sizeOf,typeInfo,n,Builtin.lenOf,Builtin.firstCells,loadCells,loadCellsFrom,storeCells]
 ·have D:0<T.length:=List.length_pos_iff.2 s;obtain⟨rfl,-⟩:=r 0 D;have E:∀j u,(T.map λt=>Q I t)[j]?=N u->(w.alloc (MY #[] 3)).drew.cell? ((⟨b,q,S⟩:Addr).add j)=N u:=λj u k=>by
   have v:j<T.length:=by have:=(List.getElem?_eq_some_iff.1 k).1;rwa[ND]at this
   rw[List.getElem?_map,NZ v]at k;cases k;rw[Addr.add_mid];exact MW i (r j v).2
  obtain⟨F,f,G,l,H,M⟩:=run_append_own (P:=MT) (w.alloc (MY #[] 3)).drew w.heap.size 32 32 3 y _ 1 8 fl n z B C rfl US (MR (N ⟨w.heap.size,0,S⟩) 0 0) 0 [] o ⟨b,q,S⟩ T.length p (T.map λt=>Q I t) (by simp) E oc UT O (by simp);rw[Nat.zero_add,List.nil_append]at l;have J:∃d c,F=MR d T.length c:=by
   rcases l.2 with⟨e,R⟩|⟨g,p,_,e,_⟩
   ·omega
   ·exact⟨_,_,e⟩
  obtain⟨d,c,rfl⟩:=J;exact⟨d,c,f,G,l,i.trans (bj H i.size λx K=>by cases K;exact MP _)⟩
theorem aT.LH{f:MV}(h:aT w y x)(r:Mb w.heap.size w f)(G:k<x.Q.length){nat:Int}{tv:Ma}(u:f.ownsRow 1 3 1 tv T.length (T.map λt=>Q I t)){g n H:Nat}(i:x.pv=MR (N ⟨g,0,S⟩) n H)(z:W=f.setCells g (k*2) [Q I nat,tv])(_hone:tv.oneCell'=true):aT W y {x with Q:=x.Q.set k ⟨nat,tv,T⟩}/\aH (λb=>x.pv.ownBlock=N b) w W:=by
 have d:=h.aD r;have J:n=x.Q.length:=by
  obtain⟨a,c,V,e,_⟩:=h.rp.row ee.dW;rw[i]at e;injection e
 have p:aH (λb=>b=g) f W:=by rw[z];exact iA _ _ rfl (aH.refl _ f)
 have l:∀{t:TypeId} {s n B:Nat} {v:Ma} {K:List Ma},f.ownsRow B t s v n K->t≠159->∀b,v.ownBlock=N b->W.heap[b]?=f.heap[b]?:=λC L b D=>p.block b (C.lt b D).2 λe=>kd C d.rp.1 L D (by rw[i,e];rfl);obtain⟨M,P⟩:=d.blk;have R:g≠y:=d.block d.rp.1 US (by rw[i];rfl);have E:W.heap[y]?=f.heap[y]?:=p.block y d.lt (Ne.symm R);have m:∀j,W.cell? ⟨y,j,S⟩=f.cell? ⟨y,j,S⟩:=λj=>(jr.aS E j).1;have F:=d.rp;rw[i]at F;have U:=F.nO ee.dW J G ⟨nat,tv,T⟩;refine⟨⟨⟨M,E.trans P⟩,(m 0).trans d.c0,(m 1).trans d.c1,(m 2).trans d.c2,(m 3).trans d.c3,(m 4).trans d.c4,(m 5).trans d.c5,?_,d.rf.same (l d.rf.1 US),d.rr.same (l d.rr.1 US),d.rt.same (l d.rt.1 US),d.rk.same (l d.rk.1 US),λq o=>?_⟩,?_⟩
 ·rw[z,i];exact U
 ·rcases List.mem_or_eq_of_mem_set o with o|rfl
  ·exact aY (d.tg q o) (l (d.tg q o) US)
  ·exact aY u (l u US)
 ·exact(aH.aG r).trans (p.mono λb _ e=>by rw[i,e];rfl)
end
section
def GJ(p v:Ma):Sem Unit:=Instr.storeAt 159 p v
theorem yd(p v:Ma):Instr.storeAt 159 p v=GJ p v:=rfl
attribute [local go_sem] Oper.semAt_some aI
attribute [local go_sem ↓ high] cu yd
theorem Dt:(prog.info? 159).map (·.size)=N 2:=UR
def lq(y:Nat)(x:aK)(q c:Int)(T:List Int)(w:MV)(r:Int)(W:MV):Prop:=(r≠0/\Mb w.heap.size w W)\/(r=0/\(0<=q/\q<x.Q.length)/\∃a,aT W y {x with Q:=x.Q.set q.toNat ⟨c,a,T⟩}/\aH (λb=>x.pv.ownBlock=N b) w W/\∀b,a.ownBlock=N b->w.heap.size<=b)
theorem Ai(b:k<T.length)(c:(js T[k]&&!(T[k]==a||(T.take k).contains T[k]))=false):du a T=false:=by
 unfold du;have:eX a T T.length=false:=by
  unfold eX;rw[decide_eq_false_iff_not];intro h;rw[h k b b]at c;cases c
 rw[this,Bool.and_false]
theorem Aj(c:0<=a/\a<=4094)(h:∀j (b:j<T.length),(js T[j]&&!(T[j]==a||(T.take j).contains T[j]))=true):du a T=true:=by
 unfold du;have d:eX a T T.length=true:=by
  unfold eX;rw[decide_eq_true_iff];exact λj _ b=>h j b
 have f:(a==0||js a)=true:=by
  have:js a=(decide (1<=a)&&decide (a<=4094)):=rfl;rw[this];by_cases e:a=0
  ·simp[e]
  ·simp[show 1<=a by omega,c.2]
 rw[d,f];rfl
theorem Db(y:Nat)(x:aK)(q a:Int)(T:List Int)(ta:Option Addr)(v:Nat)(w:MV)(h:aT w y x)(z:iY w (MR ta T.length v) T)(hl:T.length<=1000000000)(f3:T.length<=v)(hQ:x.Q.length<=8):Mo MT 70 #[MQ (N ⟨y,0,S⟩),Q I q,Q I a,MR ta T.length v] w λe W=>e=MZ (Q I (eJ x.P q a T))/\lq y x q a T w (eJ x.P q a T) W:=by
 obtain⟨pa,j3,X,s,B⟩:=h.jd;have Y:=h.c0;rw[s]at Y;have j4:=h.lt;have f5:x.P.length=x.Q.length:=ND _;obtain⟨r,Z⟩:=UX (eJ x.P q a T);rw[<-Z];have HR:=A Z;clear Z;have b5:eJ x.P q a T=if decide (0<=q)&&decide (q<x.Q.length)then(if du a T then 0 else 2)else 1:=by unfold eJ;rw[f5]
 have b6:=A b5;clear b5;by_cases C:0<=q/\q<x.Q.length
 ·obtain⟨c,rfl⟩:∃c:Nat,q=c:=⟨q.toNat,O⟩;have a0:c<x.Q.length:=O;have q1:¬(c:Int)<0:=O;have q2:¬(x.Q.length:Int)<=c:=O;have q3:(c:Int)<x.Q.length:=O;have g:r=if du a T then 0 else 2:=by rw[HR.o,b6.o];simp[C.2]
  by_cases M:0<=a/\a<=4094
  ·have n1:¬a<0:=by omega
   have n2:¬(4094:Int)<a:=O;obtain⟨rfl,b9,-⟩:=B c a0;have g0:=MO b9;have HX:=A h;have HT:=A z;have E:=A g;have HN:=A M;have c2:=A s;have j6:=A hQ;have HL:=A hl;have g2:=A f3;have k1:(T.length:Int)<=1000000000:=O;have c4:=A Y;have CV:=A λ(t:Int) (W:MV)=>jx t W;clear h z g B s C M;go_enter P9,ntmps70;go_wp2_with fail
   clear Y g0 b9;go_loopw [9] (λi wr=>∃k:Nat,k<=T.length/\i=Q I k/\(∀j (F:j<T.length),j<k->(js T[j]&&!(T[j]==a||(T.take j).contains T[j]))=true)/\Mb w.heap.size w wr) (λi _=>T.length- (intOf i).toNat)
   case atStart=>exact⟨0,O,rfl,λj _ h=>absurd h (OV j),MU _ _⟩
   case round=>
    obtain⟨k,hk,rfl,a2,l⟩:=hrel;have c5:=A a2;by_cases c6:k<T.length
    ·have g5:(k:Int)<T.length:=by omega
     have g6:=HT.o.aD l;obtain⟨k2,k3,tb,c7,g7,c8⟩:=g6;injection g7 with g8 h5 g9;subst g8;subst g9;obtain⟨rfl,R⟩:=c8 k c6;obtain⟨t,ht⟩:=UX (T[k]);rw[<-ht]at R;have h3:=MO R;have C1:=A (CV.o t wr);have k4:(k:Int)<=T.length:=O;have k5:(k:Int)<=v:=by have:=g2.o;omega
     have h4:=A ((HT.o.KU hk).aD l);have CI:=A λ(d:Nat) (m:Array Obj)=>(Ij (T.take k) (MR (N ⟨tb,c7,S⟩) k v) t (grow (NK wr d) m) (h4.o.aD (below_regrown wr d m)) (by rw[Mh];have:=HL.o;omega));have a5:aA (∀(d:Nat) (m:Array Obj),Mo MT 128 #[MR (N ⟨tb,c7,S⟩) k v,Q I t] (grow (NK wr d) m) λe w'=>e=MZ (.bool (gF (T.take k) t))/\Mb (grow (NK wr d) m).heap.size (grow (NK wr d) m) w'):=A λd m=>(CI.o d m).mono λe w' hh=>And.intro hh.1 (by rw[hh.2];exact MU _ _);obtain⟨G,a6⟩:=UX (gF (T.take k) t);rw[<-a6]at a5;have d3:=A a6;have d4:=A ht;have HB:=A l;clear a2 l CI c8 h5 a6 ht;go_wp2_with fail
     refine C1.o.mono ?_;rintro e W ⟨rfl,d6⟩;rw[d6];clear d6 W C1;obtain⟨H,a7⟩:=UX (js t);rw[<-a7];have e0:=A a7;clear a7;go_wp2_with fail
     refine Mg UR UR ?_
     repeat(quiet_step (exact Calls.regrown_of (a5.o _ _)))
     refine M3 ?_;intro wq u;replace u:=aE u;obtain⟨h6,h7⟩:=aW u;have h8:=u.size;have e2:=A (HB.o.trans (u.mono HB.o.size));have tq:=MW u R;have k6:tb<wq.heap.size:=MO tq;have a8:aA ((H&&!(t==a||G))=false->lq y x c a T w 2 wq/\r=2):=A λhc=>by
      have hp:du a T=false:=Ai c6 (by rw[<-d4.o];show(js t&&!(t==a||gF (T.take k) t))=false;rw[<-e0.o,<-d3.o];exact hc);exact⟨Mf ⟨US,e2.o⟩,by rw[E.o,hp];rfl⟩
     have i1:aA ((H&&!(t==a||G))=true->∀j (F:j<T.length),j<k+1->(js T[j]&&!(T[j]==a||(T.take j).contains T[j]))=true):=A λhc j F k7=>by
      by_cases e:j=k
      ·subst e;rw[<-d4.o];show(js t&&!(t==a||gF (T.take j) t))=true;rw[<-e0.o,<-d3.o];exact hc
      ·exact c5.o j F O
     clear u h6 h7 h8 R h3 a5;cases H with
     |false=>
      obtain⟨n,o⟩:=a8.o rfl;have f:=A n;have p:=A o;clear n o;go_wp2;go_ret;exact⟨by rw[p.o];rfl,by rw[p.o];exact f.o⟩
     |true=>
      cases G with
      |true=>
       obtain⟨n,o⟩:=a8.o (by simp);have f:=A n;have p:=A o;clear n o;go_wp2;go_ret;exact⟨by rw[p.o];rfl,by rw[p.o];exact f.o⟩
      |false=>
       cases e3:(t==a)with
       |true=>
        obtain⟨n,o⟩:=a8.o (by rw[e3];rfl);have f:=A n;have p:=A o;clear n o;go_wp2;go_ret;exact⟨by rw[p.o];rfl,by rw[p.o];exact f.o⟩
       |false=>
        have HG:=A (i1.o (by rw[e3];rfl));go_wp2_with fail
        go_roundw
        case rel=>exact⟨k+1,O,by go_num,HG.o,e2.o⟩
        case measure=>simp[intOf];omega
    ·have g5:¬(k:Int)<T.length:=by omega
     have D:du a T=true:=Aj HN.o λj F=>c5.o j F O;have e4:r=0:=by rw[E.o,D];rfl
     have e5:=A e4;have i3:=MW l c4.o;have k9:y<wr.heap.size:=MO i3;obtain⟨J,K,L,e6,b0,e7⟩:=zz (HT.o.aD l) HL.o O;have l0:=dN e6;have U:Mb w.heap.size w L:=l.trans (e7.mono l.size);have y9:=MW U c4.o;have l1:y<L.heap.size:=MO y9;have e8:=HX.o.aD U;have b1:=e8.rp;rw[c2.o]at b1;have f0:=b1.there rfl a0;obtain⟨W,hW⟩:=UX (L.setCells X (c*2) [Q I a,MR J T.length K]);have l2:(GJ (MQ (N ⟨X,c*2,S⟩)) (.agg #[Q I a,MR J T.length K])).run MT L=.ok () W:=by
      rw[hW];exact run_storeAt_mid (P:=MT) L X (c*2) 159 #[Q I a,MR J T.length K] f0 Dt oc
     have i5:aA (lq y x c a T w 0 W):=A (by
      obtain⟨h1,h2⟩:=HX.o.LH U a0 (nat:=a) (tv:=MR J T.length K) (T:=T) (gM b0 O) c2.o hW rfl;refine MX ⟨rfl,⟨O,O⟩,MR J T.length K,by rw[Int.toNat_natCast];exact h1,h2,λb i9=>?_⟩;have:=(b0.lt b i9).1;have:=l.size;omega)
     clear e6 b0 e7 U e8 b1 f0 hW a2 l D e4;go_wp2_with fail
     go_region
     go_wp2;go_ret;exact⟨by rw[e5.o];rfl,by rw[e5.o];exact i5.o⟩
  ·have D:du a T=false:=by
    have:(a==0||js a)=false:=by
     have hv:js a=(decide (1<=a)&&decide (a<=4094)):=rfl;rw[hv];have h0:¬a=0:=O;simp[h0];omega
    unfold du;rw[this];rfl
   have V:r=2:=by rw[g,D];rfl
   have f:aA (lq y x c a T w r w):=A (Mf ⟨by rw[V];decide,MU _ _⟩);have f1:=A V;by_cases n1:a<0
   ·clear h z B s C M g D V;go_enter P9,ntmps70;go_wp2;go_ret;exact⟨by rw[f1.o];rfl,f.o⟩
   ·have n2:(4094:Int)<a:=by omega
    clear h z B s C M g D V;go_enter P9,ntmps70;go_wp2;go_ret;exact⟨by rw[f1.o];rfl,f.o⟩
 ·have g:r=1:=by
   rw[HR.o,b6.o,if_neg];simp;omega
  have f:aA (lq y x q a T w r w):=A (Mf ⟨by rw[g];decide,MU _ _⟩);have E:=A g;by_cases q1:q<0
  ·clear h z B s C g;go_enter P9,ntmps70;go_wp2;go_ret;exact⟨by rw[E.o];rfl,f.o⟩
  ·have q2:(x.Q.length:Int)<=q:=by omega
   clear h z B s C g;go_enter P9,ntmps70;go_wp2;go_ret;exact⟨by rw[E.o];rfl,f.o⟩
end
end Go.Proofs.YtnjalelblbjfiaaGreatDoor
