import Derived.Test.YtnjalelblbjfiaaGreatDoorP17
namespace Go.Proofs.YtnjalelblbjfiaaGreatDoor
set_option maxRecDepth 100000
set_option maxHeartbeats 16000000
open Go.RowKit
open Go.Sort (grow)
open Go.Proofs.Tryz
open Bool renaming false→Md,true→Mk
open Go renaming World→MV,Value→Ma,block_lt_of_cell→MO,TypeId→NL,Calls→Mo,callsIn_wide→PF,callsIn_of_wp_marks→Sq,wpIn_rangeFunc_ownH→Sr,Boxed→RA,ownFrom_below→Te,undef→NS,run_takeDeferred→SO,grownBy_putObj'→Sf,heap_setCell_other→NE,KeepsOthers→Sg
open Go.Obj renaming cells→MY,deferred→Q3
open Go.Value renaming string→MS,ownBlock→NF,pointer→MQ,slice→MR,agg→M1,int→Q,func→Nm,map→N4
open Go.World renaming cell?_of_block→Mj,frozen?_of_block→NJ,alloc_heap_new→Ng,cell?→M7,size_alloc→N3
open Nat renaming zero_mul→PZ,le_trans→Mx,le_refl→MP
open Option renaming some→N,none→S
open Or renaming inl→Mf,inr→MX
open Go.IntKind renaming i64→I
open Go.KeepsOthers renaming alloc→Oy,setCell→Oj
open Go.Proofs.Tryz renaming prog→MT,underlying62→SP,func181→TC,func22→Rk
open Go.RowKit renaming Below→Mb
open Go.RowKit.Below renaming refl→MU
open List renaming length_map→ND,size_toArray→NY,length_cons→N6,length_nil→OH,push_toArray→Ot,append_toArray→Om,nil_append→O3,cons_append→Ov,map_append→Pd,length_append→Mz,map_singleton→SE,pairwise_append→PS,mem_singleton→Pi,length_set→Mw,getElem_set→OA
open _root_.Array renaming getElem?_eq_some_iff→Mu,replicate_succ→Of,replicate_zero→Og
variable {a:Array Ma}{x y:Int}{K:List Mc}{P:List b7}{W e f w:MV}{c d v:Ma}{t:NL}{B b g i k m n s:Nat}{X:Nat->Prop}{o:Obj}{p:Pg}
theorem lu.kY(h:lu w m c K)(b:c.ownBlock=N g):∃v,w.cell? ⟨g,1,S⟩=N (MS v):=by
 have f:0<K.length:=by
  rcases Nat.eq_zero_or_pos K.length with e|e
  ·rw[h.2 (List.eq_nil_of_length_eq_zero e)]at b;cases b
  ·exact e
 obtain⟨a,k,i,rfl,j⟩:=fN h.1.2.2.1;obtain⟨rfl,_,d,_⟩:=j 0 f;obtain rfl:i=g:=by simpa[NF]using b
 rw[PZ]at d;exact⟨_,d⟩
theorem bB.aj(h:bB w k m c K)(d:∀b,b<w.heap.size->(b=k\/b=m\/c.ownBlock=N b)->f.heap[b]?=w.heap[b]?):bB f k m c K:=by
 obtain⟨g,p,⟨⟨i,q,l,r,s⟩,t⟩,u⟩:=h;have n:=d k (MO g) (Mf rfl);have e:=d m (MO i) (MX (Mf rfl));refine⟨(Mj (a:=⟨k,0,S⟩) n).trans g,λj=>(NJ (a:=⟨k,j,S⟩) n).trans (p j),⟨⟨(Mj (a:=⟨m,0,S⟩) e).trans i,(Mj (a:=⟨m,1,S⟩) e).trans q,?_,λj=>(NJ (a:=⟨m,j,S⟩) e).trans (r j),s⟩,t⟩,u⟩;exact ap l λb o=>d b (ae l o).2 (MX (MX o))
def KX(m:Nat)(a:Ma):Nat->Prop:=λb=>b=m\/a.ownBlock=N b
structure bW (w:MV) (s:Nat) (pv:Ma) (P:List b7) (k m:Nat) (sv:Ma) (K:List Mc):Prop where
 h0:w.cell? ⟨s,0,S⟩=N pv
 hp:eM w pv P
 h5:w.cell? ⟨s,5,S⟩=N (MQ (N ⟨k,0,S⟩))
 hK:bB w k m sv K
 hm:fE w
theorem bW.Cl{f:Ma}(h:bW w s f P k m d K):¬KX m d s:=by
 obtain⟨a,i,b,e,j⟩:=h.hp;rintro(c|c)
 ·subst c;have:=h.h0;rw[h.hK.2.2.1.1.1,e]at this;cases this
 ·obtain⟨v,g⟩:=(h.hK.2.2.1.fB c).1;have:=h.h0;rw[g,e]at this;cases this
theorem bW.kept{n g:Ma}(h:bW w s n P k m g K)(d:aH (KX m g) w W):W.cell? ⟨s,0,S⟩=N n/\eM W n P/\W.cell? ⟨s,5,S⟩=N (MQ (N ⟨k,0,S⟩))/\fE W:=by
 have p:=h.Cl;have i:¬KX m g 1:=by
  rintro(c|c)
  ·subst c;have:=h.hm.1;rw[h.hK.2.2.1.1.1]at this;cases this
  ·obtain⟨v,f⟩:=(h.hK.2.2.1.fB c).1;have:=h.hm.1;rw[f]at this;cases this
 refine⟨d.block.cell p h.h0,?_,d.block.cell p h.h5,d.block.cell i h.hm.1,d.block.cell i h.hm.2.1,d.block.cell i h.hm.2.2.1,d.block.cell i h.hm.2.2.2⟩;obtain⟨a,z,b,e,q⟩:=h.hp;refine⟨a,z,b,e,λj B=>?_⟩;obtain⟨C,D,E,F,G⟩:=q j B;have r:¬KX m g b:=by
  obtain⟨_,t,L,u,H⟩:=q 0 O;rintro(c|c)
  ·subst c;rw[PZ,h.hK.2.2.1.1.1]at t;cases t
  ·obtain⟨v,f⟩:=h.hK.2.2.1.kY c;rw[PZ,f]at u;rcases H with⟨rfl,_⟩|⟨_,_,_,rfl,_⟩<;>cases u
 refine⟨C,d.block.cell r D,E,d.block.cell r F,G.same λx o l y=>?_⟩;have J:¬KX m g x:=by
  rintro(c|c)
  ·subst c;have:=h.hK.2.2.1.1.1;rw[dL l y]at this;cases this
  ·obtain⟨v,f⟩:=h.hK.2.2.1.kY c;rw[dL l y]at f;cases f
 rw[d.block x (aJ l) J,l]
def dy(K:List Mc)(a:Mc)(b:List Mc):Prop:=
 bZ b/\if(az K a.vlan a.mac).isSome||decide (K.length<64)then(∀q,q∈b↔q=a\/(q∈K/\bL q a.vlan a.mac≠0))/\b.length=(if(az K a.vlan a.mac).isSome then K.length else K.length+1)else b=K
theorem dy.length{a:List Mc}{c:Mc}(h:dy K c a)(b:K.length<=64):a.length<=64:=by
 obtain⟨_,h⟩:=h;split at h
 ·rename_i d
  rw[h.2];split
  ·exact b
  ·rename_i e
   simp[e]at d;omega
 ·rw[h];exact b
structure eR (w:MV) (s k m:Nat) (sv:Ma) (p:Pg) (K:List Mc) (W:MV):Prop where
 pg:cJ W w.heap.size p (MR S 0 0)
 st:W.heap[w.heap.size+1]?=N (MY (cV s) 217 (0,0))
 kn:∃sv',bB W k m sv' K/\∀b,sv'.ownBlock=N b->sv.ownBlock=N b\/w.heap.size+1<b
 ch:aH (KX m sv) w W
theorem mV{i:Ma}{j:List Mc}(h:bW w s i P k m c j){d:MV}(l:∃a,bB W k m a K/\∀b,a.ownBlock=N b->c.ownBlock=N b\/w.heap.size+1<b)(n:dn w.heap.size W d):∃a,bB d k m a K/\∀b,a.ownBlock=N b->c.ownBlock=N b\/w.heap.size+1<b:=by
 obtain⟨a,o,f⟩:=l;refine⟨a,o.aj λb p q=>n.2.2.2.2 b p ?_,f⟩;rintro rfl;rcases q with e|e|e
 ·have:k<w.heap.size:=MO h.hK.1;omega
 ·have:m<w.heap.size:=MO h.hK.2.2.1.1.1;omega
 ·rcases f _ e with g|g
  ·have:=(h.hK.2.2.1.fB g).2.1;omega
  ·omega
theorem eR.only{f:Ma}{g:List Mc}(h:bW w s f P k m d g){q:Pg}(a:eR w s k m d p K W)(c:dn w.heap.size W e)(i:cJ e w.heap.size q (MR S 0 0)):eR w s k m d q K e:=by
 refine⟨i,(c.2.2.2.2 _ (aJ a.st) O).trans a.st,mV h a.kn c,?_⟩;have j:=a.ch.size;exact⟨c.1.trans a.ch.os,c.2.1.trans a.ch.tape,c.2.2.1.trans a.ch.output,Mx j c.2.2.2.1,λb l n=>(c.2.2.2.2 b O O).trans (a.ch.block b l n)⟩
theorem aH.only{d:MV}(a:aH X w W)(c:dn w.heap.size W d):aH X w d:=
 ⟨c.1.trans a.os,c.2.1.trans a.tape,c.2.2.1.trans a.output,Mx a.size c.2.2.2.1,λb e f=>(c.2.2.2.2 b (by have:=a.size;omega) O).trans (a.block b e f)⟩
def ja(P:List b7)(a:Int)(d:ByteArray)(f:Fr):Pg:=⟨a,d,{f with vlan:=eV (iD P a.toNat) f},⟨#[]⟩,0,0,Md,Md⟩
inductive aR (P:List b7) (K:List Mc) (unp:Pg->Pg) (jud:Pg->Option (Int×List (Int×ByteArray))) (rou:Pg->Int⊕Pg) (port:Int) (d:ByteArray):Int->List (Int×ByteArray)->List Mc->Prop
 |unknown (h:¬(0<=port/\port<P.length)):aR P K unp jud rou port d 9 [] K
 |bad (h:0<=port/\port<P.length) (hr:aq d≠ -1):aR P K unp jud rou port d (aq d) [] K
 |barred (f:Fr) (h:0<=port/\port<P.length) (hr:aq d= -1) (hf:bd d=N f) (hb:cG (iD P port.toNat) f=Mk):aR P K unp jud rou port d 3 [] K
 |judged (f:Fr) (K':List Mc) (r:Int) (L:List (Int×ByteArray)) (h:0<=port/\port<P.length) (hr:aq d= -1) (hf:bd d=N f) (hb:cG (iD P port.toNat) f=Md) (hl:dy K ⟨(ja P port d f).f.vlan,f.fr,port,0⟩ K') (hj:jud (unp (ja P port d f))=N (r,L)):aR P K unp jud rou port d r L K'
 |stopped (f:Fr) (K':List Mc) (r:Int) (h:0<=port/\port<P.length) (hr:aq d= -1) (hf:bd d=N f) (hb:cG (iD P port.toNat) f=Md) (hl:dy K ⟨(ja P port d f).f.vlan,f.fr,port,0⟩ K') (hj:jud (unp (ja P port d f))=S) (ho:rou (unp (ja P port d f))=.inl r):aR P K unp jud rou port d r [] K'
 |out (f:Fr) (K':List Mc) (q:Pg) (h:0<=port/\port<P.length) (hr:aq d= -1) (hf:bd d=N f) (hb:cG (iD P port.toNat) f=Md) (hl:dy K ⟨(ja P port d f).f.vlan,f.fr,port,0⟩ K') (hj:jud (unp (ja P port d f))=S) (ho:rou (unp (ja P port d f))=.inr q):
   aR P K unp jud rou port d (if(fS P q (iL (az K' q.f.vlan q.f.to)) (az K' q.f.vlan q.f.to).isSome P.length).length=0 then 8 else 0) (fS P q (iL (az K' q.f.vlan q.f.to)) (az K' q.f.vlan q.f.to).isSome P.length) K'
def uD(w:MV)(k m:Nat)(d:Ma)(R:Int->List (Int×ByteArray)->List Mc->Prop)(r:Int)(W:MV):Prop:=
 ∃L e p a c,R r L e/\cJ W w.heap.size p a/\W.ownsRow w.heap.size 66 2 a L.length (lK L)/\bB W k m c e/\(∀b,c.ownBlock=N b->d.ownBlock=N b\/w.heap.size<=b)/\(∀b,a.ownBlock=N b->c.ownBlock≠N b/\b≠m)/\aH (KX m d) w W
theorem uD.none{R:Int->List (Int×ByteArray)->List Mc->Prop}{r:Int}{d:List Mc}(f:R r [] d)(g:cJ W w.heap.size p (MR S 0 0))(h:∃a,bB W k m a d/\∀b,a.ownBlock=N b->c.ownBlock=N b\/w.heap.size+1<b)(i:aH (KX m c) w W):uD w k m c R r W:=by
 obtain⟨a,j,l⟩:=h;exact⟨[],d,p,_,a,f,g,⟨rfl,Mf ⟨rfl,rfl⟩⟩,j,λb e=>(l b e).imp id O,(λb e=>by cases e),i⟩
theorem lR{w:MV}{a:Nat}{s:Nat}{b:List Ma}(h:w.ownsRow B t s v n b)(f:a<=B):w.ownsRow a t s v n b:=by
 refine⟨h.1,h.2.imp id ?_⟩;rintro⟨g,i,p,e,q,r⟩;exact⟨g,i,p,e,Mx f q,r⟩
theorem eR.size{w:MV}{s k m:Nat}{j:Ma}{K:List Mc}(h:eR w s k m j p K W):w.heap.size+1<W.heap.size:=aJ h.st
theorem mu.J0{k m:Nat}{j:Ma}{K:List Mc}{g:Mc}{w:MV}(h:mu k m j K g w f):∃a e,bB f k m a e/\dy K g e/\(∀b,a.ownBlock=N b->j.ownBlock=N b\/w.heap.size<=b)/\aH (KX m j) w f:=by
 obtain⟨a,e,i,n,p,q⟩:=h;exact⟨a,e,i,⟨i.2.2.2,n⟩,p,q⟩
def LC(P:List b7)(K:List Mc)(c:Int)(d:ByteArray)(f:Fr)(a:List Mc):Prop:=
 (0<=c/\c<P.length)/\aq d= -1/\bd d=N f/\cG (iD P c.toNat) f=Md/\dy K ⟨(ja P c d f).f.vlan,f.fr,c,0⟩ a
def Jf(q:Pg):Prop:=(Lit.int I q.f.vlan).wf=Mk/\q.f.to.size+q.f.fr.size+q.f.ty.size+q.f.rest.size<=1000
section
variable (w:World) (s k m:Nat) (j:Value) (P:List b7) (K:List Mc) (c:Int) (d:ByteArray) (o:Pg->Pg) (u:Pg->Option (Int×List (Int×ByteArray))) (x:Pg->Int⊕Pg)
def MA:Nat->MV->Prop
 |0=>λW=>eR w s k m j ⟨c,d,gD,⟨#[]⟩,0,0,Md,Md⟩ K W
 |1=>λW=>(0<=c/\c<P.length)/\eR w s k m j ⟨c,d,gD,⟨#[]⟩,0,0,Md,Md⟩ K W
 |2=>λW=>(0<=c/\c<P.length)/\aq d= -1/\∃f,bd d=N f/\eR w s k m j ⟨c,d,f,⟨#[]⟩,0,0,Md,Md⟩ K W
 |3=>λW=>(0<=c/\c<P.length)/\aq d= -1/\∃f,bd d=N f/\cG (iD P c.toNat) f=Md/\eR w s k m j (ja P c d f) K W
 |4=>λW=>∃f b,LC P K c d f b/\eR w s k m j (ja P c d f) b W
 |5=>λW=>∃f b,LC P K c d f b/\eR w s k m j (o (ja P c d f)) b W
 |6=>λW=>∃f b,LC P K c d f b/\u (o (ja P c d f))=S/\eR w s k m j (o (ja P c d f)) b W
 |7=>λW=>∃f b q,LC P K c d f b/\u (o (ja P c d f))=S/\x (o (ja P c d f))=.inr q/\Jf q/\eR w s k m j q b W
 |_=>λW=>W.heap[w.heap.size+1]?=N (MY (cV s) 217 (0,0))/\∃f b q a n e,LC P K c d f b/\u (o (ja P c d f))=S/\x (o (ja P c d f))=.inr q/\
   n=(fS P q (iL (az b q.f.vlan q.f.to)) (az b q.f.vlan q.f.to).isSome P.length).length/\cJ W w.heap.size q (MR a n e)/\uD w k m j (λr L g=>r=0/\L=fS P q (iL (az b q.f.vlan q.f.to)) (az b q.f.vlan q.f.to).isSome P.length/\g=b) 0 W
end
theorem J5{w:MV}{s k m:Nat}{j:Ma}{P:List b7}{K:List Mc}{c:Int}{d:ByteArray}{o:Pg->Pg}{u:Pg->Option (Int×List (Int×ByteArray))}{x:Pg->Int⊕Pg}:∀i W,MA w s k m j P K c d o u x i W->W.heap[w.heap.size+1]?=N (MY (cV s) 217 (0,0))
 |0,_,h=>h.st
 |1,_,h=>h.2.st
 |2,_,⟨_,_,_,_,h⟩=>h.st
 |3,_,⟨_,_,_,_,_,h⟩=>h.st
 |4,_,⟨_,_,_,h⟩=>h.st
 |5,_,⟨_,_,_,h⟩=>h.st
 |6,_,⟨_,_,_,_,h⟩=>h.st
 |7,_,⟨_,_,_,_,_,_,_,h⟩=>h.st
 |_+8,_,h=>h.1
theorem pk{P:List b7}{c:Int}{f:Fr}(e:0<=c/\c<P.length)(a:∀p∈P,(Lit.int I p.nat).wf=Mk)(b:(Lit.int I f.vlan).wf=Mk):(Lit.int I (eV (iD P c.toNat) f)).wf=true:=by
 unfold eV;split
 ·exact b
 ·rw[we O];exact a _ (List.getElem_mem _)
theorem lO{d:ByteArray}{f:Fr}(h:bd d=N f):(Lit.int I f.vlan).wf=Mk/\f.fr.size<=6/\f.to.size<=6/\f.ty.size<=2/\f.rest.size<=d.size:=by
 unfold bd at h;split at h
 ·cases h
 ·split at h
  ·split at h
   ·cases h
   ·cases h;dsimp only;refine⟨WalkArith.wf_i64 O,?_,?_,?_,?_⟩<;>(simp only[ByteArray.size_extract];omega)
  ·cases h;dsimp only;refine⟨WalkArith.wf_i64 O,?_,?_,?_,?_⟩<;>(simp only[ByteArray.size_extract];omega)
theorem gQ{d:ByteArray}(h:aq d= -1):d.size<=600:=by
 unfold aq at h;split at h
 ·cases h
 ·omega
section
open Go.RowKit Go.Shelf
attribute [local go_sem] Oper.semAt_some
theorem JG:(prog.info? 68).map (λi=>(i.zero,i.size,i.bytes))=N (N (M1 #[Q I 0,MS ⟨#[]⟩,Q I 0,Q I 0]),4,40):=UR
theorem E8(B:Nat)(c:Array Ma)(t:NL):Own (λ(_:Unit) W=>W.heap[B]?=N (MY c t (0,0))):=λ_ _ _ _ a d e=>
 (d.block B (Mu.1 a).1 (λf=>by obtain⟨o,b,g⟩:=e B f.symm;rw[a]at b;cases b;cases g)).trans a
theorem uN{b:List Ma}(h:w.ownsRow B t s v n b)(c:v≠MR S 0 0):∃g a,v=MR (N ⟨g,0,S⟩) n a:=by
 rcases h.2 with⟨e,_⟩|⟨g,a,d,e,_⟩
 ·exact absurd e c
 ·exact⟨g,a,e⟩
def dK(W:MV)(b:Nat)(a:Array Ma)(t:NL):Prop:=W.heap[b]?=N (MY a t (0,0))
theorem dK.new(W:MV)(a:Array Ma)(t:NL):dK (W.alloc (MY a t)) W.heap.size a t:=Ng W _
theorem dK.lt(h:dK W b a t):b<W.heap.size:=(Mu.1 h).1
theorem dK.kept{a:MV}{c:Option Nat}{d:Array Ma}(h:dK W b d t)(e:W.grownBy a c)(f:N b≠c):dK a b d t:=(e.block b h.lt f).trans h
theorem dK.alloc(h:dK W b a t)(o:Obj):dK (W.alloc o) b a t:=h.kept (World.grownBy_alloc W o S) (by simp)
theorem dK.cell(h:dK W b a t)(c:a[i]?=N v):W.cell? ⟨b,i,S⟩=N v:=by
 unfold dK at h;simp[M7,h,c]
theorem dK.frozen(h:dK W b a t)(i:Nat):W.frozen? ⟨b,i,S⟩=false:=by
 unfold dK at h;unfold World.frozen?;simp only[h];rfl
theorem dK.own(B:Nat)(a:Array Ma)(t:NL):Own (λ(_:Unit) W=>dK W B a t):=E8 B a t
theorem dK.aD{a:MV}{c:Array Ma}(h:dK W b c t)(d:Mb W.heap.size W a):dK a b c t:=(d.block b h.lt).trans h
theorem EM(k m:Nat)(sv:Ma)(w:MV)(a:List {_e:Mc//True})(c8:a.length<=200)(hk:w.cell? ⟨k,0,S⟩=N (MQ (N ⟨m,0,S⟩)))(B:w.cell? ⟨m,1,S⟩=N sv)(L:jq w.heap.size w sv (a.map (·.1))):Mo MT 64 #[MQ (N ⟨k,0,S⟩)] w λe C=>∃g a5,e=.returned (MR (N ⟨g,0,S⟩) a.length a5)/\C.ownsRow w.heap.size 68 4 (MR (N ⟨g,0,S⟩) a.length a5) a.length (fH (a.map (·.1)))/\Mb w.heap.size w C:=by
 have a6:=MO hk;have a7:=MO B;obtain⟨i0,hi,b0,b1,b2⟩:=info_parts JG;have c9:=L;obtain⟨ra,b4,rfl,_⟩:=c9;rw[ND]at B;refine(PF (n:=5)).1 ?_;have E:Fence.wide.round=none:=rfl;refine Sq func64 rfl trivial ?_ E;simp only[ntmps64,NY,N6,OH,Nat.reduceAdd,Nat.reduceSub,Of,Og,Ot,Om,O3,Ov];gi_wp2_with (first|(refine⟨trivial,?_⟩;gi_at_call 119;refine(PF.2 (yq m ra a.length b4 _ B)).mono ?_;rintro e C ⟨rfl,b5⟩;rw[b5];clear b5)|(gi_at_make;refine wpListIn_make_own _ rfl _ _ 62 rfl w.heap.size 68 i0 _ 4 SP hi b0 b1 I I _ a.length rfl rfl rfl ?_ ?_ ?_ ?_;(rw[b2];omega);(unfold maxLen;omega);(exact MP _);intro b d0 d1;have F:Mb w.heap.size w b:=(MU _ w).grown d1 (MP _) (λx M=>by cases M);have k1:b.cell? ⟨k,0,S⟩=N (MQ (N ⟨m,0,S⟩)):=(F.cell (p:=⟨k,0,S⟩) a6).trans hk;have f7:k<b.heap.size:=Nat.lt_of_lt_of_le a6 F.size)|(refine⟨trivial,?_⟩;gi_at_call 120;refine(DQ Fence.wide 4 trivial E m _).mono ?_;rintro e C ⟨rfl,rfl⟩))
 have b6:=F.size;have P:=(Boxed.new b 62 (MR (N ⟨w.heap.size,0,S⟩) 0 a.length)).alloc (MY #[MQ (N ⟨m,0,S⟩)] 212);have R:=Boxed.new (b.alloc (MY #[MR (N ⟨w.heap.size,0,S⟩) 0 a.length] 62)) 212 (MQ (N ⟨m,0,S⟩));simp only[N3]at P R;have G:Mb w.heap.size w ((b.alloc (MY #[MR (N ⟨w.heap.size,0,S⟩) 0 a.length] 62)).alloc (MY #[MQ (N ⟨m,0,S⟩)] 212)):=(F.alloc b6 _).alloc UU _;have d2:((b.alloc (MY #[MR (N ⟨w.heap.size,0,S⟩) 0 a.length] 62)).alloc (MY #[MQ (N ⟨m,0,S⟩)] 212)).heap.size=b.heap.size+2:=by simp
 have b9:=(G.cell (p:=⟨m,1,S⟩) a7).trans B;have c0:=(d0.alloc (MY #[MR (N ⟨w.heap.size,0,S⟩) 0 a.length] 62)).alloc (MY #[MQ (N ⟨m,0,S⟩)] 212);rw[ND]at L;refine Sr E O (gf:=181) (lb:=#[MQ (N ⟨b.heap.size+1,0,S⟩)]) rfl trivial (enters_of TC UR rfl)
  (tx Fence.wide 4 trivial E O (b.heap.size+1) m w.heap.size (MR ra a.length b4) a c8 _ O a7 O R.cell b9 (L.aD G)) belowK_t (belowK_b O) (MU _ _) (λ_=>rfl)
  (λd W=>(∃v,RA W b.heap.size 62 v/\W.ownsRow w.heap.size 68 4 v d.length (fH (d.map (·.1)))/\v≠MR S 0 0)/\Mb w.heap.size w W)
  (λ_ _ _=>False)
  (OwnFrom.and (Own.from (holdsRow_own w.heap.size b.heap.size 62 68 4 (λ(d:List {_e:Mc//True})=>d.length) (λd=>fH (d.map (·.1))) (λ_ v=>v≠MR S 0 0)) _) (Te (MP _) O))
  (λ_ _ _ _ _ T _ _=>T)
  ⟨⟨_,P,c0,by simp⟩,G⟩
  (λx U W=>∃f i,b.heap.size<f/\b.heap.size<i/\dK W f #[Q I x.1.vlan,MS x.1.mac] 236/\dK W i #[Q I x.1.port,Q I x.1.age] 238/\U={tmps:=#[MQ (N ⟨k,0,S⟩),NS,MR S 0 0,MQ (N ⟨b.heap.size,0,S⟩),MQ (N ⟨f,0,S⟩),MQ (N ⟨i,0,S⟩),MQ (N ⟨k,0,S⟩),MQ (N ⟨k,0,S⟩),MQ (N ⟨k,0,S⟩),MQ (N ⟨m,0,S⟩),Q I a.length,MR (N ⟨w.heap.size,0,S⟩) 0 a.length,MQ (N ⟨k,0,S⟩),MQ (N ⟨k,0,S⟩),MQ (N ⟨k,0,S⟩),MQ (N ⟨m,0,S⟩),Nm (.func 181) #[] #[MQ (N ⟨b.heap.size+1,0,S⟩)],M1 #[Q I x.1.vlan,MS x.1.mac],M1 #[Q I x.1.port,Q I x.1.age],NS,NS,NS,NS,NS,NS,NS,NS,NS,NS,NS,NS,NS],defers:=[]})
  (λx U _ X Y c1 T s H=>by obtain⟨f,i,h1,h2,h3,h4,h5⟩:=T;exact⟨f,i,h1,h2,dK.own f _ _ () X Y c1 h3 s (λr e=>(H r e).2),dK.own i _ _ () X Y c1 h4 s (λr e=>(H r e).2),h5⟩)
  ?assign ?body ?done ?stop
 case assign=>
  rintro l d x W K ⟨⟨v,c2,e1,e3⟩,c3⟩ J;simp only[Hx];gi_wp2
  have V:=c3.size;have e4:=c2.lt;have u:dK ((W.alloc (MY #[Q I x.1.vlan,MS x.1.mac] 236)).alloc (MY #[Q I x.1.port,Q I x.1.age] 238)) (W.heap.size+1) #[Q I x.1.port,Q I x.1.age] 238:=by
   have:=dK.new (W.alloc (MY #[Q I x.1.vlan,MS x.1.mac] 236)) #[Q I x.1.port,Q I x.1.age] 238;rwa[N3]at this
  exact J _ _ (((Oy _ _).trans (Oy _ _)).from _) (((MU _ W).alloc V _).alloc UU _) ⟨⟨v,(c2.alloc _).alloc _,(e1.alloc _).alloc _,e3⟩,(c3.alloc V _).alloc UU _⟩ ⟨W.heap.size,W.heap.size+1,O,O,(dK.new W _ _).alloc _,u,rfl⟩
 case body=>
  rintro l d x U W hl ⟨r,H⟩ ⟨⟨v,j,o,Z⟩,q⟩ ⟨f,i,f9,g0,bX,u,rfl⟩ e4;have g1:=j.cell;have x0:W.cell? ⟨f,0,S⟩=N (Q I x.1.vlan):=bX.cell rfl;have x1:W.cell? ⟨f,1,S⟩=N (MS x.1.mac):=bX.cell rfl;have y0:W.cell? ⟨i,0,S⟩=N (Q I x.1.port):=u.cell rfl;have y1:W.cell? ⟨i,1,S⟩=N (Q I x.1.age):=u.cell rfl;have HV:=A j;have y:=A o;have z:=A q;have V:=q.size;clear j o q bX u H;gi_wp2_with (gi_at_builtin;refine wpListIn_append_own _ rfl _ _ 62 rfl w.heap.size 68 i0 _ 4 40 SP hi b0 b1 b2 rfl US _ _ _ rfl (y.o.alloc _) ⟨W.heap.size,0,S⟩ 1 1 (fH [x.1]) rfl rfl (World.news_of_block (cs:=#[Q I x.1.vlan,MS x.1.mac,Q I x.1.port,Q I x.1.age]) (t:=68) (fr:=(0,0)) (Ng W _)) (yB _) UT O UU ?_;intro v' w2 c4 e6 _;obtain⟨g',h0,rfl⟩:=ownsRow_succ c4;obtain⟨c5,e7,e8,f0,c6⟩:=HV.o.appended US y.o z.o.size b6 c4 e6;have h6:=c5.cell;have h7:=c5.frozen)
  exact⟨f0.from _,c6,⟨⟨_,e7,by rw[Pd,j9,Mz];exact e8,by simp⟩,z.o.trans c6⟩⟩
 case done=>
  rintro D ys W hD rfl ⟨⟨v,j,o,Z⟩,q⟩ J;obtain⟨g,cp,rfl⟩:=uN o Z;have h9:=j.cell;have y:=A o;have z:=A q;have HK:=A J;have HD:=A hD;clear j o Z q J hD P R G d2 b9 c0;gi_wp2
  have a1:=HK.o;refine⟨by simp,Mf ⟨_,_,rfl,SO a1,?_⟩⟩;have s:=Sf W D (Q3 S);have f4:w.heap.size<=D:=by have:=HD.o;simp at this;omega
  refine⟨_,results_tmp rfl _ _ _,g,cp,rfl,y.o.kept s (MX ?_),z.o.grown s z.o.size (λx M=>by cases M;exact f4)⟩;intro e;rcases y.o.2 with⟨e2,_⟩|⟨g2,i2,i3,e2,_,f5,_⟩
  ·cases e2
  ·cases e2;cases e;rw[f5]at a1;cases a1
 case stop=>
  rintro D c d W _ _ h _;exact h.elim
theorem Gf(k m:Nat)(a:Ma)(K:List Mc)(w:MV)(h:bB w k m a K):Mo MT 64 #[MQ (N ⟨k,0,S⟩)] w λe b=>∃g c,e=.returned (MR (N ⟨g,0,S⟩) K.length c)/\b.ownsRow w.heap.size 68 4 (MR (N ⟨g,0,S⟩) K.length c) K.length (fH K)/\Mb w.heap.size w b:=by
 have d:(K.map λe=>(⟨e,trivial⟩:{_e:Mc//True})).map (·.1)=K:=by
  clear h;induction K with
  |nil=>rfl
  |cons e t i=>exact congrArg (e::·) i
 have f:=EM k m a w (K.map λe=>⟨e,trivial⟩) (by rw[ND];exact h.2.2.1.1.2.2.2.2) h.1 h.2.2.1.1.2.1 (by rw[d];exact h.2.2.1.row (MP _));rw[d,ND]at f;exact f
theorem lu.aj(h:lu w m c K)(f:∀b,b<w.heap.size->(b=m\/c.ownBlock=N b)->e.heap[b]?=w.heap[b]?):lu e m c K:=by
 obtain⟨⟨g,l,i,n,o⟩,p⟩:=h;have d:=f m (MO g) (Mf rfl);exact⟨⟨(Mj (a:=⟨m,0,S⟩) d).trans g,(Mj (a:=⟨m,1,S⟩) d).trans l,ap i λb k=>f b (ae i k).2 (MX k),λj=>(NJ (a:=⟨m,j,S⟩) d).trans (n j),o⟩,p⟩
theorem pN(h:w.cell? ⟨b,i,S⟩=N v)(a:w.heap[b]?=N o):o.isCells=true:=by
 cases c:o.isCells
 ·rw[dL a c]at h;cases h
 ·rfl
theorem lu.cells(h:lu w m c K)(a:b=m\/c.ownBlock=N b)(d:w.heap[b]?=N o):o.isCells=true:=by
 rcases a with rfl|a
 ·exact pN h.1.1 d
 ·obtain⟨v,e⟩:=(h.fB a).1;exact pN e d
def iQ(e:Mc):Prop:=0<=e.age/\e.age<=300
def pW(B m:Nat)(d:Int)(a:List {e:Mc//iQ e})(W:MV):Prop:=
 ∃c K,(lu W m c K/\(∀b,c.ownBlock=N b->B<=b))/\bZ K/\K.length<=a.length/\(bZ (a.map (·.1))->K=eF d (a.map (·.1)))
theorem pu(B m:Nat)(d:Int):Own (pW B m d):=λq W r s f g h=>by
 obtain⟨i,K,⟨a,j⟩,k⟩:=f;refine⟨i,K,⟨a.aj λb l n=>g.block b l λe=>?_,j⟩,k⟩;obtain⟨o,p,c⟩:=h b e.symm;rw[a.cells n p]at c;cases c
theorem Dl{c:Int}{pre:List {e:Mc//iQ e}}{x:{e:Mc//iQ e}}{g:MV}{h:Ma}(o:∀b,h.ownBlock=N b->B<=b)(p:bZ K)(F:K.length<=pre.length)(r:bZ (pre.map (·.1))->K=eF c (pre.map (·.1)))(s:x.1.age+c<=300)(G:B<=W.heap.size)(i:ua m h K {x.1 with age:=x.1.age+c} W g):pW B m c (pre++[x]) g:=by
 have H:=i;obtain⟨t,u,v,j,w,y,z,J⟩:=i;refine⟨t,u,⟨v,λb d=>?_⟩,j,?_,λf=>?_⟩
 ·rcases z b d with e|e
  ·exact o b e
  ·omega
 ·rw[y,Mz,List.length_singleton];split<;>omega
 ·rw[Pd,SE]at f⊢;have C:bZ (pre.map (·.1)):=(PS.1 f).1;have k:=r C;have l:∀q∈K,bL q {x.1 with age:=x.1.age+c}.vlan {x.1 with age:=x.1.age+c}.mac<0:=λq n=>by
   rw[k]at n;exact xk f q n
  have D:bZ (K++[{x.1 with age:=x.1.age+c}]):=PS.2 ⟨p,List.pairwise_singleton _ _,λa E b d=>by rw[Pi.1 d];exact l a E⟩;rw[ny,if_pos s,<-k];refine mO j D λq=>?_;rw[w,List.mem_append,Pi];constructor
  ·rintro(e|e)
   ·exact MX e
   ·exact Mf e.1
  ·rintro(e|e)
   ·exact MX ⟨e,by have:=l q e;omega⟩
   ·exact Mf e
theorem Ag{a:Int}{b:List {e:Mc//iQ e}}{x:{e:Mc//iQ e}}(h:pW B m a b W)(d:¬x.1.age+a<=300):pW B m a (b++[x]) W:=by
 obtain⟨f,K,g,i,k,j⟩:=h;refine⟨f,K,g,i,by rw[Mz];omega,λc=>?_⟩;rw[Pd,SE]at c⊢;rw[ny,if_neg d,List.append_nil];exact j (PS.1 c).1
theorem lu.FR(h:lu w m c K)(d:dK w b #[Q I x,Q I y] t):¬(b=m\/c.ownBlock=N b):=by
 rintro(rfl|e)
 ·have a:w.cell? ⟨b,0,S⟩=N (Q I x):=d.cell rfl;rw[h.1.1]at a;cases a
 ·obtain⟨v,f⟩:=h.kY e;have a:w.cell? ⟨b,1,S⟩=N (Q I y):=d.cell rfl;rw[f]at a;cases a
theorem Dk{a:Int}{d:List {e:Mc//iQ e}}(h:pW B m a d W)(g:dK W b #[Q I x,Q I y] t)(v:Ma):pW B m a d (W.setCell ⟨b,i,S⟩ v):=by
 obtain⟨j,K,⟨f,k⟩,l⟩:=h;exact⟨j,K,⟨f.aj λc _ n=>NE _ _ _ _ (λ(e:c=b)=>f.FR g (e▸n)),k⟩,l⟩
theorem rM{c:MV}(h:aH X W c)(e:∀b o,X b->W.heap[b]?=N o->o.isCells=Mk):Sg W c:=
 ⟨h.size,λk o a d=>(h.block k (aJ a) λf=>by rw[e k o f a]at d;cases d).trans a⟩
theorem Dj(k m:Nat)(sv:Ma)(d:Int)(w:MV)(J:List {e:Mc//iQ e})(l3:J.length<=199)(e4:0<=d/\d<=1000000)(hk:w.cell? ⟨k,0,S⟩=N (MQ (N ⟨m,0,S⟩)))(e5:∀j,w.frozen? ⟨k,j,S⟩=Md)(hm:w.cell? ⟨m,1,S⟩=N sv)(b5:jq w.heap.size w sv (J.map (·.1)))(e6:bZ (J.map (·.1))):Mo MT 150 #[MQ (N ⟨k,0,S⟩),Q I d] w λe P=>e=.returned (.tuple #[])/\∃m' G,bB P k m' G (eF d (J.map (·.1)))/\w.heap.size<=m'/\(∀b,G.ownBlock=N b->w.heap.size<=b)/\aH (λb=>b=k) w P/\P.cell? ⟨k,1,S⟩=w.cell? ⟨k,1,S⟩:=by
 have R:=MO hk;have e8:=MO hm;have i0:=b5;obtain⟨ra,i2,rfl,_⟩:=i0;rw[ND]at hm;refine(PF (n:=5)).1 ?_;have Z:Fence.wide.round=none:=rfl;refine Sq func150 rfl trivial ?_ Z;simp only[ntmps150,NY,N6,OH,Nat.reduceAdd,Nat.reduceSub,Of,Og,Ot,Om,O3,Ov];have f0:Mb w.heap.size w (((w.alloc (MY #[Q I d] 3)).alloc (MY #[Nm (.func 167) #[] #[],MR S 0 0] 305)).alloc (MY #[MQ (N ⟨w.heap.size+1,0,S⟩)] 212)):=UQ;have i3:=(f0.cell (p:=⟨k,0,S⟩) R).trans hk;gi_wp2_with (first|(refine⟨trivial,?_⟩;gi_at_call 102;refine(PF.2 (pG _)).mono ?_;rintro e P ⟨rfl,rfl⟩)|(refine⟨trivial,?_⟩;gi_at_call 120;refine(DQ Fence.wide 4 trivial Z m _).mono ?_;rintro e P ⟨rfl,rfl⟩))
 have bS:=((((Boxed.new w 3 (Q I d)).alloc (MY #[Nm (.func 167) #[] #[],MR S 0 0] 305)).alloc (MY #[MQ (N ⟨w.heap.size+1,0,S⟩)] 212)).alloc (MY #[MQ (N ⟨m,0,S⟩)] 212));have bK:=(Boxed.new ((w.alloc (MY #[Q I d] 3)).alloc (MY #[Nm (.func 167) #[] #[],MR S 0 0] 305)) 212 (MQ (N ⟨w.heap.size+1,0,S⟩))).alloc (MY #[MQ (N ⟨m,0,S⟩)] 212);have T:=(dK.new (w.alloc (MY #[Q I d] 3)) #[Nm (.func 167) #[] #[],MR S 0 0] 305).alloc (MY #[MQ (N ⟨w.heap.size+1,0,S⟩)] 212)|>.alloc (MY #[MQ (N ⟨m,0,S⟩)] 212);have bN:=Boxed.new (((w.alloc (MY #[Q I d] 3)).alloc (MY #[Nm (.func 167) #[] #[],MR S 0 0] 305)).alloc (MY #[MQ (N ⟨w.heap.size+1,0,S⟩)] 212)) 212 (MQ (N ⟨m,0,S⟩));simp only[N3]at bS bK T bN;have a0:Mb w.heap.size w ((((w.alloc (MY #[Q I d] 3)).alloc (MY #[Nm (.func 167) #[] #[],MR S 0 0] 305)).alloc (MY #[MQ (N ⟨w.heap.size+1,0,S⟩)] 212)).alloc (MY #[MQ (N ⟨m,0,S⟩)] 212)):=UQ;have l4:((((w.alloc (MY #[Q I d] 3)).alloc (MY #[Nm (.func 167) #[] #[],MR S 0 0] 305)).alloc (MY #[MQ (N ⟨w.heap.size+1,0,S⟩)] 212)).alloc (MY #[MQ (N ⟨m,0,S⟩)] 212)).heap.size=w.heap.size+4:=by simp
 have f1:=(a0.cell (p:=⟨m,1,S⟩) e8).trans hm;generalize l5:((((w.alloc (MY #[Q I d] 3)).alloc (MY #[Nm (.func 167) #[] #[],MR S 0 0] 305)).alloc (MY #[MQ (N ⟨w.heap.size+1,0,S⟩)] 212)).alloc (MY #[MQ (N ⟨m,0,S⟩)] 212))=W0 at*;have f2:pW w.heap.size (w.heap.size+1) d [] W0:=by
  refine⟨MR S 0 0,[],⟨⟨⟨T.cell rfl,T.cell rfl,World.ownsRow_nil _ _ _ _,λj=>T.frozen j,by simp⟩,λ_=>rfl⟩,λb q=>by cases q⟩,List.Pairwise.nil,MP _,λ_=>rfl⟩
 rw[ND]at b5;refine Sr Z O (gf:=181) (lb:=#[MQ (N ⟨w.heap.size+1+1+1,0,S⟩)]) rfl trivial (enters_of TC UR rfl)
  (tx Fence.wide 4 trivial Z O (w.heap.size+1+1+1) m w.heap.size (MR ra J.length i2) J O _ O e8 O bN.cell f1 (b5.aD a0)) belowK_t (belowK_b O) (MU _ _) (λ_=>rfl)
  (λL W=>(RA W w.heap.size 3 (Q I d)/\RA W (w.heap.size+1+1) 212 (MQ (N ⟨w.heap.size+1,0,S⟩)))/\pW w.heap.size (w.heap.size+1) d L W/\Mb w.heap.size w W)
  (λ_ _ _=>False)
  (OwnFrom.and (OwnFrom.and (Own.from (boxed_own _ _ _) _) (Own.from (boxed_own _ _ _) _)) (OwnFrom.and (Own.from (pu _ _ _) _) (Te (MP _) O)))
  (λ_ _ _ _ _ hs _ _=>hs)
  ⟨⟨bS,bK⟩,f2,a0⟩
  (λx a' W=>∃i g,w.heap.size+2<i/\w.heap.size+2<g/\i≠g/\dK W i #[Q I x.1.vlan,MS x.1.mac] 236/\dK W g #[Q I x.1.port,Q I x.1.age] 238/\a'={tmps:=#[MQ (N ⟨k,0,S⟩),Q I d,NS,MQ (N ⟨w.heap.size,0,S⟩),MQ (N ⟨w.heap.size+1+1,0,S⟩),MQ (N ⟨i,0,S⟩),MQ (N ⟨g,0,S⟩),MQ (N ⟨w.heap.size+1,0,S⟩),MQ (N ⟨k,0,S⟩),MQ (N ⟨k,0,S⟩),MQ (N ⟨k,0,S⟩),MQ (N ⟨m,0,S⟩),Nm (.func 181) #[] #[MQ (N ⟨w.heap.size+1+1+1,0,S⟩)],M1 #[Q I x.1.vlan,MS x.1.mac],M1 #[Q I x.1.port,Q I x.1.age],NS,NS,NS,NS,NS,NS,NS,NS,NS,NS,NS,NS,NS,NS,NS,NS],defers:=[]})
  (λx a' _ X Y f3 hs y hr=>by obtain⟨i,g,h1,h2,h0,h3,h4,h5⟩:=hs;exact⟨i,g,h1,h2,h0,dK.own i _ _ () X Y f3 h3 y (λr e=>(hr r e).2),dK.own g _ _ () X Y f3 h4 y (λr e=>(hr r e).2),h5⟩)
  ?assign ?body ?done ?stop
 case assign=>
  rintro l L x W K ⟨⟨H,s⟩,z,U⟩ hK;simp only[Hx];gi_wp2
  have c7:=U.size;have j0:=s.lt;have B:dK ((W.alloc (MY #[Q I x.1.vlan,MS x.1.mac] 236)).alloc (MY #[Q I x.1.port,Q I x.1.age] 238)) (W.heap.size+1) #[Q I x.1.port,Q I x.1.age] 238:=by
   have:=dK.new (W.alloc (MY #[Q I x.1.vlan,MS x.1.mac] 236)) #[Q I x.1.port,Q I x.1.age] 238;rwa[N3]at this
  exact hK _ _ (((Oy _ _).trans (Oy _ _)).from _) (((MU _ W).alloc c7 _).alloc UU _) ⟨⟨(H.alloc _).alloc _,(s.alloc _).alloc _⟩,(pu _ _ _).alloc _ ((pu _ _ _).alloc _ z),(U.alloc c7 _).alloc UU _⟩ ⟨W.heap.size,W.heap.size+1,O,O,O,(dK.new W _ _).alloc _,B,rfl⟩
 case body=>
  rintro l L x a' W hl ⟨r,hr⟩ ⟨⟨H,s⟩,z,u⟩ ⟨i,g,l7,l8,j1,bX,B,rfl⟩ j0;have c1:=H.cell;have c2:=s.cell;have x0:W.cell? ⟨i,0,S⟩=N (Q I x.1.vlan):=bX.cell rfl;have x1:W.cell? ⟨i,1,S⟩=N (MS x.1.mac):=bX.cell rfl;have y0:W.cell? ⟨g,0,S⟩=N (Q I x.1.port):=B.cell rfl;have y1:W.cell? ⟨g,1,S⟩=N (Q I x.1.age):=B.cell rfl;have yf:=B.frozen 1;have ya:=x.2.1;have yb:=x.2.2;have n1:=e4.1;have n2:=e4.2;have c7:=u.size;obtain⟨f,C⟩:=UX (W.setCell ⟨g,1,S⟩ (Q I (x.1.age+d)));have c8:dK f g #[Q I x.1.port,Q I (x.1.age+d)] 238:=by rw[C];exact(heap_setCell_same _ _ 1 _ _ _ B).trans (by simp)
  have a4:∀b,b≠g->f.heap[b]?=W.heap[b]?:=λb q=>by rw[C];exact NE _ _ _ _ q
  have c9:dK f i #[Q I x.1.vlan,MS x.1.mac] 236:=(a4 i j1).trans bX;have f4:RA f w.heap.size 3 (Q I d):=(a4 _ O).trans H;have d2:RA f (w.heap.size+1+1) 212 (MQ (N ⟨w.heap.size+1,0,S⟩)):=(a4 _ O).trans s;have f5:pW w.heap.size (w.heap.size+1) d L f:=by rw[C];exact Dk z B _
  have U:Mb w.heap.size w f:=by rw[C];exact u.setCell UU _
  have f6:Sg W f:=by rw[C];exact Oj _ _ _
  have f7:Mb w.heap.size W f:=by rw[C];exact(MU _ W).setCell UU _
  have e0:f.cell? ⟨i,0,S⟩=N (Q I x.1.vlan):=c9.cell rfl;have e1:f.cell? ⟨i,1,S⟩=N (MS x.1.mac):=c9.cell rfl;have d0:f.cell? ⟨g,0,S⟩=N (Q I x.1.port):=c8.cell rfl;have d1:f.cell? ⟨g,1,S⟩=N (Q I (x.1.age+d)):=c8.cell rfl;have k2:=d2.cell;have f8:=A C;have f9:=A f5;have a5:=A U;have g0:=A f6;have g1:=A f7;have HO:=A (And.intro f4 d2);clear C f5 U f6 f7 f4 d2 c9 c8 a4 z u H s bX B hr;by_cases j3:x.1.age+d<=300
  ·obtain⟨G,K',⟨M,V⟩,q3,q4,q5⟩:=f9.o;have j4:K'.length<=199:=O;have HQ:=A (And.intro M V);have CP:=A (yS (w.heap.size+1) G K' {x.1 with age:=x.1.age+d} f M q3 j4);clear M V;gi_wp2
   rw[<-f8.o];gi_wp2_with (refine⟨trivial,?_⟩;gi_at_call 199;refine(CallsIn.inRound l (PF.2 CP.o)).mono ?_;rintro e w2 ⟨rfl,hq⟩)
   have d4:aH (λb=>b=w.heap.size+1\/G.ownBlock=N b) f w2:=by
    obtain⟨_,_,_,_,_,_,_,h⟩:=hq;exact h
   have j6:=Dl (pre:=L) (x:=x) HQ.o.2 q3 q4 q5 j3 a5.o.size hq;have k0:Sg f w2:=rM d4 λb o E ho=>HQ.o.1.cells E ho;have g5:Mb w.heap.size f w2:=d4.aD a5.o.size (λb E=>by rcases E with e|e;omega;exact HQ.o.2 b e);have nb:∀b t v,RA f b t v->t≠308->b≠w.heap.size+1->RA w2 b t v:=λb t v q ht k4=>(d4.block b q.lt (by
    rintro(e|e)
    ·exact k4 e
    ·rcases HQ.o.1.1.2.2.1.2 with⟨e2,_⟩|⟨g2,o0,o1,e2,_,k6,_⟩
     ·rw[e2]at e;cases e
     ·rw[e2]at e;obtain rfl:g2=b:=by simpa[NF]using e
      have:=q.symm.trans k6;cases this;exact ht rfl)).trans q
   gi_wp2
   exact⟨(g0.o.trans k0).from _,g1.o.trans g5,⟨nb _ _ _ HO.o.1 US O,nb _ _ _ HO.o.2 US O⟩,j6,a5.o.trans g5⟩
  ·gi_wp2
   rw[<-f8.o];gi_wp2
   exact⟨g0.o.from _,g1.o,⟨HO.o.1,HO.o.2⟩,Ag f9.o O,a5.o⟩
 case done=>
  rintro D ys W hD k7 ⟨⟨H,s⟩,z,u⟩ hK;rw[k7]at z;have c2:=s.cell;have ck:W.cell? ⟨k,0,S⟩=N (MQ (N ⟨m,0,S⟩)):=(u.cell (p:=⟨k,0,S⟩) R).trans hk;have cf:W.frozen? ⟨k,0,S⟩=false:=(u.frozen (p:=⟨k,0,S⟩) R).trans (e5 0);have g9:∀j,W.frozen? ⟨k,j,S⟩=false:=λj=>(u.frozen (p:=⟨k,j,S⟩) R).trans (e5 j);have HT:=A z;have F:=A u;have HK:=A hK;have HD:=A hD;have HF:=A g9;clear H s z u hK hD bS bK T bN a0 f1 f2 g9 f0 i3;gi_wp2
  have h8:D≠k:=by have:=HD.o;have:=F.o.size;omega
  have l1:(W.setCell ⟨k,0,S⟩ (MQ (N ⟨w.heap.size+1,0,S⟩))).heap[D]?=N (Q3 (N [])):=(Below.heap_setCell _ _ _ _ (by simpa using h8)).trans HK.o;refine⟨by simp,Mf ⟨_,_,rfl,SO l1,?_⟩⟩;have y:=Sf (W.setCell ⟨k,0,S⟩ (MQ (N ⟨w.heap.size+1,0,S⟩))) D (Q3 S);obtain⟨G,K',⟨M,V⟩,q3,q4,q5⟩:=HT.o;have h9:∀b,b<W.heap.size->b≠k->b≠D->((W.setCell ⟨k,0,S⟩ (MQ (N ⟨w.heap.size+1,0,S⟩))).putObj D (Q3 S)).heap[b]?=W.heap[b]?:=λb q h1 h2=>
   (y.block b (by simpa using q) (λe=>h2 (by simpa using e))).trans (NE _ _ _ _ h1)
  have l2:k<W.heap.size:=MO ck;have d6:=y.block k (by simpa using l2) (λe=>h8 (by simpa using e.symm));refine⟨_,results_none rfl _ _ _,rfl,w.heap.size+1,G,⟨?_,λj=>?_,?_,?_⟩,O,V,?_,?_⟩
  ·exact(Mj (a:=⟨k,0,S⟩) d6).trans (World.cell?_setCell_same _ _ _ ck)
  ·rw[NJ (a:=⟨k,j,S⟩) d6,World.frozen?_setCell];exact HF.o j
  ·rw[<-q5 e6];refine M.aj λb q E=>h9 b q ?_ ?_
   ·rcases E with e|e
    ·omega
    ·have:=V b e;omega
   ·rintro rfl;have:=M.cells E HK.o;cases this
  ·rw[<-q5 e6];exact q3
  ·refine⟨y.os.trans F.o.os,y.tape.trans F.o.tape,y.output.trans F.o.output,?_,λb q E=>(h9 b (by have:=F.o.size;omega) E (by have:=HD.o;omega)).trans (F.o.block b q)⟩;have:=F.o.size;simpa using this
  ·exact(Mj (a:=⟨k,1,S⟩) d6).trans ((cB (MX US)).trans (Mj (a:=⟨k,1,S⟩) (F.o.block k R)))
 case stop=>
  rintro D c L W _ _ h _;exact h.elim
theorem EN(k m:Nat)(f:Ma)(K:List Mc)(a:Int)(w:MV)(h:bB w k m f K)(n:K.length<=199)(o:0<=a/\a<=1000000)(g:∀e∈K,iQ e):Mo MT 150 #[MQ (N ⟨k,0,S⟩),Q I a] w λe c=>e=.returned (.tuple #[])/\∃i j,bB c k i j (eF a K)/\w.heap.size<=i/\(∀b,j.ownBlock=N b->w.heap.size<=b)/\aH (λb=>b=k) w c/\c.cell? ⟨k,1,S⟩=w.cell? ⟨k,1,S⟩:=by
 have d:(K.attach.map λe=>(⟨e.1,g e.1 e.2⟩:{e:Mc//iQ e})).map (·.1)=K:=by rw[List.map_map];exact List.attach_map_subtype_val K
 have l:=Dj k m f a w (K.attach.map λe=>⟨e.1,g e.1 e.2⟩) (by rw[ND,List.length_attach];exact n) o h.1 h.2.1 h.2.2.1.1.2.1 (by rw[d];exact h.2.2.1.row (MP _)) (by rw[d];exact h.2.2.2);rw[d]at l;exact l
end
section
open Go.RowKit Go.Maps
def py(a:List (Int×Ma)):List Value:=a.flatMap λe=>[Q I e.1,e.2]
theorem x9(a b:List (Int×Ma)):py (a++b)=py a++py b:=List.flatMap_append
theorem xz:∀(a:List (Int×Ma)) (k:Nat) (b:k<a.length),(py a)[k*2]?=N (Q I a[k].1)/\(py a)[k*2+1]?=N a[k].2
 |[],k,b=>absurd b (by simp)
 |p::t,0,_=>⟨rfl,rfl⟩
 |p::t,k+1,b=>by
  have c:=xz t k (by simpa using b);have d:(k+1)*2=k*2+1+1:=O;have e:(k+1)*2+1=(k*2+1)+1+1:=O;rw[e,d];exact c
theorem xy:∀(a:List (Int×Ma)) (i:Nat) (_:i<a.length) (e:Int×Ma),py (a.set i e)=((py a).set (i*2) (Q I e.1)).set (i*2+1) e.2
 |[],i,b,_=>absurd b (by simp)
 |p::t,0,_,e=>by simp[py]
 |p::t,i+1,b,e=>by
  have c:=xy t i (by simpa using b) e;have d:(i+1)*2=i*2+1+1:=O;have f:(i+1)*2+1=(i*2+1)+1+1:=O;rw[f,d];show _::_::py (t.set i e)=_;rw[c];rfl
structure aQ (w:MV) (pv:Ma) (P:List b7) (Q:List (Int×Ma)):Prop where
 len:Q.length=P.length
 own:w.ownsRow 0 143 2 pv P.length (py Q)
 each:∀j (h:j<P.length),Q[j].1=P[j].nat/\gT w Q[j].2 P[j].tg
theorem aQ.at{b:List (Int×Ma)}(h:aQ w d P b):eM w d P:=by
 have m:=h.len;rcases h.own.2 with⟨a,k⟩|⟨g,l,n,a,_⟩
 ·exact⟨S,0,0,by rw[a,k],λj e=>O⟩
 ·refine⟨_,l,g,a,λj e=>⟨rfl,?_⟩⟩;have c:=h.own;rw[a]at c;have f:=xz b j O;have i:=h.each j e;refine⟨?_,b[j].2,(c.cellAt _ O).trans f.2,i.2⟩;rw[<-i.1];exact(c.cellAt _ O).trans f.1
theorem aQ.aj{a:MV}{d:List (Int×Ma)}(h:aQ w c P d)(f:∀b,c.ownBlock=N b->a.heap[b]?=w.heap[b]?)(g:∀(b:Nat) (o:Obj),w.heap[b]?=N o->o.isCells=Md->a.heap[b]?=N o):aQ a c P d:=
 ⟨h.len,ap h.own f,λj e=>⟨(h.each j e).1,(h.each j e).2.same g⟩⟩
theorem aQ.aD{a:MV}{d:List (Int×Ma)}(h:aQ w c P d)(e:Mb w.heap.size w a):aQ a c P d:=
 h.aj (λb g=>e.block b (ae h.own g).2) λb _ f _=>(e.block b (aJ f)).trans f
theorem aQ.set{c:List (Int×Ma)}(h:aQ w (MR (N ⟨g,0,S⟩) P.length k) P c)(z:i<P.length){a:Ma}{l:Int->Bool}(r:gT w a l):aQ ((w.setCell ⟨g,i*2,S⟩ (Q I x)).setCell ⟨g,i*2+1,S⟩ a) (MR (N ⟨g,0,S⟩) P.length k) (P.set i ⟨x,l⟩) (c.set i (x,a)):=by
 have s:=h.len;have u:∃m t n,w.heap[g]?=N (MY m t n):=by
  rcases h.own.2 with⟨e,_⟩|⟨B,C,D,e,_,v,_⟩
  ·cases e
  ·cases e;exact⟨_,_,_,v⟩
 have p:∀(b:Nat) (o:Obj),w.heap[b]?=N o->o.isCells=Md->((w.setCell ⟨g,i*2,S⟩ (Q I x)).setCell ⟨g,i*2+1,S⟩ a).heap[b]?=N o:=by
  intro b o d y;have q:b≠g:=by
   rintro rfl;obtain⟨m,t,n,e⟩:=u;rw[e]at d;cases d;cases y
  exact((NE _ _ _ _ q).trans (NE _ _ _ _ q)).trans d
 refine⟨by simp[s],?_,λj f=>?_⟩
 ·rw[Mw,xy c i O];exact fO (fO h.own (j:=i*2) O _) (j:=i*2+1) O _
 ·rw[Mw]at f;rw[OA,OA];split
  ·exact⟨rfl,r.same p⟩
  ·exact⟨(h.each j f).1,(h.each j f).2.same p⟩
def nK(w:MV)(a c:List (Int×Ma)):Prop:=∀p:Int×Ma,p∈c->p∈a\/∃b,p.2=N4 (N b)/\w.heap.size<=b
theorem nK.same(w:MV)(a:List (Int×Ma)):nK w a a:=λ_ h=>Mf h
theorem nK.set(a:List (Int×Ma))(i:Nat)(x:Int)(c:w.heap.size<=b):nK w a (a.set i (x,N4 (N b))):=λp d=>by
 rcases List.mem_or_eq_of_mem_set d with h|h
 ·exact Mf h
 ·exact MX ⟨b,by rw[h],c⟩
def eJ(P:List b7)(q a:Int)(T:List Int):Int:=if decide (0<=q)&&decide (q<P.length)then(if du a T then 0 else 2)else 1
def eT(P:List b7)(q a:Int)(T:List Int):List b7:=if eJ P q a T=0 then P.set q.toNat ⟨a,gF T⟩else P
theorem ul(s:Nat)(n:Ma)(P:List b7)(D:List (Int×Ma))(q a:Int)(T:List Int)(H:Ma)(w:MV)(J:w.cell? ⟨s,0,S⟩=N n)(f:aQ w n P D)(E:ir w H T)(F:∀t∈T,(Lit.int I t).wf=Mk)(hl:T.length<1000000000000):Mo MT 22 #[MQ (N ⟨s,0,S⟩),Q I q,Q I a,H] w λe L=>e=.returned (Q I (eJ P q a T))/\(∃M,aQ L n (eT P q a T) M/\nK w D M)/\aH (λb=>n.ownBlock=N b) w L:=by
 have o:=A (kJ s n P q w J f.at);have m:=A (BE a T H w E F hl);by_cases r:0<=q/\q<P.length
 ·have h:(decide (0<=q)&&decide (q<P.length))=true:=by simp[r.1,r.2]
  obtain⟨i,rfl⟩:∃i:Nat,q=i:=⟨q.toNat,O⟩;have R:i<P.length:=O;rw[h]at o;unfold MC at m;have c:eJ P i a T=if du a T then 0 else 2:=by unfold eJ;rw[h];rfl
  cases G:du a T with
  |false=>
   simp only[G]at m;rw[G]at c;have j:eT P i a T=P:=by unfold eT;rw[c];rfl
   rw[c,j];have y:=A f;clear f E F c j h r;go_enter Rk,ntmps22;go_wp2_with fail
   refine o.o.mono ?_;rintro e u ⟨rfl,rfl⟩;go_wp2_with fail
   refine m.o.mono ?_;rintro e d ⟨k,rfl⟩;go_wp2;go_ret;have l:Mb u.heap.size u (d.alloc (MY #[Q I 0,N4 S] 143)):=k.alloc k.size _;exact⟨rfl,⟨D,y.o.aD l,nK.same _ _⟩,aH.aG l⟩
  |true=>
   simp only[G,if_true]at m;rw[G]at c;have j:eT P i a T=P.set i ⟨a,gF T⟩:=by unfold eT;rw[c];simp
   rw[c,j];have a1:∃g v,n=MR (N ⟨g,0,S⟩) P.length v/\g<w.heap.size:=by
    rcases f.own.2 with⟨e,h'⟩|⟨g,v,b5,e,_,hg,_⟩
    ·omega
    ·exact⟨g,v,e,aJ hg⟩
   obtain⟨g,v,rfl,b6⟩:=a1;have b9:=MO J;have c2:(i:Int)<P.length:=O;have c3:(0:Int)<=i:=O;have y:=A f;clear f E F c j h r;go_enter Rk,ntmps22;go_wp2_with fail
   refine o.o.mono ?_;rintro e u ⟨rfl,rfl⟩;go_wp2_with fail
   refine m.o.mono ?_;rintro e d ⟨k,z,a3,rfl,U⟩;obtain⟨W,B⟩:=UX (d.alloc (MY #[Q I a,N4 (N z)] 143));have l:Mb u.heap.size u W:=by rw[B];exact k.alloc k.size _
   have K:W.heap[d.heap.size]?=N (MY #[Q I a,N4 (N z)] 143 (0,0)):=by rw[B];exact Ng d _
   have b0:W.cell? ⟨d.heap.size,0,S⟩=N (Q I a):=by simp[M7,K]
   have b1:W.cell? ⟨d.heap.size,1,S⟩=N (N4 (N z)):=by simp[M7,K]
   have V:gT W (N4 (N z)) (gF T):=by rw[B];exact U.aD ((MU _ d).alloc (MP _) _)
   have s0:=cell_later l J;have C:=y.o.aD l;have a4:=C.at;obtain⟨a',c8,b',e',Y⟩:=a4;cases e';obtain⟨eg,c0,mv,c1,_⟩:=Y i R;cases eg;have f0:=fP C.own (i*2);have f1:=fP C.own (i*2+1);have HS:=A (C.set (x:=a) R V);have Z:(λb=>(MR (N ⟨g,0,S⟩) P.length v).ownBlock=N b) g:=rfl;have HC:=A (aH.setCell (p:=⟨g,i*2+1,S⟩) (aH.setCell (p:=⟨g,i*2,S⟩) (aH.aG (X:=λb=>(MR (N ⟨g,0,S⟩) P.length v).ownBlock=N b) l) (Mf Z) (Q I a)) (Mf Z) (N4 (N z)));have d5:¬g=d.heap.size:=by have:=k.size;omega
   have d6:¬d.heap.size=g:=by have:=k.size;omega
   have e0:g<W.heap.size:=by have:=l.size;omega
   have HW:=A B;have b2:=A a3;clear B K V l k C Y m o U;go_wp2;rw[<-HW.o];go_region
   go_wp2;go_ret;exact⟨rfl,⟨_,HS.o.aD ((MU _ _).drew),nK.set _ _ _ b2.o⟩,HC.o.drew.mono λ_ _ hx=>by simpa[NF]using hx⟩
 ·have h:(decide (0<=q)&&decide (q<P.length))=false:=by
   rw[<-Bool.not_eq_true,Bool.and_eq_true,decide_eq_true_eq,decide_eq_true_eq];exact r
  rw[h]at o;have c:eJ P q a T=1:=by unfold eJ;rw[h];rfl
  have j:eT P q a T=P:=by unfold eT;rw[c];rfl
  rw[c,j];have y:=A f;clear f E F c j h r m;go_enter Rk,ntmps22;go_wp2_with fail
  refine o.o.mono ?_;rintro e u ⟨rfl,rfl⟩;go_wp2;go_ret;exact⟨rfl,⟨D,y.o,nK.same _ _⟩,aH.aG (MU _ _)⟩
end
end Go.Proofs.YtnjalelblbjfiaaGreatDoor
