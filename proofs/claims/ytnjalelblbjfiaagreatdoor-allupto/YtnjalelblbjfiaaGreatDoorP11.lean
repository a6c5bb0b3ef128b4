import Derived.Test.YtnjalelblbjfiaaGreatDoorP10
namespace Go.Proofs.YtnjalelblbjfiaaGreatDoor
set_option maxRecDepth 100000
set_option maxHeartbeats 16000000
open Go.RowKit
open Go.Proofs.Tryz
open Go renaming Value→Ma,World→MV,TypeId→NL,Addr→Oz,maxLen→Nj,heap_alloc_old→ON,heap_alloc_new→O8,block_lt_of_cell→MO,run_loadAt_mid→NW
open Go.Obj renaming cells→MY
open Go.Value renaming slice→MR,int→Q,agg→M1,pointer→MQ,oneCell'→NC
open List renaming length_append→Mz,getElem?_append_left→N7,getElem?_append_right→OP,mem_append→Od,length_take→Mh,getElem?_take→M5,getElem?_eq_getElem→NZ,getElem?_eq_some_iff→OR,toList_toArray→OS
open Nat renaming succ_mul→OI,not_lt_zero→OV,le_trans→Mx,mul_le_mul_right→NX,add_mul→Qw,sub_mul→Tn,zero_add→NO,le_refl→MP,lt_of_lt_of_le→Mi
open Option renaming some→N,none→S
open _root_.Array renaming getElem?_eq_some_iff→Mu,length_toList→Nl,toList_append→Nq
open Go.IntKind renaming i64→I,wrap_i64→Mm
open Go.World renaming cell?_of_block→Mj,cell?_setCell_same→Nf,frozen?_setCell→Ni
open Go.Proofs.Tryz renaming prog→MT
open And renaming intro→Mp
variable {M:List Ma}{W w:MV}{v z:Ma}{e t:NL}{F a b c g j o s x:Nat}{P:Program}{i:TypeInfo}
def oC(M:List Ma):Nat->List Ma
 |0=>[]
 |j+1=>M++oC M j
theorem jk(M:List Ma):∀j,(oC M j).length=j*M.length
 |0=>by simp[oC]
 |j+1=>by rw[oC,Mz,jk M j,OI];omega
theorem rS(M:List Ma)(a:M.length=s):∀j k q,k<j->q<s->(oC M j)[k*s+q]?=M[q]?
 |0,k,q,b,_=>absurd b (OV k)
 |j+1,0,q,_,c=>by
  rw[oC,N7 O];simp
 |j+1,k+1,q,b,c=>by
  rw[oC,OP (by rw[a,OI];omega),a,show(k+1)*s+q-s=k*s+q by rw[OI];omega];exact rS M a j k q O c
theorem Cx(h:∀u∈M,u.oneCell'=true):∀j,∀u∈oC M j,u.oneCell'=true
 |0,u,a=>by cases a
 |j+1,u,a=>(Od.1 a).elim (h u) (Cx h j u)
theorem I5{L:List Ma}(d:M.length=s)(i:(a+j)*s<=L.length)(k q:Nat)(l:q<s):(L.take (a*s)++oC M j++L.drop (a*s+(oC M j).length))[k*s+q]?=if a<=k/\k<a+j then M[q]?else L[k*s+q]?:=by
 have f:(oC M j).length=j*s:=by rw[jk,d]
 have n:a*s<=L.length:=Mx (NX s (Nat.le_add_right a j)) i;have g:(L.take (a*s)).length=a*s:=by rw[Mh];omega
 have c:(L.take (a*s)++oC M j).length=(a+j)*s:=by rw[Mz,g,f,Qw]
 by_cases m:k<a
 ·rw[if_neg O];have b:k*s+q<a*s:=by
   have:(k+1)*s<=a*s:=NX s m;rw[OI]at this;omega
  rw[N7 (by rw[c,Qw];omega),N7 O,M5,if_pos b]
 ·by_cases h:k<a+j
  ·rw[if_pos ⟨O,h⟩];have b:k*s+q<(a+j)*s:=by
    have:(k+1)*s<=(a+j)*s:=NX s h;rw[OI]at this;omega
   have o:a*s<=k*s:=NX s O;rw[N7 (by rw[c];exact b),OP O,g];have e:k*s+q-a*s=(k-a)*s+q:=by rw[Tn];omega
   rw[e];exact rS M d j (k-a) q O l
  ·rw[if_neg O];have b:(a+j)*s<=k*s:=NX s O;rw[OP (by rw[c];omega),c,f,List.getElem?_drop];congr 1;rw[Qw]at b⊢;omega
theorem bA{a:Array Ma}{b:Nat×Nat}(h:w.heap[g]?=N (MY a t b)):w.cell? ⟨g,o,S⟩=a.toList[o]?:=by
 simp[World.cell?,h]
structure fZ (w w':MV) (e:NL) (s:Nat) (M:List Ma) (g cap len:Nat) (v':Ma) (b:Nat):Prop where
 out:∃cap',v'=MR (N ⟨b,0,S⟩) len cap'
 chg:aH (λx=>x=g) w w'
 blk:b=g\/w.heap.size<=b
 lt:b<w'.heap.size
 own:∃cur,w'.heap[g]?=N (MY cur e (0,0))/\cur.size=cap*s
 full:∀k,k<len->w'.rangeAt b (k*s) M
 still:∀k,w.rangeAt g (k*s) M->w'.rangeAt g (k*s) M
theorem xL{x:NL}(G:P.underlying t=N (.slice e))(H:P.info? e=N i)(Y:i.zero=N z)(Z:i.size=s)(a0:i.bytes=F)(y:M.length=s)(h1:∀u∈M,u.oneCell'=true){n d:Nat}{l:Array Ma}(o:w.heap[g]?=N (MY l e (0,0)))(B:l.size=n*s)(a2:d<=n)(a3:∀k,k<d->w.rangeAt g (k*s) M)(j:Nat){a:Oz}(J:∀q u,(oC M j)[q]?=N u->w.cell? (a.add q)=N u)(_hj:0<j)(a4:d+j<=Nj)(a5:(d+j)*F<=140737488355328):∃K L b,(Builtin.append_ #[t,t] x #[MR (N ⟨g,0,S⟩) d n,MR (N a) j c]).run P w=.ok K L/\fZ w L e s M g n (d+j) K b:=by
 subst Z;subst a0;have b1:d+j<=9223372036854775807:=by simp only[Nj]at a4;omega
 have R:g<w.heap.size:=(Mu.1 o).1;have r:(oC M j).length=j*i.size:=by rw[jk,y]
 have T:l.toList.length=n*i.size:=by rw[Nl,B]
 have U:∀k,k<d->∀q,q<i.size->l.toList[k*i.size+q]?=M[q]?:=λk m q p=>by
  have h:=a3 k m q M[q] (NZ O);rw[bA o]at h;rw[h,NZ O]
 by_cases C:d+j<=n
 ·have a6:d*i.size+(oC M j).length<=l.size:=by rw[r,B,<-Qw];exact NX _ C
  have D:=run_append_room (P:=P) w t x e i G H g d n l o a j c (oC M j) r J (Cx h1 j) C a6;have hL:(d+j)*i.size<=l.toList.length:=by rw[T];exact NX _ C
  have E:=setRow_heap w g l (l.toList.take (d*i.size)++oC M j++l.toList.drop (d*i.size+(oC M j).length)).toArray e _ o;have V:∀k q,q<i.size->(w.setRow g (l.toList.take (d*i.size)++oC M j++l.toList.drop (d*i.size+(oC M j).length)).toArray).cell? ⟨g,k*i.size+q,S⟩=if d<=k/\k<d+j then M[q]?else l.toList[k*i.size+q]?:=λk q p=>by
   rw[bA E];exact I5 y hL k q p
  have p:∀q u,M[q]?=N u->q<i.size:=λq u f=>by have:=(OR.1 f).1;omega
  refine⟨_,_,g,D,⟨n,rfl⟩,⟨rfl,rfl,rfl,by simp,λk _ m=>setRow_other w g k _ (λe=>m e)⟩,.inl rfl,?_,⟨_,E,?_⟩,λk m q u f=>?_,λk m q u f=>?_⟩
  ·exact(Mu.1 E).1
  ·simp only[List.size_toArray,Mz,Mh,List.length_drop,Nl];omega
  ·rw[V k q (p q u f)];split
   ·exact f
   ·rw[U k O q (p q u f)];exact f
  ·rw[V k q (p q u f)];split
   ·exact f
   ·have:=m q u f;rwa[bA o]at this
 ·have v:(l.toList.take (d*i.size)).length=d*i.size:=by
   rw[Mh,T];exact Nat.min_eq_left (NX _ a2)
  have a8:∀q u,(l.toList.take (d*i.size))[q]?=N u->w.cell? ((⟨g,0,S⟩:Oz).add q)=N u:=λq u f=>by
   rw[Addr.add_mid,NO,bA o];rw[M5]at f;split at f
   ·exact f
   ·cases f
  have D:=run_append_grow (P:=P) w t x e i z G H Y ⟨g,0,S⟩ d n (l.toList.take (d*i.size)) v a8 a j c (oC M j) r J O O (growslice_fits O a5);have b2:g≠w.heap.size:=O;refine⟨_,_,w.heap.size,D,⟨_,rfl⟩,⟨rfl,rfl,rfl,by simp,λk m _=>ON w.drew _ m⟩,.inr (MP _),by simp,⟨l,(ON w.drew _ R).trans o,B⟩,λk m q u f=>?_,λk m q u f=>?_⟩
  ·have p:q<i.size:=by have:=(OR.1 f).1;omega
   refine(bA (g:=w.heap.size) (O8 w.drew _)).trans ?_;simp only[Nq,List.append_assoc];by_cases W:k<d
   ·have X:k*i.size+q<d*i.size:=by
     have:(k+1)*i.size<=d*i.size:=NX _ W;rw[OI]at this;omega
    rw[N7 (by simpa[v]using X),OS,M5,if_pos X,U k W q p];exact f
   ·have b3:d*i.size<=k*i.size:=NX _ O;rw[OP (by rw[OS,v];omega),OS,OS,v];have e1:k*i.size+q-d*i.size=(k-d)*i.size+q:=by rw[Tn];omega
    have b0:(k-d)*i.size+q<j*i.size:=by
     have:(k-d+1)*i.size<=j*i.size:=NX _ O;rw[OI]at this;omega
    rw[e1,N7 (by rw[r];exact b0),rS M y j (k-d) q O p];exact f
  ·have:=m q u f;rw[bA o]at this;rw[bA ((ON w.drew _ R).trans o)];exact this
def KP(w:MV)(e:NL)(s:Nat)(v:Ma)(a:Nat):Prop:=(v=MR S 0 0/\a=0)\/∃g b c,v=MR (N ⟨g,0,S⟩) a b/\w.heap[g]?=N (MY c e (0,0))/\c.size=b*s/\a<=b
def FM(w:MV)(e:NL)(s:Nat)(M:List Ma)(v:Ma)(a:Nat):Prop:=(v=MR S 0 0/\a=0)\/∃g b c,v=MR (N ⟨g,0,S⟩) a b/\w.heap[g]?=N (MY c e (0,0))/\c.size=b*s/\a<=b/\∀k,k<a->w.rangeAt g (k*s) M
structure ax (w o:MV) (e:NL) (s:Nat) (M:List Ma) (v:Ma) (len j:Nat) (b:Nat):Prop where
 chg:aH (λx=>v.ownBlock=N x) w o
 blk:v.ownBlock=N b\/w.heap.size<=b
 lt:b<o.heap.size
 full:∀k,k<len+j->o.rangeAt b (k*s) M
 hld:FM o e s M v len
 still:∀g k,w.rangeAt g (k*s) M->o.rangeAt g (k*s) M
theorem oP{w:MV}{ty:NL}{T:Nat}(U:P.underlying t=N (.slice e))(V:P.info? e=N i)(W:i.zero=N z)(Y:i.size=s)(Z:i.bytes=T)(H:M.length=s)(h1:∀u∈M,u.oneCell'=true)(hH:FM w e s M v F)(j:Nat){a:Oz}(a0:∀q u,(oC M j)[q]?=N u->w.cell? (a.add q)=N u)(hj:0<j)(a2:F+j<=Nj)(a3:(F+j)*T<=140737488355328):∃b J o,(Builtin.append_ #[t,t] ty #[v,MR (N a) j c]).run P w=.ok (MR (N ⟨b,0,S⟩) (F+j) J) o/\ax w o e s M v F j b:=by
 have c2:F+j<=9223372036854775807:=by simp only[Nj]at a2;omega
 rcases hH with⟨rfl,rfl⟩|⟨g,J,c3,rfl,hg,b2,a4,hf⟩
 ·have K:(oC M j).length=j*i.size:=by rw[jk,H,Y]
  have L:=run_append_nil (P:=P) w t ty e i z U V W a j c (oC M j) K a0 hj O (by have hb:=a3;rw[<-Z]at hb;simp only[NO]at hb;omega);refine⟨w.heap.size,grownCap w j 0 e,w.drew.alloc (MY ((oC M j).toArray++Builtin.zeroCells z.cells (grownCap w j 0 e-j)) e),?_,⟨aH.aG ((Below.refl _ w).drew.alloc (by simp) _),.inr (MP _),by simp,λk hk q u G=>?_,.inl ⟨rfl,rfl⟩,λg k h q u G=>?_⟩⟩
  ·rw[NO];exact L
  ·have hq:q<s:=by have:=(OR.1 G).1;omega
   refine(bA (g:=w.heap.size) (O8 w.drew _)).trans ?_;have b4:k*s+q<j*s:=by
    have:(k+1)*s<=j*s:=NX _ O;rw[OI]at this;omega
   rw[Nq,OS,N7 (by rw[jk,H];exact b4),rS M H j k q O hq];exact G
  ·have hc:=h q u G;have K:g<w.heap.size:=MO hc;exact(Mj (a:=⟨g,k*s+q,S⟩) (ON w.drew _ K)).trans hc
 ·obtain⟨v',o,b,L,m⟩:=xL (P:=P) U V W Y Z H h1 hg b2 a4 hf j a0 hj a2 a3;obtain⟨b5,rfl⟩:=m.out;obtain⟨b6,b9,c0⟩:=m.own;refine⟨b,b5,o,L,⟨m.chg.mono λx _ R=>by rw[R];rfl,m.blk.imp (λe=>by rw[e];rfl) id,m.lt,m.full,.inr ⟨g,J,b6,rfl,b9,c0,a4,λk hk=>m.still k (hf k hk)⟩,λg' k h=>?_⟩⟩;by_cases e:g'=g
  ·subst e;exact m.still k h
  ·exact λq u G=>m.chg.block.cell (λR=>e R) (h q u G)
structure WS (w:MV) (f:Nat) (r y l:Ma) (n:Nat) (p:List au) (d:Nat->Nat):Prop where
 c0:w.cell? ⟨f,0,S⟩=N r
 c1:w.cell? ⟨f,1,S⟩=N y
 c2:w.cell? ⟨f,2,S⟩=N (Q I n)
 c3:w.cell? ⟨f,3,S⟩=N l
 frz:∀j,w.frozen? ⟨f,j,S⟩=false
 rK:iX w 78 5 l p.length (eO p)
 cw:d f=1
 cK:∀x,l.ownBlock=N x->d x=3
 kept:∀k∈p,k.Ok w d
section
variable {w o:World}{f n D:Nat}{r y l kv':Value}{B:List aL}{p E:List au}{d C:Nat->Nat}{X:Nat->Prop}
theorem LW.ws(h:LW w f r y l n B p d):WS w f r y l n p d:=⟨h.c0,h.c1,h.c2,h.c3,h.frz,h.rK,h.cw,h.cK,h.kept⟩
theorem LW.FO(h:LW w f r y l n B p d):(∃a m c,r=MR a m c)/\∃a m c,l=MR a m c:=by
 refine⟨?_,?_⟩
 ·rcases h.rT.1.2 with⟨e,_⟩|⟨g,b,i,e,_⟩
  ·exact⟨_,_,_,e⟩
  ·exact⟨_,_,_,e⟩
 ·rcases h.rK.1.2 with⟨e,_⟩|⟨g,b,i,e,_⟩
  ·exact⟨_,_,_,e⟩
  ·exact⟨_,_,_,e⟩
theorem LW.uH(h:LW w f r y l n B p d):dg w f:=by
 obtain⟨⟨a,m,c,rfl⟩,b,e,g,rfl⟩:=h.FO;obtain⟨i,j,k,rfl⟩:=h.sS;exact qE h.c0 h.c1 ⟨_,_,_,h.c3⟩ h.laid
theorem LW.vn(h:LW w f r y l n B p d)(i:l.ownBlock=N x):dg w x:=by
 obtain⟨a,v,g,e,q⟩:=h.rK.kept;have b:0<p.length:=by
  rcases Nat.eq_zero_or_pos p.length with b|b
  ·rw[h.rK.2 b]at i;cases i
  ·exact b
 obtain⟨s,j⟩:=q 0 b;rw[e,s]at i;cases i;obtain⟨z,m,c,t,_⟩:=(h.kept _ (List.getElem_mem b)).r;have u:=j 0 _ rfl;have k:=j 1 _ rfl;rw[t]at k;exact zT u k h.laid
theorem LW.FN(h:LW w f r y l n B p d)(c:aH (λx=>x=f\/l.ownBlock=N x) w o)(k:∀x,x<w.heap.size->d x≠0->C x=d x)(b:WS o f r y kv' D E C):LW o f r y kv' D B E C:=by
 have m:∀x,(x=f\/l.ownBlock=N x)->dg w x:=λx a=>by
  rcases a with rfl|a
  ·exact h.uH
  ·exact h.vn a
 have e:∀x,(x=f\/l.ownBlock=N x)->d x=1\/d x=3:=λx a=>by
  rcases a with rfl|a
  ·exact .inl h.cw
  ·exact .inr (h.cK x a)
 refine⟨h.laid.iW c.block m,b.c0,b.c1,b.c2,b.c3,h.sS,b.frz,h.rT.aj λx a=>c.block x (h.rT.lt a) λg=>?_,b.rK,b.cw,λx a=>(k _ (h.rT.lt a) (by rw[h.cT x a];omega)).trans (h.cT x a),λx j u a q=>h.pT x j u a (by rwa[(jr.aS (c.block x (h.rT.lt a) λg=>by have:=e x g;rw[h.cT x a]at this;omega) j).1]at q),b.cK,λi s=>(h.tab i s).aj c m (λx a _=>?_) k,b.kept⟩
 ·have:=e x g;rw[h.cT x a]at this;omega
 ·have:=e x a;omega
theorem WS.aj(h:WS w f r y l n p d)(b:aH X w o)(e:∀x,X x->x<w.heap.size->d x=0\/5<=d x\/d x=2)(g:∀x,x<w.heap.size->d x≠0->C x=d x):WS o f r y l n p C:=by
 have i:f<w.heap.size:=MO h.c0;have c:¬X f:=λa=>by have:=e _ a i;rw[h.cw]at this;omega
 refine⟨b.block.cell c h.c0,b.block.cell c h.c1,b.block.cell c h.c2,b.block.cell c h.c3,λj=>(jr.aS (b.block f i c) j).2.trans (h.frz j),h.rK.aj λx a=>b.block x (h.rK.lt a) λm=>?_,(g _ i (by rw[h.cw];omega)).trans h.cw,λx a=>(g _ (h.rK.lt a) (by rw[h.cK x a];omega)).trans (h.cK x a),λk q=>(h.kept k q).aj b (λx a s=>by have:=e x a s;omega) g⟩;have:=e _ m (h.rK.lt a);rw[h.cK x a]at this;omega
end
theorem ww{w:MV}{d:Nat->Nat}(e:a<=1000000000)(g:d b=4)(h:b<w.heap.size)(i:∀k,k<a->w.rangeAt b (k*s) M):qN w d s (MR (N ⟨b,0,S⟩) a c) M:=
 ⟨_,a,c,rfl,e,λk j=>⟨b,rfl,g,h,i k j⟩⟩
theorem FM.full{w:MV}{d:Nat->Nat}(h:FM w e s M v a)(b:a<=1000000000)(c:∀x,v.ownBlock=N x->d x=4):qN w d s v M:=by
 rcases h with⟨rfl,rfl⟩|⟨g,k,m,rfl,i,_,_,j⟩
 ·exact qN.nil s M
 ·exact ww b (c g rfl) (Mu.1 i).1 j
section
variable {w q f t:World}{d n m:Nat}{z B r kv' v:Value}{y:List au}{i:Nat->Nat}
def jJ(i:Nat->Nat)(v:Ma)(a b:Nat):Nat->Nat:=λx=>if v.ownBlock=N x\/(a<=x/\x<b)then 4 else if a<=x then 3 else i x
theorem qB(h:v.ownBlock=N x):jJ i v a b x=4:=by unfold jJ;rw[if_pos (.inl h)]
theorem Ep(h:a<=x)(c:x<b):jJ i v a b x=4:=by unfold jJ;rw[if_pos (.inr ⟨h,c⟩)]
theorem zG(c:v.ownBlock≠N x)(g:a<=x)(h:b<=x):jJ i v a b x=3:=by unfold jJ;rw[if_neg (by intro e;rcases e with e|e;exact c e;omega),if_pos g]
theorem gP(c:v.ownBlock≠N x)(h:x<a):jJ i v a b x=i x:=by unfold jJ;rw[if_neg (by intro e;rcases e with e|e;exact c e;omega),if_neg O]
theorem oI{C:Nat}(K:Ma->au)(h:WS w d z B r n y i)(H:∀x,v.ownBlock=N x->i x=0/\x<w.heap.size)(Y:aH (λx=>x=d) w q)(d0:q.cell? ⟨d,0,S⟩=N z)(d1:q.cell? ⟨d,1,S⟩=N B)(d2:q.cell? ⟨d,2,S⟩=N (Q I m))(d3:q.cell? ⟨d,3,S⟩=N r)(Z:∀j,q.frozen? ⟨d,j,S⟩=false)(P:aH (λx=>v.ownBlock=N x) q f)(hH:FM f e s M v C)(hl:C+3<=1000000000){D E ca cb cc:Nat}(qa:v.ownBlock=N D\/q.heap.size<=D)(qb:v.ownBlock=N E\/q.heap.size<=E)(qc:v.ownBlock=N F\/q.heap.size<=F)(la:D<f.heap.size)(lb:E<f.heap.size)(lc:F<f.heap.size)(fa:∀k,k<C+1->f.rangeAt D (k*s) M)(fb:∀k,k<C+2->f.rangeAt E (k*s) M)(fc:∀k,k<C+3->f.rangeAt F (k*s) M)(R:aH (λx=>r.ownBlock=N x) f t)(a1:∀x,kv'.ownBlock=N x->r.ownBlock=N x\/f.heap.size<=x)(hr:t.ownsRow 1 78 5 kv' (y.length+4) (eO (y++[K v,K (MR (N ⟨D,0,S⟩) (C+1) ca),K (MR (N ⟨E,0,S⟩) (C+2) cb),K (MR (N ⟨F,0,S⟩) (C+3) cc)])))(hK:∀(W:MV) (c:Nat->Nat) u,qN W c s u M->(K u).Ok W c):aH (λx=>x=d\/r.ownBlock=N x\/v.ownBlock=N x) w (t.setCell ⟨d,3,S⟩ kv')/\WS (t.setCell ⟨d,3,S⟩ kv') d z B kv' m (y++[K v,K (MR (N ⟨D,0,S⟩) (C+1) ca),K (MR (N ⟨E,0,S⟩) (C+2) cb),K (MR (N ⟨F,0,S⟩) (C+3) cc)]) (jJ i v w.heap.size f.heap.size)/\∀x,x<w.heap.size->i x≠0->jJ i v w.heap.size f.heap.size x=i x:=by
 have a3:d<w.heap.size:=MO h.c0;have T:v.ownBlock≠N d:=λe=>by have:=(H d e).1;rw[h.cw]at this;omega
 have a4:r.ownBlock≠N d:=λe=>by have:=h.cK d e;rw[h.cw]at this;omega
 have a5:∀x,r.ownBlock=N x->x<w.heap.size:=λx a=>h.rK.lt a;have a6:∀x,r.ownBlock=N x->v.ownBlock≠N x:=λx a e=>by have:=(H x e).1;rw[h.cK x a]at this;omega
 have s2:=Y.size;have s7:=P.size;have s8:=R.size;have e0:kv'.ownBlock≠N d:=λe=>by rcases a1 d e with e|e;exact a4 e;omega
 have a7:∀x,x<w.heap.size->i x≠0->jJ i v w.heap.size f.heap.size x=i x:=λx a h0=>gP (λe=>h0 (H x e).1) a;have U:aH (λx=>x=d\/r.ownBlock=N x) f (t.setCell ⟨d,3,S⟩ kv'):=aH.setCell (p:=⟨d,3,S⟩) (R.mono λx _ a=>.inr a) (.inl (.inl rfl)) kv';have a8:aH (λx=>x=d\/r.ownBlock=N x\/v.ownBlock=N x) w (t.setCell ⟨d,3,S⟩ kv'):=((Y.mono λx _ a=>.inl a).trans (P.mono λx _ a=>.inr (.inr a))).trans (U.mono λx _ a=>a.imp id .inl);have V:∀j,t.cell? ⟨d,j,S⟩=q.cell? ⟨d,j,S⟩/\t.frozen? ⟨d,j,S⟩=q.frozen? ⟨d,j,S⟩:=λj=>jr.aS ((R.block d O a4).trans (P.block d O T)) j;have J:=jr.set (o:=3) V kv';have a9:∀x,(x=d\/r.ownBlock=N x)->x<f.heap.size->jJ i v w.heap.size f.heap.size x≠4:=λx a _=>by
  rcases a with rfl|a
  ·rw[gP T a3,h.cw];omega
  ·rw[gP (a6 x a) (a5 x a),h.cK x a];omega
 have X:∀b l c,(v.ownBlock=N b\/q.heap.size<=b)->b<f.heap.size->l<=1000000000->(∀k,k<l->f.rangeAt b (k*s) M)->(K (MR (N ⟨b,0,S⟩) l c)).Ok (t.setCell ⟨d,3,S⟩ kv') (jJ i v w.heap.size f.heap.size):=λb l c L b0 hl hf=>by
  refine hK _ _ _ ((ww hl ?_ b0 hf).aj U a9 λ_ _ _=>rfl);rcases L with L|L
  ·exact qB L
  ·exact Ep O b0
 refine⟨a8,⟨(J 0 US).1.trans d0,(J 1 US).1.trans d1,(J 2 US).1.trans d2,?_,λj=>?_,⟨?_,λe=>by simp at e⟩,?_,λx a=>?_,λk G=>?_⟩,a7⟩
 ·exact Nf _ _ _ ((V 3).1.trans d3)
 ·by_cases hj:j=3
  ·subst hj;rw[Ni];exact(V 3).2.trans (Z 3)
  ·exact(J j hj).2.trans (Z j)
 ·have e3:=aY (w':=t.setCell ⟨d,3,S⟩ kv') hr λg hg=>Below.heap_setCell _ _ _ _ λe=>e0 (by rw[hg];exact congrArg N e);rw[Mz];exact e3
 ·rw[gP T a3,h.cw]
 ·rcases a1 x a with e|e
  ·rw[gP (a6 x e) (a5 x e),h.cK x e]
  ·exact zG (λe'=>by have:=(H x e').2;omega) O e
 ·rcases Od.1 G with G|G
  ·exact(h.kept k G).aj a8 (λx a _=>by rcases a with rfl|a|a;(rw[h.cw];omega);(rw[h.cK x a];omega);(rw[(H x a).1];omega)) a7
  ·simp only[List.mem_cons,List.not_mem_nil,or_false]at G;rcases G with rfl|rfl|rfl|rfl
   ·exact hK _ _ _ ((hH.full O λx a=>qB a).aj U a9 λ_ _ _=>rfl)
   ·exact X _ _ _ qa la O fa
   ·exact X _ _ _ qb lb O fb
   ·exact X _ _ _ qc lc O fc
end
def vD(x:Int)(j:Nat):Array Value:=(oC [Q I x,Q I 0,Q I 0,Q I 0,Q I 0,Q I 0,Q I 0,Q I 0,Q I 0,Q I 0,Q I 0,Q I 0,Q I 0,Q I 0,Q I 0,Q I 0,Q I 0,Q I 0,Q I 0] j).toArray
theorem zH:(prog.info? 78).map (λi=>(i.zero,i.size,i.bytes))=N (N (M1 #[Q I 0,MR S 0 0,MR S 0 0,MR S 0 0,MR S 0 0]),5,104):=UR
theorem lJ:prog.underlying 29=N (.slice 78):=UR
theorem Uf{c:Ma}{a N:List au}{A:Array Ma}(h:iX w 78 5 c a.length (eO a))(G:a.length+4<=100000000000)(H:1<=w.heap.size)(i:N.length=4)(v:A.toList=eO N)(k:∀u∈eO N,u.oneCell'=true):∃g d f,(Builtin.append_ #[29,29] 29 #[c,MR (some ⟨w.heap.size,0,S⟩) 4 4]).run MT (w.alloc (MY A 78)).drew=.ok (MR (some ⟨g,0,S⟩) (a.length+4) d) f/\f.ownsRow 1 78 5 (MR (some ⟨g,0,S⟩) (a.length+4) d) (a.length+4) (eO (a++N))/\aH (λx=>c.ownBlock=some x) w f/\(c.ownBlock=some g\/w.heap.size<=g):=by
 obtain⟨l,m,n,o,p⟩:=info_parts zH;have q:(w.alloc (MY A 78)).drew.ownsRow 1 78 5 c a.length (eO a):=h.1.alloc _;have r:∀j u,(eO N)[j]?=some u->(w.alloc (MY A 78)).drew.cell? ((⟨w.heap.size,0,S⟩:Oz).add j)=some u:=λj u y=>by
  rw[Addr.add_mid];exact aN w A 78 j u (by rw[v];exact y)
 have J:(w.alloc (MY A 78)).drew.heap.size=w.heap.size+1:=by simp
 obtain⟨z,f,s,t,B,K⟩:=run_append_own (P:=MT) (w.alloc (MY A 78)).drew 1 29 29 78 l _ 5 104 lJ m n o p rfl US c a.length (eO a) q ⟨w.heap.size,0,S⟩ 4 4 (eO N) (by rw[kA,i]) r k UT O O;have C:=gA (P:=MT) (w.alloc (MY A 78)).drew 1 29 29 78 l _ 5 104 lJ m n o p c a.length (eO a) q ⟨w.heap.size,0,S⟩ 4 4 (eO N) (by rw[kA,i]) r k UT O s;have D:∃g d,z=MR (some ⟨g,0,S⟩) (a.length+4) d:=by
  rcases t.2 with⟨e,L⟩|⟨g,d,_,e,_⟩
  ·omega
  ·exact⟨g,d,e⟩
 obtain⟨g,d,rfl⟩:=D;refine⟨g,d,f,s,?_,?_,?_⟩
 ·rw[qi];exact t
 ·have E:aH (λb=>c.ownBlock=some b) w (w.alloc (MY A 78)).drew:=aH.aG (((Below.refl _ w).alloc (MP _) _).drew);exact E.trans (aH.grown B λ_ F=>F)
 ·rcases C g rfl with h|h
  ·exact .inl h
  ·exact .inr O
theorem CZ(x:Int)(a b c d:Option Oz)(e f g h i j k l:Nat)(w:MV):(Instr.buildSlice 29 4 #[(0,M1 #[Q I x,MR a e i,MR S 0 0,MR S 0 0,MR S 0 0]),(1,M1 #[Q I x,MR b f j,MR S 0 0,MR S 0 0,MR S 0 0]),(2,M1 #[Q I x,MR c g k,MR S 0 0,MR S 0 0,MR S 0 0]),(3,M1 #[Q I x,MR d h l,MR S 0 0,MR S 0 0,MR S 0 0])]).run MT w=.ok (MR (N ⟨w.heap.size,0,S⟩) 4 4) (w.alloc (MY #[Q I x,MR a e i,MR S 0 0,MR S 0 0,MR S 0 0,Q I x,MR b f j,MR S 0 0,MR S 0 0,MR S 0 0,Q I x,MR c g k,MR S 0 0,MR S 0 0,MR S 0 0,Q I x,MR d h l,MR S 0 0,MR S 0 0,MR S 0 0] 78)):=UR
def tD(m:Nat)(u:Ma):au:=⟨m,u,MR S 0 0,MR S 0 0,MR S 0 0⟩
theorem Gq{m:Nat}(a:m<=100000000000)(W:MV)(c:Nat->Nat)(u:Ma)(h:qN W c 19 u (Gc m).cells.toList):(tD m u).Ok W c:=⟨a,h,qN.nil _ _,qN.nil _ _,qN.nil _ _⟩
def AD(W:MV)(e:NL)(s:Nat)(M:List Ma)(v:Ma)(a j:Nat):Prop:=(v=MR S 0 0/\a=0)\/∃g b c,v=MR (N ⟨g,0,S⟩) a b/\W.heap[g]?=N (MY c e (0,0))/\c.size=b*s/\a<=b/\∀k,k<j->W.rangeAt g (k*s) M
theorem kH:∀(b:List Ma) (o:Nat) {W:MV} {a:Array Ma},W.heap[g]?=N (MY a e (0,0))->∃c,(W.setCells g o b).heap[g]?=N (MY c e (0,0))/\c.size=a.size
 |[],_,_,a,h=>⟨a,h,rfl⟩
 |u::b,o,W,a,h=>by
  obtain⟨d,f,i⟩:=kH b (o+1) (heap_setCell_same W g o a e u h);exact⟨d,f,i.trans (by simp)⟩
theorem Dm{a:Array Ma}(h:W.heap[g]?=N (MY a e (0,0)))(b:o+s<=a.size):W.there g o s:=λj d=>by
 have c:W.cell? ⟨g,o+j,S⟩=a.toList[o+j]?:=bA h;refine⟨?_,?_⟩
 ·rw[c,NZ (by rw[Nl];omega)];rfl
 ·simp[World.frozen?,h]
theorem AD.nL(h:AD W e s M (MR (N ⟨g,0,S⟩) a b) a j)(z:M.length=s)(B:j<a):W.there g (j*s) s/\AD (W.setCells g (j*s) M) e s M (MR (N ⟨g,0,S⟩) a b) a (j+1):=by
 rcases h with⟨e,-⟩|⟨C,D,i,l,d,m,n,o⟩
 ·cases e
 ·cases l;have p:j*s+s<=i.size:=by
   have:(j+1)*s<=b*s:=NX s O;rw[OI]at this;omega
  have f:=Dm d p;obtain⟨r,t,v⟩:=kH M (j*s) d;refine⟨f,.inr ⟨g,b,r,rfl,t,v.trans m,n,λk E q u c=>?_⟩⟩;have F:q<s:=by have:=(OR.1 c).1;omega
  by_cases w:k=j
  ·subst w;have x:=World.cell?_setCells_in g M (k*s) W (λy G=>(f y O).1) q O;rw[x];exact((NZ O).symm.trans c)
  ·rw[World.cell?_setCells_out g M (j*s) W ⟨g,k*s+q,S⟩ λ_ _=>?_]
   ·exact o k O q u c
   ·left;show k*s+q<j*s;have:(k+1)*s<=j*s:=NX s O;rw[OI]at this;omega
section
attribute [local go_sem] Oper.semAt_some aI
attribute [local go_sem ↓ high] CZ
attribute [local go_sem ↓ high] ia qT fj
theorem aH.setCells{X:Nat->Prop}{a:MV}:∀(c:List Ma) (o:Nat) {b:MV},X g\/a.heap.size<=g->aH X a b->aH X a (b.setCells g o c)
 |[],_,_,_,h=>h
 |v::c,o,_,d,h=>aH.setCells c (o+1) d (aH.setCell (p:=⟨g,o,S⟩) h d v)
theorem EJ(W:MV)(x:Int)(j:Nat):∀q u,(oC [Q I x,Q I 0,Q I 0,Q I 0,Q I 0,Q I 0,Q I 0,Q I 0,Q I 0,Q I 0,Q I 0,Q I 0,Q I 0,Q I 0,Q I 0,Q I 0,Q I 0,Q I 0,Q I 0] j)[q]?=N u->(W.alloc (MY (vD x j) 37)).cell? ((⟨W.heap.size,0,S⟩:Oz).add q)=N u:=λq u a=>by
 rw[Addr.add_mid];exact aN W (vD x j) 37 q u (by unfold vD;rw[OS];exact a)
theorem FM.alloc(h:FM w e s M v c)(b:Obj):FM (w.alloc b) e s M v c:=by
 rcases h with h|⟨g,i,j,l,d,m,n,o⟩
 ·exact .inl h
 ·have f:g<w.heap.size:=(Mu.1 d).1;exact .inr ⟨g,i,j,l,(ON w b f).trans d,m,n,λk p q u r=>(Mj (a:=⟨g,k*s+q,S⟩) (ON w b f)).trans (o k p q u r)⟩
theorem mZ{x:Int}(h:FM W 37 19 [Q I x,Q I 0,Q I 0,Q I 0,Q I 0,Q I 0,Q I 0,Q I 0,Q I 0,Q I 0,Q I 0,Q I 0,Q I 0,Q I 0,Q I 0,Q I 0,Q I 0,Q I 0,Q I 0] v a)(j:Nat)(i:0<j/\j<=3)(q:a<=1000):∃b e d,(nl #[54,54] 54 #[v,MR (N ⟨W.heap.size,0,S⟩) j j]).run MT (W.alloc (MY (vD x j) 37))=.ok (.value (MR (N ⟨b,0,S⟩) (a+j) e)) d/\ax W d 37 19 [Q I x,Q I 0,Q I 0,Q I 0,Q I 0,Q I 0,Q I 0,Q I 0,Q I 0,Q I 0,Q I 0,Q I 0,Q I 0,Q I 0,Q I 0,Q I 0,Q I 0,Q I 0,Q I 0] v a j b:=by
 obtain⟨r,l,m,n,o⟩:=info_parts pI;have f:Below W.heap.size W (W.alloc (MY (vD x j) 37)):=(Below.refl _ W).alloc (MP _) _;obtain⟨b,e,d,p,G⟩:=oP (P:=MT) (ty:=54) (c:=j) ib l m n o (M:=[Q I x,Q I 0,Q I 0,Q I 0,Q I 0,Q I 0,Q I 0,Q I 0,Q I 0,Q I 0,Q I 0,Q I 0,Q I 0,Q I 0,Q I 0,Q I 0,Q I 0,Q I 0,Q I 0]) rfl oc (h.alloc (MY (vD x j) 37)) j (EJ W x j) i.1 UT O;refine⟨b,e,d,e9 p,⟨(aH.aG f).trans G.chg,G.blk.imp id λh=>Mx f.size h,G.lt,G.full,G.hld,λg k h=>G.still g k (aO h f)⟩⟩
theorem BU(w:MV)(b:Nat)(tv sv D v:Ma)(n d:Nat)(E:List au)(a0:Nat->Nat)(h:WS w b tv sv D n E a0)(hv:KP w 37 19 v d)(hc:∀x,v.ownBlock=some x->a0 x=0)(hl:d<=1000)(hn:n<100000000000)(hK:E.length+4<=100000000000):Calls MT 30 #[MQ (some ⟨b,0,S⟩),v] w λe W=>e=.returned (.tuple #[])/\∃i4 f4 f5,f4.length=E.length+4/\WS W b tv sv i4 (n+1) f4 f5/\aH (λx=>x=b\/D.ownBlock=some x\/v.ownBlock=some x) w W/\∀x,x<w.heap.size->a0 x≠0->f5 x=a0 x:=by
 obtain⟨dr,b6,b9⟩:=dJ;obtain⟨m,hm⟩:=UX (n+1:Nat);have i5:IntKind.i64.wrap ((n:Int)+1)=(m:Int):=by rw[Mm];omega
 have l4:IntKind.i64.wrap (-(m:Int))= -(m:Int):=by rw[Mm];omega
 have M:=h.c2;have h3:=h.c3;have f7:b<w.heap.size:=MO M;have f2:=h.frz 2;have i8:(∃a c,v=MR a d c)/\∀x,v.ownBlock=some x->x<w.heap.size:=by
  rcases hv with⟨rfl,rfl⟩|⟨g,a2,a3,rfl,F,-⟩
  ·exact⟨⟨_,_,rfl⟩,λx l=>by cases l⟩
  ·exact⟨⟨_,_,rfl⟩,λx l=>by cases l;exact(Mu.1 F).1⟩
 obtain⟨⟨q,o,i9⟩,f9⟩:=i8;have c0:v.ownBlock≠some b:=λe=>by have:=hc b e;rw[h.cw]at this;omega
 obtain⟨f,G⟩:=UX ((w.setCell ⟨b,2,S⟩ (Q I m)).alloc (MY #[Q I (-(m:Int)),Q I 0,Q I 0,Q I 0,Q I 0,Q I 0,Q I 0,Q I 0,Q I 0,Q I 0,Q I 0,Q I 0,Q I 0,Q I 0,Q I 0,Q I 0,Q I 0,Q I 0,Q I 0] 37));have a4:(w.setCell ⟨b,2,S⟩ (Q I m)).heap.size=w.heap.size:=by simp
 have j0:(pj (MQ (some ⟨w.heap.size,0,S⟩)) (M1 #[Q I (-(m:Int)),Q I 0,Q I 0,Q I 0,Q I 0,Q I 0,Q I 0,Q I 0,Q I 0,Q I 0,Q I 0,Q I 0,Q I 0,Q I 0,Q I 0,Q I 0,Q I 0,Q I 0,Q I 0])).run MT ((w.setCell ⟨b,2,S⟩ (Q I m)).alloc (MY #[Q I 0,Q I 0,Q I 0,Q I 0,Q I 0,Q I 0,Q I 0,Q I 0,Q I 0,Q I 0,Q I 0,Q I 0,Q I 0,Q I 0,Q I 0,Q I 0,Q I 0,Q I 0,Q I 0] 37))=.ok () f:=by
  have:=run_storeAt_new (P:=MT) (w.setCell ⟨b,2,S⟩ (Q I m)) 37 #[Q I 0,Q I 0,Q I 0,Q I 0,Q I 0,Q I 0,Q I 0,Q I 0,Q I 0,Q I 0,Q I 0,Q I 0,Q I 0,Q I 0,Q I 0,Q I 0,Q I 0,Q I 0,Q I 0] #[Q I (-(m:Int)),Q I 0,Q I 0,Q I 0,Q I 0,Q I 0,Q I 0,Q I 0,Q I 0,Q I 0,Q I 0,Q I 0,Q I 0,Q I 0,Q I 0,Q I 0,Q I 0,Q I 0,Q I 0] ay rfl oc;rw[a4]at this;rw[G];exact this
 have c1:aH (λx=>x=b) w (w.setCell ⟨b,2,S⟩ (Q I m)):=aH.setCell (X:=λx=>x=b) (p:=⟨b,2,S⟩) (aH.refl _ w) (.inl rfl) _;have c2:aH (λx=>x=b) w f:=by rw[G];exact c1.trans (aH.aG ((Below.refl _ _).alloc (MP _) _))
 have o1:jr w (w.setCell ⟨b,2,S⟩ (Q I m)) b 2:=jr.set (λ_=>⟨rfl,rfl⟩) _;have H:∀j,f.cell? ⟨b,j,S⟩=(w.setCell ⟨b,2,S⟩ (Q I m)).cell? ⟨b,j,S⟩/\f.frozen? ⟨b,j,S⟩=(w.setCell ⟨b,2,S⟩ (Q I m)).frozen? ⟨b,j,S⟩:=λj=>by
  rw[G];exact jr.aS (ON _ _ (by rw[a4];exact f7)) j
 have d0:=(H 0).1.trans ((o1 0 US).1.trans h.c0);have d1:=(H 1).1.trans ((o1 1 US).1.trans h.c1);have d2:=(H 2).1.trans (Nf _ _ _ M);have d3:=(H 3).1.trans ((o1 3 US).1.trans h3);have df:∀j,f.frozen? ⟨b,j,S⟩=false:=λj=>(H j).2.trans ((Ni _ _ _ _).trans (h.frz j));have bx:f.rangeAt w.heap.size 0 [Q I (-(m:Int)),Q I 0,Q I 0,Q I 0,Q I 0,Q I 0,Q I 0,Q I 0,Q I 0,Q I 0,Q I 0,Q I 0,Q I 0,Q I 0,Q I 0,Q I 0,Q I 0,Q I 0,Q I 0]:=by
  rw[G,<-a4];exact aN _ _ _
 have s2:w.heap.size<f.heap.size:=by rw[G];simp
 have g9:AD f 37 19 [Q I (-(m:Int)),Q I 0,Q I 0,Q I 0,Q I 0,Q I 0,Q I 0,Q I 0,Q I 0,Q I 0,Q I 0,Q I 0,Q I 0,Q I 0,Q I 0,Q I 0,Q I 0,Q I 0,Q I 0] v d 0:=by
  rcases hv with h|⟨g,a2,a3,e,F,M,h3⟩
  ·exact .inl h
  ·refine .inr ⟨g,a2,a3,e,?_,M,h3,λk R=>absurd R (OV k)⟩;have j1:g≠b:=λe'=>c0 (by rw[e,<-e'];rfl);exact(c2.block g (Mu.1 F).1 j1).trans F
 have t:=A h;have HV:=A λx (l:v.ownBlock=some x)=>Mp (hc x l) (f9 x l);have c5:=A c2;have y:=A (Mp d0 (Mp d1 (Mp d2 (Mp d3 df))));have j3:=A bx;have j4:=A g9;have c6:=A c0;have HM:=A hm;have HL:=A hl;have j5:=A hK;have HN:=A hn;have l5:=A s2;have l6:(d:Int)<=1000:=O;subst i9;clear h hv hc f9 c0 a4 c1 c2 o1 H d0 d1 d2 d3 df bx g9 G hm hl hK hn s2 h3;go_enter func30,ntmps30;go_wp2_with fail
 clear j0 i5 M f2 f7;go_loopw [5] (λi wr=>∃j:Nat,j<=d/\i=Q I j/\aH (λx=>(MR q d o).ownBlock=some x) f wr/\AD wr 37 19 [Q I (-(m:Int)),Q I 0,Q I 0,Q I 0,Q I 0,Q I 0,Q I 0,Q I 0,Q I 0,Q I 0,Q I 0,Q I 0,Q I 0,Q I 0,Q I 0,Q I 0,Q I 0,Q I 0,Q I 0] (MR q d o) d j) (λi _=>d- (intOf i).toNat)
 case atStart=>exact⟨0,O,rfl,⟨rfl,rfl,rfl,MP _,λ_ _ _=>rfl⟩,j4.o⟩
 case round=>
  obtain⟨j,hj,rfl,c9,h1⟩:=hrel;have d4:(MR q d o).ownBlock≠some w.heap.size:=λe=>by have:=(HV.o _ e).2;omega
  have T:wr.rangeAt w.heap.size 0 [Q I (-(m:Int)),Q I 0,Q I 0,Q I 0,Q I 0,Q I 0,Q I 0,Q I 0,Q I 0,Q I 0,Q I 0,Q I 0,Q I 0,Q I 0,Q I 0,Q I 0,Q I 0,Q I 0,Q I 0]:=λi u U=>c9.block.cell d4 (j3.o i u U);have l8:(kZ (MQ (some ⟨w.heap.size,0,S⟩))).run MT wr=.ok (M1 #[Q I (-(m:Int)),Q I 0,Q I 0,Q I 0,Q I 0,Q I 0,Q I 0,Q I 0,Q I 0,Q I 0,Q I 0,Q I 0,Q I 0,Q I 0,Q I 0,Q I 0,Q I 0,Q I 0,Q I 0]) wr:=NW wr w.heap.size 0 37 [Q I (-(m:Int)),Q I 0,Q I 0,Q I 0,Q I 0,Q I 0,Q I 0,Q I 0,Q I 0,Q I 0,Q I 0,Q I 0,Q I 0,Q I 0,Q I 0,Q I 0,Q I 0,Q I 0,Q I 0] dr T b6 b9 ay;have m0:w.heap.size<wr.heap.size:=MO (bz T);have J:=A c9;have V:=A h1;clear c9 h1;by_cases k0:j<d
  ·have k1:(j:Int)<d:=by omega
   obtain⟨g,k2⟩:∃g,q=some ⟨g,0,S⟩:=by
    rcases V.o with⟨-,e⟩|⟨g,a2,a3,e,-⟩
    ·omega
    ·cases e;exact⟨g,rfl⟩
   subst k2;obtain⟨ht,h5⟩:=V.o.nL rfl k0;obtain⟨Y,a7⟩:=UX (wr.setCells g (j*19) [Q I (-(m:Int)),Q I 0,Q I 0,Q I 0,Q I 0,Q I 0,Q I 0,Q I 0,Q I 0,Q I 0,Q I 0,Q I 0,Q I 0,Q I 0,Q I 0,Q I 0,Q I 0,Q I 0,Q I 0]);have m1:(pj (MQ (some ⟨g,j*19,S⟩)) (M1 #[Q I (-(m:Int)),Q I 0,Q I 0,Q I 0,Q I 0,Q I 0,Q I 0,Q I 0,Q I 0,Q I 0,Q I 0,Q I 0,Q I 0,Q I 0,Q I 0,Q I 0,Q I 0,Q I 0,Q I 0])).run MT wr=.ok () Y:=by
    rw[a7];exact run_storeAt_mid (P:=MT) wr g (j*19) 37 #[Q I (-(m:Int)),Q I 0,Q I 0,Q I 0,Q I 0,Q I 0,Q I 0,Q I 0,Q I 0,Q I 0,Q I 0,Q I 0,Q I 0,Q I 0,Q I 0,Q I 0,Q I 0,Q I 0,Q I 0] ht ay oc
   have k3:aA (aH (λx=>(MR (some ⟨g,0,S⟩) d o).ownBlock=some x) f Y):=A (by
    rw[a7];exact aH.setCells [Q I (-(m:Int)),Q I 0,Q I 0,Q I 0,Q I 0,Q I 0,Q I 0,Q I 0,Q I 0,Q I 0,Q I 0,Q I 0,Q I 0,Q I 0,Q I 0,Q I 0,Q I 0,Q I 0,Q I 0] (j*19) (.inl rfl) J.o)
   have k4:aA (AD Y 37 19 [Q I (-(m:Int)),Q I 0,Q I 0,Q I 0,Q I 0,Q I 0,Q I 0,Q I 0,Q I 0,Q I 0,Q I 0,Q I 0,Q I 0,Q I 0,Q I 0,Q I 0,Q I 0,Q I 0,Q I 0] (MR (some ⟨g,0,S⟩) d o) d (j+1)):=A (by rw[a7];exact h5);have m2:g<wr.heap.size:=by
    rcases V.o with⟨e,-⟩|⟨g',a2,a3,e,F,-⟩
    ·cases e
    ·cases e;exact(Mu.1 F).1
   clear a7 ht h5 T;go_wp2_with fail
   go_roundw
   case rel=>exact⟨j+1,O,by go_num,k3.o,k4.o⟩
   case measure=>simp[intOf];omega
  ·have k1:¬(j:Int)<d:=by omega
   have k5:j=d:=O;have hH:FM wr 37 19 [Q I (-(m:Int)),Q I 0,Q I 0,Q I 0,Q I 0,Q I 0,Q I 0,Q I 0,Q I 0,Q I 0,Q I 0,Q I 0,Q I 0,Q I 0,Q I 0,Q I 0,Q I 0,Q I 0,Q I 0] (MR q d o) d:=by
    have:=V.o;rw[k5]at this;exact this
   obtain⟨ba,ca,B,ha,z⟩:=mZ hH 1 O HL.o;obtain⟨bb,cb,C,hb,r⟩:=mZ z.hld 2 O HL.o;obtain⟨bc,cc,K,h9,s⟩:=mZ r.hld 3 O HL.o;have m4:(nl #[54,54] 54 #[MR q d o,MR (some ⟨wr.heap.size,0,S⟩) 1 1]).run MT (wr.alloc (MY #[Q I (-(m:Int)),Q I 0,Q I 0,Q I 0,Q I 0,Q I 0,Q I 0,Q I 0,Q I 0,Q I 0,Q I 0,Q I 0,Q I 0,Q I 0,Q I 0,Q I 0,Q I 0,Q I 0,Q I 0] 37))=.ok (.value (MR (some ⟨ba,0,S⟩) (d+1) ca)) B:=ha;have m5:(nl #[54,54] 54 #[MR q d o,MR (some ⟨B.heap.size,0,S⟩) 2 2]).run MT (B.alloc (MY #[Q I (-(m:Int)),Q I 0,Q I 0,Q I 0,Q I 0,Q I 0,Q I 0,Q I 0,Q I 0,Q I 0,Q I 0,Q I 0,Q I 0,Q I 0,Q I 0,Q I 0,Q I 0,Q I 0,Q I 0,Q I (-(m:Int)),Q I 0,Q I 0,Q I 0,Q I 0,Q I 0,Q I 0,Q I 0,Q I 0,Q I 0,Q I 0,Q I 0,Q I 0,Q I 0,Q I 0,Q I 0,Q I 0,Q I 0,Q I 0] 37))=.ok (.value (MR (some ⟨bb,0,S⟩) (d+2) cb)) C:=hb;have m6:(nl #[54,54] 54 #[MR q d o,MR (some ⟨C.heap.size,0,S⟩) 3 3]).run MT (C.alloc (MY #[Q I (-(m:Int)),Q I 0,Q I 0,Q I 0,Q I 0,Q I 0,Q I 0,Q I 0,Q I 0,Q I 0,Q I 0,Q I 0,Q I 0,Q I 0,Q I 0,Q I 0,Q I 0,Q I 0,Q I 0,Q I (-(m:Int)),Q I 0,Q I 0,Q I 0,Q I 0,Q I 0,Q I 0,Q I 0,Q I 0,Q I 0,Q I 0,Q I 0,Q I 0,Q I 0,Q I 0,Q I 0,Q I 0,Q I 0,Q I 0,Q I (-(m:Int)),Q I 0,Q I 0,Q I 0,Q I 0,Q I 0,Q I 0,Q I 0,Q I 0,Q I 0,Q I 0,Q I 0,Q I 0,Q I 0,Q I 0,Q I 0,Q I 0,Q I 0,Q I 0] 37))=.ok (.value (MR (some ⟨bc,0,S⟩) (d+3) cc)) K:=h9;clear ha hb h9;have b1:B.rangeAt w.heap.size 0 [Q I (-(m:Int)),Q I 0,Q I 0,Q I 0,Q I 0,Q I 0,Q I 0,Q I 0,Q I 0,Q I 0,Q I 0,Q I 0,Q I 0,Q I 0,Q I 0,Q I 0,Q I 0,Q I 0,Q I 0]:=λi u U=>z.chg.block.cell d4 (T i u U);have e1:C.rangeAt w.heap.size 0 [Q I (-(m:Int)),Q I 0,Q I 0,Q I 0,Q I 0,Q I 0,Q I 0,Q I 0,Q I 0,Q I 0,Q I 0,Q I 0,Q I 0,Q I 0,Q I 0,Q I 0,Q I 0,Q I 0,Q I 0]:=λi u U=>r.chg.block.cell d4 (b1 i u U);have n0:(kZ (MQ (some ⟨w.heap.size,0,S⟩))).run MT B=.ok (M1 #[Q I (-(m:Int)),Q I 0,Q I 0,Q I 0,Q I 0,Q I 0,Q I 0,Q I 0,Q I 0,Q I 0,Q I 0,Q I 0,Q I 0,Q I 0,Q I 0,Q I 0,Q I 0,Q I 0,Q I 0]) B:=NW B w.heap.size 0 37 [Q I (-(m:Int)),Q I 0,Q I 0,Q I 0,Q I 0,Q I 0,Q I 0,Q I 0,Q I 0,Q I 0,Q I 0,Q I 0,Q I 0,Q I 0,Q I 0,Q I 0,Q I 0,Q I 0,Q I 0] dr b1 b6 b9 ay;have n1:(kZ (MQ (some ⟨w.heap.size,0,S⟩))).run MT C=.ok (M1 #[Q I (-(m:Int)),Q I 0,Q I 0,Q I 0,Q I 0,Q I 0,Q I 0,Q I 0,Q I 0,Q I 0,Q I 0,Q I 0,Q I 0,Q I 0,Q I 0,Q I 0,Q I 0,Q I 0,Q I 0]) C:=NW C w.heap.size 0 37 [Q I (-(m:Int)),Q I 0,Q I 0,Q I 0,Q I 0,Q I 0,Q I 0,Q I 0,Q I 0,Q I 0,Q I 0,Q I 0,Q I 0,Q I 0,Q I 0,Q I 0,Q I 0,Q I 0,Q I 0] dr e1 b6 b9 ay;have L:aH (λx=>(MR q d o).ownBlock=some x) f K:=((J.o.trans z.chg).trans r.chg).trans s.chg;have k6:b<f.heap.size:=MO y.o.1;have e2:K.cell? ⟨b,2,S⟩=some (Q I m):=L.block.cell c6.o y.o.2.2.1;have e3:K.cell? ⟨b,3,S⟩=some D:=L.block.cell c6.o y.o.2.2.2.1;have l0:b<K.heap.size:=MO e2;have i0:iX K 78 5 D E.length (eO E):=by
    have Z:D.ownBlock≠some b:=λe=>by have:=t.o.cK b e;rw[t.o.cw]at this;omega
    refine t.o.rK.aj λx l=>(L.block x (Mi (t.o.rK.lt l) c5.o.size) λe=>?_).trans (c5.o.block x (t.o.rK.lt l) λe=>Z (by rw[l,e]));have:=(HV.o x e).1;rw[t.o.cK x l]at this;omega
   obtain⟨g8,l2,W8,i1,i2,c8,i3⟩:=Uf (N:=[tD m (MR q d o),tD m (MR (some ⟨ba,0,S⟩) (d+1) ca),tD m (MR (some ⟨bb,0,S⟩) (d+2) cb),tD m (MR (some ⟨bc,0,S⟩) (d+3) cc)]) (A:=#[Q I m,MR q d o,MR S 0 0,MR S 0 0,MR S 0 0,Q I m,MR (some ⟨ba,0,S⟩) (d+1) ca,MR S 0 0,MR S 0 0,MR S 0 0,Q I m,MR (some ⟨bb,0,S⟩) (d+2) cb,MR S 0 0,MR S 0 0,MR S 0 0,Q I m,MR (some ⟨bc,0,S⟩) (d+3) cc,MR S 0 0,MR S 0 0,MR S 0 0]) i0 j5.o O rfl rfl (by simp[eO,tD,au.cells,NC]);have n2:=e9 i1;have Z:D.ownBlock≠some b:=λe=>by have:=t.o.cK b e;rw[t.o.cw]at this;omega
   have e8:W8.cell? ⟨b,3,S⟩=some D:=c8.block.cell Z e3;have n3:b<W8.heap.size:=MO e8;have f8:W8.frozen? ⟨b,3,S⟩=false:=by
    rw[(jr.aS (c8.block b l0 Z) 3).2,(jr.aS (L.block b k6 c6.o) 3).2];exact y.o.2.2.2.2 3
   have n6:w.heap.size<B.heap.size:=MO (bz b1);have n7:w.heap.size<C.heap.size:=MO (bz e1);have e5:=A (oI (tD m) t.o HV.o c5.o y.o.1 y.o.2.1 y.o.2.2.1 y.o.2.2.2.1 y.o.2.2.2.2 L s.hld (by have:=HL.o;omega) (z.blk.imp id λh=>Mx J.o.size h) (r.blk.imp id λh=>Mx J.o.size (Mx z.chg.size h)) (s.blk.imp id λh=>Mx J.o.size (Mx z.chg.size (Mx r.chg.size h))) (Mi z.lt (Mx r.chg.size s.chg.size)) (Mi r.lt s.chg.size) s.lt (ca:=ca) (cb:=cb) (cc:=cc) (λk R=>s.still _ _ (r.still _ _ (z.full k R))) (λk R=>s.still _ _ (r.full k R)) s.full c8 (kv':=MR (some ⟨g8,0,S⟩) (E.length+4) l2) (λx l=>by cases l;exact i3) i2 (Gq (by have:=HN.o;have:=HM.o;omega)));clear hH z r s b1 e1 L i0 i1 i2 c8 i3 Z T J V;go_wp2_with fail
   go_region
   go_end0;refine⟨rfl,_,_,_,?_,HM.o▸e5.o.2.1,e5.o.1,e5.o.2.2⟩;simp
end
end Go.Proofs.YtnjalelblbjfiaaGreatDoor
