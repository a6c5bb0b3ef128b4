import Derived.Test.YtnjalelblbjfiaaGreatDoorP33
import Derived.Test.YtnjalelblbjfiaaGreatDoorP13
namespace Go.Proofs.YtnjalelblbjfiaaGreatDoor
set_option maxRecDepth 100000
set_option maxHeartbeats 16000000
open Go.RowKit
open Go.Proofs.Tryz
open Go.Sort (grow)
open Go renaming World→MV,Value→Ma,block_lt_of_cell→MO,Calls→Mo,cell_later→MW
open Go.Addr renaming add_mid→Nx
open Go.Obj renaming cells→MY
open Go.Proofs.Tryz renaming prog→MT
open Go.RowKit renaming Below→Mb
open Go.RowKit.Below renaming refl→MU,heap_setCell→Nh
open Go.Value renaming pointer→MQ,slice→MR,oneCell'→NC,int→Q,string→MS,ownBlock→NF
open Go.World renaming cell?_of_block→Mj,cell?_setCell_same→Nf,frozen?_setCell→Ni,cell?_setCell_other→NT
open List renaming getElem?_map→Oh,getElem?_eq_getElem→NZ,replicate→Nv,length_append→Mz
open Nat renaming le_refl→MP,zero_le→NG,lt_of_le_of_lt→PL,le_trans→Mx
open Option renaming some→N,none→S
open Or renaming inl→Mf,inr→MX
open And renaming intro→Mp
open Go.IntKind renaming i64→I,wrap_i64→Mm
variable {W w:MV}{v:Ma}
theorem JF:(prog.info? 46).map (λi=>(i.zero,i.size,i.bytes))=N (N (MQ S),1,8):=UR
theorem pp:prog.underlying 28=N (.slice 46):=UR
theorem FE{w:MV}{C:Ma}{n p:Nat}{f:List Ma}(h:iX w 46 1 C n f)(hq:∀x j u,C.ownBlock=N x->w.cell? ⟨x,j,S⟩=N u->∃q,u=MQ q)(hn:n<=1000000000)(hs:1<=w.heap.size):∃g d i,(Builtin.append_ #[28,28] 28 #[C,MR (N ⟨w.heap.size,0,S⟩) 1 1]).run MT (w.alloc (MY #[MQ (N ⟨p,0,S⟩)] 46))=.ok (MR (N ⟨g,0,S⟩) (n+1) d) i/\i.ownsRow 1 46 1 (MR (N ⟨g,0,S⟩) (n+1) d) (n+1) (f++[MQ (N ⟨p,0,S⟩)])/\aH (λx=>C.ownBlock=N x) w i/\(C.ownBlock=N g\/w.heap.size<=g)/\∀j u,i.cell? ⟨g,j,S⟩=N u->∃q,u=MQ q:=by
 obtain⟨o,s,y,V,W⟩:=info_parts JF;have X:(w.alloc (MY #[MQ (N ⟨p,0,S⟩)] 46)).ownsRow 1 46 1 C n f:=h.1.alloc _;have Y:∀j u,[MQ (N ⟨p,0,S⟩)][j]?=N u->(w.alloc (MY #[MQ (N ⟨p,0,S⟩)] 46)).cell? ((⟨w.heap.size,0,S⟩:Addr).add j)=N u:=λj u a=>by
  rw[Nx];exact aN w #[MQ (N ⟨p,0,S⟩)] 46 j u a
 have Z:∀u∈[MQ (N ⟨p,0,S⟩)],u.oneCell'=true:=by simp[NC]
 have b3:(w.alloc (MY #[MQ (N ⟨p,0,S⟩)] 46)).heap.size=w.heap.size+1:=by simp
 obtain⟨v',i,a0,a1,a5,b4⟩:=run_append_own (P:=MT) (w.alloc (MY #[MQ (N ⟨p,0,S⟩)] 46)) 1 28 28 46 o _ 1 8 pp s y V W rfl US C n f X ⟨w.heap.size,0,S⟩ 1 1 [MQ (N ⟨p,0,S⟩)] rfl Y Z UT O O;have a6:=gA (P:=MT) (w.alloc (MY #[MQ (N ⟨p,0,S⟩)] 46)) 1 28 28 46 o _ 1 8 pp s y V W C n f X ⟨w.heap.size,0,S⟩ 1 1 [MQ (N ⟨p,0,S⟩)] rfl Y Z UT O a0;have a7:=tu (P:=MT) (λu=>∃q,u=MQ q) (w.alloc (MY #[MQ (N ⟨p,0,S⟩)] 46)) 1 28 28 46 o _ 1 8 pp s y V W C n f X ⟨w.heap.size,0,S⟩ 1 1 [MQ (N ⟨p,0,S⟩)] rfl Y Z UT O US (by intro u a;simp[Value.cells]at a;exact⟨_,a⟩) (λg j u hg a=>hq g j u hg (by rwa[(jr.aS (((MU _ w).alloc (MP _) (MY #[MQ (N ⟨p,0,S⟩)] 46)).block g (h.lt hg)) j).1]at a)) (by intro u a;simp at a;exact⟨_,a⟩) a0;have a8:∃g d,v'=MR (N ⟨g,0,S⟩) (n+1) d:=by
  rcases a1.2 with⟨e,e2⟩|⟨g,d,_,e,_⟩
  ·omega
  ·exact⟨g,d,e⟩
 obtain⟨g,d,rfl⟩:=a8;refine⟨g,d,i,a0,a1,?_,?_,λj u=>a7 g j u rfl⟩
 ·have c1:aH (λb=>C.ownBlock=N b) w (w.alloc (MY #[MQ (N ⟨p,0,S⟩)] 46)):=aH.aG ((MU _ w).alloc (MP _) _);exact c1.trans (aH.grown a5 λ_ hk=>hk)
 ·rcases a6 g rfl with h|h
  ·exact Mf h
  ·exact MX O
theorem LS.J2{w:MV}{z:Ma}{r:List aC}{D:Nat->Nat}{M:Int}(h:LS w z r D M)(d:cP w){x:Nat}(b:z.ownBlock=N x):dg w x:=by
 have a:0<r.length:=by
  rcases Nat.eq_zero_or_pos r.length with a|a
  ·rw[h.row.2 a]at b;cases b
  ·exact a
 have i:w.cell? ⟨x,0,S⟩=N (MQ (N ⟨r[0].p,0,S⟩)):=by
  have:=h.row.1.cells (g:=x) b 0 (MQ (N ⟨r[0].p,0,S⟩)) (by rw[Oh,NZ a];rfl);rwa[Nx]at this
 refine DJ i (h.sw 0 a).c0 (λn e=>by cases e) (λf j=>?_) d;obtain⟨q,e⟩:=h.pS x 1 _ b j;cases e
def wz(p s y J G v t H k m:Nat)(F:Nat->Prop)(a:Ma)(b:List (Int×Ma))(n:Nat)(d:Ma):aC:=⟨p,s,y,a,Nv n ⟨1,λ_=>false⟩,b,k,m,MR S 0 0,[],J,MR S 0 0,[],t,H,F,[],LF,G,v,MR S 0 0,[],tS d n⟩
theorem Hp(a:Ma)(n:Nat):(tS a n).P=Nv n ⟨1,λ_=>false⟩:=by
 show(Nv n jG).map ee.FQ=_;rw[List.map_replicate];congr 1
section
variable {w l B:World}{J G v t H k m n:Nat}{F:Nat->Prop}{L:World}
theorem bu.imp(h:bu w J G v t H k m F L n l)(V:fE w)(p y:Nat)(g:Ma):∃f d,(wz p L.heap.size y J G v t H k m F f d n g).aP l/\(∀b,(wz p L.heap.size y J G v t H k m F f d n g).bV b->w.heap.size<=b/\b<l.heap.size)/\l.cell? ⟨k,1,S⟩=S/\Mb w.heap.size w l/\∀q∈d,q.2=.map none:=by
 obtain⟨f,d,W,X,s,u,Y⟩:=h.Ln V;have Z:=h.ME u (aH.refl _ l);have a0:=(h.lo.block _ (aJ h.n.nr)).trans h.n.nr;have i:=(h.lo.block _ (aJ h.n.nh)).trans h.n.nh;have hH:jA l L.heap.size G v (MR S 0 0) []:=⟨aB u rfl,aB a0 rfl,⟨⟨aB i rfl,aB i rfl,⟨rfl,Mf ⟨rfl,rfl⟩⟩,λj=>bC i j,NG _⟩,λ_=>AE.nil _⟩,List.Pairwise.nil⟩;have x:(wz p L.heap.size y J G v t H k m F f d n g).aP l:=⟨W,Z,hH,X⟩;have P:=h.n.lo.size;refine⟨f,d,x,λb v=>⟨?_,x.lt v⟩,(Mj (a:=⟨k,1,S⟩) (h.lo.block k (MO h.n.nk.1))).trans h.n.k1,h.n.lo.trans (h.lo.mono P),λq o=>by rw[s q o]⟩;rcases v with e|e|e|e|e|⟨q,o,e⟩|e|e|e|e|e|e|e
 ·rw[e];exact P
 ·rw[e];exact h.n.lk
 ·rw[e];exact h.n.lm
 ·cases e
 ·have:=Y b e;omega
 ·rw[s q o]at e;cases e
 ·rw[e];exact h.n.lf
 ·cases e
 ·rw[e];exact h.n.lv
 ·exact h.n.lt b e
 ·rw[e];exact h.n.lr
 ·rw[e];exact h.n.lh
 ·cases e
end
theorem bu.sz{w L l:MV}{J G v t H k m n:Nat}{F:Nat->Prop}(h:bu w J G v t H k m F L n l):dG l H=0:=by
 have a:=(h.lo.block _ (aJ h.n.nv)).trans h.n.nv;unfold dG;rw[a];rfl
def ui(D:Nat->Nat)(s b a i:Nat):Nat->Nat:=λx=>if x<s then D x else if x<b then 6*i+10 else if x<a then 6*i+13 else if x=a then 4 else 7
section
variable {w l B K E:World}{c n:Nat}{C z T:Value}{R:List aL}{r:List aC}{U:List au}{D:Nat->Nat}{M:Int}
theorem Iv{d:aC}{g X:Nat}(h:LW w c C z T n R U D)(s:LS w z r D M)(hM:0<=M)(a2:Mb w.heap.size w l)(hI:d.aP l)(a7:∀b,d.bV b->w.heap.size<=b/\b<l.heap.size)(d5:l.cell? ⟨d.k,1,S⟩=S)(hz:dG l d.vb=0)(c2:Mb l.heap.size l B)(hX:aT B d.y d.x)(c4:∀b,d.x.cR d.y b->l.heap.size<=b)(hp:d.p=B.heap.size)(b3:K=B.alloc (MY #[MQ (N ⟨d.s,0,S⟩),MQ (N ⟨d.y,0,S⟩)] 73))(e0:E.ownsRow 1 46 1 (MR (N ⟨g,0,S⟩) (r.length+1) X) (r.length+1) ((r.map λd=>MQ (N ⟨d.p,0,S⟩))++[MQ (N ⟨B.heap.size,0,S⟩)]))(hc:aH (λx=>z.ownBlock=N x) K E)(P:z.ownBlock=N g\/K.heap.size<=g)(hq:∀j u,E.cell? ⟨g,j,S⟩=N u->∃q,u=MQ q)(eP:d.P=d.x.P)(eK:d.K=[])(xK:d.x.K=[])(n0:0<d.x.Q.length)(n8:d.x.Q.length<=8)(tl:∀q∈d.x.Q,q.T.length<=1000000000)(nt:∀q∈d.x.Q,0<=q.nat/\q.nat<4096)(e8:d.x.kv=MR S 0 0)(f0:d.x.now=0):∃b4,LW (E.setCell ⟨c,1,S⟩ (MR (N ⟨g,0,S⟩) (r.length+1) X)) c C (MR (N ⟨g,0,S⟩) (r.length+1) X) T n R U b4/\LS (E.setCell ⟨c,1,S⟩ (MR (N ⟨g,0,S⟩) (r.length+1) X)) (MR (N ⟨g,0,S⟩) (r.length+1) X) (r++[d]) b4 M/\cz w (E.setCell ⟨c,1,S⟩ (MR (N ⟨g,0,S⟩) (r.length+1) X)) D b4:=by
 have b5:c<w.heap.size:=MO h.c0;have s1:=a2.size;have s2:=c2.size;have s3:K.heap.size=B.heap.size+1:=by rw[b3];simp
 have c6:=UY b3;have c7:Mb l.heap.size l K:=c2.trans (c6.mono s2);have c8:Mb w.heap.size w K:=a2.trans (c7.mono s1);have c9:∀x,z.ownBlock=N x->x<w.heap.size:=λx f=>s.row.lt f;have d0:z.ownBlock≠N c:=λe=>by have:=s.cS c e;rw[h.cw]at this;omega
 have f3:g≠c:=λe=>by
  rcases P with P|P
  ·exact d0 (by rw[P,e])
  ·omega
 obtain⟨W,Z⟩:=UX (E.setCell ⟨c,1,S⟩ (MR (N ⟨g,0,S⟩) (r.length+1) X));rw[<-Z];have a9:aH (λx=>x=c\/z.ownBlock=N x) K W:=by rw[Z];exact aH.setCell (p:=⟨c,1,S⟩) (hc.mono λx _ f=>.inr f) (.inl (.inl rfl)) _
 have y:aH (λx=>x=c\/z.ownBlock=N x) w W:=(aH.aG c8).trans a9;have b6:aH (λx=>x=c\/z.ownBlock=N x) l W:=(aH.aG c7).trans a9;have f4:aH (λx=>x=c\/z.ownBlock=N x) B W:=(aH.aG c6).trans a9;have b9:∀x,(x=c\/z.ownBlock=N x)->dg w x:=λx f=>by
  rcases f with rfl|f
  ·exact h.uH
  ·exact s.J2 h.laid f
 have f5:∀x,(x=c\/z.ownBlock=N x)->dg l x:=λx f=>by
  rcases f with rfl|f
  ·exact(h.still a2).uH
  ·exact(s.still a2).J2 (h.still a2).laid f
 have Y:∀x,(x=c\/z.ownBlock=N x)->D x=1\/D x=7:=λx f=>by
  rcases f with rfl|f
  ·exact .inl h.cw
  ·exact .inr (s.cS x f)
 have a3:∀x,(x=c\/z.ownBlock=N x)->x<w.heap.size:=λx f=>by
  rcases f with rfl|f
  ·exact b5
  ·exact c9 x f
 obtain⟨cl,a4⟩:=UX (ui D w.heap.size l.heap.size B.heap.size r.length);have V:∀x,x<w.heap.size->cl x=D x:=λx f=>by rw[a4];unfold ui;rw[if_pos f]
 have n1:¬(1=c\/z.ownBlock=N 1):=λe=>by have:=Y 1 e;rw[s.c1]at this;omega
 have ob:∀j,E.cell? ⟨c,j,S⟩=w.cell? ⟨c,j,S⟩/\E.frozen? ⟨c,j,S⟩=w.frozen? ⟨c,j,S⟩:=λj=>jr.aS ((hc.block c O d0).trans (c8.block c b5)) j;have o:=jr.set (o:=1) ob (MR (N ⟨g,0,S⟩) (r.length+1) X);rw[<-Z]at o;have f6:E.cell? ⟨c,1,S⟩=N z:=(ob 1).1.trans h.c1;have d1:W.heap[g]?=E.heap[g]?:=by rw[Z];exact Nh _ _ _ _ f3
 have d2:W.heap[d.p]?=N (MY #[MQ (N ⟨d.s,0,S⟩),MQ (N ⟨d.y,0,S⟩)] 73 (0,0)):=by
  rw[a9.block d.p O (λe=>by have:=a3 _ e;omega),hp,b3];exact heap_alloc_new B _
 have cg:cl g=7:=by
  rcases P with P|P
  ·exact(V g (c9 g P)).trans (s.cS g P)
  ·rw[a4];unfold ui;rw[if_neg O,if_neg O,if_neg O,if_neg O]
 have f8:=a7 d.k (.inr (.inl rfl));have f9:d.Ok W cl r.length M:=by
  refine⟨(bA d2).trans rfl,(bA d2).trans rfl,?_,hI.aj b6 n1 λx f _=>⟨f5 x f,λhm=>?_⟩,λb v=>?_,?_,hX.aj λb v g1=>f4.block b g1 λe=>?_,λb v=>?_,eP,eK.trans xK.symm,n0,n8,by rw[xK];exact NG _,tl,λe he=>(by rw[xK]at he;cases he),nt,λe he=>(by rw[xK]at he;cases he),λ_=>e8,by rw[f0];exact⟨Int.le_refl _,hM⟩,?_⟩
  ·rw[a4,hp];unfold ui;rw[if_neg O,if_neg O,if_neg O,if_pos rfl]
  ·have:=a7 x hm;have:=a3 x f;omega
  ·have:=a7 b v;rw[a4];unfold ui;rw[if_neg O,if_pos this.2]
  ·exact(Mj (a:=⟨d.k,1,S⟩) (b6.block d.k f8.2 λe=>by have:=a3 _ e;omega)).trans d5
  ·have:=c4 b v;have:=a3 b e;omega
  ·have h1:=c4 b v;have h2:=hX.AG v;rw[a4];unfold ui;rw[if_neg O,if_neg O,if_pos h2]
  ·have g3:d.bV d.vb:=.inr (.inr (.inr (.inr (.inr (.inr (.inr (.inr (.inl rfl))))))));have:=a7 _ g3;rw[dZ (b6.block d.vb this.2 λe=>by have:=a3 _ e;omega),hz];exact hM
 refine⟨cl,⟨h.laid.iW y.block b9,(o 0 US).1.trans h.c0,by rw[Z];exact Nf _ _ _ f6,(o 2 US).1.trans h.c2,(o 3 US).1.trans h.c3,⟨_,_,_,rfl⟩,λj=>?_,h.rT.aj λx f=>y.block x (h.rT.lt f) λa6=>?_,h.rK.aj λx f=>y.block x (h.rK.lt f) λa6=>?_,(V c b5).trans h.cw,λx f=>(V x (h.rT.lt f)).trans (h.cT x f),λx j u f hu=>h.pT x j u f (by rwa[(jr.aS (y.block x (h.rT.lt f) λa6=>by have:=Y x a6;rw[h.cT x f]at this;omega) j).1]at hu),λx f=>(V x (h.rK.lt f)).trans (h.cK x f),λi hi=>(h.tab i hi).aj y b9 (λx f _=>by have:=Y x f;omega) λx f _=>V x f,λk hk=>(h.kept k hk).aj y (λx f _=>by have:=Y x f;omega) λx f _=>V x f⟩,⟨⟨y.block.cell n1 s.mean.1,y.block.cell n1 s.mean.2.1,y.block.cell n1 s.mean.2.2.1,y.block.cell n1 s.mean.2.2.2⟩,(V 1 (jH s.mean)).trans s.c1,⟨?_,λe=>by simp at e⟩,λx f=>?_,λx j u f hu=>?_,λi hi=>?_⟩,⟨⟨_,y,λx f _=>?_⟩,λx f _=>V x f⟩⟩
 ·rw[Z,Ni,(ob j).2];exact h.frz j
 ·have:=Y x a6;rw[h.cT x f]at this;omega
 ·have:=Y x a6;rw[h.cK x f]at this;omega
 ·rw[Mz,List.map_append];have:=aY (w':=W) e0 λx f=>by cases f;exact d1
  simpa[hp]using this
 ·obtain rfl:g=x:=Option.some.inj f;exact cg
 ·obtain rfl:g=x:=Option.some.inj f;rw[(jr.aS d1 j).1]at hu;exact hq j u hu
 ·by_cases hl:i<r.length
  ·rw[List.getElem_append_left hl];refine(s.sw i hl).aj y n1 (λx f _=>⟨b9 x f,?_⟩) λx f _=>V x f;have:=Y x f;omega
  ·have g5:i=r.length:=by rw[Mz]at hi;simp at hi;omega
   subst g5;rw[List.getElem_append_right (MP _)];simp only[Nat.sub_self,List.getElem_cons_zero];exact f9
 ·have:=Y x f;omega
end
section
attribute [local go_sem] Oper.semAt_some aI
attribute [local go_sem ↓ high] fj
def BS(w:MV)(g a:Nat)(c:Nat->Nat):Prop:=∃h e i n j b f,LW w g h e i n j f c/\LS w e b c ((a:Int)*1000000)/\(∀d∈b,d.qQ)/\n<=a/\f.length<=4*a/\b.length<=a
theorem cz.aG{a:Nat->Nat}(b:Mb w.heap.size w W):cz w W a a:=⟨⟨λ_=>False,aH.aG b,λ_ c=>c.elim⟩,λ_ _ _=>rfl⟩
end
section
attribute [local go_sem] Oper.semAt_some aI
attribute [local go_sem ↓ high] tn
attribute [local go_sem ↓ high] fj
theorem EV(w:MV)(c i:Nat)(tv sv X:Ma)(n:Nat)(Ts:List aL)(Ss:List aC)(Ks:List au)(a1:Nat->Nat)(M:Int)(ki oa E F oK:Int)(oS:ByteArray)(D:Option Addr)(l B:Nat)(r:Rl)(x0 x1 x2 x3 x4:Int)(T:List Int)(h:LW w c tv sv X n Ts Ks a1)(hs:LS w sv Ss a1 M)(hi:i<Ss.length)(hT:iY w (MR D l B) T)(t5:l<=B)(t7:T.length<=100000000)(t8:∀t∈T,(Lit.int I t).wf=true)(t9:∀b,(MR D l B).ownBlock=some b->0<T.length->a1 b=4)(hn:n<100000000000)(hK:Ks.length+1<=100000000000):Mo MT 27 #[MQ (some ⟨c,0,S⟩),MQ (some ⟨Ss[i].p,0,S⟩),.agg #[Q I ki,Q I oa,Q I E,Q I F,Q I oK,MS oS,MR D l B,Q I r.id,Q I r.pr,Q I r.k0,Q I r.v0,Q I r.m0,Q I r.k1,Q I r.v1,Q I r.m1,Q I r.k2,Q I r.v2,Q I r.m2,Q I r.k3,Q I r.v3,Q I r.m3,Q I r.k4,Q I r.v4,Q I r.m4,Q I r.ac,Q I r.po,Q I x0,Q I x1,Q I x2,Q I x3,Q I x4]] w λe W=>e=.returned (.bool true)/\∃g3 b9 Y d',b9.length=Ks.length+1/\LW W c tv sv g3 (n+1) Ts b9 Y/\LS W sv (Ss.set i d') Y M/\Ss[i].iC d'/\cz w W a1 Y:=by
 have hd:=hs.sw i hi;obtain⟨d,e6⟩:=UX (Ss[i]);rw[<-e6]at hd⊢;have d2:T.length=l:=by obtain⟨a,P,b,T4,e,_⟩:=hT;injection e with _ e _;exact e.symm
 obtain⟨m,hm⟩:=UX (n+1:Nat);have H8:IntKind.i64.wrap ((n:Int)+1)=(m:Int):=by rw[Mm];omega
 have T5:IntKind.i64.wrap (-(m:Int))= -(m:Int):=by rw[Mm];omega
 obtain⟨l1,p2⟩:=UX (l+1:Nat);obtain⟨y,p3⟩:=UX (l+2:Nat);have J0:IntKind.i64.wrap ((l:Int)+1)=(l1:Int):=by rw[Mm];omega
 obtain⟨W1,g5⟩:=UX (w.alloc (MY #[Q I ki,Q I oa,Q I E,Q I F,Q I oK,MS oS,MR D l B,Q I r.id,Q I r.pr,Q I r.k0,Q I r.v0,Q I r.m0,Q I r.k1,Q I r.v1,Q I r.m1,Q I r.k2,Q I r.v2,Q I r.m2,Q I r.k3,Q I r.v3,Q I r.m3,Q I r.k4,Q I r.v4,Q I r.m4,Q I r.ac,Q I r.po,Q I x0,Q I x1,Q I x2,Q I x3,Q I x4] 41));obtain⟨f,k0⟩:=UX w.heap.size;have g6:=UY g5;have z:W1.rangeAt f 0 [Q I ki,Q I oa,Q I E,Q I F,Q I oK,MS oS,MR D l B,Q I r.id,Q I r.pr,Q I r.k0,Q I r.v0,Q I r.m0,Q I r.k1,Q I r.v1,Q I r.m1,Q I r.k2,Q I r.v2,Q I r.m2,Q I r.k3,Q I r.v3,Q I r.m3,Q I r.k4,Q I r.v4,Q I r.m4,Q I r.ac,Q I r.po,Q I x0,Q I x1,Q I x2,Q I x3,Q I x4]:=by rw[g5,k0];exact aN _ _ _
 have u4:c<w.heap.size:=MO h.c0;have k6:W1.cell? ⟨f,6,S⟩=some (MR D l B):=z 6 _ rfl;have d3:f<W1.heap.size:=MO k6;obtain⟨ta,c1,W2,u6,u7,p4⟩:=AB (hT.aD g6) O (PL (NG _) d3);obtain⟨g,P,C,u8,u9,v0⟩:=IR u7 p4.size (PL (NG _) d3) O;have p5:=e9 u6;have p6:=e9 u8;obtain⟨gc,q6,k1,k2,v1,J1,v4,v5,v6⟩:=BI u9;have v7:W1.heap.size=w.heap.size+1:=by rw[g5];simp
 rw[d2]at p5 p6 q6 k1 k2;rw[<-p3]at p6 k2;rw[<-p2]at k1;rw[v7,g5]at p5;have e7:Mb W1.heap.size W1 C:=p4.trans v0;have c4:Mb w.heap.size w C:=g6.trans (e7.mono g6.size);have s1:=g6.size;have J2:=e7.size;have v9:w.heap.size<=g:=Mx s1 v1;have j2:C.cell? ⟨f,2,S⟩=some (Q I E):=MW e7 (z 2 _ rfl);have j3:C.cell? ⟨f,3,S⟩=some (Q I F):=MW e7 (z 3 _ rfl);have j6:C.cell? ⟨f,6,S⟩=some (MR D l B):=MW e7 k6;have p0:=MW c4 hd.c0;have K0:d.p<C.heap.size:=MO p0;have K1:f<C.heap.size:=MO j6;have w2:ir C (MR (some ⟨g,0,S⟩) l P) T:=⟨_,P,g,by rw[d2],λj hj=>⟨rfl,gc j hj⟩⟩;obtain⟨rs,q9⟩:=UX (eJ d.P E F T);have CP:aA (Mo MT 22 #[MQ (some ⟨d.s,0,S⟩),Q I E,Q I F,MR (some ⟨g,0,S⟩) l P] C.drew λe K=>e=.returned (Q I rs)/\(∃Q',aQ K d.pv (eT d.P E F T) Q'/\nK C.drew d.Q Q')/\aH (λb=>d.pv.ownBlock=some b) C.drew K):=A (by
  have w5:Mb w.heap.size w C.drew:=c4.drew;have:=ul d.s d.pv d.P d.Q E F T (MR (some ⟨g,0,S⟩) l P) C.drew (MW w5 hd.imp.p.h0) (hd.imp.o.aD w5) (w2.aD ((MU _ C).drew)) t8 O;rw[<-q9]at this;exact this)
 have U0:(l:Int)<=P:=O;have U1:¬P=0:=O;have U2:(l:Int)<y:=O;have U3:(l1:Int)<y:=O;have U4:(y:Int)<=200000000:=O;have g9:∀b,d.pv.ownBlock=some b->b<w.heap.size/\a1 b=6*i+10:=λb hb=>⟨by rw[e6]at hb;exact(hs.sw i hi).imp.lt (MX (MX (MX (MX (Mf hb))))),hd.cI b (MX (MX (MX (MX (Mf hb)))))⟩;have k3:¬f=c:=O;have U5:¬c=f:=O;have w6:¬g=c:=O;have w7:¬c=g:=O;have k4:¬f=g:=O;have w8:d.pv.ownBlock≠some f:=λe=>by have:=(g9 _ e).1;omega
 have w9:d.pv.ownBlock≠some g:=λe=>by have:=(g9 _ e).1;omega
 have x5:d.pv.ownBlock≠some c:=λe=>by have:=(g9 _ e).2;rw[h.cw]at this;omega
 have x7:d.pv.ownBlock≠some d.p:=λe=>by have:=(g9 _ e).2;rw[hd.cp]at this;omega
 have v2:=MW c4 h.c2;have v3:=MW c4 h.c3;have vf:∀j,C.frozen? ⟨c,j,S⟩=false:=λj=>by rw[(jr.aS (c4.block c u4) j).2];exact h.frz j
 have Z:=A h;have HS:=A hs;have R:=A hd;have HT:=A hT;have a9:=A (Mp t5 (Mp t7 (Mp t9 (Mp hn hK))));have k9:=A e6;have f5:=A d2;have HM:=A hm;have c7:=A c4;have HG:=A (Mp gc (Mp q6 (Mp k1 (Mp k2 (Mp J1 (Mp v5 v6))))));have HL:=A (Mp p2 p3);have d4:=A v9;have l5:=A q9;have HJ:=A (Mp j2 (Mp j3 (Mp j6 (Mp p0 (MW c4 hd.c1)))));have HV:=A (Mp v2 (Mp v3 vf));have h9:=A k0;have J:=A (Mp w8 (Mp w9 (Mp x5 x7)));clear h hs hd hT t5 t7 t8 t9 hn hK e6 d2 hm g6 c4 e7 p4 v0 u6 u8 u7 u9 gc q6 k1 k2 v1 v5 v6 p2 p3 w2 v9 z q9 u4 k6 d3 g9 w8 w9 x5 x7 v2 v3 vf s1 J2 v7;go_enter func27,ntmps27;go_wp2_with fail
 rw[<-k0];clear p5 p6 g5 k0;go_region_held3 (λK=>K.cell? ⟨f,2,S⟩=some (Q I E)/\K.cell? ⟨f,3,S⟩=some (Q I F)/\K.cell? ⟨f,6,S⟩=some (MR D l B)/\K.cell? ⟨d.p,0,S⟩=some (MQ (some ⟨d.s,0,S⟩))) (go_keep)
  (first|(go_at_call 22;refine CP.o.mono ?_;rintro e s ⟨rfl,hI⟩;have b2:s.cell? ⟨f,2,S⟩=some (Q I E):=hI.2.block.cell J.o.1 HJ.o.1;have b3:s.cell? ⟨f,3,S⟩=some (Q I F):=hI.2.block.cell J.o.1 HJ.o.2.1;have b6:s.cell? ⟨f,6,S⟩=some (MR D l B):=hI.2.block.cell J.o.1 HJ.o.2.2.1;have b0:s.cell? ⟨d.p,0,S⟩=some (MQ (some ⟨d.s,0,S⟩)):=hI.2.block.cell J.o.2.2.2 HJ.o.2.2.2.1;have HI:=A hI;clear hI))
 obtain⟨⟨Q',y4,y6⟩,d0⟩:=HI.o;have l7:aH (λb=>d.pv.ownBlock=some b) C s:=(aH.aG ((MU _ C).drew)).trans d0;have a3:=A (Mp y4 (Mp y6 l7));have p1:s.cell? ⟨d.p,1,S⟩=some (MQ (some ⟨d.y,0,S⟩)):=d0.block.cell J.o.2.2.2 HJ.o.2.2.2.2;have y7:s.cell? ⟨g,l,S⟩=some (Q I 77):=d0.block.cell J.o.2.1 HG.o.2.1;have y8:s.cell? ⟨g,l1,S⟩=some (Q I 77):=d0.block.cell J.o.2.1 HG.o.2.2.1;have v2:s.cell? ⟨c,2,S⟩=some (Q I n):=d0.block.cell J.o.2.2.1 HV.o.1;have v3:s.cell? ⟨c,3,S⟩=some X:=d0.block.cell J.o.2.2.1 HV.o.2.1;have z4:c<C.heap.size:=MO HV.o.1;have vf:∀j,s.frozen? ⟨c,j,S⟩=false:=λj=>by rw[(jr.aS (l7.block c z4 J.o.2.2.1) j).2];exact HV.o.2.2 j
 have L0:=vf 2;have z1:f<s.heap.size:=MO b6;have z2:g<s.heap.size:=MO y7;have z3:c<s.heap.size:=MO v2;have z6:s.heap[g]?=some (MY v4 3 (0,0)):=(l7.block g HG.o.2.2.2.2.1 J.o.2.1).trans HG.o.2.2.2.2.2.1;obtain⟨G,d6⟩:=UX (s.setCell ⟨c,2,S⟩ (Q I m));have c5:aH (λx=>x=c\/x=g) s G:=by rw[d6];exact aH.setCell (p:=⟨c,2,S⟩) (aH.refl _ s) (Mf (Mf rfl)) _
 have o5:jr s G c 2:=by rw[d6];exact jr.set (λ_=>⟨rfl,rfl⟩) _
 have u2:G.cell? ⟨c,2,S⟩=some (Q I m):=by rw[d6];exact Nf _ _ _ v2
 have u3:G.cell? ⟨c,3,S⟩=some X:=(o5 3 US).1.trans v3;have uf:∀j,G.frozen? ⟨c,j,S⟩=false:=λj=>by rw[d6,Ni];exact vf j
 have k5:∀x,x<s.heap.size->x≠c->G.heap[x]?=s.heap[x]?:=λx _ hx=>by rw[d6];exact Nh _ _ _ _ hx
 have A1:AD G 3 1 (nU m) (MR (some ⟨g,0,S⟩) y P) y 0:=MX ⟨g,P,v4,rfl,(k5 g z2 w6).trans z6,HG.o.2.2.2.2.2.2,HG.o.2.2.2.1,λk z=>absurd z (Nat.not_lt_zero k)⟩;have y5:∀k (z:k<T.length),G.cell? ⟨g,k,S⟩=some (Q I T[k]):=λk z=>(Mj (a:=⟨g,k,S⟩) (k5 g z2 w6)).trans (d0.block.cell J.o.2.1 (HG.o.1 k z));have t6:G.cell? ⟨f,6,S⟩=some (MR D l B):=(Mj (a:=⟨f,6,S⟩) (k5 f z1 k3)).trans b6;have HC:=A (Mp b2 (Mp b3 (Mp p1 b6)));have L:=A (Mp c5 (Mp o5 (Mp u2 (Mp u3 (Mp uf (Mp k5 (Mp A1 y5)))))));have l8:=A t6;clear y4 y6 d0 l7 HI CP j2 j3 j6 p0 K0 K1 b2 b3 b0 p1 z4 c5 o5 u2 u3 uf k5 A1 y5 v3 vf z6 t6;go_wp2_with fail
 rw[<-d6];clear y7 y8 v2 L0 z1 z2 z3 b6 d6 H8 J0;go_loopw [9,10] (λo i wr=>o=.bool true/\∃j:Nat,j<=y/\i=Q I j/\aH (λx=>x=g) G wr/\AD wr 3 1 (nU m) (MR (some ⟨g,0,S⟩) y P) y j/\∀k (z:k<T.length),j<=k->wr.cell? ⟨g,k,S⟩=some (Q I T[k])) (λ_ i _=>y- (intOf i).toNat)
 case atStart=>exact⟨by simp,0,NG _,rfl,aH.refl _ _,L.o.2.2.2.2.2.2.1,λk z _=>L.o.2.2.2.2.2.2.2 k z⟩
 case round=>
  obtain⟨rfl,j,hj,rfl,m0,i1,B0⟩:=hrel;have n2:wr.cell? ⟨c,2,S⟩=some (Q I m):=m0.block.cell w7 L.o.2.2.1;have n6:wr.cell? ⟨f,6,S⟩=some (MR D l B):=m0.block.cell k4 l8.o;have nw:c<wr.heap.size:=MO n2;have nb:f<wr.heap.size:=MO n6;have e5:=A m0;have f9:=A i1;have m1:=A B0;clear m0 i1 B0;by_cases L2:j<y
  ·have B2:(j:Int)<y:=by omega
   have m2:=A L2;by_cases L3:j<l
   ·have B3:(j:Int)<l:=by omega
    have L4:¬(l:Int)<=j:=O;have B4:j<T.length:=by rw[f5.o];exact L3
    have g0:=m1.o j B4 (MP _);have L5:iY wr (MR D l B) T:=HT.o.Ji λb hb h0 d3=>by
     have h4:=a9.o.2.2.1 b hb h0;have h5:=Z.o;have e1:=e5.o.block b;have e2:=L.o.2.2.2.2.2.1 b;have e3:=a3.o.2.2.block b;have e4:=c7.o.block b d3;have q1:b≠c:=λe=>by rw[e,h5.cw]at h4;omega
     have q2:b≠g:=by have:=d4.o;omega
     have q3:d.pv.ownBlock≠some b:=λe=>by
      have h6:=R.o.cI b (MX (MX (MX (MX (Mf e)))));omega
     have r3:=c7.o.size;have r4:=a3.o.2.2.size;have r5:=L.o.1.size;rw[e1 O q2,e2 O q1,e3 O q3,e4]
    obtain⟨V0,V1,lb,V3,le,B5⟩:=L5;injection le with C0 O4 O6;obtain⟨B7,l0⟩:=B5 j B4;rw[<-C0]at B7;obtain⟨t,ht⟩:=UX (T[j]);rw[<-ht]at g0 l0;have gl:=MO g0;have O2:=MO l0;clear ht B5 C0 O4 O6;subst B7;clear Z HS R HT a9 k9 HM c7 HG HL d4 l5 HJ HV h9 J a3 HC L l8;go_wp2_with fail
    refine wp_region_quiet_below UR UR ?_
    repeat(quiet_step (fail))
    refine wpQuiet_nil ?_;intro V U;replace U:=aE U;obtain⟨P0,P1⟩:=aW U;have P3:=U.size;obtain⟨f1,⟨u,f2⟩,C2⟩:=f9.o.put U m2.o;have R1:=MW U n2;have V4:c<V.heap.size:=MO R1;have R2:g<V.heap.size:=MO f2;have s8:aA (aH (λx=>x=g) G (V.setCell ⟨g,j,S⟩ (Q I (-(m:Int))))):=A (aH.setCell (p:=⟨g,j,S⟩) (e5.o.trans (aH.aG U)) (Mf rfl) _);have s9:=A C2;have t0:aA (∀k (z:k<T.length),j+1<=k->(V.setCell ⟨g,j,S⟩ (Q I (-(m:Int)))).cell? ⟨g,k,S⟩=some (Q I T[k])):=A λk z t1=>by
     rw[NT _ _ _ _ (by intro e;cases e;omega)];exact MW U (m1.o k z O)
    clear U P0 P1 P3 n2 n6 g0 l0 C2 gl O2 nw nb;go_wp2_with fail
    go_roundw
    case rel=>exact⟨by simp,j+1,O,by go_num,s8.o,s9.o,t0.o⟩
    case measure=>simp[intOf];omega
   ·have B3:(l:Int)<=j:=by omega
    have L4:¬(j:Int)<l:=O;have V5:decide ((l:Int)<=(j:Int))=true:=by simp[B3]
    obtain⟨f1,⟨u,f2⟩,-⟩:=f9.o.put (MU _ wr) m2.o;have R2:g<wr.heap.size:=MO f2;have s8:aA (∀V,Mb wr.heap.size wr V->aH (λx=>x=g) G (V.setCell ⟨g,j,S⟩ (Q I (-(m:Int))))):=A λV U=>aH.setCell (p:=⟨g,j,S⟩) (e5.o.trans (aH.aG U)) (Mf rfl) _;have s9:aA (∀V,Mb wr.heap.size wr V->AD (V.setCell ⟨g,j,S⟩ (Q I (-(m:Int)))) 3 1 (nU m) (MR (some ⟨g,0,S⟩) y P) y (j+1)):=A λV U=>(f9.o.put U m2.o).2.2;have t0:aA (∀k,k<T.length->j+1<=k->False):=A λk z t1=>by
     rw[f5.o]at z;omega
    clear Z HS R HT a9 k9 HM c7 HG HL d4 l5 HJ HV h9 J a3 HC L l8 e5 f9 m1 f5 m2;go_wp2_with fail
    go_quiet (fail)
    go_wp2_with fail
    go_roundw
    case rel=>exact⟨by simp,j+1,O,by go_num,s8.o _ UQ,s9.o _ UQ,λk z t1=>(t0.o k z t1).elim⟩
    case measure=>simp[intOf];omega
  ·have B2:¬(j:Int)<y:=by omega
   have C3:j=y:=O;have i1:∀k,k<y->wr.rangeAt g (k*1) (nU m):=by
    rcases f9.o with⟨e,-⟩|⟨g',V7,V8,e,-,-,-,hf⟩
    ·cases e
    ·cases e;rw[C3]at hf;exact hf
   have c6:aH (λx=>x=c\/x=g) s wr:=L.o.1.trans (e5.o.mono λx _ e=>MX e);have og:∀j,wr.cell? ⟨c,j,S⟩=G.cell? ⟨c,j,S⟩/\wr.frozen? ⟨c,j,S⟩=G.frozen? ⟨c,j,S⟩:=λj=>jr.aS (e5.o.block c (MO L.o.2.2.1) w7) j;have o6:jr s wr c 2:=λj hj=>⟨(og j).1.trans (L.o.2.1 j hj).1,(og j).2.trans (L.o.2.1 j hj).2⟩;have f6:∀j,wr.frozen? ⟨c,j,S⟩=false:=λj=>(og j).2.trans (L.o.2.2.2.2.1 j);have n3:wr.cell? ⟨c,3,S⟩=some X:=(og 3).1.trans L.o.2.2.2.1;have s3:=c7.o.size;have s4:=a3.o.2.2.size;have i5:∀x,X.ownBlock=some x->x<w.heap.size/\a1 x=3:=λx hx=>⟨Z.o.rK.lt hx,Z.o.cK x hx⟩;have C7:iX wr 78 5 X Ks.length (eO Ks):=Z.o.rK.aj λx hx=>by
    obtain⟨q1,q2⟩:=i5 x hx;rw[c6.block x O (by
     rintro(e|e)
     ·rw[e,Z.o.cw]at q2;omega
     ·have:=d4.o;omega),a3.o.2.2.block x O (λe=>by
     have:=R.o.cI x (MX (MX (MX (MX (Mf e)))));omega),c7.o.block x q1]
   obtain⟨g8,D1,W7,D2,E0,c8,E1⟩:=xM (N:=[vG m (MR (some ⟨g,0,S⟩) y P)]) (A:=#[Q I m,MR S 0 0,MR S 0 0,MR S 0 0,MR (some ⟨g,0,S⟩) y P]) C7 a9.o.2.2.2.2 O rfl rfl (by simp[eO,vG,au.cells,NC]);have R5:=e9 D2;obtain⟨H,m5⟩:=UX (W7.setCell ⟨c,3,S⟩ (MR (some ⟨g8,0,S⟩) (Ks.length+1) D1));have E3:X.ownBlock≠some c:=λe=>by have:=(i5 _ e).2;rw[Z.o.cw]at this;omega
   have m6:X.ownBlock≠some f:=λe=>by have:=(i5 _ e).1;have:=h9.o;omega
   have E4:X.ownBlock≠some d.p:=λe=>by have:=(i5 _ e).2;rw[R.o.cp]at this;omega
   have E6:d.p≠c:=λe=>by have:=R.o.cp;rw[e,Z.o.cw]at this;omega
   have F1:d.p≠g:=λe=>by have q:d.p<w.heap.size:=MO R.o.c0;have:=d4.o;omega
   have e8:W7.cell? ⟨c,3,S⟩=some X:=c8.block.cell E3 n3;have R6:c<W7.heap.size:=MO e8;have f8:W7.frozen? ⟨c,3,S⟩=false:=by rw[(jr.aS (c8.block c nw E3) 3).2];exact f6 3
   have k6:∀{x j:Nat} {v:Ma},x≠c->x≠g->X.ownBlock≠some x->s.cell? ⟨x,j,S⟩=some v->H.cell? ⟨x,j,S⟩=some v:=λh1 h2 h3 hv=>by
    rw[m5,NT _ _ _ _ (by intro e;cases e;exact h1 rfl)];exact c8.block.cell h3 (c6.block.cell (by rintro(e|e);exact h1 e;exact h2 e) hv)
   have x2:=k6 k3 k4 m6 HC.o.1;have x3:=k6 k3 k4 m6 HC.o.2.1;have x6:=k6 k3 k4 m6 HC.o.2.2.2;have xp:=k6 E6 F1 E4 HC.o.2.2.1;have xb:f<H.heap.size:=MO x6;have W0:d.p<H.heap.size:=MO xp;have n0:(aT H d.y d.x/\∀b,b<w.heap.size->a1 b=4->H.heap[b]?=w.heap[b]?)/\∀W9,lq d.y d.x E F T H (eJ d.x.P E F T) W9->∃g3 b9 Y d',b9.length=Ks.length+1/\LW W9 c tv sv g3 (n+1) Ts b9 Y/\LS W9 sv (Ss.set i d') Y M/\d.iC d'/\cz w W9 a1 Y:=by
    have e6:=k9.o;subst e6;have hm:=HM.o;have hl:=HL.o;have G6:=a9.o;have d2:=f5.o;exact EU Z.o HS.o hi G6.2.1 hm G6.2.2.2.1 O c7.o d4.o HG.o.2.2.2.2.1 a3.o.1 a3.o.2.1 a3.o.2.2 c6 o6 n2 (f6 2) i1 c8 (kv':=MR (some ⟨g8,0,S⟩) (Ks.length+1) D1) (λx hx=>by cases hx;exact E1) E0 m5
   have H0:aT H.drew d.y d.x:=n0.1.1.aD ((MU _ H).drew);have H1:iY H.drew (MR D l B) T:=HT.o.Ji λb hb h0 d3=>n0.1.2 b d3 (a9.o.2.2.1 b hb h0);have H2:d.P=d.x.P:=R.o.eP;have CX:aA (Mo MT 70 #[MQ (some ⟨d.y,0,S⟩),Q I E,Q I F,MR D l B] H.drew λe W=>e=.returned (Q I rs)/\(∃g3 b9 Y d',b9.length=Ks.length+1/\LW W c tv sv g3 (n+1) Ts b9 Y/\LS W sv (Ss.set i d') Y M/\d.iC d'/\cz w W a1 Y)/\W.cell? ⟨f,2,S⟩=some (Q I E)/\W.cell? ⟨f,3,S⟩=some (Q I F)/\W.cell? ⟨f,6,S⟩=some (MR D l B)/\W.cell? ⟨d.p,1,S⟩=some (MQ (some ⟨d.y,0,S⟩))):=A (by
    have H3:∀b,d.x.pv.ownBlock=some b->b<w.heap.size/\a1 b=6*i+13:=λb hb=>⟨R.o.ref.AG (MX (Mf hb)),R.o.cX b (MX (Mf hb))⟩;have y1:d.x.pv.ownBlock≠some f:=λe=>by have:=(H3 _ e).1;have:=h9.o;omega
    have y2:d.x.pv.ownBlock≠some d.p:=λe=>by have:=(H3 _ e).2;rw[R.o.cp]at this;omega
    have d2:=f5.o;subst d2;refine(Db d.y d.x E F T D B H.drew H0 H1 (by have:=a9.o.2.1;omega) a9.o.1 R.o.n8).mono ?_;rintro e W ⟨he,hX⟩;have n4:aH (λb=>d.x.pv.ownBlock=some b) H.drew W:=by
     rcases hX with⟨q1,q2⟩|⟨q1,q2,H4,q3,q4,q5⟩
     ·exact aH.aG q2
     ·exact q4
    refine⟨by rw[he,l5.o,H2],n0.2 W ?_,n4.block.cell y1 x2,n4.block.cell y1 x3,n4.block.cell y1 x6,n4.block.cell y2 xp⟩;rcases hX with⟨q1,q2⟩|⟨q1,q2,H4,q3,q4,q5⟩
    ·exact Mf ⟨q1,((MU _ H).drew).trans q2⟩
    ·exact MX ⟨q1,q2,H4,q3,(aH.aG ((MU _ H).drew)).trans q4,q5⟩)
   have CN:=A λ(W:MV)=>eZ rs W;clear f9 m1 e5 i1 c6 og o6 f6 s3 s4 i5 C7 D2 E0 c8 E1 m6 E4 E6 F1 k6 n0 H0 H1 H2 Z HS R HT a9 k9 f5 HM c7 HG HL d4 l5 HJ HV h9 J a3 HC L l8 B2 C3 hj;go_wp2_with fail
   go_region
   all_goals
    rw[<-m5];clear R5 e8 f8 R6 m5 n2 n3 n6 nw nb;go_wp2_with fail
    go_region_held3 (λK=>K.cell? ⟨f,2,S⟩=some (Q I E)/\K.cell? ⟨f,3,S⟩=some (Q I F)/\K.cell? ⟨f,6,S⟩=some (MR D l B)/\K.cell? ⟨d.p,1,S⟩=some (MQ (some ⟨d.y,0,S⟩))) (go_keep)
     (first|(go_at_call 25;refine(CN.o _).mono ?_;rintro e K ⟨rfl,H7⟩;rw[H7];clear H7 K)|(go_at_call 70;refine CX.o.mono ?_;rintro e W ⟨rfl,hX,c2,c3,c6,cp⟩;have HF:=A hX;clear hX))
    go_wp2;go_ret;exact⟨rfl,HF.o⟩
end
section
attribute [local go_sem] Oper.semAt_some aI
attribute [local go_sem ↓ high] fJ
def MD(w:MV)(e:Nat->Nat)(d:Option Addr)(a c:Nat)(T:List Int):Prop:=iY w (MR d a c) T/\a<=c/\T.length<=100000000/\(∀t∈T,(Lit.int I t).wf=true)/\∀b,(MR d a c).ownBlock=N b->0<T.length->e b=4
theorem iX.Ub{i:Ma}{b:List aC}(h:iX w 46 1 i b.length (b.map λd=>MQ (N ⟨d.p,0,S⟩))):∃a c g,i=MR a b.length c/\∀k (f:k<b.length),a=N ⟨g,0,S⟩/\w.cell? ⟨g,k,S⟩=N (MQ (N ⟨b[k].p,0,S⟩)):=by
 rcases h.1.2 with⟨e,j⟩|⟨g,c,l,e,_⟩
 ·exact⟨S,0,0,by rw[e,j],λk f=>O⟩
 ·refine⟨N ⟨g,0,S⟩,c,g,e,λk f=>⟨rfl,?_⟩⟩;have:=h.1.cells (g:=g) (by rw[e];rfl) k (MQ (N ⟨b[k].p,0,S⟩)) (by rw[Oh,NZ f];rfl);rwa[Nx,Nat.zero_add]at this
end
section
attribute [local go_sem] Oper.semAt_some
theorem iS.to{w:MV}{k m:Nat}{f:Ma}{R b:Int->List (Int×ByteArray)->List Mc->Prop}{e:Ending}(h:iS w k m f R e W)(d:∀r L a,R r L a->b r L a):iS w k m f b e W:=by
 obtain⟨r,L,a,g,i,j,l,n⟩:=h;exact⟨r,L,a,g,i,j,d _ _ _ l,n⟩
theorem Kp:∀p∈P2,(Lit.int I p.nat).wf=true:=λp a=>by rw[List.eq_of_mem_replicate a];rfl
theorem Ko:∀p∈Jd,(Lit.int I p.nat).wf=true:=λp a=>by
 simp only[Jd,List.mem_cons,List.not_mem_nil,or_false]at a;rcases a with rfl|rfl<;>rfl
section
variable (s k m:Nat) (c f:Value) (w:World)
theorem I0(h:bW w s c P2 k m f []):Mo MT 20 #[MQ (N ⟨s,0,S⟩),Q I 0,MS ⟨#[2,98,98,98,98,98,2,97,97,97,97,97,18,52,116,101,120,116]⟩] w (iS w k m f λr L a=>r=0/\L=[(1,⟨#[2,98,98,98,98,98,2,97,97,97,97,97,18,52,116,101,120,116]⟩)]/\a=[eA]):=by
 refine(Bt s k m c f P2 [] 0 mB mA lz 18 52 w h US Kp US US rfl rfl rfl US US US Kw).mono λe W h=>h.to ?_;rintro r L a ⟨g,b,i⟩;obtain rfl:=g.pd KA;rw[yx]at b;have d:=b.trans (LV _);exact⟨by rw[i,d];rfl,d,rfl⟩
theorem Iz(h:bW w s c P2 k m f [eA]):Mo MT 20 #[MQ (N ⟨s,0,S⟩),Q I 1,MS ⟨#[2,97,97,97,97,97,2,98,98,98,98,98,18,52,98,97,99,107]⟩] w (iS w k m f λr L a=>r=0/\L=[(0,⟨#[2,97,97,97,97,97,2,98,98,98,98,98,18,52,98,97,99,107]⟩)]/\a=[eA,eB]):=by
 refine(Bt s k m c f P2 [eA] 1 mA mB uo 18 52 w h US Kp US US rfl rfl rfl US US US Lk).mono λe W h=>h.to ?_;rintro r L a ⟨g,b,i⟩;obtain rfl:=g.pd J9;rw[yw]at b;have d:=b.trans (LU _);exact⟨by rw[i,d];rfl,d,rfl⟩
theorem Iy(h:bW w s c Jd k m f [eA,eB]):Mo MT 20 #[MQ (N ⟨s,0,S⟩),Q I 0,MS ⟨#[2,98,98,98,98,98,2,97,97,97,97,97,18,52,116,101,120,116]⟩] w (iS w k m f λr L a=>r=0/\L=[(1,⟨#[2,98,98,98,98,98,2,97,97,97,97,97,129,0,0,1,18,52,116,101,120,116]⟩)]/\a=[eA,eB]):=by
 refine(Bt s k m c f Jd [eA,eB] 0 mB mA lz 18 52 w h US Ko US US rfl rfl rfl US US US Kw).mono λe W h=>h.to ?_;rintro r L a ⟨g,b,i⟩;obtain rfl:=g.pd J8;rw[Gp]at b;have d:=b.trans (Uc _);exact⟨by rw[i,d];rfl,d,rfl⟩
end
theorem si{w:MV}{B:Nat}{p:Int}{d:ByteArray}(h:w.ownsRow B 66 2 v [(p,d)].length (lK [(p,d)])):∃e g,v=MR (N ⟨g,0,S⟩) 1 e/\v.ownBlock=N g/\B<=g/\g<w.heap.size/\w.cell? ⟨g,0,S⟩=N (Q I p)/\w.cell? ⟨g,1,S⟩=N (MS d):=by
 rcases h.2 with⟨i,a⟩|⟨g,e,n,i,_⟩
 ·cases a
 ·have b:v.ownBlock=N g:=by rw[i];rfl
  have j:=h.lt g b;have a:=h.cells (g:=g) b 0 (Q I p) rfl;have l:=h.cells (g:=g) b 1 (MS d) rfl;rw[Nx]at a l;exact⟨e,g,i,b,j.1,j.2,a,l⟩
theorem yo(w:MV)(hl:cP w)(hm:fE w):Mo MT 9 #[] w λe W=>e=.returned (.bool true)/\Mb w.heap.size w W:=by
 have CN:=A (xw 2 w O O hl);have HM:=A hm;clear hl hm;go_enter func9,ntmps9;go_wp2_with fail
 refine CN.o.mono ?_;rintro e q ⟨fb,rb,d,t,vb,k,m,F,Wb,rfl,p⟩;obtain⟨c,c6,hS,hP,hQ,hC,c9⟩:=p.Ln HM.o;have d0:k<Wb.heap.size:=MO p.n.nk.1;have d1:m<Wb.heap.size:=MO p.n.nk.2.2.1.1.1;have h7:Wb.heap.size<q.heap.size:=aJ hC;have h8:Mb w.heap.size w q:=p.n.lo.trans (p.lo.mono p.n.lo.size);obtain⟨s,d2⟩:=UX Wb.heap.size;have HL:=A (Mp p.n.lk (Mp p.n.lm (Mx p.n.lo.size (Nat.le_of_eq d2.symm))));rw[<-d2]at hS hC c9 d0 d1 h7⊢;have i0:∀b,c.ownBlock=N b->b<q.heap.size:=λb d=>(ae hP.own d).2;have C1:=A (I0 s k m c (MR S 0 0) q hS);have d3:=A hS;have P:=A (Mp hP (Mp hQ (Mp c9 i0)));have d4:=A h8;have HZ:=A (Mp d0 (Mp d1 h7));clear CN p hS hP hQ hC c9 d0 d1 h8 i0 d2;go_wp2_with fail
 refine C1.o.mono ?_;rintro e W2 ⟨r,L,K1,q4,d5,rfl,⟨rfl,rfl,rfl⟩,h,J,i3,R,d6⟩;obtain⟨T,U,K,V⟩:=d3.o.kept d6;obtain⟨q5,n,rfl,i4,i5,i6,l0,l1⟩:=si h;have e2:bW W2 s c P2 k m d5 [eA]:=⟨T,U,K,J,V⟩;have C2:=A (Iz s k m c d5 W2 e2);have i9:=A e2;have X:=A d6;have j0:=A i3;have e3:=A (Mp (R n i4) (Mp i5 i6));have e4:=A (Mp l0 l1);clear C1 e2 h J i3 R d6 T U K V l0 l1 i4 i5 i6;go_wp2_with fail
 refine C2.o.mono ?_;rintro e B ⟨r,L,K2,q7,M,rfl,⟨rfl,rfl,rfl⟩,h,J,j1,R,e5⟩;obtain⟨T,U,K,V⟩:=i9.o.kept e5;obtain⟨q8,C,rfl,j2,j3,j4,k0,-⟩:=si h;have j5:bW B s c P2 k m M [eA,eB]:=⟨T,U,K,J,V⟩;have C3:=A (um s k m M [eA,eB] B K J);have e6:=A j5;have D:=A e5;have e7:=A j1;have e8:=A (Mp (R C j2) (Mp j3 j4));have k1:=A k0;clear C2 j5 h J j1 R e5 T U K V k0 j2 j3 j4;go_wp2_with fail
 refine C3.o.mono ?_;rintro e o ⟨i,q9,rfl,h,Y⟩;have b0:=h.lt i rfl;have m0:o.cell? ⟨i,0,S⟩=N (Q I 1):=by have:=h.cells (g:=i) rfl 0 _ rfl;rwa[Nx]at this
 have m1:o.cell? ⟨i,1,S⟩=N (MS ⟨#[2,97,97,97,97,97]⟩):=by have:=h.cells (g:=i) rfl 1 _ rfl;rwa[Nx]at this
 have m2:o.cell? ⟨i,2,S⟩=N (Q I 0):=by have:=h.cells (g:=i) rfl 2 _ rfl;rwa[Nx]at this
 have m3:o.cell? ⟨i,3,S⟩=N (Q I 0):=by have:=h.cells (g:=i) rfl 3 _ rfl;rwa[Nx]at this
 obtain⟨l,b4⟩:=UX (o.alloc (MY #[Q I 5,Q I 1] 3));have b5:=UY b4;have b6:Mb B.heap.size B l:=Y.trans (b5.mono Y.size);have f3:=e6.o.aD b6;have v:=e3.o;have b2:=e8.o;have z:=HZ.o;have z1:=X.o.size;have z2:=D.o.size;have z4:=Y.size;have z5:=b5.size;have Z:∀b,d5.ownBlock=N b->q.heap.size<=b/\b≠n:=λb d=>by
  rcases j0.o b d with e|e
  ·cases e
  ·exact⟨e,λe1=>v.1.1 (by rw[<-e1];exact d)⟩
 have w2:∀b,M.ownBlock=N b->q.heap.size<=b/\b≠n/\b≠C/\b<B.heap.size:=λb d=>by
  have m5:b<B.heap.size:=(ae e6.o.hK.2.2.1.1.2.2.1 d).2;refine⟨?_,?_,λe1=>b2.1.1 (by rw[<-e1];exact d),m5⟩
  ·rcases e7.o b d with e|e
   ·exact(Z b e).1
   ·omega
  ·rcases e7.o b d with e|e
   ·exact(Z b e).2
   ·omega
 have k3:aQ l c P2 c6:=by
  obtain⟨p1,p2,p3,p4⟩:=P.o;have E:∀b,c.ownBlock=N b->l.heap[b]?=q.heap[b]?:=λb d=>by
   have q1:=p3 b d;have q2:=p4 b d;rw[b6.block b O,D.o.block b O (by
    rintro(e|e)
    ·omega
    ·have:=Z b e;omega),X.o.block b q2 (by
    rintro(e|e)
    ·omega
    ·cases e)]
  refine⟨p1.len,ap p1.own E,λj hj=>⟨(p1.each j hj).1,(p1.each j hj).2.lw λb e=>?_⟩⟩;rw[p2 _ (List.getElem_mem _)]at e;cases e
 have k5:ir l (MR (N ⟨o.heap.size,0,S⟩) 2 2) [5,1]:=by
  have hr:l.rangeAt o.heap.size 0 [Q I 5,Q I 1]:=by rw[b4];exact aN _ _ _
  refine⟨_,2,o.heap.size,rfl,λj hj=>⟨rfl,?_⟩⟩;match j,hj with
  |0,_=>exact hr 0 _ rfl
  |1,_=>exact hr 1 _ rfl
 have C5:aA (Mo MT 22 #[MQ (N ⟨s,0,S⟩),Q I 1,Q I 0,MR (N ⟨o.heap.size,0,S⟩) 2 2] l λe w'=>e=.returned (Q I 0)/\(∃Q',aQ w' c Jd Q'/\nK l c6 Q')/\aH (λb=>c.ownBlock=N b) l w'):=A (by
  have:=ul s c P2 c6 1 0 [5,1] (MR (N ⟨o.heap.size,0,S⟩) 2 2) l f3.h0 k3 k5 US US;rwa[Jo,GF]at this)
 have l2:=A f3;have l3:=A Y;have g4:=A b5;have a0:=A b6;have HG:=A b0;have a1:=A (Mp m0 (Mp m1 (Mp m2 m3)));have G:=A w2;have c2:=A Z;clear C3 f3 k3 k5 h Y b5 b6 b0 m0 m1 m2 m3 Z w2 v b2 z z1 z2 z4 z5;go_wp2_with fail
 rw[<-b4];clear b4;refine C5.o.mono ?_;rintro e W6 ⟨rfl,⟨Q',l5,-⟩,u⟩;have z:=HZ.o;have y:=P.o.2.2;have a2:c.ownBlock≠N 1:=λe=>by
  have h1:=d3.o.hm.1;obtain⟨a,r0,b,e',n3⟩:=P.o.1.at;obtain⟨ha,q0,-⟩:=n3 0 US;rw[e',ha]at e;obtain rfl:b=1:=by simpa[NF]using e
  rw[show 0*2=0 from rfl,h1]at q0;cases q0
 have ns:c.ownBlock≠N s:=λe=>by have:=y.1 _ e;omega
 have l8:bW W6 s c Jd k m M [eA,eB]:=by
  have H:=l2.o;refine⟨u.block.cell ns H.h0,l5.at,u.block.cell ns H.h5,H.hK.aj λb d e=>u.block b d λe'=>?_,u.block.cell a2 H.hm.1,u.block.cell a2 H.hm.2.1,u.block.cell a2 H.hm.2.2.1,u.block.cell a2 H.hm.2.2.2⟩;have q1:=y.1 b e';have q2:=y.2 b e';rcases e with e|e|e
  ·omega
  ·omega
  ·have:=G.o b e;omega
 have C6:=A (Iy s k m c M W6 l8);have c5:=A u;clear C5 l8 l5 u a2 ns y z;go_wp2_with fail
 refine C6.o.mono ?_;rintro e W ⟨r,L,K3,r2,r3,rfl,⟨rfl,rfl,rfl⟩,h,-,-,-,g6⟩;obtain⟨r4,g3,rfl,-,n6,r7,-,n1⟩:=si h;have z:=HZ.o;have y:=P.o.2.2;have v:=e3.o;have b2:=e8.o;have z1:=X.o.size;have z2:=D.o.size;have z4:=l3.o.size;have z5:=g4.o.size;have z6:=c5.o.size;have b0:=HG.o;have E:∀b,q.heap.size<=b->b<l.heap.size->M.ownBlock≠N b->W.heap[b]?=l.heap[b]?:=λb h1 h2 h3=>by
  rw[g6.block b O (by
   rintro(e|e)
   ·omega
   ·exact h3 e),c5.o.block b h2 (λe=>by have:=y.2 b e;omega)]
 have l0:W.cell? ⟨n,0,S⟩=N (Q I 1):=(Mj (a:=⟨n,0,S⟩) ((E n v.2.1 O λe=>(G.o _ e).2.1 rfl).trans ((a0.o.block n O).trans (D.o.block n v.2.2 (by
  rintro(e|e)
  ·omega
  ·exact(c2.o _ e).2 rfl))))).trans e4.o.1
 have l1:W.cell? ⟨n,1,S⟩=N (MS ⟨#[2,98,98,98,98,98,2,97,97,97,97,97,18,52,116,101,120,116]⟩):=(Mj (a:=⟨n,1,S⟩) ((E n v.2.1 O λe=>(G.o _ e).2.1 rfl).trans ((a0.o.block n O).trans (D.o.block n v.2.2 (by
  rintro(e|e)
  ·omega
  ·exact(c2.o _ e).2 rfl))))).trans e4.o.2
 have k0:W.cell? ⟨C,0,S⟩=N (Q I 0):=(Mj (a:=⟨C,0,S⟩) ((E C O O λe=>(G.o _ e).2.2.1 rfl).trans (a0.o.block C O))).trans k1.o;have km:∀j,W.cell? ⟨i,j,S⟩=o.cell? ⟨i,j,S⟩:=λj=>Mj (a:=⟨i,j,S⟩) ((E i O O λe=>by have:=G.o _ e;omega).trans (g4.o.block i O));have m0:=(km 0).trans a1.o.1;have m1:=(km 1).trans a1.o.2.1;have m2:=(km 2).trans a1.o.2.2.1;have m3:=(km 3).trans a1.o.2.2.2;have q1:n<W.heap.size:=MO l0;have q2:C<W.heap.size:=MO k0;have q3:i<W.heap.size:=MO m0;have HF:aA (Mb w.heap.size w W):=A (by
  have lo:=HL.o;have i1:=d4.o.size;have t1:Mb w.heap.size q W2:=X.o.aD i1 (by
   rintro x (rfl|e)
   ·exact lo.2.1
   ·cases e)
  have t2:Mb w.heap.size W2 B:=D.o.aD O (by
   rintro x (rfl|e)
   ·exact lo.2.1
   ·have:=c2.o x e;omega)
  have t6:Mb w.heap.size l W6:=c5.o.aD O (λx e=>by have:=y.1 x e;omega);have t7:Mb w.heap.size W6 W:=g6.aD O (by
   rintro x (rfl|e)
   ·exact lo.2.1
   ·have:=G.o x e;omega)
  exact((((d4.o.trans t1).trans t2).trans (a0.o.mono O)).trans t6).trans t7)
 clear C6 h g6 E km d3 i9 e6 l2 P d4 HZ X j0 e3 e4 D e7 e8 k1 l3 g4 a0 HG a1 G c2 c5 z y v b2 z1 z2 z4 z5 z6 b0 n6 HL HM;go_wp2;go_ret;exact⟨rfl,HF.o⟩
end
section
theorem iY.lt{T:List Int}(h:iY w v T)(d:0<T.length){b:Nat}(c:v.ownBlock=N b):b<w.heap.size:=by
 obtain⟨a,j,f,k,e,g⟩:=h;obtain⟨i,q⟩:=g 0 d;rw[e,i]at c;obtain rfl:f=b:=by simpa[NF]using c
 exact MO q
theorem cz.LL{s:Nat}{d e:Nat->Nat}(h:cz w W d e)(j:s<=w.heap.size)(c:KR s d):Mb s w W/\KR s e:=by
 obtain⟨⟨X,a,f⟩,g⟩:=h;refine⟨⟨a.os,a.tape,a.output,a.size,λx b=>a.block x O λi=>f x i O (c x b)⟩,λx b=>?_⟩;rw[g x O (by rw[c x b];decide)];exact c x b
attribute [local go_sem ↓ high] fJ
end
end Go.Proofs.YtnjalelblbjfiaaGreatDoor
