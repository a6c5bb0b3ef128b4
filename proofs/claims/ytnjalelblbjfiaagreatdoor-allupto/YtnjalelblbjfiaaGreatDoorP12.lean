import Derived.Test.YtnjalelblbjfiaaGreatDoorP11
namespace Go.Proofs.YtnjalelblbjfiaaGreatDoor
set_option maxRecDepth 100000
set_option maxHeartbeats 16000000
open Go.RowKit
open Go.Proofs.Tryz
open Go.Sort (grow)
open Go renaming World→MV,Value→Ma,Calls→Mo,block_lt_of_cell→MO,cell_later→MW,wp_region_quiet_below→Mg,wpQuiet_nil→M3,redrawn→NK,below_regrown→NP,Addr→Oz,maxLen→Nj,heap_alloc_new→O8,heap_alloc_old→ON
open Go.Ending renaming returned→MZ
open Go.IntKind renaming i64→I,wrap_i64→Mm
open Go.Proofs.Tryz renaming prog→MT,func26→Ta,func23→Ph
open Go.RowKit renaming Below→Mb
open Go.RowKit.Below renaming refl→MU,heap_setCell→Nh
open Go.Value renaming pointer→MQ,bool→M0,int→Q,slice→MR,agg→M1,string→MS
open List renaming length_map→ND,mem_map→OD,length_set→Mw,getElem_set_self→Nt,getElem_mem→Ms,any_eq_true→P7,toList_toArray→OS,mem_append→Od,mem_of_getElem?→P8,getElem_of_mem→Mt,getElem?_eq_getElem→NZ,getElem?_map→Oh,length_append→Mz
open Nat renaming lt_of_le_of_lt→PL,zero_le→NG,lt_of_lt_of_le→Mi,eq_zero_or_pos→Pu,zero_add→NO,le_refl→MP
open Option renaming some→N,none→S
open Go.Calls renaming regrown_of→Ml
open Go.Obj renaming cells→MY
open Go.Addr renaming add_mid→Nx
variable {b c d e f g l:Int}{L:List af}{W w:MV}{B a p t x:Nat}{F:Nat->Prop}{r:Rl}
section
attribute [local go_sem] Oper.semAt_some aI
attribute [local go_sem ↓ high] Hv
def Tc(c:Nat):Prop:=c≠4/\¬(7<=c/\c%3=1)
structure jv (w W:MV) (col col':Nat->Nat):Prop where
 chg:∃X,aH X w W/\∀x,X x->x<w.heap.size->dg w x/\Tc (col x)
 ink:∀x,x<w.heap.size->col x≠0->col' x=col x
theorem jv.aD{a b:Nat->Nat}(h:Mb w.heap.size w W)(c:∀x,x<w.heap.size->a x≠0->b x=a x):jv w W a b:=⟨⟨λ_=>False,aH.aG h,λ_ d=>d.elim⟩,c⟩
theorem mT{t:TypeId}{s n:Nat}{v:Ma}{a:List Ma}(h:w.ownsRow B t s v n a):KP w t s v n:=by
 rcases h.2 with h|⟨g,b,c,e,j,d,f,k,i,l⟩
 ·exact .inl ⟨h.1,h.2⟩
 ·exact .inr ⟨g,b,c,e,d,i,f⟩
theorem qt(w:MV)(l i:Nat)(y z F:Ma)(n:Nat)(c:List aL)(q:List au)(m:Nat->Nat)(h:LW w l y z F n c q m)(hi:i<c.length)(G:c[i].rs=n9 c[i].L)(hn:n<100000000000)(hK:q.length+4<=100000000000):Mo MT 12 #[MQ (N ⟨l,0,S⟩),MQ (N ⟨c[i].p,0,S⟩)] w λe W=>e=MZ (M0 true)/\∃B p f,p.length=q.length+4/\LW W l y z B (n+1) c p f/\jv w W m f:=by
 obtain⟨dr,a6,a7⟩:=dJ;have k:=h.tab i hi;obtain⟨d,a8⟩:=UX (c[i]);rw[<-a8]at k G⊢;have q0:=k.c0;have q1:=k.c1;have d4:d.p<w.heap.size:=MO q0;obtain⟨a2,f7,H,M,b1⟩:=k.ref.slice;have J:=k.ref.1;have b2:d.y<w.heap.size:=MO J;have s:d.rs.length=d.L.length:=by rw[G];exact ND _
 have f8:d.L.length<=200:=by rw[<-s];exact k.ref.2.2.2.1
 rw[s]at M;rw[M]at J;have d6:0<w.heap.size:=PL (NG _) b2;have CR:=A (sG d.t w d.F d.L k.tab);have t:=A h;have HN:=A hn;have HK:=A hK;have b4:=A b1;have b5:=A G;have f9:(d.L.length:Int)<=200:=O;clear h k hn hK b1 G M a8;go_enter func12,ntmps12;go_wp2_with fail
 refine CR.o.mono ?_;rintro e C ⟨g,P,rfl,b6,K⟩;have R:=MW K q1;have T:=MW K J;have e2:d.p<C.heap.size:=MO R;have e4:d.y<C.heap.size:=MO T;have u:=A b6;have L:=A K;clear CR b6 K q0 q1 J d4 b2;go_wp2_with fail
 go_loopw [6,7] (λo i wr=>o=M0 true/\∃j:Nat,j<=d.L.length/\i=Q I j/\Mb C.heap.size C wr) (λ_ i _=>d.L.length- (intOf i).toNat)
 case atStart=>exact⟨rfl,0,O,rfl,MU _ _⟩
 case round=>
  obtain⟨rfl,j,hj,rfl,b⟩:=hrel;by_cases g1:j<d.L.length
  ·have e5:(j:Int)<d.L.length:=by omega
   have p2:=MW b R;have y2:=MW b T;have g4:d.p<wr.heap.size:=MO p2;have g5:d.y<wr.heap.size:=MO y2;obtain⟨r,U⟩:=UX (d.rs[j]'O);have D:wr.rangeAt H (j*19) [Q I r.id,Q I r.pr,Q I r.k0,Q I r.v0,Q I r.m0,Q I r.k1,Q I r.v1,Q I r.m1,Q I r.k2,Q I r.v2,Q I r.m2,Q I r.k3,Q I r.v3,Q I r.m3,Q I r.k4,Q I r.v4,Q I r.m4,Q I r.ac,Q I r.po]/\a2=N ⟨H,0,S⟩:=by
    obtain⟨V,E⟩:=b4.o j O;rw[<-U]at E;exact⟨aO (aO E L.o) b,V⟩
   obtain⟨D,rfl⟩:=D;have Y:wr.rangeAt g (j*19) [Q I r.id,Q I r.pr,Q I r.k0,Q I r.v0,Q I r.m0,Q I r.k1,Q I r.v1,Q I r.m1,Q I r.k2,Q I r.v2,Q I r.m2,Q I r.k3,Q I r.v3,Q I r.m3,Q I r.k4,Q I r.v4,Q I r.m4,Q I r.ac,Q I r.po]:=by
    have RO:bU w.heap.size C (MR (N ⟨g,0,S⟩) d.L.length P) d.rs:=⟨by rw[s,b5.o];exact u.o,λe=>by rw[e]at s;simp at s;omega,d6⟩;obtain⟨a3,g7,g3,e3,e7⟩:=RO.row;obtain⟨V,E⟩:=e7 j O;rw[s]at e3;cases e3;cases V;rw[<-U]at E;exact aO E b
   have g9:g<wr.heap.size:=MO (bz Y);have h1:H<wr.heap.size:=MO (bz D);have c2:=A b;clear b U b4 b5 u;go_wp2_with fail
   refine Mg UR UR ?_
   repeat(first|(refine cA rfl 37 _ rfl g (j*19) rfl [Q I r.id,Q I r.pr,Q I r.k0,Q I r.v0,Q I r.m0,Q I r.k1,Q I r.v1,Q I r.m1,Q I r.k2,Q I r.v2,Q I r.m2,Q I r.k3,Q I r.v3,Q I r.m3,Q I r.k4,Q I r.v4,Q I r.m4,Q I r.ac,Q I r.po] dr (λw' h=>dQ Y h) a6 a7 ay ?_)|(refine cA rfl 37 _ rfl H (j*19) rfl [Q I r.id,Q I r.pr,Q I r.k0,Q I r.v0,Q I r.m0,Q I r.k1,Q I r.v1,Q I r.m1,Q I r.k2,Q I r.v2,Q I r.m2,Q I r.k3,Q I r.v3,Q I r.m3,Q I r.k4,Q I r.v4,Q I r.m4,Q I r.ac,Q I r.po] dr (λw' h=>dQ D h) a6 a7 ay ?_)|quiet_step (fail))
   refine M3 ?_;intro wq v;replace v:=aE v;obtain⟨f0,f1⟩:=aW v;have f2:=v.size;have HQ:=A v;clear v f0 f1 f2 Y D p2 y2;go_wp2_with fail
   go_roundw
   case rel=>exact⟨rfl,j+1,O,by go_num,c2.o.trans (HQ.o.mono c2.o.size)⟩
   case measure=>simp[intOf];omega
  ·have e5:¬(j:Int)<d.L.length:=by omega
   have Z:Mb w.heap.size w wr:=L.o.trans (b.mono L.o.size);have ws:WS wr l y z F n q (kc m w.heap.size 0):=t.o.ws.aj (X:=λ_=>False) (aH.aG Z) (λ_ a=>a.elim) (λx a _=>cE a);have c4:KP wr 37 19 (MR (N ⟨g,0,S⟩) d.L.length P) d.L.length:=mT (aY u.o λx a=>b.block x (u.o.lt x a).2);have f4:w.heap.size<=g:=(u.o.lt g rfl).1;have CL:=A (BU wr l y z F (MR (N ⟨g,0,S⟩) d.L.length P) n d.L.length q (kc m w.heap.size 0) ws c4 (λx a=>by cases a;exact pD f4) O HN.o HK.o);have HB:=A Z;clear ws c4 Z b R T e2 e4;go_wp2_with fail
   refine CL.o.mono ?_;rintro e W ⟨rfl,B,p,f,hk,c7,c8,c9⟩;have d0:∃B p f,p.length=q.length+4/\LW W l y z B (n+1) c p f/\jv w W m f:=by
    have d1:∀x,x<w.heap.size->m x≠0->f x=m x:=λx a h0=>by
     have:=c9 x (Mi a HB.o.size) (by rw[cE a];exact h0);rwa[cE a]at this
    have d2:aH (λx=>x=l\/F.ownBlock=N x) w W:=((aH.aG HB.o).trans c8).mono λx a h=>by
     rcases h with h|h|h
     ·exact .inl h
     ·exact .inr h
     ·have h3:g=x:=Option.some.inj h;omega
    refine⟨B,p,f,hk,t.o.FN d2 d1 c7,⟨⟨_,d2,λx a _=>?_⟩,d1⟩⟩;rcases a with rfl|a
    ·exact⟨t.o.uH,by rw[t.o.cw];unfold Tc;omega⟩
    ·exact⟨t.o.vn a,by rw[t.o.cK x a];unfold Tc;omega⟩
   have HF:=A d0;clear d0 c9 c8 c7 hk CL HB u L;go_wp2;go_ret;exact⟨rfl,HF.o⟩
end
section
attribute [local go_sem] Oper.semAt_some aI
noncomputable def xC(L:List af)(b c d e f:Int):Int×Int:=Classical.epsilon λa=>cD L b c d e f a.1 a.2
theorem xB{a:Int}(h:cD L c d e f g a b):xC L c d e f g=(a,b):=by
 have j:cD L c d e f g (xC L c d e f g).1 (xC L c d e f g).2:=Classical.epsilon_spec (p:=λi:Int×Int=>cD L c d e f g i.1 i.2) ⟨(a,b),h⟩;have:=xD j h;exact Prod.ext this.1 this.2
theorem Fh(t:Nat)(c d f g i:Int)(w:MV)(F:Nat->Prop)(L:List af)(h:bQ w t F L):Mo MT 16 #[MQ (N ⟨t,0,S⟩),M1 #[Q I c,Q I d,Q I f,Q I g,Q I i]] w λe j=>e=MZ (.tuple #[Q I (xC L c d f g i).1,Q I (xC L c d f g i).2])/\Mb w.heap.size w j:=by
 refine(uh t c d f g i w F L h).mono ?_;rintro e j ⟨a,b,rfl,k,l⟩;rw[xB k];exact⟨rfl,l⟩
theorem bQ.Lq(h:bQ w t F L):∀r∈n9 L,r.ok=true:=by
 obtain⟨c,d,f,g,i,T,_,_,rfl⟩:=h;intro r a;obtain⟨e,b,rfl⟩:=OD.1 a;exact(T.ent e b).2
theorem J3(y:Nat)(v:Ma)(c d f g i:Int)(w:MV)(L:List af)(h:iB 1 w y 0 v (n9 L))(k:∀r∈n9 L,r.ok=true)(l:cC L):Mo MT 126 #[MQ (N ⟨y,0,S⟩),M1 #[Q I c,Q I d,Q I f,Q I g,Q I i]] w λe j=>e=MZ (.tuple #[Q I (xC L c d f g i).1,Q I (xC L c d f g i).2])/\Mb w.heap.size w j:=by
 refine(Dc 1 y 0 v L c d f g i w h k l).mono ?_;rintro e j ⟨⟨a,b,rfl,m⟩,n⟩;rw[xB m];exact⟨rfl,n⟩
theorem EZ(w:MV)(p t y:Nat)(F:Nat->Prop)(L:List af)(v:Ma)(h i j k l:Int)(x:w.cell? ⟨p,0,S⟩=N (MQ (N ⟨t,0,S⟩)))(K:w.cell? ⟨p,1,S⟩=N (MQ (N ⟨y,0,S⟩)))(r:bQ w t F L)(M:iB 1 w y 0 v (n9 L)):Mo MT 69 #[MQ (N ⟨p,0,S⟩),M1 #[Q I h,Q I i,Q I j,Q I k,Q I l]] w λe W=>e=MZ (M0 true)/\Mb w.heap.size w W:=by
 have a0:p<w.heap.size:=MO x;obtain⟨f,s⟩:=UX (w.alloc (MY #[Q I h,Q I i,Q I j,Q I k,Q I l] 39));have m:=UY s;obtain⟨g,z⟩:=UX w.heap.size;have n:f.rangeAt g 0 [Q I h,Q I i,Q I j,Q I k,Q I l]:=by rw[s,z];exact aN _ _ _
 have P:=MW m x;have R:=MW m K;have B:f.cell? ⟨g,0,S⟩=N (Q I h):=n 0 _ rfl;have T:f.cell? ⟨g,1,S⟩=N (Q I i):=n 1 _ rfl;have U:f.cell? ⟨g,2,S⟩=N (Q I j):=n 2 _ rfl;have V:f.cell? ⟨g,3,S⟩=N (Q I k):=n 3 _ rfl;have X:f.cell? ⟨g,4,S⟩=N (Q I l):=n 4 _ rfl;have a1:g<f.heap.size:=MO B;have a2:p<f.heap.size:=MO P;have C:=A λ(d:Nat) (o:Array Obj)=>Fh t h i j k l (grow (NK f d) o) F L ((r.still m).still (NP f d o));have D:=A λ(W:MV) (u:Mb f.heap.size f W) (d:Nat) (o:Array Obj)=>J3 y v h i j k l (grow (NK W d) o) L (((M.aD m).aD u).aD (NP W d o)) r.Lq r.jw;have E:=A m;clear r M m n x K;obtain⟨a,Y⟩:=UX ((xC L h i j k l).1);obtain⟨b,u⟩:=UX ((xC L h i j k l).2);rw[<-Y,<-u]at C D;clear Y u;go_enter func69,ntmps69;go_wp2_with fail
 rw[<-s,<-z];clear s z a0;refine Mg UR UR ?_
 repeat(quiet_step (exact Ml (C.o _ _)))
 refine M3 ?_;intro q c;replace c:=aE c;obtain⟨G,H⟩:=aW c;have J:=c.size;have e1:=MW c R;have m0:=MW c B;have m1:=MW c T;have m2:=MW c U;have m3:=MW c V;have m4:=MW c X;have b2:g<q.heap.size:=MO m0;have b3:p<q.heap.size:=MO e1;have CY:=A (D.o q c);have Z:=A (E.o.trans (c.mono E.o.size));clear c G H J D C P R B T U V X a1 a2 E;go_wp2_with fail
 refine Mg UR UR ?_
 repeat(quiet_step (exact Ml (CY.o _ _)))
 refine M3 ?_;intro q c;replace c:=aE c;obtain⟨G,H⟩:=aW c;have J:=c.size;have a6:=A (Z.o.trans (c.mono Z.o.size));have CN:=A (eZ b q);clear c G H J;go_wp2_with fail
 refine CN.o.mono ?_;rintro e W ⟨rfl,rfl⟩;go_wp2;go_ret;exact⟨rfl,a6.o⟩
end
def Jp(c:Int):Int:=if c<0 then -(c+1)else c
theorem yV(c:Int){n:Nat}(b:0<n):∃k:Nat,k<n/\(Jp c).tmod n=k:=by
 have a:0<=Jp c:=by unfold Jp;split<;>omega
 have d:=Int.tmod_nonneg (n:Int) a;have e:=Int.tmod_lt_of_pos (Jp c) (show(0:Int)<n by omega);exact⟨((Jp c).tmod n).toNat,O,O⟩
theorem ma(c:Int)(n k:Nat)(w:MV)(g: -9223372036854775808<=c/\c<=9223372036854775807)(j:0<n/\n<=4611686018427387904)(a:(Jp c).tmod n=k)(q:k<n):Mo MT 26 #[Q I c,Q I n] w λe b=>e=MZ (Q I k)/\b=w:=by
 have r:¬(n:Int)=0:=O;have x:(n:Int)≠ -1:=O;have y:IntKind.i64.wrap (k:Int)=k:=by rw[Mm];omega
 by_cases h:c<0
 ·have z:IntKind.i64.wrap (c+1)=c+1:=by rw[Mm];omega
  have B:IntKind.i64.wrap (-(c+1))= -(c+1):=by rw[Mm];omega
  have d:(-(c+1)).tmod n=k:=by rw[<-a];unfold Jp;rw[if_pos h]
  clear a;go_enter Ta,ntmps26;go_wp2;go_ret;exact⟨rfl,rfl⟩
 ·have d:c.tmod n=k:=by rw[<-a];unfold Jp;rw[if_neg h]
  clear a;go_enter Ta,ntmps26;go_wp2;go_ret;exact⟨rfl,rfl⟩
def eS(f:List aL):Prop:=∀d∈f,d.rs=n9 d.L
theorem eS.set{f:List aL}(h:eS f){i:Nat}{d:aL}(b:d.rs=n9 d.L):eS (f.set i d):=λx a=>by
 rcases List.mem_or_eq_of_mem_set a with a|rfl
 ·exact h x a
 ·exact b
theorem eS.FP{f:List aL}(h:eS f){i:Nat}{d a:aL}(b:a.rs=n9 a.L):eS ((f.set i d).set i a):=by
 rw[List.set_set];exact h.set b
section
variable {w o m w3 W:World}{p n i:Nat}{s t u:Value}{f:List aL}{v:List au}{l:Nat->Nat}
theorem LW.uE(h:LW w p s t u n f v l):0<w.heap.size:=PL (NG _) (MO h.c0)
theorem LW.If(h:LW w p s t u n f v l)(d:i<f.length)(c:f[i].F x\/x=f[i].y\/f[i].v.ownBlock=N x):dg w x/\Tc (l x):=by
 have b:=h.tab i d;rcases c with c|rfl|c
 ·exact⟨(b.tab.rl c).iW h.laid,by rw[b.cF x c];unfold Tc;omega⟩
 ·obtain⟨a,j,g,e,_⟩:=b.ref.slice;exact⟨DK (b.ref.1.trans (by rw[e])) b.one.1 b.one.2 h.laid,by rw[b.cy];unfold Tc;omega⟩
 ·exact⟨nH b.ref.2.2.1 c,by rw[b.cv x c];unfold Tc;omega⟩
theorem LW.LM(h:LW w p s t u n f v l)(c:i<f.length)(d:Mb w.heap.size w o){a:Nat->Prop}{b:List af}(e:bQ m f[i].t a b)(g:∀x,a x->f[i].F x\/o.heap.size<=x)(j:aH f[i].F o m)(k:Mb m.heap.size m w3):LW w3 p s t u n (f.set i {f[i]with F:=a,L:=b}) v (kc l o.heap.size (3*i+5)):=by
 have q:LW o p s t u n f v l:=h.aD d λ_ _ _=>rfl;exact(q.Ic c e g j).aD k λ_ _ _=>rfl
theorem LW.FT(h:LW w p s t u n f v l)(b:i<f.length)(e:Mb w.heap.size w o){c:Nat->Prop}{g:List af}(j:bQ m f[i].t c g)(k:∀x,c x->f[i].F x\/o.heap.size<=x)(q:aH f[i].F o m)(r:Mb m.heap.size m w3):iB 1 w3 f[i].y 0 f[i].v f[i].rs/\w3.cell? ⟨f[i].p,0,S⟩=N (MQ (N ⟨f[i].t,0,S⟩))/\w3.cell? ⟨f[i].p,1,S⟩=N (MQ (N ⟨f[i].y,0,S⟩))/\0<w3.heap.size:=by
 have d:=h.LM b e j k q r;have a:=d.tab i (by rw[Mw];exact b);rw[Nt]at a;exact⟨a.ref,a.c0,a.c1,d.uE⟩
theorem Fz{e:Ending}(h:LW w p s t u n f v l)(D:i<f.length)(z:eS f)(K:Mb w.heap.size w o)(hI:go o m f[i].t f[i].F f[i].L r)(X:Mb m.heap.size m w3)(hX:uB 1 f[i].y 0 f[i].v f[i].rs r w3 e W):e=MZ (Q I (ah f[i].L r))/\∃B E,B.length=f.length/\eS B/\LW W p s t u n B v E/\jv w W l E:=by
 have g:f[i].rs=n9 f[i].L:=z _ (Ms D);have c5:f[i].rs.length=f[i].L.length:=by rw[g];exact ND _
 obtain⟨F',H,Y,hF,Z,J⟩:=hI;have h3:=h.LM D K Y hF Z X;have M:(∃q∈f[i].rs,q.id=r.id)↔(f[i].L.any λa=>a.2.id==r.id)=true:=by
  rw[g,P7];constructor
  ·rintro⟨q,d,e⟩;obtain⟨a,z,rfl⟩:=OD.1 d;exact⟨a,z,by rw[beq_iff_eq];exact e⟩
  ·rintro⟨a,z,e⟩;exact⟨a.2,OD.2 ⟨a,z,rfl⟩,by rwa[beq_iff_eq]at e⟩
 have b1:i<(f.set i {f[i]with F:=F',L:=H}).length:=by rw[Mw];exact D
 have a1:∀x,x<w.heap.size->l x≠0->kc l o.heap.size (3*i+5) x=l x:=λx c _=>cE (Mi c K.size);have P:aH (λx=>f[i].F x\/x=f[i].y\/f[i].v.ownBlock=N x) w w3:=((aH.aG K).trans (Z.mono λx _ c=>.inl c)).trans (aH.aG X);have R:ah f[i].L r≠0->Mb w3.heap.size w3 W->∃B E,B.length=f.length/\eS B/\LW W p s t u n B v E/\jv w W l E:=λG y=>by
  rw[if_neg G]at J;refine⟨_,_,Mw ..,z.set (by show f[i].rs=n9 H;rw[J];exact g),h3.aD y λ_ _ _=>rfl,⟨⟨_,P.trans (aH.aG y),λx c _=>h.If D c⟩,a1⟩⟩
 rcases hX with⟨rfl,C,y⟩|⟨rfl,C,d,y⟩|⟨rfl,C,d,c6,y⟩|⟨rfl,C,d,c7,k,hk,hR,hL,v',b5,a2,b6,b9,-⟩
 ·have e4:ah f[i].L r=4:=by unfold ah;rw[C];rfl
  exact⟨by rw[e4],R (by rw[e4];decide) y⟩
 ·have e5:ah f[i].L r=5:=by unfold ah;rw[C,M.1 d];rfl
  exact⟨by rw[e5],R (by rw[e5];decide) y⟩
 ·have T:(f[i].L.any λa=>a.2.id==r.id)=false:=by
   rw[<-Bool.not_eq_true,<-M];rintro⟨q,U,V⟩;exact d q U V
  have e6:ah f[i].L r=6:=by unfold ah;rw[C,T];simp[show 200<=f[i].L.length by omega]
  exact⟨by rw[e6],R (by rw[e6];decide) y⟩
 ·have T:(f[i].L.any λa=>a.2.id==r.id)=false:=by
   rw[<-Bool.not_eq_true,<-M];rintro⟨q,U,V⟩;exact d q U V
  have e0:ah f[i].L r=0:=by unfold ah;rw[C,T];simp[show¬200<=f[i].L.length by omega]
  rw[if_pos e0]at J;obtain⟨b,hm,c9⟩:=J;have c1:n9 H=(n9 f[i].L).take k++r::(n9 f[i].L).drop k:=zF (h.tab i D).tab.jw Y.jw hm O (by rw[g]at d;exact d) (by intro j hj c3;have:=hR j (by rw[g];exact hj) c3;simpa only[g]using this) (by intro G;have:=hL G;simpa only[g]using this);refine⟨by rw[e0],?_⟩;have c4:=h3.Ck (i:=i) b1 (v':=v') (rs':=f[i].rs.take k++r::f[i].rs.drop k) (by rw[Nt];exact b5) (by rw[Nt];exact b9) (by rw[Nt];exact a2) (by rw[Nt];exact b6);refine⟨_,_,by rw[Mw,Mw],eS.FP z ?_,c4,⟨⟨_,P.trans (a2.mono λx _ c=>.inr c),λx c _=>h.If D c⟩,λx c G=>?_⟩⟩
  ·rw[Nt];show f[i].rs.take k++r::f[i].rs.drop k=n9 H;rw[c1,g]
  ·rw[cE (Mi c P.size)];exact a1 x c G
end
theorem nT{z:Array Ma}{n:Nat}{u:Ma}(h:u∈(Builtin.zeroCells z n).toList):u∈z:=by
 simp only[Builtin.zeroCells,Array.toList_map,OD,Array.mem_toList_iff,Array.mem_range]at h;obtain⟨i,b,rfl⟩:=h;have e:0<z.size:=by
  rcases Pu z.size with a|a
  ·rw[a]at b;simp at b
  ·exact a
 have c:i%z.size<z.size:=Nat.mod_lt _ e;rw[getElem!_pos z _ c];exact Array.getElem_mem c
theorem tu{P:Program}(G:Ma->Prop)(w:MV)(b3:Nat)(t K e:TypeId)(i:TypeInfo)(z:Ma)(M a2:Nat)(R:P.underlying t=N (.slice e))(T:P.info? e=N i)(hz:i.zero=N z)(b4:i.size=M)(b5:i.bytes=a2)(v:Ma)(n:Nat)(U:List Ma)(V:w.ownsRow b3 e M v n U)(a:Oz)(m c:Nat)(f:List Ma)(L:f.length=m*M)(X:∀j u,f[j]?=N u->w.cell? (a.add j)=N u)(h1:∀u∈f,u.oneCell'=true)(b9:n+m<=Nj)(a4:(n+m)*a2<=140737488355328)(hm:0<m)(qz:∀u∈z.cells,G u)(qo:∀g j u,v.ownBlock=N g->w.cell? ⟨g,j,S⟩=N u->G u)(Y:∀u∈f,G u){v':Ma}{w':MV}(y:(Builtin.append_ #[t,t] K #[v,MR (N a) m c]).run P w=.ok v' w'):∀b j u,v'.ownBlock=N b->w'.cell? ⟨b,j,S⟩=N u->G u:=by
 subst b4;subst b5;have c5:n+m<=9223372036854775807:=by simp only[Nj]at b9;omega
 rcases V.2 with⟨rfl,rfl⟩|⟨g,Z,F,rfl,c6,hg,c7,c8,c0,c9⟩
 ·have H:=run_append_nil (P:=P) w t K e i z R T hz a m c f L X O O (by have q:=a4;simp only[NO]at q;omega);rw[H]at y;cases y;intro b j u q J;cases q;have p:=(bA (g:=w.heap.size) (O8 w.drew _)).symm.trans J;rw[Array.toList_append,OS]at p;rcases Od.1 (P8 p)with h|h
  ·exact Y u h
  ·exact qz u (nT h)
 ·by_cases a9:n+m<=Z
  ·have c1:n*i.size+f.length<=F.size:=by rw[L,c0,<-Nat.add_mul];exact Nat.mul_le_mul_right _ a9
   have H:=run_append_room (P:=P) w t K e i R T g n Z F hg a m c f L X h1 a9 c1;have hh:=setRow_heap w g F (F.toList.take (n*i.size)++f++F.toList.drop (n*i.size+f.length)).toArray e _ hg;rw[H]at y;cases y;intro b j u q J;cases q;have b0:∀x∈F.toList,G x:=λx hx=>by
    obtain⟨k,hk,rfl⟩:=Mt hx;exact qo g k _ rfl ((bA hg).trans (NZ hk))
   have p:=(bA hh).symm.trans J;rw[OS]at p;rcases Od.1 (P8 p)with h|h
   ·rcases Od.1 h with h|h
    ·exact b0 u (List.mem_of_mem_take h)
    ·exact Y u h
   ·exact b0 u (List.mem_of_mem_drop h)
  ·have b1:∀j u,U[j]?=N u->w.cell? ((⟨g,0,S⟩:Oz).add j)=N u:=V.cells (g:=g) rfl;have H:=run_append_grow (P:=P) w t K e i z R T hz ⟨g,0,S⟩ n Z U V.1 b1 a m c f L X O O (growslice_fits O a4);rw[H]at y;cases y;intro b j u q J;cases q;have p:=(bA (g:=w.heap.size) (O8 w.drew _)).symm.trans J;simp only[Array.toList_append]at p;rcases Od.1 (P8 p)with h|h
   ·rcases Od.1 h with h|h
    ·obtain⟨k,hk,rfl⟩:=Mt h;have hc:=b1 k _ (NZ hk);rw[Nx]at hc;exact qo g _ _ rfl hc
    ·exact Y u h
   ·exact qz u (nT h)
theorem Hc:(prog.info? 44).map (λi=>(i.zero,i.size,i.bytes))=N (N (MQ S),1,8):=UR
theorem nx:prog.underlying 27=N (.slice 44):=UR
theorem Cd{w:MV}{l:Ma}{n:Nat}{f:List Ma}(h:iX w 44 1 l n f)(M:∀x j u,l.ownBlock=N x->w.cell? ⟨x,j,S⟩=N u->∃q,u=MQ q)(hn:n<=1000000000)(hs:1<=w.heap.size):∃g c k,(Builtin.append_ #[27,27] 27 #[l,MR (N ⟨w.heap.size,0,S⟩) 1 1]).run MT (w.alloc (MY #[MQ (N ⟨p,0,S⟩)] 44))=.ok (MR (N ⟨g,0,S⟩) (n+1) c) k/\k.ownsRow 1 44 1 (MR (N ⟨g,0,S⟩) (n+1) c) (n+1) (f++[MQ (N ⟨p,0,S⟩)])/\aH (λx=>l.ownBlock=N x) w k/\(l.ownBlock=N g\/w.heap.size<=g)/\∀j u,k.cell? ⟨g,j,S⟩=N u->∃q,u=MQ q:=by
 obtain⟨m,t,v,y,z⟩:=info_parts Hc;have F:(w.alloc (MY #[MQ (N ⟨p,0,S⟩)] 44)).ownsRow 1 44 1 l n f:=h.1.alloc _;have G:∀j u,[MQ (N ⟨p,0,S⟩)][j]?=N u->(w.alloc (MY #[MQ (N ⟨p,0,S⟩)] 44)).cell? ((⟨w.heap.size,0,S⟩:Oz).add j)=N u:=λj u a=>by
  rw[Nx];exact aN w #[MQ (N ⟨p,0,S⟩)] 44 j u a
 have H:∀u∈[MQ (N ⟨p,0,S⟩)],u.oneCell'=true:=by simp[Value.oneCell']
 have a2:(w.alloc (MY #[MQ (N ⟨p,0,S⟩)] 44)).heap.size=w.heap.size+1:=by simp
 obtain⟨R,k,J,K,T,a3⟩:=run_append_own (P:=MT) (w.alloc (MY #[MQ (N ⟨p,0,S⟩)] 44)) 1 27 27 44 m _ 1 8 nx t v y z rfl US l n f F ⟨w.heap.size,0,S⟩ 1 1 [MQ (N ⟨p,0,S⟩)] rfl G H UT O O;have U:=gA (P:=MT) (w.alloc (MY #[MQ (N ⟨p,0,S⟩)] 44)) 1 27 27 44 m _ 1 8 nx t v y z l n f F ⟨w.heap.size,0,S⟩ 1 1 [MQ (N ⟨p,0,S⟩)] rfl G H UT O J;have V:=tu (P:=MT) (λu=>∃q,u=MQ q) (w.alloc (MY #[MQ (N ⟨p,0,S⟩)] 44)) 1 27 27 44 m _ 1 8 nx t v y z l n f F ⟨w.heap.size,0,S⟩ 1 1 [MQ (N ⟨p,0,S⟩)] rfl G H UT O US (by intro u a;simp[Value.cells]at a;exact⟨_,a⟩) (λg j u L a=>M g j u L (by rwa[(jr.aS (ON w _ (h.lt L)) j).1]at a)) (by intro u a;simp at a;exact⟨_,a⟩) J;have X:∃g c,R=MR (N ⟨g,0,S⟩) (n+1) c:=by
  rcases K.2 with⟨e,e2⟩|⟨g,c,_,e,_⟩
  ·omega
  ·exact⟨g,c,e⟩
 obtain⟨g,c,rfl⟩:=X;refine⟨g,c,k,J,K,?_,?_,λj u=>V g j u rfl⟩
 ·have Y:aH (λb=>l.ownBlock=N b) w (w.alloc (MY #[MQ (N ⟨p,0,S⟩)] 44)):=aH.aG ((MU _ w).alloc (MP _) _);exact Y.trans (aH.grown T λ_ Z=>Z)
 ·rcases U g rfl with h|h
  ·exact .inl h
  ·exact .inr O
section
variable {w s r w3 W:World}{B n i:Nat}{l C D:Value}{d:List aL}{E:List au}{o:Nat->Nat}
theorem LW.FW(h:LW w B l C D n d E o)(b:l.ownBlock=N x):dg w x:=by
 have a:0<d.length:=by
  rcases Pu d.length with a|a
  ·rw[h.rT.2 a]at b;cases b
  ·exact a
 have c:w.cell? ⟨x,0,S⟩=N (MQ (N ⟨d[0].p,0,S⟩)):=by
  have:=h.rT.1.cells (g:=x) b 0 (MQ (N ⟨d[0].p,0,S⟩)) (by rw[Oh,NZ a];rfl);rwa[Nx]at this
 refine DJ c (h.tab 0 a).c0 (λn e=>by cases e) (λf j=>?_) h.laid;obtain⟨q,e⟩:=h.pT x 1 _ b j;cases e
theorem Do{x:Int}{e:Ending}(h:LW w B l C D n d E o)(f:i<d.length)(m:eS d)(g:Mb w.heap.size w s)(U:bQ r d[i].t d[i].F (d[i].L.filter λa=>a.2.id !=x))(v:aH d[i].F s r)(z:Mb r.heap.size r w3)(V:FK 1 d[i].y 0 d[i].rs x w3 e W):e=MZ (Q I (if(d[i].L.any λa=>a.2.id==x)then 0 else 7))/\∃p G,p.length=d.length/\eS p/\LW W B l C D n p E G/\jv w W o G:=by
 have j:d[i].rs=n9 d[i].L:=m _ (Ms f);have H:=h.LM f g U (λ_ X=>.inl X) v z;have Y:i<(d.set i {d[i]with F:=d[i].F,L:=d[i].L.filter λa=>a.2.id !=x}).length:=by rw[Mw];exact f
 have J:∀y,y<w.heap.size->o y≠0->kc o s.heap.size (3*i+5) y=o y:=λy c _=>cE (Mi c g.size);have q:aH (λy=>d[i].F y\/y=d[i].y\/d[i].v.ownBlock=N y) w w3:=((aH.aG g).trans (v.mono λy _ c=>.inl c)).trans (aH.aG z);rcases V with⟨rfl,rfl,Z⟩|⟨k,K,a0,rfl,v',a2,M,a3,a4,-⟩
 ·have P:∀a∈d[i].L,a.2.id≠x:=λa t=>Z a.2 (by rw[j];exact OD.2 ⟨a,t,rfl⟩);have u:(d[i].L.any λa=>a.2.id==x)=false:=by
   rw[List.any_eq_false];intro a t;rw[beq_iff_eq];exact P a t
  refine⟨by rw[u];rfl,_,_,Mw ..,m.set ?_,H,⟨⟨_,q,λy c _=>h.If f c⟩,J⟩⟩;show d[i].rs=n9 (d[i].L.filter λa=>a.2.id !=x);rw[zY P];exact j
 ·have R:k<d[i].L.length:=by rw[j]at K;simpa using K
  have T:d[i].L[k].2.id=x:=by
   have:d[i].rs[k]=d[i].L[k].2:=by simp only[j,List.getElem_map]
   rw[<-this];exact a0
  have u:(d[i].L.any λa=>a.2.id==x)=true:=by
   rw[P7];exact⟨_,Ms R,by rw[beq_iff_eq];exact T⟩
  have a5:=zX R T (h.tab i f).tab.Lt;have a6:=H.Ck (i:=i) Y (v':=v') (rs':=d[i].rs.take k++d[i].rs.drop (k+1)) (by rw[Nt];exact a2) (by rw[Nt];exact λb g=>.inr (a4 b g)) (by rw[Nt];exact M.mono λ_ _ h=>.inl h) (by rw[Nt];exact a3);refine⟨by rw[u];rfl,_,_,by rw[Mw,Mw],eS.FP m ?_,a6,⟨⟨_,q.trans (M.mono λy _ c=>.inr (.inl c)),λy c _=>h.If f c⟩,λy c h0=>?_⟩⟩
  ·rw[Nt];show d[i].rs.take k++d[i].rs.drop (k+1)=n9 (d[i].L.filter λa=>a.2.id !=x);rw[j];exact a5.symm
  ·rw[cE (Mi c q.size)];exact J y c h0
end
section
variable {w b r f:World}{a n:Nat}{l v y:Value}{c:List aL}{z:List au}{m:Nat->Nat}
def kS(m:Nat->Nat)(s d i:Nat):Nat->Nat:=λx=>if x<s then m x else if x<d then 3*i+5 else if x=d then 3*i+6 else if x=d+1 then 4 else 2
theorem GR{g:Nat}(h:LW w a l v y n c z m)(ha:eS c)(J:Mb w.heap.size w b)(Y:bQ b t F [])(Z:∀x,F x->w.heap.size<=x)(K:r=(b.alloc (MY #[MR S 0 0] 83)).alloc (MY #[MQ (N ⟨t,0,S⟩),MQ (N ⟨b.heap.size,0,S⟩)] 81))(b4:f.ownsRow 1 44 1 (MR (N ⟨g,0,S⟩) (c.length+1) B) (c.length+1) ((c.map λd=>MQ (N ⟨d.p,0,S⟩))++[MQ (N ⟨b.heap.size+1,0,S⟩)]))(L:aH (λx=>l.ownBlock=N x) r f)(C:l.ownBlock=N g\/r.heap.size<=g)(hq:∀j u,f.cell? ⟨g,j,S⟩=N u->∃q,u=MQ q):∃R a0,R.length=c.length+1/\eS R/\LW (f.setCell ⟨a,0,S⟩ (MR (N ⟨g,0,S⟩) (c.length+1) B)) a (MR (N ⟨g,0,S⟩) (c.length+1) B) v y n R z a0/\jv w (f.setCell ⟨a,0,S⟩ (MR (N ⟨g,0,S⟩) (c.length+1) B)) m a0:=by
 have T:a<w.heap.size:=MO h.c0;have s2:=J.size;have s4:r.heap.size=b.heap.size+2:=by rw[K];simp
 have a2:Mb b.heap.size b r:=by rw[K];exact((MU _ b).alloc (MP _) _).alloc (by simp) _
 have a3:Mb w.heap.size w r:=J.trans (a2.mono s2);have U:∀x,l.ownBlock=N x->x<w.heap.size:=λx s=>h.rT.lt s;have V:l.ownBlock≠N a:=λe=>by have:=h.cT a e;rw[h.cw]at this;omega
 have b6:g≠a:=λe=>by
  rcases C with C|C
  ·exact V (by rw[C,e])
  ·omega
 have b9:aH (λx=>x=a\/l.ownBlock=N x) b f:=(aH.aG a2).trans (L.mono λx _ s=>.inr s);have a4:aH (λx=>x=a\/l.ownBlock=N x) b (f.setCell ⟨a,0,S⟩ (MR (N ⟨g,0,S⟩) (c.length+1) B)):=aH.setCell (p:=⟨a,0,S⟩) b9 (.inl (.inl rfl)) _;have H:aH (λx=>x=a\/l.ownBlock=N x) w (f.setCell ⟨a,0,S⟩ (MR (N ⟨g,0,S⟩) (c.length+1) B)):=(aH.aG J).trans a4;have h2:LW b a l v y n c z m:=h.aD J λ_ _ _=>rfl;have W:∀x,(x=a\/l.ownBlock=N x)->dg w x:=λx s=>by
  rcases s with rfl|s
  ·exact h.uH
  ·exact h.FW s
 have c0:∀x,(x=a\/l.ownBlock=N x)->dg b x:=λx s=>by
  rcases s with rfl|s
  ·exact h2.uH
  ·exact h2.FW s
 have M:∀x,(x=a\/l.ownBlock=N x)->m x=1\/m x=2:=λx s=>by
  rcases s with rfl|s
  ·exact .inl h.cw
  ·exact .inr (h.cT x s)
 have c1:∀x,(x=a\/l.ownBlock=N x)->x<w.heap.size:=λx s=>by
  rcases s with rfl|s
  ·exact T
  ·exact U x s
 have E:∀x,x<w.heap.size->kS m w.heap.size b.heap.size c.length x=m x:=λx s=>by unfold kS;rw[if_pos s]
 have n4:∀x,w.heap.size<=x->x<r.heap.size->(f.setCell ⟨a,0,S⟩ (MR (N ⟨g,0,S⟩) (c.length+1) B)).heap[x]?=r.heap[x]?:=λx h1 X=>(Nh _ _ _ _ (by show x≠a;omega)).trans (L.block x X λe=>by have:=U x e;omega);have P:(f.setCell ⟨a,0,S⟩ (MR (N ⟨g,0,S⟩) (c.length+1) B)).heap[b.heap.size]?=N (MY #[MR S 0 0] 83 (0,0)):=by
  rw[n4 _ s2 O,K];exact(ON _ _ (by simp)).trans (O8 b _)
 have hp:(f.setCell ⟨a,0,S⟩ (MR (N ⟨g,0,S⟩) (c.length+1) B)).heap[b.heap.size+1]?=N (MY #[MQ (N ⟨t,0,S⟩),MQ (N ⟨b.heap.size,0,S⟩)] 81 (0,0)):=by
  rw[n4 _ O O,K];have:=O8 (b.alloc (MY #[MR S 0 0] 83)) (MY #[MQ (N ⟨t,0,S⟩),MQ (N ⟨b.heap.size,0,S⟩)] 81);rwa[World.size_alloc]at this
 have c3:f.cell? ⟨a,0,S⟩=N l:=L.block.cell V (MW a3 h.c0);have ob:∀j,f.cell? ⟨a,j,S⟩=w.cell? ⟨a,j,S⟩/\f.frozen? ⟨a,j,S⟩=w.frozen? ⟨a,j,S⟩:=λj=>jr.aS ((L.block a O V).trans (a3.block a T)) j;have o:=jr.set (o:=0) ob (MR (N ⟨g,0,S⟩) (c.length+1) B);have a9:(f.setCell ⟨a,0,S⟩ (MR (N ⟨g,0,S⟩) (c.length+1) B)).heap[g]?=f.heap[g]?:=Nh _ _ _ _ b6;have c4:aL.Ok (f.setCell ⟨a,0,S⟩ (MR (N ⟨g,0,S⟩) (c.length+1) B)) (kS m w.heap.size b.heap.size c.length) c.length ⟨b.heap.size+1,t,b.heap.size,F,[],MR S 0 0,[]⟩:=by
  refine⟨(bA hp).trans rfl,(bA hp).trans rfl,?_,Y.iW a4 c0 λx s D=>?_,λx s=>?_,⟨(bA P).trans rfl,?_,bU.nil _ US,NG _,NG _⟩,⟨(bA P).trans rfl,(bA P).trans rfl⟩,?_,λx s=>by cases s⟩
  ·show kS m w.heap.size b.heap.size c.length (b.heap.size+1)=4;unfold kS;rw[if_neg O,if_neg O,if_neg O,if_pos rfl]
  ·have:=Z x s;have:=c1 x D;omega
  ·have h1:=Z x s;have X:=Y.lt s;unfold kS;rw[if_neg O,if_pos X]
  ·simp[World.frozen?,P]
  ·show kS m w.heap.size b.heap.size c.length b.heap.size=3*c.length+6;unfold kS;rw[if_neg O,if_neg O,if_pos rfl]
 refine⟨c++[⟨b.heap.size+1,t,b.heap.size,F,[],MR S 0 0,[]⟩],kS m w.heap.size b.heap.size c.length,by simp,λd G=>?_,⟨h.laid.iW H.block W,World.cell?_setCell_same _ _ _ c3,(o 1 US).1.trans h.c1,(o 2 US).1.trans h.c2,(o 3 US).1.trans h.c3,h.sS,λj=>?_,⟨?_,λe=>by simp at e⟩,h.rK.aj λx s=>H.block x (h.rK.lt s) λD=>?_,(E a T).trans h.cw,λx s=>?_,λx j u s hu=>?_,λx s=>(E x (h.rK.lt s)).trans (h.cK x s),λi hi=>?_,λk hk=>(h.kept k hk).aj H (λx s _=>?_) λx s _=>E x s⟩,⟨⟨_,H,λx s _=>⟨W x s,?_⟩⟩,λx s _=>E x s⟩⟩
 ·rcases Od.1 G with G|G
  ·exact ha d G
  ·rw[List.mem_singleton]at G;rw[G];rfl
 ·rw[World.frozen?_setCell,(ob j).2];exact h.frz j
 ·rw[Mz,List.map_append];exact aY b4 λx s=>by cases s;exact a9
 ·have:=M x D;rw[h.cK x s]at this;omega
 ·have D:g=x:=Option.some.inj s;subst D;rcases C with C|C
  ·exact(E g (U g C)).trans (h.cT g C)
  ·unfold kS;rw[if_neg O,if_neg O,if_neg O,if_neg O]
 ·have D:g=x:=Option.some.inj s;subst D;rw[(jr.aS a9 j).1]at hu;exact hq j u hu
 ·by_cases hl:i<c.length
  ·rw[List.getElem_append_left hl];refine(h.tab i hl).aj H W (λx s _=>?_) λx s _=>E x s;have:=M x s;omega
  ·have c6:i=c.length:=by rw[Mz]at hi;simp at hi;omega
   subst c6;rw[List.getElem_append_right (MP _)];simp only[Nat.sub_self,List.getElem_cons_zero];exact c4
 ·have:=M x s;omega
 ·have:=M x s;unfold Tc;omega
end
theorem iX.AI{i:Ma}{b:List aL}(h:iX w 44 1 i b.length (b.map λd=>MQ (N ⟨d.p,0,S⟩))):∃a c g,i=MR a b.length c/\∀k (f:k<b.length),a=N ⟨g,0,S⟩/\w.cell? ⟨g,k,S⟩=N (MQ (N ⟨b[k].p,0,S⟩)):=by
 rcases h.1.2 with⟨e,j⟩|⟨g,c,l,e,_⟩
 ·exact⟨S,0,0,by rw[e,j],λk f=>O⟩
 ·refine⟨N ⟨g,0,S⟩,c,g,e,λk f=>⟨rfl,?_⟩⟩;have:=h.1.cells (g:=g) (by rw[e];rfl) k (MQ (N ⟨b[k].p,0,S⟩)) (by rw[Oh,NZ f];rfl);rwa[Nx,NO]at this
theorem wT{b:Nat}{A B C:List Ma}(h:W.rangeAt b 0 (A++(B++C))):W.rangeAt b A.length B:=λj u a=>by
 have c:j<B.length:=(List.getElem?_eq_some_iff.1 a).1;have:=h (A.length+j) u (by rw[List.getElem?_append_right O,Nat.add_sub_cancel_left,List.getElem?_append_left c];exact a);rwa[NO]at this
theorem uj{g:ByteArray}{i:Option Oz}{j k:Nat}{m n o p:Int}(h:W.rangeAt a 0 [Q I b,Q I c,Q I d,Q I e,Q I f,MS g,MR i j k,Q I r.id,Q I r.pr,Q I r.k0,Q I r.v0,Q I r.m0,Q I r.k1,Q I r.v1,Q I r.m1,Q I r.k2,Q I r.v2,Q I r.m2,Q I r.k3,Q I r.v3,Q I r.m3,Q I r.k4,Q I r.v4,Q I r.m4,Q I r.ac,Q I r.po,Q I l,Q I m,Q I n,Q I o,Q I p]):W.rangeAt a 7 [Q I r.id,Q I r.pr,Q I r.k0,Q I r.v0,Q I r.m0,Q I r.k1,Q I r.v1,Q I r.m1,Q I r.k2,Q I r.v2,Q I r.m2,Q I r.k3,Q I r.v3,Q I r.m3,Q I r.k4,Q I r.v4,Q I r.m4,Q I r.ac,Q I r.po]:=
 wT (A:=[Q I b,Q I c,Q I d,Q I e,Q I f,MS g,MR i j k]) (B:=[Q I r.id,Q I r.pr,Q I r.k0,Q I r.v0,Q I r.m0,Q I r.k1,Q I r.v1,Q I r.m1,Q I r.k2,Q I r.v2,Q I r.m2,Q I r.k3,Q I r.v3,Q I r.m3,Q I r.k4,Q I r.v4,Q I r.m4,Q I r.ac,Q I r.po]) (C:=[Q I l,Q I m,Q I n,Q I o,Q I p]) h
theorem dg.LQ{d:MV}(g:x<w.heap.size)(m:Mb w.heap.size w d)(h:dg d x):dg w x:=by
 have b:∀j,d.cell? ⟨x,j,S⟩=w.cell? ⟨x,j,S⟩:=λj=>(jr.aS (m.block x g) j).1;have o:∀e r,ak w e r->ak d e r:=λe r h=>ak.iW (X:=λ_=>False) (aH.aG m).block (λ_ g=>g.elim) h;exact⟨h.zero,λr i=>h.ent r (o x r i),λa n c k=>by have:=h.leaf a n c ((b 0).trans k);rwa[b 3]at this,λf l p q s=>by have:=h.node f l p ((b 1).trans q) ((b 2).trans s);rwa[b 3]at this,λe r k i=>h.bunch e r ((b 0).trans k) (o e r i)⟩
theorem jv.iF{d:MV}{e f:Nat->Nat}(h:jv d W e f)(a:Mb w.heap.size w d):jv w W e f:=by
 obtain⟨⟨X,i,g⟩,j⟩:=h;exact⟨⟨X,(aH.aG a).trans i,λx b c=>⟨dg.LQ c a (g x b (Mi c a.size)).1,(g x b (Mi c a.size)).2⟩⟩,λx b=>j x (Mi b a.size)⟩
theorem Fm{i j k:Int}{m:ByteArray}{n:Option Oz}{o:Nat}(h:W.rangeAt a 0 [Q I g,Q I i,Q I j,Q I k,Q I l,MS m,MR n o p,Q I r.id,Q I r.pr,Q I r.k0,Q I r.v0,Q I r.m0,Q I r.k1,Q I r.v1,Q I r.m1,Q I r.k2,Q I r.v2,Q I r.m2,Q I r.k3,Q I r.v3,Q I r.m3,Q I r.k4,Q I r.v4,Q I r.m4,Q I r.ac,Q I r.po,Q I b,Q I c,Q I d,Q I e,Q I f]):W.cell? ⟨a,26,S⟩=N (Q I b)/\W.cell? ⟨a,27,S⟩=N (Q I c)/\W.cell? ⟨a,28,S⟩=N (Q I d)/\W.cell? ⟨a,29,S⟩=N (Q I e)/\W.cell? ⟨a,30,S⟩=N (Q I f):=
 ⟨h 26 _ rfl,h 27 _ rfl,h 28 _ rfl,h 29 _ rfl,h 30 _ rfl⟩
section
attribute [local go_sem] Oper.semAt_some aI
attribute [local go_sem ↓ high] ia
theorem wj(w:MV)(m:Nat)(tv sv kv:Ma)(n:Nat)(b:List aL)(Ks:List au)(b6:Nat->Nat)(c C E F:Int)(G:ByteArray)(H:Option Oz)(J K:Nat)(r:Rl)(o p q s t:Int)(h:LW w m tv sv kv n b Ks b6)(V:eS b)(X: -9223372036854775808<=c/\c<=9223372036854775807)(b9:0<b.length)(d5:b.length<=1000000000):Mo MT 23 #[MQ (N ⟨m,0,S⟩),M1 #[Q I 4,Q I c,Q I C,Q I E,Q I F,MS G,MR H J K,Q I r.id,Q I r.pr,Q I r.k0,Q I r.v0,Q I r.m0,Q I r.k1,Q I r.v1,Q I r.m1,Q I r.k2,Q I r.v2,Q I r.m2,Q I r.k3,Q I r.v3,Q I r.m3,Q I r.k4,Q I r.v4,Q I r.m4,Q I r.ac,Q I r.po,Q I o,Q I p,Q I q,Q I s,Q I t]] w λe W=>e=MZ (M0 true)/\Mb w.heap.size w W:=by
 obtain⟨dr,c0,c1⟩:=dJ;obtain⟨i,u,Y⟩:=yV c b9;obtain⟨a,v⟩:=UX (w.alloc (MY #[Q I 4,Q I c,Q I C,Q I E,Q I F,MS G,MR H J K,Q I r.id,Q I r.pr,Q I r.k0,Q I r.v0,Q I r.m0,Q I r.k1,Q I r.v1,Q I r.m1,Q I r.k2,Q I r.v2,Q I r.m2,Q I r.k3,Q I r.v3,Q I r.m3,Q I r.k4,Q I r.v4,Q I r.m4,Q I r.ac,Q I r.po,Q I o,Q I p,Q I q,Q I s,Q I t] 41));obtain⟨g,x⟩:=UX w.heap.size;have y:=UY v;have z:a.rangeAt g 0 [Q I 4,Q I c,Q I C,Q I E,Q I F,MS G,MR H J K,Q I r.id,Q I r.pr,Q I r.k0,Q I r.v0,Q I r.m0,Q I r.k1,Q I r.v1,Q I r.m1,Q I r.k2,Q I r.v2,Q I r.m2,Q I r.k3,Q I r.v3,Q I r.m3,Q I r.k4,Q I r.v4,Q I r.m4,Q I r.ac,Q I r.po,Q I o,Q I p,Q I q,Q I s,Q I t]:=by rw[v,x];exact aN _ _ _
 obtain⟨ta,tc,tg,B,Z⟩:=h.rT.AI;have L:=MW y h.c0;have e2:m<w.heap.size:=MO h.c0;have c3:m<a.heap.size:=MO L;rw[B]at L;obtain⟨c4,a0⟩:=Z i u;have M:=MW y a0;have c5:tg<a.heap.size:=MO M;have P:a.cell? ⟨g,0,S⟩=N (Q I 4):=z 0 _ rfl;have k1:a.cell? ⟨g,1,S⟩=N (Q I c):=z 1 _ rfl;have c7:g<a.heap.size:=MO P;have e3:¬(b.length:Int)=0:=O;have e4:(i:Int)<b.length:=O;have e5:=A B;subst c4;have a1:aA (∀(d:Nat) (l:Array Obj),Mo MT 26 #[Q I c,Q I b.length] (grow (NK a d) l) λe w'=>e=MZ (Q I i)/\Mb (grow (NK a d) l).heap.size (grow (NK a d) l) w'):=A λd l=>(ma c b.length i (grow (NK a d) l) X O Y u).mono λe w' hh=>And.intro hh.1 (by rw[hh.2];exact MU _ _);have HH:=A h;have HA:=A V;have R:=A y;have HK:=A z;have a7:=h.c0;rw[B]at a7;obtain⟨D,T⟩:=UX (b[i]);rw[<-T]at M;have U:=A T;clear T B Z a0 h V y z Y X;go_enter Ph,ntmps23;go_wp2_with fail
 rw[<-v,<-x];have c8:=A x;clear v a7 x;refine Mg UR UR ?_
 repeat(quiet_step (exact Ml (a1.o _ _)))
 refine M3 ?_;intro wq f;replace f:=aE f;obtain⟨c9,d0⟩:=aW f;have d1:=f.size;have j0:=MW f P;have e6:g<wq.heap.size:=MO j0;have j:=A (R.o.trans (f.mono R.o.size));have a9:=A (aO HK.o f);clear f c9 d0 d1 L c3 M c5 P k1 c7 a1 R HK;have k:=(HH.o.tab i u);have b0:D.rs=n9 D.L:=by rw[U.o];exact HA.o _ (Ms u)
 rw[<-U.o]at k;obtain⟨y0,y1,y2,y3,y4⟩:=Fm a9.o;have CF:=A (EZ wq D.p D.t D.y D.F D.L D.v o p q s t (MW j.o k.c0) (MW j.o k.c1) (k.tab.still j.o) (by have:=k.ref.aD j.o;rwa[b0]at this));clear k b0 c0 c1 a9 HH HA U c8;go_wp2_with fail
 refine CF.o.mono ?_;rintro e W ⟨rfl,hb⟩;have HF:=A (j.o.trans (hb.mono j.o.size));clear hb;go_wp2;go_ret;exact⟨rfl,HF.o⟩
theorem uU(w:MV)(c:Nat)(q s F:Ma)(n:Nat)(a:List aL)(o:List au)(t:Nat->Nat)(g:Int)(f G H J:Int)(K:ByteArray)(L:Option Oz)(M P:Nat)(r:Rl)(R T U V X:Int)(h:LW w c q s F n a o t)(ha:eS a)(a4: -9223372036854775808<=f/\f<=9223372036854775807)(c3:0<a.length)(e7:a.length<=1000000000)(h1:g≠1)(h2:g≠2)(h3:g≠3)(h4:g≠4)(hn:n<100000000000)(hK:o.length+4<=100000000000):Mo MT 23 #[MQ (N ⟨c,0,S⟩),M1 #[Q I g,Q I f,Q I G,Q I H,Q I J,MS K,MR L M P,Q I r.id,Q I r.pr,Q I r.k0,Q I r.v0,Q I r.m0,Q I r.k1,Q I r.v1,Q I r.m1,Q I r.k2,Q I r.v2,Q I r.m2,Q I r.k3,Q I r.v3,Q I r.m3,Q I r.k4,Q I r.v4,Q I r.m4,Q I r.ac,Q I r.po,Q I R,Q I T,Q I U,Q I V,Q I X]] w λe W=>e=MZ (M0 true)/\∃u k l,k.length=o.length+4/\LW W c q s u (n+1) a k l/\jv w W t l:=by
 obtain⟨dr,c4,c5⟩:=dJ;obtain⟨i,x,a7⟩:=yV f c3;obtain⟨b,y⟩:=UX (w.alloc (MY #[Q I g,Q I f,Q I G,Q I H,Q I J,MS K,MR L M P,Q I r.id,Q I r.pr,Q I r.k0,Q I r.v0,Q I r.m0,Q I r.k1,Q I r.v1,Q I r.m1,Q I r.k2,Q I r.v2,Q I r.m2,Q I r.k3,Q I r.v3,Q I r.m3,Q I r.k4,Q I r.v4,Q I r.m4,Q I r.ac,Q I r.po,Q I R,Q I T,Q I U,Q I V,Q I X] 41));obtain⟨m,z⟩:=UX w.heap.size;have B:=UY y;have p:b.rangeAt m 0 [Q I g,Q I f,Q I G,Q I H,Q I J,MS K,MR L M P,Q I r.id,Q I r.pr,Q I r.k0,Q I r.v0,Q I r.m0,Q I r.k1,Q I r.v1,Q I r.m1,Q I r.k2,Q I r.v2,Q I r.m2,Q I r.k3,Q I r.v3,Q I r.m3,Q I r.k4,Q I r.v4,Q I r.m4,Q I r.ac,Q I r.po,Q I R,Q I T,Q I U,Q I V,Q I X]:=by rw[y,z];exact aN _ _ _
 obtain⟨ta,tc,tg,C,a8⟩:=h.rT.AI;have Y:=MW B h.c0;have f6:c<w.heap.size:=MO h.c0;have c7:c<b.heap.size:=MO Y;rw[C]at Y;obtain⟨c8,a9⟩:=a8 i x;have Z:=MW B a9;have c9:tg<b.heap.size:=MO Z;have k0:b.cell? ⟨m,0,S⟩=N (Q I g):=p 0 _ rfl;have k1:b.cell? ⟨m,1,S⟩=N (Q I f):=p 1 _ rfl;have d1:m<b.heap.size:=MO k0;have f7:¬(a.length:Int)=0:=O;have f8:(i:Int)<a.length:=O;have f9:=A C;subst c8;have b0:aA (∀(d:Nat) (v:Array Obj),Mo MT 26 #[Q I f,Q I a.length] (grow (NK b d) v) λe w'=>e=MZ (Q I i)/\Mb (grow (NK b d) v).heap.size (grow (NK b d) v) w'):=A λd v=>(ma f a.length i (grow (NK b d) v) a4 O a7 x).mono λe w' hh=>And.intro hh.1 (by rw[hh.2];exact MU _ _);have HH:=A h;have HA:=A ha;have a1:=A B;have HK:=A p;have b6:=h.c0;rw[C]at b6;obtain⟨D,hD⟩:=UX (a[i]);rw[<-hD]at Z;have HD:=A hD;clear hD C a8 a9 h ha B p a7 a4;go_enter Ph,ntmps23;go_wp2_with fail
 rw[<-y,<-z];have d2:=A z;clear y b6 z;refine Mg UR UR ?_
 repeat(quiet_step (exact Ml (b0.o _ _)))
 refine M3 ?_;intro E j;replace j:=aE j;obtain⟨d3,d4⟩:=aW j;have d5:=j.size;have j0:=MW j k0;have g0:m<E.heap.size:=MO j0;have c0:=A (a1.o.trans (j.mono a1.o.size));have e0:=A (aO HK.o j);clear j d3 d4 d5 Y c7 Z c9 k0 k1 d1 b0 a1 HK;have c1:a[i].rs=n9 a[i].L:=HA.o _ (Ms x);have CF:aA (Mo MT 12 #[MQ (N ⟨c,0,S⟩),MQ (N ⟨D.p,0,S⟩)] E λe W=>e=MZ (M0 true)/\∃u k l,k.length=o.length+4/\LW W c q s u (n+1) a k l/\jv w W t l):=A (by
  have hq:LW E c q s F n a o t:=HH.o.aD c0.o λ_ _ _=>rfl;have:=qt E c i q s F n a o t hq x c1 hn hK;rw[<-HD.o]at this;refine this.mono ?_;rintro e W ⟨he,u,k,l,p,hl,e5⟩;exact⟨he,u,k,l,p,hl,e5.iF c0.o⟩)
 clear c1 c4 c5 e0 HH HA HD d2 hn hK;go_wp2_with fail
 refine CF.o.mono ?_;rintro e W ⟨rfl,hb⟩;have HF:=A hb;clear hb;go_wp2;go_ret;exact⟨rfl,HF.o⟩
end
end Go.Proofs.YtnjalelblbjfiaaGreatDoor
