import Derived.Test.YtnjalelblbjfiaaGreatDoorP24
namespace Go.Proofs.YtnjalelblbjfiaaGreatDoor
set_option maxRecDepth 100000
set_option maxHeartbeats 16000000
open Go.RowKit
open Go.Proofs.Tryz
open Go.Sort (grow)
open Go renaming Value→Ma,World→MV,run_storeAt_new→Rn,cell_later→MW,block_lt_of_cell→MO,run_loadAt_mid→NW,run_storeAt_mid→QQ,bodyPost_ret→NQ,results_none→Rc,redrawn→NK
open Go.IntKind renaming i64→I
open Go.Obj renaming cells→MY
open Go.Proofs.Tryz renaming prog→MT
open Go.Value renaming int→Q,string→MS,pointer→MQ,agg→M1,tuple→Nn,slice→MR
open Option renaming none→S,some→N
variable {K:List Mc}{W w:MV}{g y:Nat}
section
def tH(v:Ma):Sem Value:=Instr.loadAt 92 v
theorem tG(v:Ma):Instr.loadAt 92 v=tH v:=rfl
def qA(p v:Ma):Sem Unit:=Instr.storeAt 92 p v
theorem qu(p v:Ma):Instr.storeAt 92 p v=qA p v:=rfl
attribute [local go_sem] Oper.semAt_some aI
attribute [local go_sem ↓ high] tG qu cu
theorem wn{c j:Nat}{a:Int}{b q:Mc}{d e:MV}(h:dz y g c a K b w (j+1) W)(i:j+1<=K.length)(k:q=K[j]'O)(l:bL b q.vlan q.mac<0)(m:d=W.setCells g ((j+1)*4) (d8 a q))(n:e=d.drew.setCells g (j*4) (d8 a b)):dz y g c a K b w j e:=by
 subst k;have f:=h.Jv i l;rw[<-m]at f;rw[n,gK];exact f.drew
theorem xG(a b c:Int)(d:ByteArray):d8 a ⟨b,d,c,0⟩=[Q I b,MS d,Q I c,Q I a]:=by simp[d8]
theorem uL{o b a:Nat}{c d:List Ma}(e:b≠g)(h:W.rangeAt b a d):(W.setCells g o c).drew.rangeAt b a d:=λi u f=>(aV c o W ⟨b,a+i,S⟩ e).1.trans (h i u f)
theorem aH.vZ{X Y:Nat->Prop}{a b c:MV}(h:aH X a b)(k:aH Y b c)(f:∀x,Y x->x<a.heap.size->X x):aH X a c:=
 ⟨k.os.trans h.os,k.tape.trans h.tape,k.output.trans h.output,Nat.le_trans h.size k.size,λi d e=>(k.block i (Nat.lt_of_lt_of_le d h.size) λg=>e (f i g d)).trans (h.block i d e)⟩
theorem BY{a:Mc}(b:bZ K)(c:az K a.vlan a.mac=S)(d:¬K.length<64):dy K a K:=by
 refine⟨b,?_⟩;rw[c,if_neg UU]
theorem aT.block{x:aK}(h:aT w y x){t:TypeId}{s n B:Nat}{v:Ma}{b:List Ma}(c:w.ownsRow B t s v n b)(d:t≠90)(a:v.ownBlock=N g):g≠y:=λe=>by
 obtain⟨i,f⟩:=h.blk;rw[e]at a;exact dq c f d a
theorem ro(y:Nat)(x:aK)(c m:Int)(f:ByteArray)(w:MV)(h:aT w y x)(hs:bZ x.K)(hK:x.K.length<=64):Calls MT 131 #[MQ (N ⟨y,0,S⟩),Q I c,MS f,Q I m] w (xQ y x ⟨c,f,m,0⟩ w):=by
 obtain⟨L,M,R⟩:=r8;obtain⟨l,d1⟩:=UX x.now;obtain⟨K,d2⟩:=UX x.K;obtain⟨a,j3,g,b1,hr⟩:=h.pe;have d3:=h.lt;have c4:=h.c4;have c5:=h.c5;have a2:=h.rk;rw[<-d1]at c5 hr a2;rw[<-d2]at hr hs hK b1 a2;rw[b1]at c4 a2;obtain⟨D,b3⟩:=UX (w.alloc (MY #[Q I c,MS f,Q I m,Q I l] 92));obtain⟨E,b4⟩:=UX w.heap.size;have b5:=UY b3;have j4:(qA (MQ (N ⟨w.heap.size,0,S⟩)) (M1 #[Q I c,MS f,Q I m,Q I l])).run MT (w.alloc (MY #[Q I 0,MS ⟨#[]⟩,Q I 0,Q I 0] 92))=.ok () D:=by
  rw[b3];exact Rn (P:=MT) w 92 #[Q I 0,MS ⟨#[]⟩,Q I 0,Q I 0] #[Q I c,MS f,Q I m,Q I l] dp rfl oc
 have d5:D.rangeAt E 0 [Q I c,MS f,Q I m,Q I l]:=by rw[b3,b4];exact aN _ _ _
 have yc:=MW b5 c4;have ly:y<D.heap.size:=MO yc;have lx:E<D.heap.size:=MO (bz d5);have HX:=A h;have T:=A (h.aD b5);have s:=A b5;have HR:=A hr;have HS:=A hs;have g0:=A a2;have a5:=A b1;have g1:=A d5;have e1:=A d2;have g2:=A d1;have n0:=A b4;have n1:=A hK;clear h hr hs a2 b1 d5 d2 d1 b5 b3;go_enter func131,ntmps131;go_wp2_with fail
 rw[<-b4];clear j4 b4 c4 c5 d3;go_loopw [9] (λi wr=>wr=D/\∃k:Nat,k<=K.length/\i=Q I k/\∀j (F:j<K.length),j<k->(K[j].vlan==c&&K[j].mac.toList==f.toList)=false) (λi _=>K.length- (intOf i).toNat)
 case atStart=>exact⟨rfl,0,O,rfl,λj _ h=>absurd h (Nat.not_lt_zero j)⟩
 case round=>
  obtain⟨rfl,k,v,rfl,g3⟩:=hrel;have g4:=A g3;clear g3;by_cases b6:k<K.length
  ·have k1:(k:Int)<K.length:=by omega
   obtain⟨rfl,q0,q1,q2,-⟩:=HR.o k b6;have q0:=MW s.o q0;have q1:=MW s.o q1;have n2:=MO q0;obtain⟨z,hz⟩:=UX (K[k]);rw[<-hz]at q0 q1;have HZ:=A hz;clear hz q2;have g6:((z.vlan==c&&z.mac.toList==f.toList)=false)->∀j (F:j<K.length),j<k+1->(K[j].vlan==c&&K[j].mac.toList==f.toList)=false:=λhf j F k4=>by
    by_cases e:j=k
    ·subst e;rw[<-HZ.o];exact hf
    ·exact g4.o j F O
   have g7:=A g6;clear g6;cases h1:(z.vlan==c)with
   |false=>
    have H1:=A h1;go_wp2_with fail
    go_roundw
    case rel=>exact⟨by trivial,k+1,O,by go_num,g7.o (by rw[H1.o];rfl)⟩
    case measure=>simp[intOf];omega
   |true=>
    cases h2:(z.mac.toList==f.toList)with
    |false=>
     have H2:=A h2;go_wp2_with fail
     go_roundw
     case rel=>exact⟨by trivial,k+1,O,by go_num,g7.o (by rw[H2.o,Bool.and_false])⟩
     case measure=>simp[intOf];omega
    |true=>
     have G:=g0.o.aD s.o;have h0:=G.there rfl b6;have n3:(tH (MQ (N ⟨E,0,S⟩))).run MT wr.drew=.ok (M1 #[Q I c,MS f,Q I m,Q I l]) wr.drew:=NW wr.drew E 0 92 [Q I c,MS f,Q I m,Q I l] L g1.o M R dp;obtain⟨r,B⟩:=UX (wr.drew.setCells g (k*4) [Q I c,MS f,Q I m,Q I l]);have n4:(qA (MQ (N ⟨g,k*4,S⟩)) (M1 #[Q I c,MS f,Q I m,Q I l])).run MT wr.drew=.ok () r:=by
      rw[B];exact QQ (P:=MT) wr.drew g (k*4) 92 #[Q I c,MS f,Q I m,Q I l] h0 dp oc
     have U:aA (xQ y x ⟨c,f,m,0⟩ w (.returned (Nn #[])) r):=A (by
      have H:g≠y:=T.o.block G.1 US rfl;have h3:=G.nO (dF l) rfl b6 ⟨c,f,m,0⟩;rw[xG]at h3;rw[B,gK];have h4:aH (λb=>b=y\/x.kv.ownBlock=N b) w (wr.setCells g (k*4) [Q I c,MS f,Q I m,Q I l]).drew:=(iA _ _ (.inr (by rw[a5.o];rfl)) (aH.aG s.o)).drew;obtain⟨cs,c2⟩:=T.o.blk;refine⟨rfl,x.kv,K.set k ⟨c,f,m,0⟩,?_,HX.o.KV h4 ⟨cs,?_⟩ (λj _=>?_) ?_ ?_,h4,λb t=>.inl t⟩
      ·rw[<-e1.o];exact Ea HS.o b6 (hZ.2 (by show(K[k].vlan==c&&K[k].mac.toList==f.toList)=true;rw[<-HZ.o,h1,h2];rfl))
      ·show(wr.setCells g (k*4) _).heap[y]?=_;exact((iA (X:=λb=>b=g) [Q I c,MS f,Q I m,Q I l] (k*4) rfl (aH.refl _ wr)).block y ly (Ne.symm H)).trans c2
      ·show(wr.setCells g (k*4) _).cell? _=_;rw[(aV _ _ _ _ (Ne.symm H)).1];exact s.o.cell (p:=⟨y,j,S⟩) HX.o.lt
      ·show(wr.setCells g (k*4) _).cell? _=_;rw[(aV _ _ _ _ (Ne.symm H)).1];exact MW s.o HX.o.c4
      ·rw[a5.o,<-g2.o];exact h3)
     clear G h0 B;go_wp2_with fail
     go_region
     go_wp2;refine NQ (Rc rfl _ _ _) rfl ?_;exact U.o
  ·have k1:¬(k:Int)<K.length:=by omega
   have h5:az K c f=none:=by
    unfold az;rw[mq (p:=λe=>e.vlan==c&&e.mac.toList==f.toList) λj F=>g4.o j F O]
   have h6:=A h5;clear h5;by_cases c3:K.length<64
   ·have k7:¬(64:Int)<=K.length:=by omega
    have k9:(tH (MQ (N ⟨E,0,S⟩))).run MT wr.drew=.ok (M1 #[Q I c,MS f,Q I m,Q I l]) wr.drew:=NW wr.drew E 0 92 [Q I c,MS f,Q I m,Q I l] L g1.o M R dp;have G:=g0.o.aD s.o;obtain⟨n,C,w9,e4,e5,V,e6⟩:=FH (e:=⟨c,f,m,0⟩) G O O;simp only[Int.sub_zero]at e4;have l0:=dN e4;have a7:(MR a K.length j3).ownBlock≠N y:=λe=>T.o.block G.1 US e rfl;have y9:=V.block.cell a7 yc;have f9:w9.frozen? ⟨y,4,S⟩=false:=by
     rw[(jr.aS (V.block y ly a7) 4).2];exact T.o.frz 4
    have h7:=MO y9;obtain⟨u,J⟩:=UX (w9.setCell ⟨y,4,S⟩ (MR (N ⟨n,0,S⟩) (K.length+1) C));obtain⟨cs,c2⟩:=T.o.blk;have b9:w9.heap[y]?=N (MY cs 90 (0,0)):=(V.block y ly a7).trans c2;have H:n≠y:=λe=>dq e5.1 b9 US (by rw[<-e];rfl);have BS:aA (dz y n C l K ⟨c,f,m,0⟩ u K.length u):=A (by
     refine⟨?_,by rw[J];exact World.cell?_setCell_same _ _ _ y9,λj F k4=>O,aH.refl _ _,H⟩;rw[List.take_length,List.drop_length,J];exact e5.same λb t=>by cases t;exact Below.heap_setCell _ _ _ _ H)
    have U:aA (∀(i:Nat) (W:MV),dz y n C l K ⟨c,f,m,0⟩ u i W->(hi:i<=K.length)->(∀(h:0<i),¬bL ⟨c,f,m,0⟩ (K[i-1]'O).vlan (K[i-1]'O).mac<0)->xQ y x ⟨c,f,m,0⟩ w (.returned (Nn #[])) W):=A λi W hB hi hL=>by
     have l3:aH (λb=>b=y\/x.kv.ownBlock=N b) wr u:=by
      rw[J];exact aH.setCell (p:=⟨y,4,S⟩) (V.mono λb _ t=>.inr (by rw[a5.o];exact t)) (.inl (.inl rfl)) _
     have n6:w.heap.size<=wr.heap.size:=s.o.size;have i0:aH (λb=>b=y\/x.kv.ownBlock=N b) w W:=by
      refine((aH.aG s.o).trans l3).vZ hB.chg λb t n7=>?_;subst t;rcases e6 with e|e
      ·exact .inr (by rw[a5.o];exact e)
      ·omega
     have i1:W.heap[y]?=u.heap[y]?:=hB.chg.block y (by rw[J];simpa using h7) (Ne.symm H);have l4:∀j,W.cell? ⟨y,j,S⟩=u.cell? ⟨y,j,S⟩:=λj=>(jr.aS i1 j).1;refine⟨rfl,MR (N ⟨n,0,S⟩) (K.length+1) C,K.take i++⟨c,f,m,0⟩::K.drop i,?_,HX.o.KV i0 ?_ (λj F=>?_) hB.cell ?_,i0,λb t=>?_⟩
     ·rw[<-e1.o];exact Eb HS.o hi c3 h6.o hB.bef hL
     ·have h2:u.heap[y]?=N (MY (cs.setIfInBounds 4 (MR (N ⟨n,0,S⟩) (K.length+1) C)) 90 (0,0)):=by rw[J];exact heap_setCell_same w9 y 4 cs 90 _ b9
      exact⟨_,i1.trans h2⟩
     ·rw[l4 j,J,World.cell?_setCell_other _ _ _ _ (λe=>F (congrArg Addr.off e).symm),(jr.aS (V.block y ly a7) j).1];exact s.o.cell (p:=⟨y,j,S⟩) HX.o.lt
     ·rw[<-g2.o];exact hB.own
     ·have l5:n=b:=Option.some.inj t;subst l5;rcases e6 with e|e
      ·exact .inl (by rw[a5.o];exact e)
      ·exact .inr O
    have l6:=A λ(q:Mc) (W:MV)=>xX c q.vlan m q.port l (l-q.age) f q.mac W;clear e4 e5 V e6 G a7 b9 c2 c3 H;go_wp2_with fail
    go_region
    rw[<-J];have b0:=BS.o.cell;have l7:=MO b0;clear J k9 l0 y9 f9 h7;go_wp2_with fail
    clear b0 l7 yc ly lx;go_loopw [10] (λi W=>∃k:Nat,k<=K.length/\i=Q I k/\dz y n C l K ⟨c,f,m,0⟩ u k W) (λi _=>(intOf i).toNat)
    case atStart=>exact⟨K.length,Nat.le_refl _,rfl,BS.o⟩
    case round=>
     obtain⟨k,v,rfl,i3⟩:=hrel;have Y:=A i3;clear i3;cases k with
     |zero=>
      go_wp2;go_end0;exact U.o 0 wr Y.o (Nat.zero_le _) (λh=>absurd h (Nat.lt_irrefl 0))
     |succ j=>
      obtain⟨q,hq⟩:=UX (K[j]'O);have f1:wr.rangeAt n ((j+1)*4) [Q I c,MS f,Q I m,Q I l]:=by have:=Y.o.range v;rw[xG]at this;exact this
      have i4:wr.rangeAt n (j*4) [Q I q.vlan,MS q.mac,Q I q.port,Q I (l-q.age)]:=by have:=Y.o.re v;rw[<-hq]at this;exact this
      have k0:=Y.o.cell;have d3:y<wr.heap.size:=MO k0;have l8:n<wr.heap.size:=MO (bz f1);have n8:(j:Int)+1<K.length+1:=O;have o0:(j:Int)<K.length:=O;have o1:j<K.length:=O;have o2:(0:Int)<=(j:Int)+1:=O;have o5:j<=K.length:=O;have o6:(j:Int)<=K.length:=O;have o7:j<K.length+1:=O;have o8:IntKind.i64.wrap (j:Int)=j:=by rw[IntKind.wrap_i64];omega
      have o9:¬(j:Int)+1<0:=O;have p0:(j:Int)<K.length+1:=O;obtain⟨bb,f2⟩:=UX (decide (jK c f.toList q.vlan q.mac.toList<0));have CA:aA (∀(d:Nat) (os:Array Obj),Calls MT 184 #[M1 #[Q I c,MS f,Q I m,Q I l],M1 #[Q I q.vlan,MS q.mac,Q I q.port,Q I (l-q.age)]] (grow (NK wr d) os) λe w'=>e=.returned (.bool bb)/\Below (grow (NK wr d) os).heap.size (grow (NK wr d) os) w'):=A λd os=>by rw[f2];exact l6.o q (grow (NK wr d) os)
      have HQ:=A hq;have i8:=A f2;clear hq f2;go_wp2_with fail
      refine wp_region_quiet_below UR UR ?_
      repeat(first|(refine cA rfl 92 _ rfl n ((j+1)*4) rfl [Q I c,MS f,Q I m,Q I l] L (λw' h=>dQ f1 h) M R dp ?_)|(refine cA rfl 92 _ rfl n (j*4) rfl [Q I q.vlan,MS q.mac,Q I q.port,Q I (l-q.age)] L (λw' h=>dQ i4 h) M R dp ?_)|quiet_step (exact Calls.regrown_of (CA.o _ _)))
      refine wpQuiet_nil ?_;intro o Z;replace Z:=aE Z;obtain⟨m0,m1⟩:=aW Z;have m2:=Z.size;have BQ:=A (Y.o.aD Z);have kq:o.cell? ⟨y,4,S⟩=N (MR (N ⟨n,0,S⟩) (K.length+1) C):=BQ.o.cell;have p1:y<o.heap.size:=MO kq;have f4:o.rangeAt n ((j+1)*4) [Q I c,MS f,Q I m,Q I l]:=by have:=BQ.o.range v;rw[xG]at this;exact this
      clear f1 i4 k0 d3 l8 m0 m1 m2 Z CA Y;cases bb with
      |false=>
       go_wp2;refine NQ (Rc rfl _ _ _) rfl ?_;have hh:¬bL ⟨c,f,m,0⟩ (K[j]'O).vlan (K[j]'O).mac<0:=by
        rw[<-HQ.o];exact of_decide_eq_false i8.o.symm
       exact U.o (j+1) o BQ.o v (λ_=>by first|exact hh|exact Int.not_lt.1 hh)
      |true=>
       have p2:(tH (MQ (N ⟨n,(j+1)*4,S⟩))).run MT o=.ok (M1 #[Q I c,MS f,Q I m,Q I l]) o:=NW o n ((j+1)*4) 92 [Q I c,MS f,Q I m,Q I l] L f4 M R dp;have p3:(qA (MQ (N ⟨o.heap.size,0,S⟩)) (M1 #[Q I c,MS f,Q I m,Q I l])).run MT (o.alloc (MY #[Q I 0,MS ⟨#[]⟩,Q I 0,Q I 0] 92))=.ok () (o.alloc (MY #[Q I c,MS f,Q I m,Q I l] 92)):=Rn (P:=MT) o 92 #[Q I 0,MS ⟨#[]⟩,Q I 0,Q I 0] #[Q I c,MS f,Q I m,Q I l] dp rfl oc;have BA:=A (BQ.o.aD (W':=(o.alloc (MY #[Q I c,MS f,Q I m,Q I l] 92)).drew) (((Below.refl _ o).alloc (Nat.le_refl _) _).drew));have j0:(o.alloc (MY #[Q I c,MS f,Q I m,Q I l] 92)).drew.rangeAt o.heap.size 0 [Q I c,MS f,Q I m,Q I l]:=aN _ _ _;have j1:(o.alloc (MY #[Q I c,MS f,Q I m,Q I l] 92)).cell? ⟨y,4,S⟩=N (MR (N ⟨n,0,S⟩) (K.length+1) C):=BA.o.cell;have p4:y<(o.alloc (MY #[Q I c,MS f,Q I m,Q I l] 92)).heap.size:=MO j1;have j2:(o.alloc (MY #[Q I c,MS f,Q I m,Q I l] 92)).drew.rangeAt n (j*4) [Q I q.vlan,MS q.mac,Q I q.port,Q I (l-q.age)]:=by have h:=BA.o.re v;rw[<-HQ.o]at h;exact h
       have p5:(tH (MQ (N ⟨n,j*4,S⟩))).run MT (o.alloc (MY #[Q I c,MS f,Q I m,Q I l] 92)).drew=.ok (M1 #[Q I q.vlan,MS q.mac,Q I q.port,Q I (l-q.age)]) (o.alloc (MY #[Q I c,MS f,Q I m,Q I l] 92)).drew:=NW _ n (j*4) 92 [Q I q.vlan,MS q.mac,Q I q.port,Q I (l-q.age)] L j2 M R dp;obtain⟨r,B⟩:=UX ((o.alloc (MY #[Q I c,MS f,Q I m,Q I l] 92)).drew.setCells n ((j+1)*4) (d8 l q));have p6:(qA (MQ (N ⟨n,(j+1)*4,S⟩)) (M1 #[Q I q.vlan,MS q.mac,Q I q.port,Q I (l-q.age)])).run MT (o.alloc (MY #[Q I c,MS f,Q I m,Q I l] 92)).drew=.ok () r:=by
        rw[B];exact QQ (P:=MT) _ n ((j+1)*4) 92 #[Q I q.vlan,MS q.mac,Q I q.port,Q I (l-q.age)] (BA.o.there v v) dp oc
       have m4:o.heap.size≠n:=λe=>by
        have:=MO (bz f4);rw[e]at this;exact Nat.lt_irrefl _ this
       have f5:r.drew.rangeAt o.heap.size 0 [Q I c,MS f,Q I m,Q I l]:=by
        rw[B];exact uL m4 j0
       have m5:r.cell? ⟨y,4,S⟩=N (MR (N ⟨n,0,S⟩) (K.length+1) C):=by
        rw[B];exact(aV _ _ _ _ (Ne.symm BQ.o.ne)).1.trans j1
       have q3:y<r.heap.size:=MO m5;have q4:o.heap.size<r.heap.size:=MO (bz f5);have q5:(tH (MQ (N ⟨o.heap.size,0,S⟩))).run MT r.drew=.ok (M1 #[Q I c,MS f,Q I m,Q I l]) r.drew:=NW _ o.heap.size 0 92 [Q I c,MS f,Q I m,Q I l] L f5 M R dp;obtain⟨Wc,f6⟩:=UX (r.drew.setCells n (j*4) (d8 l ⟨c,f,m,0⟩));have q6:(qA (MQ (N ⟨n,j*4,S⟩)) (M1 #[Q I c,MS f,Q I m,Q I l])).run MT r.drew=.ok () Wc:=by
        rw[f6,xG];refine QQ (P:=MT) _ n (j*4) 92 #[Q I c,MS f,Q I m,Q I l] ?_ dp oc;have h:=BA.o.AH v;rw[<-HQ.o]at h;rw[B];exact h
       have BC:aA (dz y n C l K ⟨c,f,m,0⟩ u j Wc):=A (wn BA.o v HQ.o (of_decide_eq_true i8.o.symm) B f6);clear B f6 j2 j0 f5 f4 BA BQ;go_wp2_with fail
       go_region
       go_wp2_with fail
       go_region
       go_wp2_with fail
       go_roundw
       case rel=>exact⟨j,O,by go_num,BC.o⟩
       case measure=>first|(simp[intOf];done)|(simp[intOf];omega)
   ·have k7:(64:Int)<=K.length:=by omega
    have U:aA (xQ y x ⟨c,f,m,0⟩ w (.returned (Nn #[])) wr):=A (by
     refine⟨rfl,x.kv,x.K,?_,T.o,aH.aG s.o,λb t=>.inl t⟩;rw[<-e1.o];exact BY HS.o h6.o c3)
    clear c3;go_wp2;refine NQ (Rc rfl _ _ _) rfl ?_;exact U.o
end
end Go.Proofs.YtnjalelblbjfiaaGreatDoor
