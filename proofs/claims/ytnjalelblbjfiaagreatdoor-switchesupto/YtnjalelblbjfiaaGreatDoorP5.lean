import Derived.Test.YtnjalelblbjfiaaGreatDoorP2
import Derived.Test.YtnjalelblbjfiaaGreatDoorSh
import Derived.Sort.OwnSortedInts
import Derived.RangeFuncNested
import Derived.RangeFuncBound
namespace Go.Proofs.YtnjalelblbjfiaaGreatDoor
set_option maxRecDepth 100000
set_option maxHeartbeats 16000000
open Go.RowKit
open Go.Proofs.Tryz
open Go.Sort (grow)
open Bool renaming true→Mk,and_eq_true→NH,false→Md
open Go renaming World→MV,Calls→Mo,Obj→Tz,redrawn→NK,wp_region_quiet_below→Mg,wpQuiet_nil→M3,Value→Ma,info_parts→Ob,block_lt_of_cell→MO,wpList_append_lies→OC,maxLen→Nj,madeCells→P6,size_madeCells→Tp,cell_one_new→Ql,cell_later→MW,bodyPost_ret→NQ,results→QO,callsIn_of_wp→Sp,results_none→Rc,cell_of_row→UL,callsIn_wide→PF,Boxed→RA,undef→NS
open Go.Calls renaming regrown_of→Ml
open Go.Ending renaming returned→MZ
open Go.IntKind renaming i64→I,wrap_i64→Mm
open Go.Lib renaming bitLen→QP,bitLenAux→Sz
open Go.Proofs renaming intOf→Nw
open Go.Proofs.Tryz renaming prog→MT,func86→TT,results86→Q2,func85→TU,func99→TR
open Go.RowKit renaming Below→Mb
open Go.RowKit.Below renaming refl→MU,trans→NA,setCell→Me,heap_setCell→Nh
open Go.Value renaming agg→M1,int→Q,pointer→MQ,slice→MR,tuple→Nn,ownBlock→NF,bool→M0,func→Nm,oneCell'→NC
open Int renaming eq_ofNat_of_zero_le→P5,le_trans→TV
open Nat renaming le_refl→MP,le_trans→Mx,zero_add→NO,lt_succ_self→Ol,lt_of_lt_of_le→Mi
open Option renaming some→N,none→S
open List renaming getElem_mem→Ms,take_succ_eq_append_getElem→QY,size_toArray→NY,length_cons→N6,length_nil→OH,push_toArray→Ot,append_toArray→Om,nil_append→O3,cons_append→Ov
open Go.Obj renaming cells→MY,deferred→Q3
open Go.World renaming ownsRow_made→Ru,frozen?_alloc_at→PH,cell?→M7,cell?_of_block→Mj
open Or renaming inr→MX,inl→Mf
open _root_.Array renaming getElem?_eq_some_iff→Mu,ext_getElem?→Rv,replicate_succ→Of,replicate_zero→Og
variable {h:Int}{a d w:MV}{u v v0 v1 v2:Ma}{B b c f g i n x:Nat}{o:Tz}
section
attribute [local go_sem] aI
def mU(a b c:Int):Int:=a- (QP (c-b).toNat:Int)
theorem pP:∀(f x:Nat),Sz f x<=f
 |0,_=>MP _
 |f+1,x=>by
  unfold Sz;split
  ·omega
  ·have:=pP f (x/2);omega
theorem FD(x:Nat):QP x<=64:=pP 64 x
theorem gN(g a b c f:Int)(w:MV)(o:0<=c)(p:c<=f)(r:f<=4294967295)(s:0<=g)(t:g<=32):Mo MT 94 #[M1 #[Q I g,Q I a,Q I b],M1 #[Q I c,Q I f]] w λe j=>e=MZ (Q I (mU g c f))/\Mb w.heap.size w j:=by
 have u:=FD (f-c).toNat;have v:IntKind.i64.wrap (f-c)=f-c:=by rw[Mm];omega
 have x:IntKind.u64.wrap (f-c)=f-c:=by rw[IntKind.wrap_u64];omega
 have y:IntKind.i64.wrap (g- (QP (f-c).toNat:Int))=g- (QP (f-c).toNat:Int):=by rw[Mm];omega
 have l:=A λ(d:Nat) (m:Array Tz) W=>bits_Len64 (f-c) (grow (NK W d) m) O O;generalize k:QP (f-c).toNat=q at*;have n:=A k;clear k;go_enter func94,ntmps94;go_wp2_with fail
 refine Mg UR UR ?_
 repeat(quiet_step (exact Ml ((l.o _ _ _).mono λe j h=>⟨h.1,h.2▸MU _ _⟩)))
 refine M3 ?_;intro z i;replace i:=aE i;obtain⟨B,C⟩:=aW i;have D:=i.size;go_wp2;go_ret;exact⟨I2 (by rw[mU,n.o]),NA UQ (i.mono SZ)⟩
def dI(h m:Int)(i n:Int):Int×Int:=if m<n then(i,n)else(h,m)
def bP(r:Rl):Nat->Int×Int
 |0=>(5,0)
 |k+1=>dI (bP r k).1 (bP r k).2 k (mU (match k with|0=>32|1=>32|2=>8|_=>16) (r.lo k) (r.hi k))
def Rl.jt(r:Rl):Int:=(bP r 5).1
theorem mg(n:Nat)(f:n<=32)(k v m:Int)(a:Nat)(h:a=2^n-1)(b:dM k v m 0 a=Mk):0<=v/\v<=eW k v m a/\eW k v m a<=a:=by
 simp only[dM,NH]at b;obtain⟨c,d,g⟩:=b;rw[aw]at c d;have i:(2:Nat)^n<=4294967296:=Mx (Nat.pow_le_pow_right O f) US;have j:0<(2:Nat)^n:=Nat.pow_pos O;by_cases e:k=1
 ·subst e;simp[eW]at g⊢;omega
 ·simp only[eW,if_neg e,vL];obtain⟨V,rfl⟩:=P5 c.1;obtain⟨M,rfl⟩:=P5 d.1;have l:a&&&(18446744073709551615-M)<=a:=Nat.and_le_left;rw[iN a M O O,ik _ _ O O];have o:V<=V|||(a&&&(18446744073709551615-M)):=Nat.left_le_or;have p:V|||(a&&&(18446744073709551615-M))<2^n:=Nat.or_lt_two_pow O O;omega
theorem mh{k v m a:Int}(h:a=4294967295\/a=255\/a=65535)(b:dM k v m 0 a=Mk):0<=v/\v<=eW k v m a/\eW k v m a<=4294967295:=by
 rcases h with rfl|rfl|rfl
 ·exact mg 32 O k v m 4294967295 US b
 ·have:=mg 8 O k v m 255 US b;exact⟨this.1,this.2.1,TV this.2.2 US⟩
 ·have:=mg 16 O k v m 65535 US b;exact⟨this.1,this.2.1,TV this.2.2 US⟩
theorem pL{r:Rl}(a:r.ok=Mk)(b:f<5):0<=r.lo f/\r.lo f<=r.hi f/\r.hi f<=4294967295:=by
 simp only[Rl.ok,fM,NH]at a;obtain⟨_,_,_,c,d,e,g,h,_⟩:=a;match f,b with
 |0,_=>exact mh (by simp) c
 |1,_=>exact mh (by simp) d
 |2,_=>exact mh (by simp) e
 |3,_=>exact mh (by simp) g
 |4,_=>exact mh (by simp) h
theorem xg:∃d,prog.underlying 179=N d/\d.isRow=true:=gO UR
theorem Ao:(prog.info? 179).map (·.size)=N 15:=UR
theorem cP.range(h:cP w):w.rangeAt 0 0 [Q I 32,Q I 0,Q I 4294967295,Q I 32,Q I 0,Q I 4294967295,Q I 8,Q I 0,Q I 255,Q I 16,Q I 0,Q I 65535,Q I 16,Q I 0,Q I 65535]:=by
 obtain⟨b,c,d,e,f,g,i,k,l,m,o,p,q,r,s⟩:=h;intro j v a;rw[NO];match j,a with
 |0,a=>cases a;exact b
 |1,a=>cases a;exact c
 |2,a=>cases a;exact d
 |3,a=>cases a;exact e
 |4,a=>cases a;exact f
 |5,a=>cases a;exact g
 |6,a=>cases a;exact i
 |7,a=>cases a;exact k
 |8,a=>cases a;exact l
 |9,a=>cases a;exact m
 |10,a=>cases a;exact o
 |11,a=>cases a;exact p
 |12,a=>cases a;exact q
 |13,a=>cases a;exact r
 |14,a=>cases a;exact s
 |n+15,a=>simp at a
attribute [local go_sem] Lj Li Lh Lg Lf
theorem tN(b:Nat)(r:Rl)(w:MV)(G:cP w)(H:ak w b r)(D:r.ok=Mk):Mo MT 44 #[MQ (N ⟨b,0,S⟩)] w λe M=>e=MZ (Q I r.jt)/\Mb w.heap.size w M:=by
 obtain⟨P,J,K⟩:=xg;have L:=A G.range;have R:=H.lt;go_enter func44,ntmps44;go_wp2_with (first|(refine wpList_load_mid rfl 179 _ rfl 0 0 rfl [Q I 32,Q I 0,Q I 4294967295,Q I 32,Q I 0,Q I 4294967295,Q I 8,Q I 0,Q I 255,Q I 16,Q I 0,Q I 65535,Q I 16,Q I 0,Q I 65535] P L.o J K Ao ?_))
 go_loopw [3,4,9] (λh m i wr=>∃k:Nat,k<=5/\i=Q I k/\h=Q I (bP r k).1/\m=Q I (bP r k).2/\Mb w.heap.size w wr) (λ_ _ i _=>5- (Nw i).toNat)
 case atStart=>exact⟨0,O,rfl,rfl,rfl,MU _ _⟩
 case round=>
  obtain⟨k,T,rfl,rfl,rfl,c⟩:=hrel;have g:=H.aD c R;have j:=g.lt;have U:=A G;clear J K L G H;match k,T with
  |0,_=>
   have E:wr.cell? ⟨b,19,S⟩=N (Q I (r.lo 0)):=g.lo (f:=0) O;have F:wr.cell? ⟨b,20,S⟩=N (Q I (r.hi 0)):=g.hi (f:=0) O;obtain⟨l,n,o⟩:=pL D (f:=0) O;have p:=A λ(d:Nat) (u:Array Tz) W=>gN 32 0 4294967295 (r.lo 0) (r.hi 0) (grow (NK W d) u) l n o O O;generalize s:mU 32 (r.lo 0) (r.hi 0)=q at*;have t:aA (bP r 1=dI (bP r 0).1 (bP r 0).2 0 q):=by rw[<-s];exact rfl
   generalize bP r 0=v at*;clear s g l n o;go_wp2_with fail
   refine Mg UR UR ?_
   repeat(quiet_step (exact Ml (p.o _ _ _)))
   refine M3 ?_;intro x a;replace a:=aE a;obtain⟨y,z⟩:=aW a;have B:=a.size;have C:Mb w.heap.size w x:=c.trans (NA ((MU _ _).alloc c.size _) (a.mono (by have:=c.size;simp;omega)));clear y z a B p;by_cases j:v.2<q
   all_goals
    go_wp2;go_roundw
    case rel=>exact⟨1,O,rfl,by rw[t.o];simp[dI,j],by rw[t.o];simp[dI,j],C⟩
    case measure=>simp[Nw]
  |1,_=>
   have E:wr.cell? ⟨b,21,S⟩=N (Q I (r.lo 1)):=g.lo (f:=1) O;have F:wr.cell? ⟨b,22,S⟩=N (Q I (r.hi 1)):=g.hi (f:=1) O;obtain⟨l,n,o⟩:=pL D (f:=1) O;have p:=A λ(d:Nat) (u:Array Tz) W=>gN 32 0 4294967295 (r.lo 1) (r.hi 1) (grow (NK W d) u) l n o O O;generalize s:mU 32 (r.lo 1) (r.hi 1)=q at*;have t:aA (bP r 2=dI (bP r 1).1 (bP r 1).2 1 q):=by rw[<-s];exact rfl
   generalize bP r 1=v at*;clear s g l n o;go_wp2_with fail
   refine Mg UR UR ?_
   repeat(quiet_step (exact Ml (p.o _ _ _)))
   refine M3 ?_;intro x a;replace a:=aE a;obtain⟨y,z⟩:=aW a;have B:=a.size;have C:Mb w.heap.size w x:=c.trans (NA ((MU _ _).alloc c.size _) (a.mono (by have:=c.size;simp;omega)));clear y z a B p;by_cases j:v.2<q
   all_goals
    go_wp2;go_roundw
    case rel=>exact⟨2,O,rfl,by rw[t.o];simp[dI,j],by rw[t.o];simp[dI,j],C⟩
    case measure=>simp[Nw]
  |2,_=>
   have E:wr.cell? ⟨b,23,S⟩=N (Q I (r.lo 2)):=g.lo (f:=2) O;have F:wr.cell? ⟨b,24,S⟩=N (Q I (r.hi 2)):=g.hi (f:=2) O;obtain⟨l,n,o⟩:=pL D (f:=2) O;have p:=A λ(d:Nat) (u:Array Tz) W=>gN 8 0 255 (r.lo 2) (r.hi 2) (grow (NK W d) u) l n o O O;generalize s:mU 8 (r.lo 2) (r.hi 2)=q at*;have t:aA (bP r 3=dI (bP r 2).1 (bP r 2).2 2 q):=by rw[<-s];exact rfl
   generalize bP r 2=v at*;clear s g l n o;go_wp2_with fail
   refine Mg UR UR ?_
   repeat(quiet_step (exact Ml (p.o _ _ _)))
   refine M3 ?_;intro x a;replace a:=aE a;obtain⟨y,z⟩:=aW a;have B:=a.size;have C:Mb w.heap.size w x:=c.trans (NA ((MU _ _).alloc c.size _) (a.mono (by have:=c.size;simp;omega)));clear y z a B p;by_cases j:v.2<q
   all_goals
    go_wp2;go_roundw
    case rel=>exact⟨3,O,rfl,by rw[t.o];simp[dI,j],by rw[t.o];simp[dI,j],C⟩
    case measure=>simp[Nw]
  |3,_=>
   have E:wr.cell? ⟨b,25,S⟩=N (Q I (r.lo 3)):=g.lo (f:=3) O;have F:wr.cell? ⟨b,26,S⟩=N (Q I (r.hi 3)):=g.hi (f:=3) O;obtain⟨l,n,o⟩:=pL D (f:=3) O;have p:=A λ(d:Nat) (u:Array Tz) W=>gN 16 0 65535 (r.lo 3) (r.hi 3) (grow (NK W d) u) l n o O O;generalize s:mU 16 (r.lo 3) (r.hi 3)=q at*;have t:aA (bP r 4=dI (bP r 3).1 (bP r 3).2 3 q):=by rw[<-s];exact rfl
   generalize bP r 3=v at*;clear s g l n o;go_wp2_with fail
   refine Mg UR UR ?_
   repeat(quiet_step (exact Ml (p.o _ _ _)))
   refine M3 ?_;intro x a;replace a:=aE a;obtain⟨y,z⟩:=aW a;have B:=a.size;have C:Mb w.heap.size w x:=c.trans (NA ((MU _ _).alloc c.size _) (a.mono (by have:=c.size;simp;omega)));clear y z a B p;by_cases j:v.2<q
   all_goals
    go_wp2;go_roundw
    case rel=>exact⟨4,O,rfl,by rw[t.o];simp[dI,j],by rw[t.o];simp[dI,j],C⟩
    case measure=>simp[Nw]
  |4,_=>
   have E:wr.cell? ⟨b,27,S⟩=N (Q I (r.lo 4)):=g.lo (f:=4) O;have F:wr.cell? ⟨b,28,S⟩=N (Q I (r.hi 4)):=g.hi (f:=4) O;obtain⟨l,n,o⟩:=pL D (f:=4) O;have p:=A λ(d:Nat) (u:Array Tz) W=>gN 16 0 65535 (r.lo 4) (r.hi 4) (grow (NK W d) u) l n o O O;generalize s:mU 16 (r.lo 4) (r.hi 4)=q at*;have t:aA (bP r 5=dI (bP r 4).1 (bP r 4).2 4 q):=by rw[<-s];exact rfl
   generalize bP r 4=v at*;clear s g l n o;go_wp2_with fail
   refine Mg UR UR ?_
   repeat(quiet_step (exact Ml (p.o _ _ _)))
   refine M3 ?_;intro x a;replace a:=aE a;obtain⟨y,z⟩:=aW a;have B:=a.size;have C:Mb w.heap.size w x:=c.trans (NA ((MU _ _).alloc c.size _) (a.mono (by have:=c.size;simp;omega)));clear y z a B p;by_cases j:v.2<q
   all_goals
    go_wp2;go_roundw
    case rel=>exact⟨5,O,rfl,by rw[t.o];simp[dI,j],by rw[t.o];simp[dI,j],C⟩
    case measure=>simp[Nw]
  |5,_=>
   clear g;go_wp2;go_ret;exact⟨rfl,c⟩
end
theorem Ha:(prog.info? 122).map (λi=>(i.zero,i.size,i.bytes))=N (N (M1 #[Q I 0,Q I 0]),2,16):=UR
theorem r6:prog.underlying 320=N (.slice 122):=UR
def nR(l:List (Int×Int)):List Value:=l.flatMap λp=>[Q I p.1,Q I p.2]
theorem pC(l:List (Int×Int)):(nR l).length=l.length*2:=by
 induction l with
 |nil=>rfl
 |cons p t a=>simp[nR]at a⊢;omega
def wI(f:Nat)(a:List af):List (Int×Int):=a.map λe=>(e.2.lo f,e.2.hi f)
theorem Es(v:Ma)(b:List af)(f:Nat)(w:MV)(U:bR w v b)(hn:b.length<=200)(u:f<5):Mo MT 201 #[v,Q I f] w λe x=>∃g o,e=MZ (MR (N ⟨g,0,S⟩) b.length o)/\x.ownsRow w.heap.size 122 2 (MR (N ⟨g,0,S⟩) b.length o) b.length (nR (wI f b))/\Mb w.heap.size w x:=by
 obtain⟨a,o,rfl,q,d⟩:=U;obtain⟨y,z,B,C,D⟩:=Ob Ha;go_enter func201,ntmps201;go_wp2_with (first|(at_make;refine wpList_make_own _ rfl _ _ 320 rfl w.heap.size 122 y (M1 #[Q I 0,Q I 0]) 2 r6 z B C I I _ b.length rfl rfl rfl (by rw[D];omega) UT (MP _) ?_;intro w0 E F))
 have G:=A E;have H:=A ((MU w.heap.size w).grown F (MP _) (λk h=>by cases h));clear E F;go_loopw [5,13] (λV i wr=>∃(k g j:Nat),k<=b.length/\i=Q I k/\V=MR (N ⟨g,0,S⟩) k j/\wr.ownsRow w.heap.size 122 2 (MR (N ⟨g,0,S⟩) k j) k (nR (wI f (b.take k)))/\Mb w.heap.size w wr) (λ_ i _=>b.length- (Nw i).toNat)
 case atStart=>exact⟨0,w.heap.size,b.length,O,rfl,rfl,G.o,H.o⟩
 case round=>
  obtain⟨k,g,j,hk,rfl,rfl,J,c⟩:=hrel;have l:=A J;clear J G H;by_cases m:k<b.length
  ·obtain⟨K,L,⟨rfl,W⟩,r⟩:=q k m;clear W;have a8:wr.cell? ⟨K,L+k,S⟩=N (MQ (N ⟨b[k].1,0,S⟩)):=(c.cell (p:=⟨K,L+k,S⟩) (MO r)).trans r;have n:=(d b[k] (Ms m)).aD c (d b[k] (Ms m)).lt;have a9:=n.lo u;have b0:=n.hi u;have b1:=n.lt;have b2:(f:Int)<5:=O;generalize M:b[k]=s at*;have X:aA (b.take (k+1)=b.take k++[s]):=by rw[QY m,M];exact rfl
   clear r q d M n;have Y:=c.size;go_wp2_with (first|(at_builtin;refine OC _ rfl _ _ 320 rfl w.heap.size 122 y (M1 #[Q I 0,Q I 0]) 2 16 r6 z B C D rfl US _ _ _ rfl (l.o.alloc _) ⟨wr.heap.size,0,S⟩ 1 1 [Q I (s.2.lo f),Q I (s.2.hi f)] rfl rfl (cell_two_new _ _ _ _) oc US UT O UU _ rfl ?_))
   intro Z a0 w1 P R a1 b4;have B1:=A (ez c Y l.o (MP _) R);have H1:=A P;clear P R a1;go_wp2;go_roundw
   case rel=>exact⟨k+1,Z,a0,O,by go_num,rfl,by rw[X.o];simpa[wI,nR]using H1.o,B1.o⟩
   case measure=>simp[Nw];omega
  ·have T:k=b.length:=by omega
   have t:=l.o;rw[T,List.take_length]at t;have a4:=A t;clear q d t l;subst T;go_wp2;go_ret;exact⟨g,j,rfl,a4.o,c⟩
theorem pJ:(prog.info? 3).map (λi=>(i.zero,i.size,i.bytes))=N (N (Q I 0),1,8):=UR
theorem fl:prog.underlying 32=N (.slice 3):=UR
theorem xo(f g a n:Nat)(b:List Int)(w:MV)(u:n<=200)(h:w.ownsRow f 3 1 (MR (N ⟨g,0,S⟩) n a) n (b.map (Q I))):Mo MT 235 #[MR (N ⟨g,0,S⟩) n a] w λe c=>e=MZ (Nn #[])/\∃i:List Int,c.ownsRow f 3 1 (MR (N ⟨g,0,S⟩) n a) n (i.map (Q I))/\w.grownBy c (N g):=by
 rcases h.2 with⟨j,_⟩|⟨v,x,y,k,l,d,o,p,q,r⟩
 ·cases j
 cases k;have s:b.length=n:=by have:=h.1;simpa using this
 subst s;have t:g<w.heap.size:=(Mu.1 d).1;have:=slices_Sort_int g 0 a b w (holds_of_blockI d (by simpa using r)) t O;refine this.mono ?_;rintro e c ⟨rfl,m,z,rfl⟩;exact⟨rfl,_,ownsRow_sortedI (by simp) l d o p q,grownBy_sortedI _⟩
theorem sf(w:MV)(n:Nat)(a:n<=Nj):(((w.alloc (MY (P6 #[Q I 0] n) 3)).alloc (MY (P6 #[Q I 0] n) 3))).ownsRow w.heap.size 3 1 (MR (N ⟨w.heap.size,0,S⟩) 0 n) 0 (([]:List Int).map (Q I)):=
 (Ru w _ n (MP _) a (by rw[Tp];omega)).alloc _
theorem se(w:MV)(n:Nat)(a:n<=Nj):(((w.alloc (MY (P6 #[Q I 0] n) 3)).alloc (MY (P6 #[Q I 0] n) 3))).ownsRow w.heap.size 3 1 (MR (N ⟨w.heap.size+1,0,S⟩) 0 n) 0 (([]:List Int).map (Q I)):=by
 have:=Ru (base:=w.heap.size) (e:=3) (size:=1) (w.alloc (MY (P6 #[Q I 0] n) 3)) (P6 #[Q I 0] n) n (by simp) a (by rw[Tp];omega);simpa using this
theorem EG(l:List (Int×Int)):∀k (a:k<l.length),(nR l)[k*2]?=N (Q I l[k].1)/\(nR l)[k*2+1]?=N (Q I l[k].2):=by
 induction l with
 |nil=>intro k a;simp at a
 |cons p t b=>
  intro k a;match k,a with
  |0,_=>exact⟨rfl,rfl⟩
  |k+1,a=>
   have:=b k (by simpa using a);have e:(k+1)*2=k*2+2:=O;rw[e];exact this
theorem yY{a:Nat}{l:List (Int×Int)}(h:w.ownsRow B 122 2 (MR (N ⟨g,0,S⟩) n a) n (nR l))(k:Nat)(b:k<l.length):w.cell? ⟨g,k*2,S⟩=N (Q I l[k].1)/\w.cell? ⟨g,k*2+1,S⟩=N (Q I l[k].2):=by
 have c:=h.1;rw[pC]at c;have:=EG l k b;exact⟨(h.cellAt _ O).trans this.1,(h.cellAt _ O).trans this.2⟩
theorem I7{a d e:Nat}(h:(MR (N ⟨a,0,S⟩) c e).ownBlock=N g)(i:(MR (N ⟨b,0,S⟩) d f).ownBlock=N g):a=b:=by
 have j:a=g:=by simpa[NF]using h
 have k:b=g:=by simpa[NF]using i
 rw[j,k]
theorem nY{H:Nat}(a:w.heap.size=H)(x:Ma)(t:TypeId):∀j u,[x][j]?=N u->(w.alloc (MY #[x] t)).cell? ((⟨H,0,S⟩:Addr).add j)=N u:=by
 subst a;exact Ql w x t
theorem Hw(g X n:Nat)(l:List (Int×Int))(B:Nat)(w:MV)(h:w.ownsRow B 122 2 (MR (N ⟨g,0,S⟩) n X) n (nR l))(Y:n<=200):Mo MT 222 #[MR (N ⟨g,0,S⟩) n X] w λe x=>∃(a c1 b c:Nat) (d f:List Int),e=MZ (Nn #[MR (N ⟨a,0,S⟩) n c1,MR (N ⟨b,0,S⟩) n c])/\x.ownsRow w.heap.size 3 1 (MR (N ⟨a,0,S⟩) n c1) n (d.map (Q I))/\x.ownsRow w.heap.size 3 1 (MR (N ⟨b,0,S⟩) n c) n (f.map (Q I))/\Mb w.heap.size w x:=by
 obtain⟨y,z,C,D,E⟩:=Ob pJ;have b1:∀W:MV,(Instr.makeSlice 32 (Q I 0) (Q I n)).run MT W=.ok (MR (N ⟨W.heap.size,0,S⟩) 0 n) (W.alloc (MY (P6 #[Q I 0] n) 3)):=by
  intro W;have:=run_make (P:=MT) W 32 3 y (Q I 0) fl z C I I 0 n O O (by rw[E];omega) O;simpa[D,Value.cells]using this
 go_enter func222,ntmps222;go_wp2;have F:=A (sf w n UT);have G:=A (se w n UT);have d2:l.length=n:=by have:=h.1;rw[pC]at this;omega
 have Z:g<w.heap.size:=(h.lt g rfl).2;have HC:=A (λk (hk:k<l.length)=>yY h k hk);clear h;go_region
 all_goals
  go_wp2;go_loopw [2,3,14] (λv1 v2 i wr=>∃(k a c1 b c:Nat) (d f:List Int),k<=n/\i=Q I k/\v1=MR (N ⟨a,0,S⟩) k c1/\v2=MR (N ⟨b,0,S⟩) k c/\wr.ownsRow w.heap.size 3 1 (MR (N ⟨a,0,S⟩) k c1) k (d.map (Q I))/\wr.ownsRow w.heap.size 3 1 (MR (N ⟨b,0,S⟩) k c) k (f.map (Q I))/\a≠b/\Mb w.heap.size w wr) (λ_ _ i _=>n- (Nw i).toNat)
  case atStart=>first|exact⟨0,_,_,_,_,[],[],O,rfl,rfl,rfl,F.o,G.o,O,UQ⟩|exact⟨0,_,_,_,_,[],[],O,rfl,rfl,rfl,G.o,F.o,O,UQ⟩
  case round=>
   obtain⟨k,a,c1,b,c,d,f,hk,rfl,rfl,rfl,j,m,b5,o⟩:=hrel;have q:=A j;have O2:=A m;clear j m F G b1;have a2:=o.size;by_cases d3:k<n
   ·obtain⟨e1,e2⟩:=HC.o k O;have d4:=(o.cell (p:=⟨g,k*2,S⟩) Z).trans e1;have d5:=(o.cell (p:=⟨g,k*2+1,S⟩) Z).trans e2;generalize(l[k]'O).1=lo at*;generalize(l[k]'O).2=H at*;clear e1 e2;have d6:g<wr.heap.size:=O;have e0:(k:Int)<n:=O;go_wp2_with (first|(at_builtin;refine OC _ rfl _ _ 32 rfl w.heap.size 3 y (Q I 0) 1 8 fl z C D E rfl US _ _ _ rfl ((q.o.alloc _).alloc _) ⟨(wr.heap.size+1),0,S⟩ 1 1 [Q I lo] rfl rfl ?c1 oc US UT O UU _ rfl ?_))
    case c1=>exact nY (by simp) _ _
    intro b6 b9 v a6 r a7 e3;have a8:=(q.o.lt a rfl);have c0:v.cell? ⟨wr.heap.size,1,S⟩=N (Q I H):=r.cell (fW (by simp) (by simp)) (by simp[NF];omega);have s:=A (jb (wq:=wr.alloc _) (O2.o.alloc _) (λg J h2=>b5 (I7 J h2)) r (by simpa using a7));have t:=A (ez (wq:=wr.alloc _) (o.alloc a2 _) UU (q.o.alloc _) (MP _) r);have K:=t.o.size;have e4:wr.heap.size<v.heap.size:=by have:=r.size;simp at this;omega
    have L:=A a6;clear a6 r a7;go_wp2_with (first|(at_builtin;refine OC _ rfl _ _ 32 rfl w.heap.size 3 y (Q I 0) 1 8 fl z C D E rfl US _ _ _ rfl (s.o.1.alloc _) ⟨v.heap.size,0,S⟩ 1 1 [Q I H] rfl rfl ?c1 oc US UT O UU _ rfl ?_))
    case c1=>exact nY rfl _ _
    intro c4 c5 w2 a9 M b0 e5;have u:=A (jb (v1:=MR (N ⟨b,0,S⟩) k c) L.o (λg h5 J=>s.o.2 (GM J h5)) M b0);have R:=A (ez t.o K s.o.1 (MP _) M);have T:=A a9;clear a9 M b0 c0;go_wp2;go_roundw
    case rel=>exact⟨k+1,b6,b9,c4,c5,d++[lo],f++[H],O,by go_num,rfl,rfl,by simpa using u.o.1,by simpa using T.o,λe=>u.o.2 (by rw[e];rfl),R.o⟩
    case measure=>simp[Nw];omega
   ·have c8:k=n:=by omega
    subst c8;have a8:=q.o.lt a rfl;go_wp2_with fail
    refine(xo w.heap.size a c1 k d _ Y q.o).mono ?_;rintro e v ⟨rfl,c9,j,U⟩;have u:=A (O2.o.kept U (MX (by simp[NF];omega)));have L:=A j;have t:=A (o.grown U a2 (λk h=>by cases h;exact a8.1));have K:=t.o.size;clear j U;have d0:=u.o.lt b rfl;go_wp2_with fail
    refine(xo w.heap.size b c k f _ Y u.o).mono ?_;rintro e w2 ⟨rfl,d1,m,V⟩;have s:=A (L.o.kept V (MX (by simp[NF];omega)));have T:=A m;have R:=A (t.o.grown V K (λk h=>by cases h;exact d0.1));clear m V;go_wp2;go_ret2;exact⟨a,c1,b,c,c9,d1,rfl,s.o,T.o,R.o⟩
section
theorem tJ{a:List Int}(h:w.ownsRow B 3 1 (MR (N ⟨g,0,S⟩) n b) n (a.map (Q I))):∀k,k<n->∃z,w.cell? ⟨g,k,S⟩=N (Q I z):=by
 intro k c;have d:a.length=n:=by have:=h.1;simpa using this
 refine⟨a[k]'O,?_⟩;rw[h.cellAt k O];simp[d,c]
theorem rZ(h:b<w.heap.size):(w.alloc o).frozen? ⟨b,i,S⟩=w.frozen? ⟨b,i,S⟩:=
 ((MU w.heap.size w).alloc (MP _) o).frozen (p:=⟨b,i,S⟩) h
theorem sP(h:w.cell? ⟨b,0,S⟩=N u):(((w.setCell ⟨b,0,S⟩ v0).setCell ⟨b,1,S⟩ v1).setCell ⟨b,2,S⟩ v2).cell? ⟨b,0,S⟩=N v0:=by
 rw[cB (MX O),cB (MX O)];exact jB h
theorem sO(h:w.cell? ⟨b,1,S⟩=N u):(((w.setCell ⟨b,0,S⟩ v0).setCell ⟨b,1,S⟩ v1).setCell ⟨b,2,S⟩ v2).cell? ⟨b,1,S⟩=N v1:=by
 rw[cB (MX O)];exact jB (u:=u) (by rw[cB (MX O)];exact h)
theorem sN(h:w.cell? ⟨b,2,S⟩=N u):(((w.setCell ⟨b,0,S⟩ v0).setCell ⟨b,1,S⟩ v1).setCell ⟨b,2,S⟩ v2).cell? ⟨b,2,S⟩=N v2:=
 jB (u:=u) (by rw[cB (MX O),cB (MX O)];exact h)
attribute [local go_sem] aI
theorem GH(g a8 n:Nat)(l:List (Int×Int))(B:Nat)(w:MV)(h:w.ownsRow B 122 2 (MR (N ⟨g,0,S⟩) n a8) n (nR l))(hn:n<=200):Mo MT 200 #[MR (N ⟨g,0,S⟩) n a8] w λe w'=>∃e7 q r:Int,e=MZ (M1 #[Q I e7,Q I q,Q I r])/\0<=q/\q<=n/\0<=r/\r<=n/\Mb w.heap.size w w':=by
 have HE:=A λ(o:Tz)=>Hw g a8 n l B (w.alloc o) (h.alloc o) hn;have hg:g<w.heap.size:=(h.lt g rfl).2;clear h;go_enter func200,ntmps200;go_wp2_with fail
 refine(HE.o _).mono ?_;rintro e d ⟨g1,c1,g2,c2,ls,hs,rfl,b1,b2,b3⟩;have hL:=tJ b1;have hH:=tJ b2;have d6:=(b1.lt g1 rfl).2;have e0:=(b2.lt g2 rfl).2;have h4:w.heap.size<d.heap.size:=by have:=b3.size;simp at this;omega
 have e8:=A b3;have HL:=A hL;have HH:=A hH;clear b1 b2 b3 HE hL hH;go_wp2;go_loopw [6,22] (λM i wr=>∃(k b:Nat) (C q r:Int),k<=n/\i=Q I k/\b<=n/\M=Q I b/\Mb d.heap.size d wr/\d.heap.size<wr.heap.size/\(∀j,wr.frozen? ⟨d.heap.size,j,S⟩=Md)/\wr.cell? ⟨d.heap.size,0,S⟩=N (Q I C)/\wr.cell? ⟨d.heap.size,1,S⟩=N (Q I q)/\wr.cell? ⟨d.heap.size,2,S⟩=N (Q I r)/\0<=q/\q<=n/\0<=r/\r<=n) (λ_ i _=>n- (Nw i).toNat)
 case atStart=>exact⟨0,0,0,n,n,O,rfl,O,rfl,UQ,SZ,λj=>PH _ _ _ _ rfl,by simp,by simp,by simp,O,O,O,O⟩
 case round=>
  obtain⟨k,b,C,q,r,hk,rfl,b4,rfl,s,t,a0,P,R,T,V,W,X,Y⟩:=hrel;have a3:=a0 0;have a4:=a0 1;have a5:=a0 2;have HF:=A a0;clear a0;by_cases f3:k<n
  ·obtain⟨z,hz⟩:=HH.o k f3;have a6:=(s.cell (p:=⟨g2,k,S⟩) e0).trans hz;have h6:(k:Int)<n:=O;clear hz;by_cases f4:k+1<n
   ·obtain⟨y,hy⟩:=HH.o (k+1) f4;have f5:=(s.cell (p:=⟨g2,k+1,S⟩) e0).trans hy;clear hy;have h7:(k:Int)+1<n:=O;by_cases b5:y=z
    ·have u:(y==z)=true:=by simp[b5]
     go_wp2;go_roundw
     case rel=>exact⟨k+1,b,C,q,r,O,by go_num,b4,rfl,s,t,HF.o,P,R,T,V,W,X,Y⟩
     case measure=>simp[Nw];omega
    ·have u:(y==z)=false:=by simp[b5]
     go_wp2;clear f5 b5;go_loop [6] (λM=>∃c:Nat,c<=n/\M=Q I c) (λM=>n- (Nw M).toNat)
     case atStart=>exact⟨b,b4,rfl⟩
     case round=>
      obtain⟨c,f6,rfl⟩:=hrel;by_cases b6:c<n
      ·obtain⟨x,hx⟩:=HL.o c b6;have f7:=(s.cell (p:=⟨g1,c,S⟩) d6).trans hx;clear hx;have f8:(c:Int)<n:=O;by_cases f9:x<=z
       ·go_wp2;go_round
        case rel=>exact⟨c+1,O,by go_num⟩
        case measure=>simp[Nw];omega
       ·go_wp2_with fail
        refine Mg UR UR ?_
        repeat(quiet_step (exact Ml (ke _ _ _ _)))
        refine M3 ?_;intro f a;replace a:=aE a;obtain⟨U,D⟩:=aW a;have E:=a.size;have u:Mb d.heap.size d f:=s.trans (NA ((MU _ _).alloc s.size _) (a.mono (by have:=s.size;simp;omega)));have F:d.heap.size<f.heap.size:=by simp at E;omega
        have G:=MW a (fW t P);have H:=MW a (fW t R);have J:=MW a (fW t T);have m:∀j,f.frozen? ⟨d.heap.size,j,S⟩=false:=λj=>(D d.heap.size j UU).trans ((rZ t).trans (HF.o j));have f0:=m 0;have f1:=m 1;have f2:=m 2;have n0:f.cell? ⟨wr.heap.size,0,S⟩=N (Q I z):=MW a (by simp);have n1:f.cell? ⟨wr.heap.size,1,S⟩=N (Q I c):=MW a (by simp);have n2:f.cell? ⟨wr.heap.size,2,S⟩=N (Q I ((n:Int) -k-1)):=MW a (by simp);have K:=A u;have L:=A m;clear U D a E P R T a3 a4 a5 m u a6;have c7:(0:Int)<=(n:Int) -k-1:=O;have c8:(n:Int) -k-1<=n:=O;by_cases c9:rL c ((n:Int) -k-1)<rL q r
        ·go_wp2;go_roundw
         case rel=>exact⟨k+1,c,z,c,(n:Int) -k-1,O,by go_num,O,rfl,Me (Me (Me K.o (MP _) _) (MP _) _) (MP _) _,by simpa using F,λj=>by simpa using L.o j,sP G,sO H,sN J,O,O,O,O⟩
         case measure=>simp[Nw];omega
        ·go_wp2;go_roundw
         case rel=>exact⟨k+1,c,C,q,r,O,by go_num,O,rfl,K.o,F,L.o,G,H,J,V,W,X,Y⟩
         case measure=>simp[Nw];omega
      ·go_wp2_with fail
       refine Mg UR UR ?_
       repeat(quiet_step (exact Ml (ke _ _ _ _)))
       refine M3 ?_;intro f a;replace a:=aE a;obtain⟨U,D⟩:=aW a;have E:=a.size;have u:Mb d.heap.size d f:=s.trans (NA ((MU _ _).alloc s.size _) (a.mono (by have:=s.size;simp;omega)));have F:d.heap.size<f.heap.size:=by simp at E;omega
       have G:=MW a (fW t P);have H:=MW a (fW t R);have J:=MW a (fW t T);have m:∀j,f.frozen? ⟨d.heap.size,j,S⟩=false:=λj=>(D d.heap.size j UU).trans ((rZ t).trans (HF.o j));have f0:=m 0;have f1:=m 1;have f2:=m 2;have n0:f.cell? ⟨wr.heap.size,0,S⟩=N (Q I z):=MW a (by simp);have n1:f.cell? ⟨wr.heap.size,1,S⟩=N (Q I c):=MW a (by simp);have n2:f.cell? ⟨wr.heap.size,2,S⟩=N (Q I ((n:Int) -k-1)):=MW a (by simp);have K:=A u;have L:=A m;clear U D a E P R T a3 a4 a5 m u a6;have c7:(0:Int)<=(n:Int) -k-1:=O;have c8:(n:Int) -k-1<=n:=O;by_cases c9:rL c ((n:Int) -k-1)<rL q r
       ·go_wp2;go_roundw
        case rel=>exact⟨k+1,c,z,c,(n:Int) -k-1,O,by go_num,O,rfl,Me (Me (Me K.o (MP _) _) (MP _) _) (MP _) _,by simpa using F,λj=>by simpa using L.o j,sP G,sO H,sN J,O,O,O,O⟩
        case measure=>simp[Nw];omega
       ·go_wp2;go_roundw
        case rel=>exact⟨k+1,c,C,q,r,O,by go_num,O,rfl,K.o,F,L.o,G,H,J,V,W,X,Y⟩
        case measure=>simp[Nw];omega
   ·go_wp2;go_loop [6] (λM=>∃c:Nat,c<=n/\M=Q I c) (λM=>n- (Nw M).toNat)
    case atStart=>exact⟨b,b4,rfl⟩
    case round=>
     obtain⟨c,f6,rfl⟩:=hrel;by_cases b6:c<n
     ·obtain⟨x,hx⟩:=HL.o c b6;have f7:=(s.cell (p:=⟨g1,c,S⟩) d6).trans hx;clear hx;have f8:(c:Int)<n:=O;by_cases f9:x<=z
      ·go_wp2;go_round
       case rel=>exact⟨c+1,O,by go_num⟩
       case measure=>simp[Nw];omega
      ·go_wp2_with fail
       refine Mg UR UR ?_
       repeat(quiet_step (exact Ml (ke _ _ _ _)))
       refine M3 ?_;intro f a;replace a:=aE a;obtain⟨U,D⟩:=aW a;have E:=a.size;have u:Mb d.heap.size d f:=s.trans (NA ((MU _ _).alloc s.size _) (a.mono (by have:=s.size;simp;omega)));have F:d.heap.size<f.heap.size:=by simp at E;omega
       have G:=MW a (fW t P);have H:=MW a (fW t R);have J:=MW a (fW t T);have m:∀j,f.frozen? ⟨d.heap.size,j,S⟩=false:=λj=>(D d.heap.size j UU).trans ((rZ t).trans (HF.o j));have f0:=m 0;have f1:=m 1;have f2:=m 2;have n0:f.cell? ⟨wr.heap.size,0,S⟩=N (Q I z):=MW a (by simp);have n1:f.cell? ⟨wr.heap.size,1,S⟩=N (Q I c):=MW a (by simp);have n2:f.cell? ⟨wr.heap.size,2,S⟩=N (Q I ((n:Int) -k-1)):=MW a (by simp);have K:=A u;have L:=A m;clear U D a E P R T a3 a4 a5 m u a6;have c7:(0:Int)<=(n:Int) -k-1:=O;have c8:(n:Int) -k-1<=n:=O;by_cases c9:rL c ((n:Int) -k-1)<rL q r
       ·go_wp2;go_roundw
        case rel=>exact⟨k+1,c,z,c,(n:Int) -k-1,O,by go_num,O,rfl,Me (Me (Me K.o (MP _) _) (MP _) _) (MP _) _,by simpa using F,λj=>by simpa using L.o j,sP G,sO H,sN J,O,O,O,O⟩
        case measure=>simp[Nw];omega
       ·go_wp2;go_roundw
        case rel=>exact⟨k+1,c,C,q,r,O,by go_num,O,rfl,K.o,F,L.o,G,H,J,V,W,X,Y⟩
        case measure=>simp[Nw];omega
     ·go_wp2_with fail
      refine Mg UR UR ?_
      repeat(quiet_step (exact Ml (ke _ _ _ _)))
      refine M3 ?_;intro f a;replace a:=aE a;obtain⟨U,D⟩:=aW a;have E:=a.size;have u:Mb d.heap.size d f:=s.trans (NA ((MU _ _).alloc s.size _) (a.mono (by have:=s.size;simp;omega)));have F:d.heap.size<f.heap.size:=by simp at E;omega
      have G:=MW a (fW t P);have H:=MW a (fW t R);have J:=MW a (fW t T);have m:∀j,f.frozen? ⟨d.heap.size,j,S⟩=false:=λj=>(D d.heap.size j UU).trans ((rZ t).trans (HF.o j));have f0:=m 0;have f1:=m 1;have f2:=m 2;have n0:f.cell? ⟨wr.heap.size,0,S⟩=N (Q I z):=MW a (by simp);have n1:f.cell? ⟨wr.heap.size,1,S⟩=N (Q I c):=MW a (by simp);have n2:f.cell? ⟨wr.heap.size,2,S⟩=N (Q I ((n:Int) -k-1)):=MW a (by simp);have K:=A u;have L:=A m;clear U D a E P R T a3 a4 a5 m u a6;have c7:(0:Int)<=(n:Int) -k-1:=O;have c8:(n:Int) -k-1<=n:=O;by_cases c9:rL c ((n:Int) -k-1)<rL q r
      ·go_wp2;go_roundw
       case rel=>exact⟨k+1,c,z,c,(n:Int) -k-1,O,by go_num,O,rfl,Me (Me (Me K.o (MP _) _) (MP _) _) (MP _) _,by simpa using F,λj=>by simpa using L.o j,sP G,sO H,sN J,O,O,O,O⟩
       case measure=>simp[Nw];omega
      ·go_wp2;go_roundw
       case rel=>exact⟨k+1,c,C,q,r,O,by go_num,O,rfl,K.o,F,L.o,G,H,J,V,W,X,Y⟩
       case measure=>simp[Nw];omega
  ·have Z:Mb (w.heap.size+1) (w.alloc (MY #[Q I 0,Q I 0,Q I 0] 318)) wr:=(e8.o.mono (by simp)).trans (s.mono O);have r0:wr.cell? ⟨w.heap.size,0,S⟩=N (Q I 0):=(Z.cell (p:=⟨w.heap.size,0,S⟩) (Ol _)).trans (by simp);have r1:wr.cell? ⟨w.heap.size,1,S⟩=N (Q I 0):=(Z.cell (p:=⟨w.heap.size,1,S⟩) (Ol _)).trans (by simp);have r2:wr.cell? ⟨w.heap.size,2,S⟩=N (Q I 0):=(Z.cell (p:=⟨w.heap.size,2,S⟩) (Ol _)).trans (by simp);have rf:∀j,wr.frozen? ⟨w.heap.size,j,S⟩=false:=λj=>(Z.frozen (p:=⟨w.heap.size,j,S⟩) (Ol _)).trans (PH _ _ _ _ rfl);have h8:=rf 0;have h9:=rf 1;have i0:=rf 2;have g5:=A Z;clear Z rf;go_wp2;refine NQ (v:=M1 #[Q I C,Q I q,Q I r]) ?_ rfl ⟨C,q,r,rfl,V,W,X,Y,?_⟩
   ·have s0:=sP (v0:=Q I C) (v1:=Q I q) (v2:=Q I r) r0;have s1:=sO (v0:=Q I C) (v1:=Q I q) (v2:=Q I r) r1;have s2:=sN (v0:=Q I C) (v1:=Q I q) (v2:=Q I r) r2;simp[QO,results200,go_sem,s0,s1,s2]
   ·exact Me (Me (Me (NA ((MU w.heap.size w).alloc (MP _) _) (g5.o.mono O)) (MP _) _) (MP _) _) (MP _) _
end
theorem Ar(h:w.cell? ⟨b,0,S⟩=N u):((w.setCell ⟨b,0,S⟩ v0).setCell ⟨b,1,S⟩ v1).cell? ⟨b,0,S⟩=N v0:=by
 rw[cB (MX O)];exact jB h
theorem Aq(h:w.cell? ⟨b,1,S⟩=N u):((w.setCell ⟨b,0,S⟩ v0).setCell ⟨b,1,S⟩ v1).cell? ⟨b,1,S⟩=N v1:=
 jB (u:=u) (by rw[cB (MX O)];exact h)
def qO(w:MV)(b f:Nat)(a:Int):Prop:=f<5/\b<w.heap.size/\(∀j,w.frozen? ⟨b,j,S⟩=Md)/\w.cell? ⟨b,0,S⟩=N (Q I f)/\w.cell? ⟨b,1,S⟩=N (Q I a)
theorem qO.aD{e:Int}(h:qO w b f e)(a:Mb B w d)(c:b<B):qO d b f e:=
 ⟨h.1,Mi h.2.1 a.size,λj=>(a.frozen (p:=⟨b,j,S⟩) c).trans (h.2.2.1 j),(a.cell (p:=⟨b,0,S⟩) c).trans h.2.2.2.1,(a.cell (p:=⟨b,1,S⟩) c).trans h.2.2.2.2⟩
theorem qO.set{f':Nat}{a last':Int}(h:qO w b f a)(c:f'<5):qO ((w.setCell ⟨b,0,S⟩ (Q I f')).setCell ⟨b,1,S⟩ (Q I last')) b f' last':=
 ⟨c,by simpa using h.2.1,λj=>by simpa using h.2.2.1 j,Ar h.2.2.2.1,Aq h.2.2.2.2⟩
theorem zt(v:Ma)(r:List af)(w:MV)(R:bR w v r)(T:r.length<=200):Mo MT 151 #[v] w λe t=>∃(f:Nat) (d:Int) (D:Bool),f<5/\e=MZ (Nn #[M1 #[Q I f,Q I d],M0 D])/\Mb w.heap.size w t:=by
 have HB:=A R;obtain⟨a,c6,rfl,_,_⟩:=R;go_enter func151,ntmps151;go_wp2;go_loopw [3,4,10] (λD m i wr=>∃(k f:Nat) (d E:Int) (s:Bool),k<=5/\i=Q I k/\D=M0 s/\m=Q I E/\qO wr w.heap.size f d/\Mb w.heap.size w wr) (λ_ _ i _=>5- (Nw i).toNat)
 case atStart=>exact⟨0,0,0,_,Md,O,rfl,rfl,rfl,⟨O,by simp,λj=>PH _ _ _ _ rfl,by simp,by simp⟩,UQ⟩
 case round=>
  obtain⟨k,f,d,E,s,hk,rfl,rfl,rfl,F,x⟩:=hrel;have n:=A F;have a2:=F.2.1;clear F;by_cases U:k<5
  ·have c8:(k:Int)<5:=by omega
   go_wp2_with fail
   refine(Es _ r k _ (HB.o.aD x (MP _)) T U).mono ?_;rintro e w1 ⟨g,cp,rfl,V,G⟩;have W:=A V;clear V;go_wp2_with fail
   refine(GH g cp r.length _ _ _ W.o T).mono ?_;rintro e b ⟨u,y,z,rfl,h1,h2,h3,h4,X⟩;have H:Mb wr.heap.size wr b:=G.trans (X.mono G.size);have J:=A (n.o.aD H a2);have a4:=J.o.2.1;have B:=A (x.trans (H.mono x.size));clear G X H W n;go_wp2_with fail
   refine(ke _ _ _ _).mono ?_;rintro e h ⟨rfl,l⟩;obtain⟨a5,a6⟩:=aW l;have Y:=l.size;have o:=A ((J.o.aD ((MU b.heap.size b).alloc (MP _) _) a4).aD l UU);have C:=A (B.o.trans (NA ((MU _ _).alloc B.o.size _) (l.mono (by have:=B.o.size;simp;omega))));have p0:h.cell? ⟨b.heap.size,0,S⟩=N (Q I u):=MW l (by simp);have p1:h.cell? ⟨b.heap.size,1,S⟩=N (Q I y):=MW l (by simp);have p2:h.cell? ⟨b.heap.size,2,S⟩=N (Q I z):=MW l (by simp);have d4:b.heap.size<h.heap.size:=by simp at Y;omega
   generalize hq:rL y z=q at*;clear hq a5 a6 Y l J B;by_cases t1:q<E
   ·by_cases t2:(y+z-r.length)*4<=r.length
    ·go_wp2;have K:=o.o.2.2.2.1;have L:=o.o.2.2.2.2;have Z:=o.o.2.2.1 0;have f1:=o.o.2.2.1 1;have e0:¬b.heap.size=w.heap.size:=O;have e1:¬w.heap.size=b.heap.size:=O;have M:w.heap.size<h.heap.size:=O;go_region_held3 (λt=>t.cell? ⟨b.heap.size,0,S⟩=N (Q I u)/\t.cell? ⟨b.heap.size,1,S⟩=N (Q I y)/\t.cell? ⟨b.heap.size,2,S⟩=N (Q I z)) (go_keep)
      (first|(go_at_call 202;refine(ke _ _ _ _).mono ?_;rintro e P ⟨rfl,c⟩;have k0:=MW c p0;have k1:=MW c p1;have k2:=MW c p2;have k3:=MW c K;have k4:=MW c L;have k5:P.frozen? ⟨w.heap.size,0,S⟩=false:=(c.frozen (p:=⟨w.heap.size,0,S⟩) M).trans Z;have k6:P.frozen? ⟨w.heap.size,1,S⟩=false:=(c.frozen (p:=⟨w.heap.size,1,S⟩) M).trans f1))
     replace c:Mb h.heap.size h P:=((MU h.heap.size h).drew).trans c;have c2:=A ((o.o.aD c M).set (f':=k) (last':=u) U);have c3:=A (Me (Me (C.o.trans (c.mono C.o.size)) (p:=⟨w.heap.size,0,S⟩) (MP _) (Q I k)) (p:=⟨w.heap.size,1,S⟩) (MP _) (Q I u));clear c k0 k1 k2 k3 k4 k5 k6;go_wp2;go_roundw
     case rel=>exact⟨k+1,k,u,_,Mk,O,by go_num,rfl,rfl,c2.o,c3.o⟩
     case measure=>simp[Nw];omega
    ·go_wp2;go_roundw
     case rel=>exact⟨k+1,f,d,_,s,O,by go_num,rfl,rfl,o.o,C.o⟩
     case measure=>simp[Nw];omega
   ·go_wp2;go_roundw
    case rel=>exact⟨k+1,f,d,_,s,O,by go_num,rfl,rfl,o.o,C.o⟩
    case measure=>simp[Nw];omega
  ·have K:=n.o.2.2.2.1;have L:=n.o.2.2.2.2;have Z:=n.o.2.2.1 0;have f1:=n.o.2.2.1 1;go_wp2;refine NQ (v:=Nn #[M1 #[Q I f,Q I d],M0 s]) ?_ rfl ⟨f,d,s,n.o.1,rfl,?_⟩
   ·have s0:=Ar (v0:=Q I f) (v1:=Q I d) K;have s1:=Aq (v0:=Q I f) (v1:=Q I d) L;simp[QO,results151,go_sem,s0,s1]
   ·exact Me (Me x (MP _) _) (MP _) _
theorem Cv(h:w.cell? ⟨b,i,S⟩=N v):w.setCell ⟨b,i,S⟩ v=w:=by
 have e:b<w.heap.size:=MO h;unfold M7 at h;unfold World.setCell;cases w with
 |mk f m n p q=>
  simp only at h e⊢;congr 1;apply Rv;intro k;rw[Array.getElem?_modify];by_cases a:b=k
  ·subst a;rw[if_pos rfl];cases g:f[b]?with
   |none=>rfl
   |some o=>
    rw[g]at h;cases o with
    |cells c t r=>
     simp at h;simp only[Option.map_some];congr 2;apply Rv;intro j;simp only[Option.isSome_none,Bool.false_eq_true,if_false];rw[Array.getElem?_setIfInBounds];by_cases d:i=j
     ·subst d;obtain⟨l,s⟩:=Mu.1 h;rw[if_pos rfl,if_pos l,h]
     ·rw[if_neg d]
    |_=>simp at h
  ·rw[if_neg a]
theorem Ds(v:Ma)(c:List af)(w:MV)(u:bR w v c)(x:c.length<=200):Mo MT 86 #[v] w λe o=>∃(f:Nat) (b:Int) (q r:Ma) (k:Bool),f<5/\e=MZ (Nn #[M1 #[Q I f,Q I b],q,r,M0 k])/\(k=Mk->bR o q (sy f b c)/\bR o r (mj f b c))/\Mb w.heap.size w o:=by
 have y:=A u;obtain⟨a,X,rfl,_,_⟩:=u;by_cases Y:c.length<=4
 ·have G:(c.length:Int)<=4:=by omega
  go_enter TT,ntmps86;go_wp2;refine NQ (v:=Nn #[M1 #[Q I 0,Q I 0],MR S 0 0,MR S 0 0,M0 Md]) ?_ rfl ⟨0,0,MR S 0 0,MR S 0 0,Md,O,rfl,λh=>(by cases h),UQ⟩;simp[QO,Q2,go_sem]
 ·have G:¬(c.length:Int)<=4:=by omega
  go_enter TT,ntmps86;go_wp2_with fail
  refine(zt _ c _ (y.o.aD ((MU w.heap.size w).alloc (MP _) _) (MP _)) x).mono ?_;rintro e d ⟨f,b,k,l,rfl,z⟩;have B:w.heap.size<d.heap.size:=by have:=z.size;simp at this;omega
  have i:Mb (w.heap.size+1) (w.alloc (MY #[Q I 0,Q I 0] 193)) d:=z.mono (by simp);have H:d.cell? ⟨w.heap.size,0,S⟩=N (Q I 0):=(i.cell (p:=⟨w.heap.size,0,S⟩) (Ol _)).trans (by simp);have J:d.cell? ⟨w.heap.size,1,S⟩=N (Q I 0):=(i.cell (p:=⟨w.heap.size,1,S⟩) (Ol _)).trans (by simp);have m:∀j,d.frozen? ⟨w.heap.size,j,S⟩=false:=λj=>(i.frozen (p:=⟨w.heap.size,j,S⟩) (Ol _)).trans (PH _ _ _ _ rfl);have Z:=m 0;have a0:=m 1;have s:=A (qO.set (f':=f) (last':=b) (show qO d w.heap.size 0 0 from⟨O,B,m,H,J⟩) l);have n:=A (Me (Me (NA ((MU w.heap.size w).alloc (MP _) (MY #[Q I 0,Q I 0] 193)) (i.mono O)) (p:=⟨w.heap.size,0,S⟩) (MP _) (Q I f)) (p:=⟨w.heap.size,1,S⟩) (MP _) (Q I b));clear i m;cases k
  ·go_wp2_with fail
   refine NQ (v:=Nn #[M1 #[Q I f,Q I b],MR S 0 0,MR S 0 0,M0 Md]) ?_ rfl ⟨f,b,MR S 0 0,MR S 0 0,Md,l,rfl,λh=>(by cases h),?_⟩
   ·have K:=Ar (v0:=Q I f) (v1:=Q I b) s.o.2.2.2.1;have L:=Aq (v0:=Q I f) (v1:=Q I b) s.o.2.2.2.2;simp[QO,Q2,go_sem,K,L]
   ·exact Me (Me n.o (MP _) _) (MP _) _
  ·go_wp2_with fail
   refine(Ap _ c f b _ (y.o.aD n.o (MP _)) x l).mono ?_;rintro e w3 ⟨q,r,rfl,C,D,t⟩;have g:=s.o.aD t (by simpa using B);have E:=g.2.2.2.1;have F:=g.2.2.2.2;have a4:=g.2.2.1 0;have a5:=g.2.2.1 1;have M:=A (n.o.trans (t.mono n.o.size));have a6:=A g;have e0:=Cv E;have e1:=Cv F;have P:=A C;have R:=A D;obtain⟨T,U,rfl,_,_⟩:=C;obtain⟨V,W,rfl,_,_⟩:=D;clear t g;go_wp2_with fail
   refine NQ (v:=Nn #[M1 #[Q I f,Q I b],MR T (sy f b c).length U,MR V (mj f b c).length W,M0 Mk]) ?_ rfl ⟨f,b,_,_,Mk,l,rfl,λ_=>⟨?_,?_⟩,?_⟩
   ·simp[QO,Q2,go_sem,E,F]
   ·exact P.o
   ·exact R.o
   ·exact M.o
theorem eC.Jk{a:List af}(h:∃v,bR w v a/\w.cell? ⟨b,0,S⟩=N v/\w.cell? ⟨b,3,S⟩=N (MQ S)):eC w n b a:=by
 cases n with
 |zero=>exact h
 |succ n=>exact Mf h
theorem Hm:∀(n:Nat) (v:Ma) (c:List af) (w:MV),n<=12->bR w v c->c.length<=200->Mo MT 85 #[v,Q I n,Nm (.func 86) #[] #[]] w λe h=>∃b,e=MZ (MQ (N ⟨b,0,S⟩))/\eC h n b c/\Mb w.heap.size w h:=by
 intro n;induction n with
 |zero=>
  intro v c w hn i l;have m:=A i;obtain⟨a,C,rfl,_,_⟩:=i;go_enter TU,ntmps85;go_wp2;go_ret;exact⟨_,rfl,eC.Jk ⟨_,m.o.aD UQ (MP _),by simp,by simp⟩,UQ⟩
 |succ n D=>
  intro v c w hn i l;have E:=A D;clear D;have m:=A i;obtain⟨a,C,rfl,_,_⟩:=i;have c8:(0:Int)<(n+1:Nat):=O;go_enter TU,ntmps85;go_wp2_with fail
  refine(Ds _ c w m.o l).mono ?_;rintro e g ⟨f,d,v1,v2,ok,hf,rfl,r,j⟩;have d1:(f:Int)<5:=O;cases ok
  ·have k:=A j;clear r j;go_wp2;go_ret;have F:Mb w.heap.size w _:=((k.o.alloc k.o.size (MY #[Q I f,Q I d] 193)).alloc (by have:=k.o.size;simp;omega) (MY #[MR a c.length C,Q I 0,Q I 0,MQ S,MQ S] 195));exact⟨_,rfl,eC.Jk ⟨_,m.o.aD F (MP _),by simp,by simp⟩,F⟩
  ·obtain⟨G,J⟩:=r rfl;have a7:=A G;have a8:=A J;obtain⟨a1,q1,rfl,_,_⟩:=G;obtain⟨a2,q2,rfl,_,_⟩:=J;have k:=A j;have K:=j.size;have b5:=Mx (DB f d c) l;have b6:=Mx (zI f d c) l;have M:((n+1:Nat):Int) -1=n:=O;have P:IntKind.i64.wrap (((n+1:Nat):Int) -1)=n:=by rw[M,Mm];omega
   generalize R:sy f d c=L at*;generalize T:mj f d c=H at*;have EL:=A R;have EH:=A T;clear r j R T M P;have P:IntKind.i64.wrap (n:Int)=n:=by rw[Mm];omega
   go_wp2_with fail
   have U:n<=12:=O;have s:=A ((MU g.heap.size g).alloc (MP _) (MY #[Q I f,Q I d] 193));go_region_held3 (λh=>h.cell? ⟨g.heap.size,0,S⟩=N (Q I f)/\h.cell? ⟨g.heap.size,1,S⟩=N (Q I d)) (go_keep)
    (first
     |(go_at_call_of 85 (MR a1 L.length q1);refine(E.o _ L _ U ?_ b5).mono ?_;(exact a7.o.aD s.o.drew (MP _));rintro e t ⟨u,rfl,V,o⟩;have W:t.cell? ⟨g.heap.size,0,S⟩=N (Q I f):=MW o (by simp);have X:t.cell? ⟨g.heap.size,1,S⟩=N (Q I d):=MW o (by simp);have c1:=A V;have Y:=A o;clear V o)
     |(go_at_call_of 85 (MR a2 H.length q2);refine(E.o _ H _ U ?_ b6).mono ?_;(exact(a8.o.aD s.o.drew (MP _)).aD Y.o (MP _));rintro e p ⟨x,rfl,Z,q⟩;have m0:=MW q W;have m1:=MW q X;have c4:=A Z;have a0:=A q;clear Z q))
   have y:Mb g.heap.size g t:=s.o.drew.trans (Y.o.mono (by simp));have z:Mb g.heap.size g p:=y.trans (a0.o.mono y.size);have BW:Mb w.heap.size w (p.alloc (MY #[MR S 0 0,Q I f,Q I d,MQ (N ⟨u,0,S⟩),MQ (N ⟨x,0,S⟩)] 195)):=(k.o.trans (z.mono K)).alloc (Mx K z.size) _;have B:=(MU p.heap.size p).alloc (MP _) (MY #[MR S 0 0,Q I f,Q I d,MQ (N ⟨u,0,S⟩),MQ (N ⟨x,0,S⟩)] 195);have T1:=A ((c1.o.aD a0.o (MP _)).aD B (MP _));have T2:=A (c4.o.aD B (MP _));have c7:=A BW;clear y z BW B m0 m1 W X;go_wp2;go_ret;refine⟨_,rfl,MX ⟨f,d,u,x,hf,by simp,by simp,by simp,by simp,?_,?_⟩,c7.o⟩
   ·have:=T1.o;rw[<-EL.o]at this;exact this
   ·have:=T2.o;rw[<-EH.o]at this;exact this
section
open Go.RowKit Go.Shelf
attribute [local go_sem] Oper.semAt_some
def kN(b:Nat)(W:MV)(c:Ma)(L:List af):Prop:=
 ∃(a:Option Addr) (d:Nat),c=MR a L.length d/\∀j (h:j<L.length),∃g,a=N ⟨g,0,S⟩/\g<b/\W.cell? ⟨g,j*3,S⟩=N (Q I L[j].2.pr)/\W.cell? ⟨g,j*3+1,S⟩=N (Q I L[j].2.id)/\W.cell? ⟨g,j*3+2,S⟩=N (MQ (N ⟨L[j].1,0,S⟩))
theorem kN.aD{B:MV}(h:Mb c d B){f:Ma}{L:List af}(i:kN c d f L):kN c B f L:=by
 obtain⟨a,k,e,l⟩:=i;refine⟨a,k,e,λj m=>?_⟩;obtain⟨g,n,b,o,q,r⟩:=l j m;exact⟨g,n,b,(h.cell (p:=⟨g,j*3,S⟩) b).trans o,(h.cell (p:=⟨g,j*3+1,S⟩) b).trans q,(h.cell (p:=⟨g,j*3+2,S⟩) b).trans r⟩
def Hy{Pr:af->Prop}(x:{e:af//Pr e}):Array Value:=#[M1 #[Q I x.1.2.pr,Q I x.1.2.id],MQ (N ⟨x.1.1,0,S⟩)]
theorem Jc{t:af->Prop}(F:Fence)(n:Nat)(K:F.fn 99)(M:F.round=S)(hn:1<=n)(l u m f:Nat)(w:Ma)(L:List {e:af//t e})(a4:L.length<=200)(J y:List {e:af//t e}->MV->Prop)(B:Nat)(P:AbidesFrom B J)(R:∀b x W,J b W->b.length<L.length->YieldAt F (n-1) MT l (Hy x) W λe c=>(e=MZ (M0 Mk)/\J (b++[x]) c/\Mb f W c)\/(e=MZ (M0 Md)/\y (b++[x]) c))(W:MV)(z:f<=W.heap.size)(a5:W.cell? ⟨u,0,S⟩=N (MQ (N ⟨m,0,S⟩)))(T:W.cell? ⟨m,1,S⟩=N w)(U:kN f W w (L.map (·.1)))(V:J [] W):CallsIn F n MT 99 #[Nm (.yield l) #[] #[],MQ (N ⟨u,0,S⟩)] W λe c=>(∃v,e=MZ v)/\((∃C,C=L/\J C c)\/(∃b,b<+:L/\y b c)):=by
 obtain⟨a,a6,rfl,h⟩:=U;simp only[List.length_map]at h T⊢;refine Sp TR rfl K ?_ M;simp only[ntmps99,NY,N6,OH,Nat.reduceAdd,Nat.reduceSub,Of,Og,Ot,Om,O3,Ov];gi_wp2
 gi_loopw [10] (λi wr=>∃k:Nat,k<=L.length/\i=Q I k/\J (L.take k) wr/\Mb f W wr) (λi _=>L.length- (Nw i).toNat)
 case atStart=>exact⟨0,Nat.zero_le _,rfl,by simpa using V,MU _ _⟩
 case round=>
  obtain⟨k,hk,rfl,D,d⟩:=hrel;by_cases E:k<L.length
  ·obtain⟨g,rfl,j,o,q,s⟩:=h k E;rw[List.getElem_map]at o q s;have d0:=(d.cell (p:=⟨g,k*3,S⟩) j).trans o;have d1:=(d.cell (p:=⟨g,k*3+1,S⟩) j).trans q;have d2:=(d.cell (p:=⟨g,k*3+2,S⟩) j).trans s;have b1:g<wr.heap.size:=Mi (Mi j z) d.size;have b2:(k:Int)<L.length:=O;have G:=P _ wr (wr.alloc (MY #[Q I L[k].1.2.pr,Q I L[k].1.2.id,MQ (N ⟨L[k].1.1,0,S⟩)] 189)) S D (World.grownBy_alloc _ _ _) (λr e=>by cases e);obtain⟨fn,b4,b5,b6,X,Y⟩:=R _ L[k] _ G UU;simp only[Hy]at X;have H:aA (L.take (k+1)=L.take k++[L[k]]):=by rw[QY E];exact rfl
   generalize Z:L[k]=ek at*;clear G h o q s Z;gi_wp2
   refine Y.mono ?_;rintro e W3 (⟨rfl,a0,a1⟩|⟨rfl,a2⟩)
   ·gi_wp2
    go_roundw
    case rel=>exact⟨k+1,O,by simp,by rw[H.o];exact a0,(d.alloc (Mx z d.size) _).trans a1⟩
    case measure=>simp[Nw];omega
   ·gi_wp2
    refine NQ (Rc rfl _ _ _) rfl ?_;exact⟨⟨_,rfl⟩,MX ⟨_,by rw[<-H.o];exact List.take_prefix _ _,a2⟩⟩
  ·obtain rfl:k=L.length:=by omega
   clear h;gi_wp2
   go_end0;exact⟨⟨_,rfl⟩,Mf ⟨_,rfl,by simpa using D⟩⟩
end
def dB(w:MV)(x:Nat):Prop:=
 (∃b q e f c,w.cell? ⟨x,0,S⟩=N (MQ (N ⟨b,0,S⟩))/\w.cell? ⟨x,1,S⟩=N (MQ q)/\w.cell? ⟨b,0,S⟩=N (Nm e f c))\/
 (∃e f c a l k,w.cell? ⟨x,0,S⟩=N (Nm e f c)/\w.cell? ⟨x,1,S⟩=N (MR a l k))\/
 (∃n p,w.cell? ⟨x,0,S⟩=N (Q I n)/\w.cell? ⟨x,1,S⟩=N (MQ p))\/
 (∃n m p,w.cell? ⟨x,0,S⟩=N (Q I n)/\w.cell? ⟨x,1,S⟩=N (Q I m)/\w.cell? ⟨x,2,S⟩=N (MQ p))\/
 (∃o,w.heap[x]?=N o/\o.isCells=Md)\/
 (x≠0/\∃h t i a b c d,w.heap[x]?=N (MY h t i)/\h.size≠29/\w.cell? ⟨x,0,S⟩=N (Q I a)/\w.cell? ⟨x,1,S⟩=N (Q I b)/\w.cell? ⟨x,2,S⟩=N (Q I c)/\w.cell? ⟨x,3,S⟩=N (Q I d))
theorem dL{w:MV}(h:w.heap[x]?=N o)(a:o.isCells=Md):w.cell? ⟨x,i,S⟩=none:=by
 unfold M7;rw[h];cases o<;>first|rfl|cases a
theorem dB.vk{w:MV}{r:Rl}(h:dB w x)(e:ak w x r):False:=by
 have d:=e.c0;have t:=e.c1;have u:=e.c2;rcases h with⟨b,q,D,f,c,i,j,_⟩|⟨D,f,c,a,l,k,i,j⟩|⟨n,p,i,j⟩|⟨n,m,p,i,j,E⟩|⟨o,h,F⟩|⟨G,s,v,y,H,J,K,L,z,M,P,R,T,U⟩
 ·rw[i]at d;cases d
 ·rw[i]at d;cases d
 ·rw[j]at t;cases t
 ·rw[E]at u;cases u
 ·rw[dL h F]at d;cases d
 ·have B:=e 28 O;have C:=e 29 O;rw[UL w x 28 s v y z]at B;rw[UL w x 29 s v y z]at C;have V:28<s.size:=(Mu.1 (B.trans (show r.vq[28]?=N _ from rfl))).1;have W:s.size<=29:=Array.getElem?_eq_none_iff.1 (C.trans (show r.vq[29]?=S from rfl));omega
def fF(X:Nat->Prop)(w g:MV):Prop:=∀b,b<w.heap.size->¬X b->g.heap[b]?=w.heap[b]?
section
variable {X:Nat->Prop}{w g:World}
theorem fF.cell(h:fF X w g)(d:¬X b)(c:w.cell? ⟨b,i,S⟩=N v):g.cell? ⟨b,i,S⟩=N v:=
 (Mj (w:=w) (a:=⟨b,i,S⟩) (h b (MO c) d)).trans c
theorem ak.kept(h:fF X w g)(c:∀x,X x->dB w x){r:Rl}(a:ak w b r):ak g b r:=
 a.same (h b a.lt λd=>(c b d).vk a)
theorem bR.kept(h:fF X w g)(u:∀x,X x->dB w x){r:List af}(F:bR w v r):bR g v r:=by
 obtain⟨a,G,H,y,z⟩:=F;refine⟨a,G,H,λi J=>?_,λe K=>(z e K).kept h u⟩;obtain⟨b,L,⟨B,C⟩,M⟩:=y i J;refine⟨b,L,⟨B,C⟩,h.cell (λP=>?_) M⟩;obtain⟨Y,Z,⟨D,a0⟩,d⟩:=y 0 O;rw[B]at D;cases D;subst C;have R:=z r[0] (Ms O);rw[NO]at d;rcases u b P with⟨T,q,U,f,c,j,s,t⟩|⟨U,f,c,a,l,k,j,s⟩|⟨n,p,j,s⟩|⟨n,m,p,j,s,t⟩|⟨o,V,W⟩|⟨a1,cs,ct,a4,ga,gb,gc,gd,gh,gs,j,s,t,g3⟩
 ·rw[j]at d;have e:T=r[0].1:=by simpa using d
  have E:=R.c0;rw[<-e,t]at E;cases E
 ·rw[j]at d;cases d
 ·rw[j]at d;cases d
 ·rw[j]at d;cases d
 ·rw[dL V W]at d;cases d
 ·rw[j]at d;cases d
theorem eC.kept(h:fF X w g)(z:∀x,X x->dB w x):∀{n b:Nat} {s:List af},eC w n b s->eC g n b s:=by
 have B:∀{b:Nat} {v:Ma} {s:List af},bR w v s->w.cell? ⟨b,0,S⟩=N v->¬X b:=by
  intro b v s H y r;obtain⟨a,a7,J,_,_⟩:=H;rw[J]at y;rcases z b r with⟨K,q,C,f,c,j,e,u⟩|⟨C,f,c,a,l,k,j,e⟩|⟨n,p,j,e⟩|⟨n,m,p,j,e,u⟩|⟨o,D,E⟩|⟨L,M,P,R,T,U,V,W,Y,Z,j,e,u,F⟩<;>first|(rw[j]at y;cases y)|(rw[dL D E]at y;cases y)
 intro n;induction n with
 |zero=>
  rintro b s ⟨v,d,i,t⟩;exact⟨v,d.kept h z,h.cell (B d i) i,h.cell (B d i) t⟩
 |succ n G=>
  rintro b s (⟨v,d,i,t⟩|⟨f,a0,bl,bh,hf,d,i,t,h4,h5,h6⟩)
  ·exact Mf ⟨v,d.kept h z,h.cell (B d i) i,h.cell (B d i) t⟩
  ·have r:¬X b:=by
    intro r;rcases z b r with⟨K,q,C,f,c,j,e,u⟩|⟨C,f,c,a,l,k,j,e⟩|⟨n,p,j,e⟩|⟨n,m,p,j,e,u⟩|⟨o,D,E⟩|⟨L,M,P,R,T,U,V,W,Y,Z,j,e,u,F⟩
    ·rw[e]at d;cases d
    ·rw[e]at d;cases d
    ·rw[e]at d;cases d
    ·rw[u]at i;cases i
    ·rw[dL D E]at d;cases d
    ·rw[F]at t;cases t
   exact MX ⟨f,a0,bl,bh,hf,h.cell r d,h.cell r i,h.cell r t,h.cell r h4,G h5,G h6⟩
end
theorem dB.aD{w g:MV}(h:dB w x)(s:Mb B w g)(t:w.heap.size<=B):dB g x:=by
 have d:∀{b i:Nat} {v:Ma},w.cell? ⟨b,i,S⟩=N v->g.cell? ⟨b,i,S⟩=N v:=λ{b i v} h=>
  (s.cell (p:=⟨b,i,S⟩) (Mi (MO h) t)).trans h
 rcases h with⟨C,q,u,f,c,e,j,r⟩|⟨u,f,c,a,l,k,e,j⟩|⟨n,p,e,j⟩|⟨n,m,p,e,j,r⟩|⟨o,y,D⟩|⟨E,F,G,H,J,K,L,M,z,P,e,j,r,R⟩
 ·exact Mf ⟨C,q,u,f,c,d e,d j,d r⟩
 ·exact MX (Mf ⟨u,f,c,a,l,k,d e,d j⟩)
 ·exact MX (MX (Mf ⟨n,p,d e,d j⟩))
 ·exact MX (MX (MX (Mf ⟨n,m,p,d e,d j,d r⟩)))
 ·exact MX (MX (MX (MX (Mf ⟨o,(s.block x (Mi (Mu.1 y).1 t)).trans y,D⟩))))
 ·exact MX (MX (MX (MX (MX ⟨E,F,G,H,J,K,L,M,(s.block x (Mi (Mu.1 z).1 t)).trans z,P,d e,d j,d r,d R⟩))))
structure aH (X:Nat->Prop) (w g:MV):Prop where
 os:g.os=w.os
 tape:g.tape=w.tape
 output:g.output=w.output
 size:w.heap.size<=g.heap.size
 block:fF X w g
theorem aH.aG{X:Nat->Prop}{w g:MV}(h:Mb w.heap.size w g):aH X w g:=⟨h.os,h.tape,h.output,h.size,λb a _=>h.block b a⟩
theorem aH.trans{X:Nat->Prop}{b c:MV}(h:aH X a b)(k:aH X b c):aH X a c:=
 ⟨k.os.trans h.os,k.tape.trans h.tape,k.output.trans h.output,Mx h.size k.size,λi d e=>(k.block i (Mi d h.size) e).trans (h.block i d e)⟩
theorem aH.mono{X Y:Nat->Prop}{b:MV}(h:aH X a b)(d:∀x,x<a.heap.size->X x->Y x):aH Y a b:=
 ⟨h.os,h.tape,h.output,h.size,λi c e=>h.block i c λf=>e (d i c f)⟩
theorem aH.aD{X:Nat->Prop}{b:MV}(h:aH X a b)(e:B<=a.heap.size)(c:∀x,X x->B<=x):Mb B a b:=
 ⟨h.os,h.tape,h.output,h.size,λk f=>h.block k O λd=>by have:=c k d;omega⟩
section
open Go.RowKit Go.Shelf
attribute [local go_sem] Oper.semAt_some
theorem IU(F:Fence)(n:Nat)(a:F.fn 51)(b:F.round=S)(m:Nat)(w:MV):CallsIn F n MT 51 #[MQ (N ⟨m,0,S⟩)] w λe c=>e=MZ (Nm (.func 99) #[] #[MQ (N ⟨w.heap.size,0,S⟩)])/\c=w.alloc (MY #[MQ (N ⟨m,0,S⟩)] 97):=by
 refine Sp func51 rfl a ?_ b;simp only[ntmps51,NY,N6,OH,Nat.reduceAdd,Nat.reduceSub,Of,Og,Ot,Om,O3,Ov];gi_wp2
 go_ret;exact⟨rfl,rfl⟩
theorem vV{g:af->Prop}(F:Fence)(n:Nat)(h:F.fn 99)(i:F.round=S)(j:1<=n)(a m b:Nat)(d:Ma)(L:List {e:af//g e})(k:L.length<=200)(w:MV)(o:a<w.heap.size)(q:m<b)(f:b<=w.heap.size)(r:w.cell? ⟨a,0,S⟩=N (MQ (N ⟨m,0,S⟩)))(s:w.cell? ⟨m,1,S⟩=N d)(t:kN b w d (L.map (·.1))):SeqStopsK F n MT 99 #[MQ (N ⟨a,0,S⟩)] (Hy (Pr:=g)) (Mb b) (λu=>u=L) (λv=>v<+:L) L.length w:=λl J x W c y _ z B=>
 Jc F n h i j l a m b d L k J x W.heap.size y z W (Mx f c.size) ((c.cell (p:=⟨a,0,S⟩) o).trans r) ((c.cell (p:=⟨m,1,S⟩) (Mi q f)).trans s) (t.aD (c.mono f)) B
theorem fC{W:MV}(h:Mb W.heap.size W a):KeepsOthers W a:=
 ⟨h.size,λk _ b _=>(h.block k (Mu.1 b).1).trans b⟩
def qy(h:Int)(L:List af):List af:=L.filter λe=>e.2.jt==h
def pM{a:af->Prop}(h:Int)(L:List {e:af//a e}):List af:=qy h (L.map (·.1))
theorem Hq{a:af->Prop}{b:List {e:af//a e}}{x:{e:af//a e}}(c:(x.1.2.jt==h)=Mk):pM h (b++[x])=pM h b++[x.1]:=by simp[pM,qy,c]
theorem Ev{a:af->Prop}{b:List {e:af//a e}}{x:{e:af//a e}}(c:(x.1.2.jt==h)=Md):pM h (b++[x])=pM h b:=by simp[pM,qy,c]
theorem DH{a:af->Prop}(h:Int)(L:List {e:af//a e}):(pM h L).length<=L.length:=by
 have:=List.length_filter_le (λe:af=>e.2.jt==h) (L.map (·.1));simpa[pM,qy]using this
theorem KG(v:Ma)(a:List af)(w:MV)(d:bR w v a)(f:a.length<=200):Mo MT 85 #[v,Q I 12,Nm (.func 86) #[] #[]] w λe c=>∃b,e=MZ (MQ (N ⟨b,0,S⟩))/\eC c 12 b a/\Mb w.heap.size w c:=
 Hm 12 v a w (MP _) d f
theorem I3{c:MV}{t h D:Nat}{n:List af}{s:Option Addr}(u:dB w t)(q:t<w.heap.size)(d:Mb w.heap.size w c)(G:w.heap.size<=D)(v:D≠t)(y:c.heap[D]?=N (Q3 (N [])))(z:eC c 12 b n)(B:∀j,c.frozen? ⟨t,j,S⟩=w.frozen? ⟨t,j,S⟩)(C:c.cell? ⟨t,2+h,S⟩=N (MQ s)):eC ((c.setCell ⟨t,2+h,S⟩ (MQ (N ⟨b,0,S⟩))).putObj D o) 12 b n/\aH (λx=>x=t) w ((c.setCell ⟨t,2+h,S⟩ (MQ (N ⟨b,0,S⟩))).putObj D o)/\(∀j,((c.setCell ⟨t,2+h,S⟩ (MQ (N ⟨b,0,S⟩))).putObj D o).cell? ⟨t,j,S⟩=if j=2+h then N (MQ (N ⟨b,0,S⟩))else w.cell? ⟨t,j,S⟩)/\∀j,((c.setCell ⟨t,2+h,S⟩ (MQ (N ⟨b,0,S⟩))).putObj D o).frozen? ⟨t,j,S⟩=w.frozen? ⟨t,j,S⟩:=by
 have f:=grownBy_putObj' (c.setCell ⟨t,2+h,S⟩ (MQ (N ⟨b,0,S⟩))) D o;have H:(c.setCell ⟨t,2+h,S⟩ (MQ (N ⟨b,0,S⟩))).heap.size=c.heap.size:=by simp
 have J:t<c.heap.size:=Mi q d.size;have m:∀k,k<c.heap.size->k≠t->k≠D->((c.setCell ⟨t,2+h,S⟩ (MQ (N ⟨b,0,S⟩))).putObj D o).heap[k]?=c.heap[k]?:=λk m E F=>
  (f.block k O (by simpa using F)).trans (Nh _ _ _ _ (by simpa using E))
 have r:=f.block t O (by simpa using Ne.symm v);refine⟨?_,⟨f.os.trans d.os,f.tape.trans d.tape,f.output.trans d.output,Mx d.size (by have:=f.size;omega),λk g i=>(m k (Mi g d.size) i O).trans (d.block k g)⟩,λj=>?_,λj=>?_⟩
 ·refine z.kept (X:=λx=>x=t\/x=D) (λk g i=>m k g (λe=>i (Mf e)) (λe=>i (MX e))) ?_;rintro x (rfl|rfl)
  ·exact u.aD d (MP _)
  ·exact MX (MX (MX (MX (Mf ⟨_,y,rfl⟩))))
 ·rw[Mj (w:=c.setCell ⟨t,2+h,S⟩ (MQ (N ⟨b,0,S⟩))) (a:=⟨t,j,S⟩) r];by_cases l:j=2+h
  ·rw[if_pos l,l];exact jB C
  ·rw[if_neg l,cB (MX (Ne.symm l))];exact d.cell (p:=⟨t,j,S⟩) q
 ·rw[World.frozen?_of_block (w:=c.setCell ⟨t,2+h,S⟩ (MQ (N ⟨b,0,S⟩))) (a:=⟨t,j,S⟩) r];rw[<-B j];simp
theorem sY(t g:Nat)(h:Nat)(hh:h<6)(T:Ma)(w:MV)(hl:cP w)(F:List {e:af//ak w e.1 e.2/\e.2.ok=Mk})(a4:F.length<=200)(a5:w.cell? ⟨t,1,S⟩=N (MQ (N ⟨g,0,S⟩)))(U:w.cell? ⟨g,1,S⟩=N T)(d3:kN w.heap.size w T (F.map (·.1)))(a6:∃p,w.cell? ⟨t,2+h,S⟩=N (MQ p))(d4:∀j,w.frozen? ⟨t,j,S⟩=Md)(d5:dB w t):Mo MT 36 #[MQ (N ⟨t,0,S⟩),Q I h] w λe o=>e=MZ (Nn #[])/\∃b,eC o 12 b (qy h (F.map (·.1)))/\aH (λx=>x=t) w o/\(∀j,o.cell? ⟨t,j,S⟩=if j=2+h then N (MQ (N ⟨b,0,S⟩))else w.cell? ⟨t,j,S⟩)/\∀j,o.frozen? ⟨t,j,S⟩=w.frozen? ⟨t,j,S⟩:=by
 have z:=MO a5;have a7:=MO U;obtain⟨i0,hi,e1,e2,e3⟩:=Ob He;refine(PF (n:=5)).1 ?_;have G:Fence.wide.round=none:=rfl;refine callsIn_of_wp_marks func36 rfl trivial ?_ G;simp only[ntmps36,NY,N6,OH,Nat.reduceAdd,Nat.reduceSub,Of,Og,Ot,Om,O3,Ov];gi_wp2_with (refine⟨trivial,?_⟩;gi_at_call 51;refine(IU Fence.wide 4 trivial G g _).mono ?_;rintro e o ⟨rfl,rfl⟩)
 have V:=((Boxed.new w 3 (Q I h)).alloc (MY #[MR S 0 0] 118)).alloc (MY #[MQ (N ⟨g,0,S⟩)] 97);have X:=(Boxed.new (w.alloc (MY #[Q I h] 3)) 118 (MR S 0 0)).alloc (MY #[MQ (N ⟨g,0,S⟩)] 97);have Y:=Boxed.new ((w.alloc (MY #[Q I h] 3)).alloc (MY #[MR S 0 0] 118)) 97 (MQ (N ⟨g,0,S⟩));simp only[World.size_alloc]at V X Y;have H:Mb w.heap.size w (((w.alloc (MY #[Q I h] 3)).alloc (MY #[MR S 0 0] 118)).alloc (MY #[MQ (N ⟨g,0,S⟩)] 97)):=UQ;have e4:(((w.alloc (MY #[Q I h] 3)).alloc (MY #[MR S 0 0] 118)).alloc (MY #[MQ (N ⟨g,0,S⟩)] 97)).heap.size=w.heap.size+3:=by simp
 have a8:=(H.cell (p:=⟨g,1,S⟩) a7).trans U;refine wpIn_rangeFunc_ownG G O (gf:=99) (lb:=#[MQ (N ⟨w.heap.size+1+1,0,S⟩)]) rfl trivial (enters_of TR UR rfl)
  (vV Fence.wide 4 trivial G O (w.heap.size+1+1) g w.heap.size T F a4 _ O a7 O Y.cell a8 (d3.aD H)) belowK_t (belowK_b O) (MU _ _) (λ_=>rfl)
  (λi W=>((∃v,RA W (w.heap.size+1) 118 v/\W.ownsRow w.heap.size 96 1 v (pM h i).length ((pM h i).map lP)/\True)/\RA W w.heap.size 3 (Q I h))/\Mb w.heap.size w W)
  (λ_ _ _=>False)
  (OwnFrom.and (OwnFrom.and (Own.from (holdsRow_own w.heap.size (w.heap.size+1) 118 96 1 (λi=>(pM h i).length) (λi=>(pM h i).map lP) (λ_ _=>True)) _) (Own.from (boxed_own w.heap.size 3 (λ_=>Q I h)) _)) (ownFrom_below (MP _) O))
  (λ_ _ _ _ _ hs _ _=>hs)
  ⟨⟨⟨_,X,World.ownsRow_nil _ _ _ _,trivial⟩,V⟩,H⟩
  (λx=>{tmps:=#[MQ (N ⟨t,0,S⟩),Q I h,NS,MQ (N ⟨w.heap.size,0,S⟩),MQ (N ⟨w.heap.size+1,0,S⟩),NS,MQ (N ⟨x.1.1,0,S⟩),MQ (N ⟨t,0,S⟩),MQ (N ⟨t,0,S⟩),MQ (N ⟨t,1,S⟩),MQ (N ⟨g,0,S⟩),Nm (.func 99) #[] #[MQ (N ⟨w.heap.size+1+1,0,S⟩)],M1 #[Q I x.1.2.pr,Q I x.1.2.id],MQ (N ⟨x.1.1,0,S⟩),NS,NS,NS,NS,NS,NS,NS,NS,NS,NS,NS,NS,NS,NS,NS],defers:=[]}) ?assign ?body ?done ?stop
 case assign=>
  intro l x W K J;simp only[Hy];gi_wp2
  exact J
 case body=>
  rintro l i x W ⟨⟨⟨v,r,B,_⟩,q⟩,f⟩ h9;have i1:prog.follows .mixedOrders=true:=UR;have Z:cP W:=hl.aD f hl.uE;have a0:ak W x.1.1 x.1.2:=x.2.1.aD f x.2.1.lt;have hc:=q.cell;have i2:=q.lt;have b0:=A λ(W1:MV) (hb:Mb W.heap.size W W1)=>tN x.1.1 x.1.2 W1 (Z.aD hb Z.uE) (a0.aD hb a0.lt) x.2.2;have C:=A r;have HR:=A B;have L:=A q;have s:=A f;clear r B q f Z a0;have b5:=DH h i;cases hq:(x.1.2.jt==(h:Int))
  ·gi_wp2
   gi_region_with_o (refine⟨trivial,?_⟩;gi_at_call 44;refine(CallsIn.inRound l (PF.2 (b0.o _ ?_))).mono ?_;(exact(MU _ _).drew);rintro e k ⟨rfl,d⟩;have e6:=MW d hc)
   all_goals
    replace d:Mb W.heap.size W k:=((MU W.heap.size W).drew).trans d;have u:RA k (w.heap.size+1) 118 v:=(d.block _ C.o.lt).trans C.o;have M:RA k w.heap.size 3 (Q I h):=(d.block _ L.o.lt).trans L.o;have P:=ix HR.o d (MP _);have y:Mb w.heap.size w k:=s.o.trans (d.mono s.o.size);have R:=fC d;have a1:=u.cell;have e7:=y.size;gi_wp2
    exact⟨R.from _,d.mono s.o.size,⟨⟨v,u,by rw[Ev hq];exact P,trivial⟩,M⟩,y⟩
  ·gi_wp2
   gi_region_with_o (refine⟨trivial,?_⟩;gi_at_call 44;refine(CallsIn.inRound l (PF.2 (b0.o _ ?_))).mono ?_;(exact(MU _ _).drew);rintro e k ⟨rfl,d⟩;have e6:=MW d hc)
   all_goals
    replace d:Mb W.heap.size W k:=((MU W.heap.size W).drew).trans d;have u:RA k (w.heap.size+1) 118 v:=(d.block _ C.o.lt).trans C.o;have M:RA k w.heap.size 3 (Q I h):=(d.block _ L.o.lt).trans L.o;have P:=ix HR.o d (MP _);have y:Mb w.heap.size w k:=s.o.trans (d.mono s.o.size);have R:=fC d;have a1:=u.cell;have e7:=y.size;have a2:=A P;have b9:=A y;have e8:=A R;have c0:=A M;have HQ:=A hq;have f1:=A d;clear P y R M d;gi_wp2_with (gi_at_builtin;refine wpListIn_append_own _ rfl _ _ 118 rfl w.heap.size 96 i0 (MQ S) 1 8 jg hi e1 e2 e3 rfl US _ _ _ rfl (a2.o.alloc _) ⟨k.heap.size,0,S⟩ 1 1 [lP x.1] rfl rfl (Ql _ _ _) (by simp[lP,NC]) UT O UU ?_;intro v' w2 c1 c2 _;obtain⟨g',f4,rfl⟩:=ownsRow_succ c1;obtain⟨c3,f5,f6,f7,m⟩:=u.appended US a2.o b9.o.size O c1 c2;have i4:=c3.cell;have i5:=c3.frozen)
    have f8:RA (w2.setCell ⟨w.heap.size+1,0,S⟩ (MR (N ⟨g',0,S⟩) ((pM h i).length+1) f4)) w.heap.size 3 (Q I h):=
     ((c0.o.alloc _).kept c2 (c0.o.not_row US a2.o)).other O _
    exact⟨(e8.o.trans f7).from _,(f1.o.mono s.o.size).trans m,⟨⟨_,f5,by rw[Hq HQ.o];simpa using f6,trivial⟩,f8⟩,b9.o.trans m⟩
 case done=>
  rintro D ys W hD rfl ⟨⟨⟨v,r,B,_⟩,q⟩,f⟩ J;have a1:=r.cell;have f9:=q.cell;have c6:=A (ld B λe he=>by
   obtain⟨x,_,rfl⟩:=List.mem_map.1 (List.mem_filter.1 he).1;exact x.2.1.aD f x.2.1.lt)
  have b5:=Mx (DH h ys) a4;have c7:D≠t:=O;have g1:∃p,W.cell? ⟨t,2+h,S⟩=N (MQ p):=a6.imp λp hp=>(f.cell (p:=⟨t,2+h,S⟩) z).trans hp;have g3:W.frozen? ⟨t,2+h,S⟩=false:=(f.frozen (p:=⟨t,2+h,S⟩) z).trans (d4 _);have g4:t<W.heap.size:=Mi z f.size;have HK:=A J;have g5:=f.size;have u:=r.lt;obtain⟨pt,g6⟩:=g1;have i8:(h:Int)<6:=O;have g7:∃a l c,v=MR a l c:=by
   obtain⟨a,c,rfl,_,_⟩:=c6.o;exact⟨_,_,_,rfl⟩
  obtain⟨va,vl,vc,rfl⟩:=g7;have C:=A r;have HH:=A q;have h1:=A f;have h2:=A hD;clear r q f J B hD V X Y H e4 a8 a5 U a6;have j0:¬t=w.heap.size:=O;have j1:¬t=w.heap.size+1:=O;have j2:¬w.heap.size=t:=O;have j3:¬w.heap.size+1=t:=O;gi_wp2
  refine wpIn_wide.2 ?_;go_region_held3 (λo=>o.cell? ⟨w.heap.size,0,S⟩=N (Q I h)/\o.cell? ⟨w.heap.size+1,0,S⟩=N (MR va vl vc)) (go_keep)
   (first|(go_at_call 85;refine(KG _ (pM h ys) _ ?_ b5).mono ?_;(exact c6.o);rintro e E ⟨b,rfl,c9,m⟩;have k0:=MW m f9;have k1:=MW m a1;have k2:=MW m g6;have k3:E.frozen? ⟨t,2+h,S⟩=false:=(m.frozen (p:=⟨t,2+h,S⟩) g4).trans g3;have h4:=A c9;have h5:=A m;clear c9 m))
  have d0:Mb W.heap.size W E:=((MU W.heap.size W).drew).trans h5.o;have B3:Mb w.heap.size w E:=h1.o.trans (d0.mono g5);have h6:w.heap.size<=D:=by have:=h2.o;simp at this;omega
  have d2:E.heap[D]?=N (Q3 (N [])):=(d0.block D (Mu.1 HK.o).1).trans HK.o;have h7:(E.setCell ⟨t,2+h,S⟩ (MQ (N ⟨b,0,S⟩))).heap[D]?=N (Q3 (N [])):=(Nh _ _ _ _ (by simpa using c7)).trans d2;refine⟨by simp,Mf ⟨_,_,rfl,run_takeDeferred h7,?_⟩⟩;refine⟨_,Rc rfl _ _ _,rfl,b,?_⟩;exact I3 d5 z B3 h6 c7 d2 h4.o (λj=>by rw[<-B3.frozen (p:=⟨t,j,S⟩) z]) k2
 case stop=>
  rintro D c i W _ _ h _;exact h.elim
end
end Go.Proofs.YtnjalelblbjfiaaGreatDoor
