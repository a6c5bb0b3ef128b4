import Derived.Test.YtnjalelblbjfiaaGreatDoorP2
namespace Go.Proofs.YtnjalelblbjfiaaGreatDoor
set_option maxRecDepth 100000
set_option maxHeartbeats 16000000
open Go.RowKit
open Go.Proofs.Tryz
open Go.Sort (grow)
open Bool renaming eq_iff_iff→Oq,not_eq_true→NB,false→Md,true→Mk
open Go renaming World→MV,Calls→Mo,bits→Oa
open Go.IntKind renaming i64→I
open Go.Proofs.Tryz renaming prog→MT,func182→Sy,func125→RN,func123→Ou
open Go.RowKit renaming Below→Mb,intOf→N1
open Go.Value renaming int→Q,bool→M0,agg→M1
open Go.BinOp renaming and→Oc,andNot→Pc
open Go.Obj renaming cells→MY
open Go.RowKit.Below renaming refl→MU
open Nat renaming le_refl→MP,eq_of_testBit_eq→Rx,testBit→Tm,testBit_and→Pz,testBit_two_pow_sub_succ→Q1,zero_testBit→Sd
open Option renaming none→S,some→N
section
attribute [local go_sem] aI
def bi(i:Nat):Int:=if i<=1 then 4294967295 else if i=2 then 255 else 65535
theorem DW(i:Nat)(w:MV)(c:i<5):Mo MT 213 #[Q I i] w λe a=>e=.returned (Q I (bi i))/\a=w:=by
 have b:i=0\/i=1\/i=2\/i=3\/i=4:=O;rcases b with rfl|rfl|rfl|rfl|rfl
 all_goals
  go_enter func213,ntmps213;go_wp2;go_ret;exact⟨rfl,rfl⟩
theorem qR(i:Nat)(n:Int)(w:MV)(a:i<5):Mo MT 182 #[Q I i,Q I n] w λe c=>e=.returned (M0 (bD 0 (bi i) n))/\c=w:=by
 have C:=A λ(W:MV)=>DW i W a;by_cases h:0<=n
 ·have e:bD 0 (bi i) n=decide (n<=bi i):=by unfold bD;rw[decide_eq_true h,Bool.true_and]
  rw[e];generalize bi i=d at*;clear e a;go_enter Sy,ntmps182;go_wp2_with fail
  refine(C.o _).mono ?_;rintro e W ⟨rfl,b⟩;rw[b];clear b W;go_wp2;go_ret;exact⟨rfl,rfl⟩
 ·have e:bD 0 (bi i) n=false:=by unfold bD;rw[decide_eq_false h,Bool.false_and]
  rw[e];clear e a;go_enter Sy,ntmps182;go_wp2;go_ret;exact⟨rfl,rfl⟩
theorem AV(r q:Rl)(w:MV):Mo MT 125 #[M1 #[Q I r.id,Q I r.pr,Q I r.k0,Q I r.v0,Q I r.m0,Q I r.k1,Q I r.v1,Q I r.m1,Q I r.k2,Q I r.v2,Q I r.m2,Q I r.k3,Q I r.v3,Q I r.m3,Q I r.k4,Q I r.v4,Q I r.m4,Q I r.ac,Q I r.po],M1 #[Q I q.id,Q I q.pr,Q I q.k0,Q I q.v0,Q I q.m0,Q I q.k1,Q I q.v1,Q I q.m1,Q I q.k2,Q I q.v2,Q I q.m2,Q I q.k3,Q I q.v3,Q I q.m3,Q I q.k4,Q I q.v4,Q I q.m4,Q I q.ac,Q I q.po]] w λe d=>e=.returned (M0 (r.al q))/\Mb w.heap.size w d:=by
 obtain⟨b,a⟩:=UX (r.al q);rw[<-a];by_cases f:q.pr<r.pr
 ·obtain rfl:b=true:=by rw[a];exact Rl.cU.2 (.inl f)
  clear a;go_enter RN,ntmps125;go_wp2;go_ret;exact⟨rfl,UQ⟩
 ·by_cases c:r.pr=q.pr
  ·obtain rfl:b=decide (r.id<q.id):=by
    rw[a,Oq,Rl.cU,decide_eq_true_eq];omega
   have g:(r.pr==q.pr)=true:=by rw[c];simp
   have h:=A c;clear a c;go_enter RN,ntmps125;go_wp2;go_ret;exact⟨rfl,UQ⟩
  ·obtain rfl:b=false:=by
    rw[a,<-NB,Rl.cU];omega
   have g:(r.pr==q.pr)=false:=by simpa using c
   clear a;go_enter RN,ntmps125;go_wp2;go_ret;exact⟨rfl,UQ⟩
end
theorem cd{w a:MV}{b o:Nat}{c:List Value}(h:w.rangeAt b o c)(e:Mb w.heap.size w a):a.rangeAt b o c:=λj v d=>(e.cell (p:=⟨b,o+j,S⟩) (block_lt_of_cell (h j v d))).trans (h j v d)
theorem A5(w:MV)(a b:Array Value)(s t:TypeId):((w.alloc (MY a s)).alloc (MY b t)).rangeAt w.heap.size 0 a.toList/\((w.alloc (MY a s)).alloc (MY b t)).rangeAt (w.heap.size+1) 0 b.toList:=by
 refine⟨cd (aN w a s) ((MU _ _).alloc (MP _) _),?_⟩;have h:=aN (w.alloc (MY a s)) b t;rwa[World.size_alloc]at h
theorem kt(r:Rl)(a b c d e:Int)(h:bJ r.k0 r.v0 r.m0 4294967295 a=Md):r.dX a b c d e=false:=by unfold Rl.dX;rw[h];simp
theorem ks(r:Rl)(b a c d e:Int)(h:bJ r.k1 r.v1 r.m1 4294967295 a=Md):r.dX b a c d e=false:=by unfold Rl.dX;rw[h];simp
theorem kr(r:Rl)(b c a d e:Int)(h:bJ r.k2 r.v2 r.m2 255 a=Md):r.dX b c a d e=false:=by unfold Rl.dX;rw[h];simp
theorem ko(r:Rl)(b c d a e:Int)(h:bJ r.k3 r.v3 r.m3 65535 a=Md):r.dX b c d a e=false:=by unfold Rl.dX;rw[h];simp
theorem kl(r:Rl)(b c d e a:Int)(h:bJ r.k4 r.v4 r.m4 65535 a=Md):r.dX b c d e a=false:=by unfold Rl.dX;rw[h];simp
theorem vy(r:Rl)(b c d f g:Int)(w:MV)(F:aA ((r.k0=0\/r.k0=1)/\(r.k1=0\/r.k1=1)/\(r.k2=0\/r.k2=1)/\(r.k3=0\/r.k3=1)/\(r.k4=0\/r.k4=1))):Mo MT 186 #[M1 #[Q I r.id,Q I r.pr,Q I r.k0,Q I r.v0,Q I r.m0,Q I r.k1,Q I r.v1,Q I r.m1,Q I r.k2,Q I r.v2,Q I r.m2,Q I r.k3,Q I r.v3,Q I r.m3,Q I r.k4,Q I r.v4,Q I r.m4,Q I r.ac,Q I r.po],M1 #[Q I b,Q I c,Q I d,Q I f,Q I g]] w λe w'=>e=.returned (M0 (r.dX b c d f g))/\Mb w.heap.size w w':=by
 obtain⟨V,W⟩:=A5 w #[Q I r.id,Q I r.pr,Q I r.k0,Q I r.v0,Q I r.m0,Q I r.k1,Q I r.v1,Q I r.m1,Q I r.k2,Q I r.v2,Q I r.m2,Q I r.k3,Q I r.v3,Q I r.m3,Q I r.k4,Q I r.v4,Q I r.m4,Q I r.ac,Q I r.po] #[Q I b,Q I c,Q I d,Q I f,Q I g] 37 39;have X:=A V;have Y:=A W;clear V W;go_enter func186,ntmps186;go_wp2;go_loopw [5,6] (λi _ wr=>∃k:Nat,k<=5/\i=Q I k/\Mb w.heap.size w wr/\w.heap.size+1<wr.heap.size/\wr.rangeAt w.heap.size 0 [Q I r.id,Q I r.pr,Q I r.k0,Q I r.v0,Q I r.m0,Q I r.k1,Q I r.v1,Q I r.m1,Q I r.k2,Q I r.v2,Q I r.m2,Q I r.k3,Q I r.v3,Q I r.m3,Q I r.k4,Q I r.v4,Q I r.m4,Q I r.ac,Q I r.po]/\wr.rangeAt (w.heap.size+1) 0 [Q I b,Q I c,Q I d,Q I f,Q I g]/\(0<k->bJ r.k0 r.v0 r.m0 4294967295 b=Mk)/\(1<k->bJ r.k1 r.v1 r.m1 4294967295 c=Mk)/\(2<k->bJ r.k2 r.v2 r.m2 255 d=Mk)/\(3<k->bJ r.k3 r.v3 r.m3 65535 f=Mk)/\(4<k->bJ r.k4 r.v4 r.m4 65535 g=Mk)) (λi _ _=>5- (N1 i).toNat)
 case atStart=>exact⟨0,O,rfl,UQ,by simp,X.o,Y.o,O,O,O,O,O⟩
 case round=>
  clear X Y;obtain⟨k,hk,rfl,s,a4,m,n,t,v,x,C,E⟩:=hrel;match k,hk with
  |0,_=>
   have H:wr.cell? ⟨w.heap.size,2,S⟩=N (Q I r.k0):=m 2 _ rfl;have J:wr.cell? ⟨w.heap.size,3,S⟩=N (Q I r.v0):=m 3 _ rfl;have K:wr.cell? ⟨w.heap.size,4,S⟩=N (Q I r.m0):=m 4 _ rfl;have L:wr.cell? ⟨w.heap.size+1,0,S⟩=N (Q I b):=n 0 _ rfl;have M:=A m;have P:=A n;have o:Mb w.heap.size w (wr.alloc (MY #[Q I r.k0,Q I r.v0,Q I r.m0] 34)):=s.alloc s.size _;have R:=A o;have p:=A (cd m ((MU _ wr).alloc (MP _) (MY #[Q I r.k0,Q I r.v0,Q I r.m0] 34)));have q:=A (cd n ((MU _ wr).alloc (MP _) (MY #[Q I r.k0,Q I r.v0,Q I r.m0] 34)));clear m n o;clear t v x C E;rcases F.o.1 with h|h
   ·have y:(r.k0==0)=true:=by simp[h]
    have z:(r.k0==1)=false:=by simp[h]
    have j:aA (bJ r.k0 r.v0 r.m0 4294967295 b=(Oa Oc I b r.m0==r.v0)):=A (by unfold bJ;rw[if_pos h]);clear h;cases l:(Oa Oc I b r.m0==r.v0)with
    |true=>
     have B:(Oa Oc I b r.m0 !=r.v0)=false:=by rw[bne,l];rfl
     have a:aA (bJ r.k0 r.v0 r.m0 4294967295 b=Mk):=A (by rw[j.o,l]);clear l;go_wp2_with fail
     go_quiet (fail)
     go_wp2_with fail
     go_quiet (fail)
     go_wp2;go_roundw
     case rel=>exact⟨1,O,rfl,UQ,by simp;omega,p.o,q.o,λ_=>a.o,O,O,O,O⟩
     case measure=>simp[N1]
    |false=>
     have B:(Oa Oc I b r.m0 !=r.v0)=true:=by rw[bne,l];rfl
     have a:aA (bJ r.k0 r.v0 r.m0 4294967295 b=Md):=A (by rw[j.o,l]);clear l;go_wp2_with fail
     go_quiet (fail)
     go_wp2;go_ret;exact⟨by first|(rw[kt r b c d f g a.o];done)|(rw[kt r b c d f g a.o];rfl),UQ⟩
   ·have y:(r.k0==0)=false:=by simp[h]
    have z:(r.k0==1)=true:=by simp[h]
    have j:aA (bJ r.k0 r.v0 r.m0 4294967295 b=bD r.v0 r.m0 b):=A (by unfold bJ eW;rw[if_neg O,if_pos h]);clear h;by_cases T:b<r.v0
    ·have a:aA (bJ r.k0 r.v0 r.m0 4294967295 b=Md):=A (by rw[j.o,<-NB,aw];omega);go_wp2_with fail
     go_quiet (fail)
     go_wp2_with fail
     go_quiet (fail)
     go_wp2;go_ret;exact⟨by first|(rw[kt r b c d f g a.o];done)|(rw[kt r b c d f g a.o];rfl),UQ⟩
    ·by_cases U:r.m0<b
     ·have a:aA (bJ r.k0 r.v0 r.m0 4294967295 b=Md):=A (by rw[j.o,<-NB,aw];omega);go_wp2_with fail
      go_quiet (fail)
      go_wp2_with fail
      go_quiet (fail)
      go_wp2;go_ret;exact⟨by first|(rw[kt r b c d f g a.o];done)|(rw[kt r b c d f g a.o];rfl),UQ⟩
     ·have a:aA (bJ r.k0 r.v0 r.m0 4294967295 b=Mk):=A (by rw[j.o,aw];omega);go_wp2_with fail
      go_quiet (fail)
      go_wp2_with fail
      go_quiet (fail)
      go_wp2;go_roundw
      case rel=>exact⟨1,O,rfl,UQ,by simp;omega,p.o,q.o,λ_=>a.o,O,O,O,O⟩
      case measure=>simp[N1]
  |1,_=>
   have H:wr.cell? ⟨w.heap.size,5,S⟩=N (Q I r.k1):=m 5 _ rfl;have J:wr.cell? ⟨w.heap.size,6,S⟩=N (Q I r.v1):=m 6 _ rfl;have K:wr.cell? ⟨w.heap.size,7,S⟩=N (Q I r.m1):=m 7 _ rfl;have L:wr.cell? ⟨w.heap.size+1,1,S⟩=N (Q I c):=n 1 _ rfl;have M:=A m;have P:=A n;have o:Mb w.heap.size w (wr.alloc (MY #[Q I r.k1,Q I r.v1,Q I r.m1] 34)):=s.alloc s.size _;have R:=A o;have p:=A (cd m ((MU _ wr).alloc (MP _) (MY #[Q I r.k1,Q I r.v1,Q I r.m1] 34)));have q:=A (cd n ((MU _ wr).alloc (MP _) (MY #[Q I r.k1,Q I r.v1,Q I r.m1] 34)));clear m n o;have u:=A (t O);clear t v x C E;rcases F.o.2.1 with h|h
   ·have y:(r.k1==0)=true:=by simp[h]
    have z:(r.k1==1)=false:=by simp[h]
    have j:aA (bJ r.k1 r.v1 r.m1 4294967295 c=(Oa Oc I c r.m1==r.v1)):=A (by unfold bJ;rw[if_pos h]);clear h;cases l:(Oa Oc I c r.m1==r.v1)with
    |true=>
     have B:(Oa Oc I c r.m1 !=r.v1)=false:=by rw[bne,l];rfl
     have a:aA (bJ r.k1 r.v1 r.m1 4294967295 c=Mk):=A (by rw[j.o,l]);clear l;go_wp2_with fail
     go_quiet (fail)
     go_wp2_with fail
     go_quiet (fail)
     go_wp2;go_roundw
     case rel=>exact⟨2,O,rfl,UQ,by simp;omega,p.o,q.o,λ_=>u.o,λ_=>a.o,O,O,O⟩
     case measure=>simp[N1]
    |false=>
     have B:(Oa Oc I c r.m1 !=r.v1)=true:=by rw[bne,l];rfl
     have a:aA (bJ r.k1 r.v1 r.m1 4294967295 c=Md):=A (by rw[j.o,l]);clear l;go_wp2_with fail
     go_quiet (fail)
     go_wp2;go_ret;exact⟨by first|(rw[ks r b c d f g a.o];done)|(rw[ks r b c d f g a.o];rfl),UQ⟩
   ·have y:(r.k1==0)=false:=by simp[h]
    have z:(r.k1==1)=true:=by simp[h]
    have j:aA (bJ r.k1 r.v1 r.m1 4294967295 c=bD r.v1 r.m1 c):=A (by unfold bJ eW;rw[if_neg O,if_pos h]);clear h;by_cases T:c<r.v1
    ·have a:aA (bJ r.k1 r.v1 r.m1 4294967295 c=Md):=A (by rw[j.o,<-NB,aw];omega);go_wp2_with fail
     go_quiet (fail)
     go_wp2_with fail
     go_quiet (fail)
     go_wp2;go_ret;exact⟨by first|(rw[ks r b c d f g a.o];done)|(rw[ks r b c d f g a.o];rfl),UQ⟩
    ·by_cases U:r.m1<c
     ·have a:aA (bJ r.k1 r.v1 r.m1 4294967295 c=Md):=A (by rw[j.o,<-NB,aw];omega);go_wp2_with fail
      go_quiet (fail)
      go_wp2_with fail
      go_quiet (fail)
      go_wp2;go_ret;exact⟨by first|(rw[ks r b c d f g a.o];done)|(rw[ks r b c d f g a.o];rfl),UQ⟩
     ·have a:aA (bJ r.k1 r.v1 r.m1 4294967295 c=Mk):=A (by rw[j.o,aw];omega);go_wp2_with fail
      go_quiet (fail)
      go_wp2_with fail
      go_quiet (fail)
      go_wp2;go_roundw
      case rel=>exact⟨2,O,rfl,UQ,by simp;omega,p.o,q.o,λ_=>u.o,λ_=>a.o,O,O,O⟩
      case measure=>simp[N1]
  |2,_=>
   have H:wr.cell? ⟨w.heap.size,8,S⟩=N (Q I r.k2):=m 8 _ rfl;have J:wr.cell? ⟨w.heap.size,9,S⟩=N (Q I r.v2):=m 9 _ rfl;have K:wr.cell? ⟨w.heap.size,10,S⟩=N (Q I r.m2):=m 10 _ rfl;have L:wr.cell? ⟨w.heap.size+1,2,S⟩=N (Q I d):=n 2 _ rfl;have M:=A m;have P:=A n;have o:Mb w.heap.size w (wr.alloc (MY #[Q I r.k2,Q I r.v2,Q I r.m2] 34)):=s.alloc s.size _;have R:=A o;have p:=A (cd m ((MU _ wr).alloc (MP _) (MY #[Q I r.k2,Q I r.v2,Q I r.m2] 34)));have q:=A (cd n ((MU _ wr).alloc (MP _) (MY #[Q I r.k2,Q I r.v2,Q I r.m2] 34)));clear m n o;have u:=A (t O);have D:=A (v O);clear t v x C E;rcases F.o.2.2.1 with h|h
   ·have y:(r.k2==0)=true:=by simp[h]
    have z:(r.k2==1)=false:=by simp[h]
    have j:aA (bJ r.k2 r.v2 r.m2 255 d=(Oa Oc I d r.m2==r.v2)):=A (by unfold bJ;rw[if_pos h]);clear h;cases l:(Oa Oc I d r.m2==r.v2)with
    |true=>
     have B:(Oa Oc I d r.m2 !=r.v2)=false:=by rw[bne,l];rfl
     have a:aA (bJ r.k2 r.v2 r.m2 255 d=Mk):=A (by rw[j.o,l]);clear l;go_wp2_with fail
     go_quiet (fail)
     go_wp2_with fail
     go_quiet (fail)
     go_wp2;go_roundw
     case rel=>exact⟨3,O,rfl,UQ,by simp;omega,p.o,q.o,λ_=>u.o,λ_=>D.o,λ_=>a.o,O,O⟩
     case measure=>simp[N1]
    |false=>
     have B:(Oa Oc I d r.m2 !=r.v2)=true:=by rw[bne,l];rfl
     have a:aA (bJ r.k2 r.v2 r.m2 255 d=Md):=A (by rw[j.o,l]);clear l;go_wp2_with fail
     go_quiet (fail)
     go_wp2;go_ret;exact⟨by first|(rw[kr r b c d f g a.o];done)|(rw[kr r b c d f g a.o];rfl),UQ⟩
   ·have y:(r.k2==0)=false:=by simp[h]
    have z:(r.k2==1)=true:=by simp[h]
    have j:aA (bJ r.k2 r.v2 r.m2 255 d=bD r.v2 r.m2 d):=A (by unfold bJ eW;rw[if_neg O,if_pos h]);clear h;by_cases T:d<r.v2
    ·have a:aA (bJ r.k2 r.v2 r.m2 255 d=Md):=A (by rw[j.o,<-NB,aw];omega);go_wp2_with fail
     go_quiet (fail)
     go_wp2_with fail
     go_quiet (fail)
     go_wp2;go_ret;exact⟨by first|(rw[kr r b c d f g a.o];done)|(rw[kr r b c d f g a.o];rfl),UQ⟩
    ·by_cases U:r.m2<d
     ·have a:aA (bJ r.k2 r.v2 r.m2 255 d=Md):=A (by rw[j.o,<-NB,aw];omega);go_wp2_with fail
      go_quiet (fail)
      go_wp2_with fail
      go_quiet (fail)
      go_wp2;go_ret;exact⟨by first|(rw[kr r b c d f g a.o];done)|(rw[kr r b c d f g a.o];rfl),UQ⟩
     ·have a:aA (bJ r.k2 r.v2 r.m2 255 d=Mk):=A (by rw[j.o,aw];omega);go_wp2_with fail
      go_quiet (fail)
      go_wp2_with fail
      go_quiet (fail)
      go_wp2;go_roundw
      case rel=>exact⟨3,O,rfl,UQ,by simp;omega,p.o,q.o,λ_=>u.o,λ_=>D.o,λ_=>a.o,O,O⟩
      case measure=>simp[N1]
  |3,_=>
   have H:wr.cell? ⟨w.heap.size,11,S⟩=N (Q I r.k3):=m 11 _ rfl;have J:wr.cell? ⟨w.heap.size,12,S⟩=N (Q I r.v3):=m 12 _ rfl;have K:wr.cell? ⟨w.heap.size,13,S⟩=N (Q I r.m3):=m 13 _ rfl;have L:wr.cell? ⟨w.heap.size+1,3,S⟩=N (Q I f):=n 3 _ rfl;have M:=A m;have P:=A n;have o:Mb w.heap.size w (wr.alloc (MY #[Q I r.k3,Q I r.v3,Q I r.m3] 34)):=s.alloc s.size _;have R:=A o;have p:=A (cd m ((MU _ wr).alloc (MP _) (MY #[Q I r.k3,Q I r.v3,Q I r.m3] 34)));have q:=A (cd n ((MU _ wr).alloc (MP _) (MY #[Q I r.k3,Q I r.v3,Q I r.m3] 34)));clear m n o;have u:=A (t O);have D:=A (v O);have G:=A (x O);clear t v x C E;rcases F.o.2.2.2.1 with h|h
   ·have y:(r.k3==0)=true:=by simp[h]
    have z:(r.k3==1)=false:=by simp[h]
    have j:aA (bJ r.k3 r.v3 r.m3 65535 f=(Oa Oc I f r.m3==r.v3)):=A (by unfold bJ;rw[if_pos h]);clear h;cases l:(Oa Oc I f r.m3==r.v3)with
    |true=>
     have B:(Oa Oc I f r.m3 !=r.v3)=false:=by rw[bne,l];rfl
     have a:aA (bJ r.k3 r.v3 r.m3 65535 f=Mk):=A (by rw[j.o,l]);clear l;go_wp2_with fail
     go_quiet (fail)
     go_wp2_with fail
     go_quiet (fail)
     go_wp2;go_roundw
     case rel=>exact⟨4,O,rfl,UQ,by simp;omega,p.o,q.o,λ_=>u.o,λ_=>D.o,λ_=>G.o,λ_=>a.o,O⟩
     case measure=>simp[N1]
    |false=>
     have B:(Oa Oc I f r.m3 !=r.v3)=true:=by rw[bne,l];rfl
     have a:aA (bJ r.k3 r.v3 r.m3 65535 f=Md):=A (by rw[j.o,l]);clear l;go_wp2_with fail
     go_quiet (fail)
     go_wp2;go_ret;exact⟨by first|(rw[ko r b c d f g a.o];done)|(rw[ko r b c d f g a.o];rfl),UQ⟩
   ·have y:(r.k3==0)=false:=by simp[h]
    have z:(r.k3==1)=true:=by simp[h]
    have j:aA (bJ r.k3 r.v3 r.m3 65535 f=bD r.v3 r.m3 f):=A (by unfold bJ eW;rw[if_neg O,if_pos h]);clear h;by_cases T:f<r.v3
    ·have a:aA (bJ r.k3 r.v3 r.m3 65535 f=Md):=A (by rw[j.o,<-NB,aw];omega);go_wp2_with fail
     go_quiet (fail)
     go_wp2_with fail
     go_quiet (fail)
     go_wp2;go_ret;exact⟨by first|(rw[ko r b c d f g a.o];done)|(rw[ko r b c d f g a.o];rfl),UQ⟩
    ·by_cases U:r.m3<f
     ·have a:aA (bJ r.k3 r.v3 r.m3 65535 f=Md):=A (by rw[j.o,<-NB,aw];omega);go_wp2_with fail
      go_quiet (fail)
      go_wp2_with fail
      go_quiet (fail)
      go_wp2;go_ret;exact⟨by first|(rw[ko r b c d f g a.o];done)|(rw[ko r b c d f g a.o];rfl),UQ⟩
     ·have a:aA (bJ r.k3 r.v3 r.m3 65535 f=Mk):=A (by rw[j.o,aw];omega);go_wp2_with fail
      go_quiet (fail)
      go_wp2_with fail
      go_quiet (fail)
      go_wp2;go_roundw
      case rel=>exact⟨4,O,rfl,UQ,by simp;omega,p.o,q.o,λ_=>u.o,λ_=>D.o,λ_=>G.o,λ_=>a.o,O⟩
      case measure=>simp[N1]
  |4,_=>
   have H:wr.cell? ⟨w.heap.size,14,S⟩=N (Q I r.k4):=m 14 _ rfl;have J:wr.cell? ⟨w.heap.size,15,S⟩=N (Q I r.v4):=m 15 _ rfl;have K:wr.cell? ⟨w.heap.size,16,S⟩=N (Q I r.m4):=m 16 _ rfl;have L:wr.cell? ⟨w.heap.size+1,4,S⟩=N (Q I g):=n 4 _ rfl;have M:=A m;have P:=A n;have o:Mb w.heap.size w (wr.alloc (MY #[Q I r.k4,Q I r.v4,Q I r.m4] 34)):=s.alloc s.size _;have R:=A o;have p:=A (cd m ((MU _ wr).alloc (MP _) (MY #[Q I r.k4,Q I r.v4,Q I r.m4] 34)));have q:=A (cd n ((MU _ wr).alloc (MP _) (MY #[Q I r.k4,Q I r.v4,Q I r.m4] 34)));clear m n o;have u:=A (t O);have D:=A (v O);have G:=A (x O);have Z:=A (C O);clear t v x C E;rcases F.o.2.2.2.2 with h|h
   ·have y:(r.k4==0)=true:=by simp[h]
    have z:(r.k4==1)=false:=by simp[h]
    have j:aA (bJ r.k4 r.v4 r.m4 65535 g=(Oa Oc I g r.m4==r.v4)):=A (by unfold bJ;rw[if_pos h]);clear h;cases l:(Oa Oc I g r.m4==r.v4)with
    |true=>
     have B:(Oa Oc I g r.m4 !=r.v4)=false:=by rw[bne,l];rfl
     have a:aA (bJ r.k4 r.v4 r.m4 65535 g=Mk):=A (by rw[j.o,l]);clear l;go_wp2_with fail
     go_quiet (fail)
     go_wp2_with fail
     go_quiet (fail)
     go_wp2;go_roundw
     case rel=>exact⟨5,O,rfl,UQ,by simp;omega,p.o,q.o,λ_=>u.o,λ_=>D.o,λ_=>G.o,λ_=>Z.o,λ_=>a.o⟩
     case measure=>simp[N1]
    |false=>
     have B:(Oa Oc I g r.m4 !=r.v4)=true:=by rw[bne,l];rfl
     have a:aA (bJ r.k4 r.v4 r.m4 65535 g=Md):=A (by rw[j.o,l]);clear l;go_wp2_with fail
     go_quiet (fail)
     go_wp2;go_ret;exact⟨by first|(rw[kl r b c d f g a.o];done)|(rw[kl r b c d f g a.o];rfl),UQ⟩
   ·have y:(r.k4==0)=false:=by simp[h]
    have z:(r.k4==1)=true:=by simp[h]
    have j:aA (bJ r.k4 r.v4 r.m4 65535 g=bD r.v4 r.m4 g):=A (by unfold bJ eW;rw[if_neg O,if_pos h]);clear h;by_cases T:g<r.v4
    ·have a:aA (bJ r.k4 r.v4 r.m4 65535 g=Md):=A (by rw[j.o,<-NB,aw];omega);go_wp2_with fail
     go_quiet (fail)
     go_wp2_with fail
     go_quiet (fail)
     go_wp2;go_ret;exact⟨by first|(rw[kl r b c d f g a.o];done)|(rw[kl r b c d f g a.o];rfl),UQ⟩
    ·by_cases U:r.m4<g
     ·have a:aA (bJ r.k4 r.v4 r.m4 65535 g=Md):=A (by rw[j.o,<-NB,aw];omega);go_wp2_with fail
      go_quiet (fail)
      go_wp2_with fail
      go_quiet (fail)
      go_wp2;go_ret;exact⟨by first|(rw[kl r b c d f g a.o];done)|(rw[kl r b c d f g a.o];rfl),UQ⟩
     ·have a:aA (bJ r.k4 r.v4 r.m4 65535 g=Mk):=A (by rw[j.o,aw];omega);go_wp2_with fail
      go_quiet (fail)
      go_wp2_with fail
      go_quiet (fail)
      go_wp2;go_roundw
      case rel=>exact⟨5,O,rfl,UQ,by simp;omega,p.o,q.o,λ_=>u.o,λ_=>D.o,λ_=>G.o,λ_=>Z.o,λ_=>a.o⟩
      case measure=>simp[N1]
  |5,_=>
   have HB:=A s;have HT:aA (r.dX b c d f g=Mk):=A (by unfold Rl.dX;rw[t O,v O,x O,C O,E O];rfl);clear t v x C E m n s;go_wp2;go_ret;exact⟨by first|(rw[HT.o];done)|(rw[HT.o];rfl),HB.o⟩
theorem jp{v m:Int}(l:0<=v/\v<=4294967295)(n:0<=m/\m<=4294967295):(Oa Pc I v m==0)=(Oa Oc I v m==v):=by
 obtain⟨a,rfl⟩:∃a:Nat,v=a:=⟨v.toNat,O⟩;obtain⟨b,rfl⟩:∃b:Nat,m=b:=⟨m.toNat,O⟩;rw[iN a b O O,gx a b O O,Oq,beq_iff_eq,beq_iff_eq];have g:b<2^64:=O;have e:(18446744073709551615-b:Nat)=2^64- (b+1):=O;have j:a<2^64:=O;rw[e];constructor
 ·intro h;have d:a&&&(2^64- (b+1))=0:=O;have:a&&&b=a:=by
   apply Rx;intro i;have c:=congrArg (λz=>Tm z i) d;simp only[Pz,Q1 g,Sd]at c;rw[Pz];by_cases k:i<64
   ·simp[k]at c;cases f:a.testBit i
    ·simp
    ·simp[c f]
   ·have:a.testBit i=false:=Nat.testBit_lt_two_pow (Nat.lt_of_lt_of_le j (Nat.pow_le_pow_right O O));simp[this]
  omega
 ·intro h;have d:a&&&b=a:=O;have:a&&&(2^64- (b+1))=0:=by
   apply Rx;intro i;have c:=congrArg (λz=>Tm z i) d;simp only[Pz]at c;rw[Pz,Q1 g,Sd];cases f:a.testBit i
   ·simp
   ·rw[f]at c;simp at c;simp[c]
  omega
theorem su(r:Rl)(h:dM r.k0 r.v0 r.m0 0 4294967295=Md):r.ok=false:=by unfold Rl.ok fM;rw[h];simp
theorem sr(r:Rl)(h:dM r.k1 r.v1 r.m1 0 4294967295=Md):r.ok=false:=by unfold Rl.ok fM;rw[h];simp
theorem sq(r:Rl)(h:dM r.k2 r.v2 r.m2 0 255=Md):r.ok=false:=by unfold Rl.ok fM;rw[h];simp
theorem sl(r:Rl)(h:dM r.k3 r.v3 r.m3 0 65535=Md):r.ok=false:=by unfold Rl.ok fM;rw[h];simp
theorem sk(r:Rl)(h:dM r.k4 r.v4 r.m4 0 65535=Md):r.ok=false:=by unfold Rl.ok fM;rw[h];simp
theorem kI(r:Rl)(h:r.id<0\/r.pr<0\/1000<r.pr\/r.ac<0\/2<r.ac\/r.po<0\/8<=r.po\/(r.ac≠2/\r.po≠0)):r.ok=false:=by
 cases b:r.ok with
 |false=>rfl
 |true=>
  exfalso;unfold Rl.ok fM AC at b;simp only[Bool.and_eq_true,Bool.not_eq_true',decide_eq_false_iff_not]at b;obtain⟨c,d,e,_,_,_,_,_,a⟩:=b;split at a
  ·simp at a;omega
  ·split at a
   ·simp at a;omega
   ·split at a
    ·simp at a;omega
    ·cases a
theorem KN(r:Rl)(h:¬(r.id<0\/r.pr<0\/1000<r.pr\/r.ac<0\/2<r.ac\/r.po<0\/8<=r.po\/(r.ac≠2/\r.po≠0)))(a:dM r.k0 r.v0 r.m0 0 4294967295=Mk)(b:dM r.k1 r.v1 r.m1 0 4294967295=Mk)(c:dM r.k2 r.v2 r.m2 0 255=Mk)(d:dM r.k3 r.v3 r.m3 0 65535=Mk)(e:dM r.k4 r.v4 r.m4 0 65535=Mk):r.ok=true:=by
 have f:AC r.ac r.po=true:=by
  unfold AC;split
  ·simp;omega
  ·split
   ·simp;omega
   ·rw[if_pos O];simp;omega
 unfold Rl.ok fM;rw[a,b,c,d,e,f,decide_eq_false O,decide_eq_false O,decide_eq_false O];rfl
theorem qU(r:Rl)(w:MV):Mo MT 123 #[M1 #[Q I r.id,Q I r.pr,Q I r.k0,Q I r.v0,Q I r.m0,Q I r.k1,Q I r.v1,Q I r.m1,Q I r.k2,Q I r.v2,Q I r.m2,Q I r.k3,Q I r.v3,Q I r.m3,Q I r.k4,Q I r.v4,Q I r.m4,Q I r.ac,Q I r.po]] w λe w'=>e=.returned (M0 r.ok)/\Mb w.heap.size w w':=by
 by_cases Y:r.id<0
 ·have c:aA (r.ok=Md):=A (kI r O);go_enter Ou,ntmps123;go_wp2;go_ret;exact⟨by first|(rw[c.o];done)|(rw[c.o];rfl),UQ⟩
 by_cases hp:r.pr<0
 ·have c:aA (r.ok=Md):=A (kI r O);go_enter Ou,ntmps123;go_wp2;go_ret;exact⟨by first|(rw[c.o];done)|(rw[c.o];rfl),UQ⟩
 by_cases a9:1000<r.pr
 ·have c:aA (r.ok=Md):=A (kI r O);go_enter Ou,ntmps123;go_wp2;go_ret;exact⟨by first|(rw[c.o];done)|(rw[c.o];rfl),UQ⟩
 by_cases ha:r.ac<0
 ·have c:aA (r.ok=Md):=A (kI r O);go_enter Ou,ntmps123;go_wp2;go_ret;exact⟨by first|(rw[c.o];done)|(rw[c.o];rfl),UQ⟩
 by_cases b3:2<r.ac
 ·have c:aA (r.ok=Md):=A (kI r O);go_enter Ou,ntmps123;go_wp2;go_ret;exact⟨by first|(rw[c.o];done)|(rw[c.o];rfl),UQ⟩
 by_cases ho:r.po<0
 ·have c:aA (r.ok=Md):=A (kI r O);go_enter Ou,ntmps123;go_wp2;go_ret;exact⟨by first|(rw[c.o];done)|(rw[c.o];rfl),UQ⟩
 by_cases b5:8<=r.po
 ·have c:aA (r.ok=Md):=A (kI r O);go_enter Ou,ntmps123;go_wp2;go_ret;exact⟨by first|(rw[c.o];done)|(rw[c.o];rfl),UQ⟩
 by_cases T:r.ac≠2/\r.po≠0
 ·have c:aA (r.ok=Md):=A (kI r O);have e1:(r.ac !=2)=true:=by simpa using T.1
  have e2:(r.po !=0)=true:=by simpa using T.2
  clear T;go_enter Ou,ntmps123;go_wp2;go_ret;exact⟨by first|(rw[c.o];done)|(rw[c.o];rfl),UQ⟩
 have a3:=A (KN r O);have hd:(r.ac !=2)=Md\/((r.ac !=2)=Mk/\(r.po !=0)=Md):=by
  by_cases h:r.ac=2
  ·exact .inl (by simp[h])
  ·refine .inr ⟨by simpa using h,?_⟩;have:r.po=0:=O;simp[this]
 have Z:=A (aN w #[Q I r.id,Q I r.pr,Q I r.k0,Q I r.v0,Q I r.m0,Q I r.k1,Q I r.v1,Q I r.m1,Q I r.k2,Q I r.v2,Q I r.m2,Q I r.k3,Q I r.v3,Q I r.m3,Q I r.k4,Q I r.v4,Q I r.m4,Q I r.ac,Q I r.po] 37);have z:=A λ(i:Nat) (n:Int) (W:MV) (Y:i<5)=>qR i n W Y;clear T;rcases hd with d1|⟨d1,d2⟩
 all_goals
  go_enter Ou,ntmps123;go_wp2;go_loopw [3,4,5,6,72,82] (λi _ _ _ _ _ wr=>∃k:Nat,k<=5/\i=Q I k/\Mb w.heap.size w wr/\w.heap.size<wr.heap.size/\wr.rangeAt w.heap.size 0 [Q I r.id,Q I r.pr,Q I r.k0,Q I r.v0,Q I r.m0,Q I r.k1,Q I r.v1,Q I r.m1,Q I r.k2,Q I r.v2,Q I r.m2,Q I r.k3,Q I r.v3,Q I r.m3,Q I r.k4,Q I r.v4,Q I r.m4,Q I r.ac,Q I r.po]/\(0<k->dM r.k0 r.v0 r.m0 0 4294967295=Mk)/\(1<k->dM r.k1 r.v1 r.m1 0 4294967295=Mk)/\(2<k->dM r.k2 r.v2 r.m2 0 255=Mk)/\(3<k->dM r.k3 r.v3 r.m3 0 65535=Mk)/\(4<k->dM r.k4 r.v4 r.m4 0 65535=Mk)) (λi _ _ _ _ _ _=>5- (N1 i).toNat)
  case atStart=>exact⟨0,O,rfl,UQ,by simp,Z.o,O,O,O,O,O⟩
  case round=>
   clear Z;obtain⟨k,hk,rfl,v,c1,o,x,B,C,L,P⟩:=hrel;match k,hk with
   |0,_=>
    have U:wr.cell? ⟨w.heap.size,2,S⟩=N (Q I r.k0):=o 2 _ rfl;have V:wr.cell? ⟨w.heap.size,3,S⟩=N (Q I r.v0):=o 3 _ rfl;have X:wr.cell? ⟨w.heap.size,4,S⟩=N (Q I r.m0):=o 4 _ rfl;have q:=A (cd o ((MU _ wr).alloc (MP _) (MY #[Q I r.k0,Q I r.v0,Q I r.m0] 34)));have f:aA (Mb w.heap.size w (wr.alloc (MY #[Q I r.k0,Q I r.v0,Q I r.m0] 34))):=A (v.alloc v.size _);clear o x B C L P;go_wp2_with fail
    refine(z.o 0 r.v0 _ O).mono ?_;rintro e W ⟨rfl,m⟩;rw[m];clear m W;have g:aA (dM r.k0 r.v0 r.m0 0 4294967295=(bD 0 (bi 0) r.v0&&(bD 0 (bi 0) r.m0&&(if r.k0=0 then Oa Pc I r.v0 r.m0==0 else if r.k0=1 then decide (r.v0<=r.m0)else Md)))):=A rfl;have D:bi 0<=4294967295:=US;have s:aA (bD 0 (bi 0) r.v0=Mk->bD 0 (bi 0) r.m0=Mk->(Oa Pc I r.v0 r.m0==0)=(Oa Oc I r.v0 r.m0==r.v0)):=A λa b=>jp (by have:=aw.1 a;omega) (by have:=aw.1 b;omega);clear D;generalize bD 0 (bi 0) r.v0=E at*;go_wp2_with fail
    refine(z.o 0 r.m0 _ O).mono ?_;rintro e W ⟨rfl,m⟩;rw[m];clear m W;generalize bD 0 (bi 0) r.m0=F at*;cases E with
    |false=>
     have c:aA (r.ok=Md):=A (su r (by rw[g.o];rfl));go_wp2;go_ret;exact⟨by first|(rw[c.o];done)|(rw[c.o];rfl),f.o⟩
    |true=>
     cases F with
     |false=>
      have c:aA (r.ok=Md):=A (su r (by rw[g.o];rfl));go_wp2;go_ret;exact⟨by first|(rw[c.o];done)|(rw[c.o];rfl),f.o⟩
     |true=>
      have t:=A (s.o rfl rfl);clear s;by_cases d:r.k0=0
      ·have G:(r.k0==0)=true:=by simp[d]
       cases l:(Oa Oc I r.v0 r.m0==r.v0)with
       |true=>
        have H:(Oa Oc I r.v0 r.m0 !=r.v0)=false:=by rw[bne,l];rfl
        have p:aA (dM r.k0 r.v0 r.m0 0 4294967295=Mk):=A (by rw[g.o,if_pos d,t.o,l];rfl);clear l d;go_wp2;go_roundw
        case rel=>exact⟨1,O,rfl,f.o,by simp;omega,q.o,λ_=>p.o,O,O,O,O⟩
        case measure=>simp[N1]
       |false=>
        have H:(Oa Oc I r.v0 r.m0 !=r.v0)=true:=by rw[bne,l];rfl
        have c:aA (r.ok=Md):=A (su r (by rw[g.o,if_pos d,t.o,l];rfl));clear l d;go_wp2;go_ret;exact⟨by first|(rw[c.o];done)|(rw[c.o];rfl),f.o⟩
      ·have G:(r.k0==0)=false:=by simpa using d
       by_cases j:r.k0=1
       ·have J:(r.k0==1)=true:=by simp[j]
        by_cases u:r.v0<=r.m0
        ·have K:¬r.m0<r.v0:=by omega
         have p:aA (dM r.k0 r.v0 r.m0 0 4294967295=Mk):=A (by rw[g.o,if_neg d,if_pos j,decide_eq_true u];rfl);clear d j;go_wp2;go_roundw
         case rel=>exact⟨1,O,rfl,f.o,by simp;omega,q.o,λ_=>p.o,O,O,O,O⟩
         case measure=>simp[N1]
        ·have K:r.m0<r.v0:=by omega
         have c:aA (r.ok=Md):=A (su r (by rw[g.o,if_neg d,if_pos j,decide_eq_false u];rfl));clear d j;go_wp2;go_ret;exact⟨by first|(rw[c.o];done)|(rw[c.o];rfl),f.o⟩
       ·have J:(r.k0==1)=false:=by simpa using j
        have c:aA (r.ok=Md):=A (su r (by rw[g.o,if_neg d,if_neg j];rfl));go_wp2;go_ret;exact⟨by first|(rw[c.o];done)|(rw[c.o];rfl),f.o⟩
   |1,_=>
    have U:wr.cell? ⟨w.heap.size,5,S⟩=N (Q I r.k1):=o 5 _ rfl;have V:wr.cell? ⟨w.heap.size,6,S⟩=N (Q I r.v1):=o 6 _ rfl;have X:wr.cell? ⟨w.heap.size,7,S⟩=N (Q I r.m1):=o 7 _ rfl;have q:=A (cd o ((MU _ wr).alloc (MP _) (MY #[Q I r.k1,Q I r.v1,Q I r.m1] 34)));have f:aA (Mb w.heap.size w (wr.alloc (MY #[Q I r.k1,Q I r.v1,Q I r.m1] 34))):=A (v.alloc v.size _);have y:=A (x O);clear o x B C L P;go_wp2_with fail
    refine(z.o 1 r.v1 _ O).mono ?_;rintro e W ⟨rfl,m⟩;rw[m];clear m W;have g:aA (dM r.k1 r.v1 r.m1 0 4294967295=(bD 0 (bi 1) r.v1&&(bD 0 (bi 1) r.m1&&(if r.k1=0 then Oa Pc I r.v1 r.m1==0 else if r.k1=1 then decide (r.v1<=r.m1)else Md)))):=A rfl;have D:bi 1<=4294967295:=US;have s:aA (bD 0 (bi 1) r.v1=Mk->bD 0 (bi 1) r.m1=Mk->(Oa Pc I r.v1 r.m1==0)=(Oa Oc I r.v1 r.m1==r.v1)):=A λa b=>jp (by have:=aw.1 a;omega) (by have:=aw.1 b;omega);clear D;generalize bD 0 (bi 1) r.v1=E at*;go_wp2_with fail
    refine(z.o 1 r.m1 _ O).mono ?_;rintro e W ⟨rfl,m⟩;rw[m];clear m W;generalize bD 0 (bi 1) r.m1=F at*;cases E with
    |false=>
     have c:aA (r.ok=Md):=A (sr r (by rw[g.o];rfl));go_wp2;go_ret;exact⟨by first|(rw[c.o];done)|(rw[c.o];rfl),f.o⟩
    |true=>
     cases F with
     |false=>
      have c:aA (r.ok=Md):=A (sr r (by rw[g.o];rfl));go_wp2;go_ret;exact⟨by first|(rw[c.o];done)|(rw[c.o];rfl),f.o⟩
     |true=>
      have t:=A (s.o rfl rfl);clear s;by_cases d:r.k1=0
      ·have G:(r.k1==0)=true:=by simp[d]
       cases l:(Oa Oc I r.v1 r.m1==r.v1)with
       |true=>
        have H:(Oa Oc I r.v1 r.m1 !=r.v1)=false:=by rw[bne,l];rfl
        have p:aA (dM r.k1 r.v1 r.m1 0 4294967295=Mk):=A (by rw[g.o,if_pos d,t.o,l];rfl);clear l d;go_wp2;go_roundw
        case rel=>exact⟨2,O,rfl,f.o,by simp;omega,q.o,λ_=>y.o,λ_=>p.o,O,O,O⟩
        case measure=>simp[N1]
       |false=>
        have H:(Oa Oc I r.v1 r.m1 !=r.v1)=true:=by rw[bne,l];rfl
        have c:aA (r.ok=Md):=A (sr r (by rw[g.o,if_pos d,t.o,l];rfl));clear l d;go_wp2;go_ret;exact⟨by first|(rw[c.o];done)|(rw[c.o];rfl),f.o⟩
      ·have G:(r.k1==0)=false:=by simpa using d
       by_cases j:r.k1=1
       ·have J:(r.k1==1)=true:=by simp[j]
        by_cases u:r.v1<=r.m1
        ·have K:¬r.m1<r.v1:=by omega
         have p:aA (dM r.k1 r.v1 r.m1 0 4294967295=Mk):=A (by rw[g.o,if_neg d,if_pos j,decide_eq_true u];rfl);clear d j;go_wp2;go_roundw
         case rel=>exact⟨2,O,rfl,f.o,by simp;omega,q.o,λ_=>y.o,λ_=>p.o,O,O,O⟩
         case measure=>simp[N1]
        ·have K:r.m1<r.v1:=by omega
         have c:aA (r.ok=Md):=A (sr r (by rw[g.o,if_neg d,if_pos j,decide_eq_false u];rfl));clear d j;go_wp2;go_ret;exact⟨by first|(rw[c.o];done)|(rw[c.o];rfl),f.o⟩
       ·have J:(r.k1==1)=false:=by simpa using j
        have c:aA (r.ok=Md):=A (sr r (by rw[g.o,if_neg d,if_neg j];rfl));go_wp2;go_ret;exact⟨by first|(rw[c.o];done)|(rw[c.o];rfl),f.o⟩
   |2,_=>
    have U:wr.cell? ⟨w.heap.size,8,S⟩=N (Q I r.k2):=o 8 _ rfl;have V:wr.cell? ⟨w.heap.size,9,S⟩=N (Q I r.v2):=o 9 _ rfl;have X:wr.cell? ⟨w.heap.size,10,S⟩=N (Q I r.m2):=o 10 _ rfl;have q:=A (cd o ((MU _ wr).alloc (MP _) (MY #[Q I r.k2,Q I r.v2,Q I r.m2] 34)));have f:aA (Mb w.heap.size w (wr.alloc (MY #[Q I r.k2,Q I r.v2,Q I r.m2] 34))):=A (v.alloc v.size _);have y:=A (x O);have M:=A (B O);clear o x B C L P;go_wp2_with fail
    refine(z.o 2 r.v2 _ O).mono ?_;rintro e W ⟨rfl,m⟩;rw[m];clear m W;have g:aA (dM r.k2 r.v2 r.m2 0 255=(bD 0 (bi 2) r.v2&&(bD 0 (bi 2) r.m2&&(if r.k2=0 then Oa Pc I r.v2 r.m2==0 else if r.k2=1 then decide (r.v2<=r.m2)else Md)))):=A rfl;have D:bi 2<=4294967295:=US;have s:aA (bD 0 (bi 2) r.v2=Mk->bD 0 (bi 2) r.m2=Mk->(Oa Pc I r.v2 r.m2==0)=(Oa Oc I r.v2 r.m2==r.v2)):=A λa b=>jp (by have:=aw.1 a;omega) (by have:=aw.1 b;omega);clear D;generalize bD 0 (bi 2) r.v2=E at*;go_wp2_with fail
    refine(z.o 2 r.m2 _ O).mono ?_;rintro e W ⟨rfl,m⟩;rw[m];clear m W;generalize bD 0 (bi 2) r.m2=F at*;cases E with
    |false=>
     have c:aA (r.ok=Md):=A (sq r (by rw[g.o];rfl));go_wp2;go_ret;exact⟨by first|(rw[c.o];done)|(rw[c.o];rfl),f.o⟩
    |true=>
     cases F with
     |false=>
      have c:aA (r.ok=Md):=A (sq r (by rw[g.o];rfl));go_wp2;go_ret;exact⟨by first|(rw[c.o];done)|(rw[c.o];rfl),f.o⟩
     |true=>
      have t:=A (s.o rfl rfl);clear s;by_cases d:r.k2=0
      ·have G:(r.k2==0)=true:=by simp[d]
       cases l:(Oa Oc I r.v2 r.m2==r.v2)with
       |true=>
        have H:(Oa Oc I r.v2 r.m2 !=r.v2)=false:=by rw[bne,l];rfl
        have p:aA (dM r.k2 r.v2 r.m2 0 255=Mk):=A (by rw[g.o,if_pos d,t.o,l];rfl);clear l d;go_wp2;go_roundw
        case rel=>exact⟨3,O,rfl,f.o,by simp;omega,q.o,λ_=>y.o,λ_=>M.o,λ_=>p.o,O,O⟩
        case measure=>simp[N1]
       |false=>
        have H:(Oa Oc I r.v2 r.m2 !=r.v2)=true:=by rw[bne,l];rfl
        have c:aA (r.ok=Md):=A (sq r (by rw[g.o,if_pos d,t.o,l];rfl));clear l d;go_wp2;go_ret;exact⟨by first|(rw[c.o];done)|(rw[c.o];rfl),f.o⟩
      ·have G:(r.k2==0)=false:=by simpa using d
       by_cases j:r.k2=1
       ·have J:(r.k2==1)=true:=by simp[j]
        by_cases u:r.v2<=r.m2
        ·have K:¬r.m2<r.v2:=by omega
         have p:aA (dM r.k2 r.v2 r.m2 0 255=Mk):=A (by rw[g.o,if_neg d,if_pos j,decide_eq_true u];rfl);clear d j;go_wp2;go_roundw
         case rel=>exact⟨3,O,rfl,f.o,by simp;omega,q.o,λ_=>y.o,λ_=>M.o,λ_=>p.o,O,O⟩
         case measure=>simp[N1]
        ·have K:r.m2<r.v2:=by omega
         have c:aA (r.ok=Md):=A (sq r (by rw[g.o,if_neg d,if_pos j,decide_eq_false u];rfl));clear d j;go_wp2;go_ret;exact⟨by first|(rw[c.o];done)|(rw[c.o];rfl),f.o⟩
       ·have J:(r.k2==1)=false:=by simpa using j
        have c:aA (r.ok=Md):=A (sq r (by rw[g.o,if_neg d,if_neg j];rfl));go_wp2;go_ret;exact⟨by first|(rw[c.o];done)|(rw[c.o];rfl),f.o⟩
   |3,_=>
    have U:wr.cell? ⟨w.heap.size,11,S⟩=N (Q I r.k3):=o 11 _ rfl;have V:wr.cell? ⟨w.heap.size,12,S⟩=N (Q I r.v3):=o 12 _ rfl;have X:wr.cell? ⟨w.heap.size,13,S⟩=N (Q I r.m3):=o 13 _ rfl;have q:=A (cd o ((MU _ wr).alloc (MP _) (MY #[Q I r.k3,Q I r.v3,Q I r.m3] 34)));have f:aA (Mb w.heap.size w (wr.alloc (MY #[Q I r.k3,Q I r.v3,Q I r.m3] 34))):=A (v.alloc v.size _);have y:=A (x O);have M:=A (B O);have R:=A (C O);clear o x B C L P;go_wp2_with fail
    refine(z.o 3 r.v3 _ O).mono ?_;rintro e W ⟨rfl,m⟩;rw[m];clear m W;have g:aA (dM r.k3 r.v3 r.m3 0 65535=(bD 0 (bi 3) r.v3&&(bD 0 (bi 3) r.m3&&(if r.k3=0 then Oa Pc I r.v3 r.m3==0 else if r.k3=1 then decide (r.v3<=r.m3)else Md)))):=A rfl;have D:bi 3<=4294967295:=US;have s:aA (bD 0 (bi 3) r.v3=Mk->bD 0 (bi 3) r.m3=Mk->(Oa Pc I r.v3 r.m3==0)=(Oa Oc I r.v3 r.m3==r.v3)):=A λa b=>jp (by have:=aw.1 a;omega) (by have:=aw.1 b;omega);clear D;generalize bD 0 (bi 3) r.v3=E at*;go_wp2_with fail
    refine(z.o 3 r.m3 _ O).mono ?_;rintro e W ⟨rfl,m⟩;rw[m];clear m W;generalize bD 0 (bi 3) r.m3=F at*;cases E with
    |false=>
     have c:aA (r.ok=Md):=A (sl r (by rw[g.o];rfl));go_wp2;go_ret;exact⟨by first|(rw[c.o];done)|(rw[c.o];rfl),f.o⟩
    |true=>
     cases F with
     |false=>
      have c:aA (r.ok=Md):=A (sl r (by rw[g.o];rfl));go_wp2;go_ret;exact⟨by first|(rw[c.o];done)|(rw[c.o];rfl),f.o⟩
     |true=>
      have t:=A (s.o rfl rfl);clear s;by_cases d:r.k3=0
      ·have G:(r.k3==0)=true:=by simp[d]
       cases l:(Oa Oc I r.v3 r.m3==r.v3)with
       |true=>
        have H:(Oa Oc I r.v3 r.m3 !=r.v3)=false:=by rw[bne,l];rfl
        have p:aA (dM r.k3 r.v3 r.m3 0 65535=Mk):=A (by rw[g.o,if_pos d,t.o,l];rfl);clear l d;go_wp2;go_roundw
        case rel=>exact⟨4,O,rfl,f.o,by simp;omega,q.o,λ_=>y.o,λ_=>M.o,λ_=>R.o,λ_=>p.o,O⟩
        case measure=>simp[N1]
       |false=>
        have H:(Oa Oc I r.v3 r.m3 !=r.v3)=true:=by rw[bne,l];rfl
        have c:aA (r.ok=Md):=A (sl r (by rw[g.o,if_pos d,t.o,l];rfl));clear l d;go_wp2;go_ret;exact⟨by first|(rw[c.o];done)|(rw[c.o];rfl),f.o⟩
      ·have G:(r.k3==0)=false:=by simpa using d
       by_cases j:r.k3=1
       ·have J:(r.k3==1)=true:=by simp[j]
        by_cases u:r.v3<=r.m3
        ·have K:¬r.m3<r.v3:=by omega
         have p:aA (dM r.k3 r.v3 r.m3 0 65535=Mk):=A (by rw[g.o,if_neg d,if_pos j,decide_eq_true u];rfl);clear d j;go_wp2;go_roundw
         case rel=>exact⟨4,O,rfl,f.o,by simp;omega,q.o,λ_=>y.o,λ_=>M.o,λ_=>R.o,λ_=>p.o,O⟩
         case measure=>simp[N1]
        ·have K:r.m3<r.v3:=by omega
         have c:aA (r.ok=Md):=A (sl r (by rw[g.o,if_neg d,if_pos j,decide_eq_false u];rfl));clear d j;go_wp2;go_ret;exact⟨by first|(rw[c.o];done)|(rw[c.o];rfl),f.o⟩
       ·have J:(r.k3==1)=false:=by simpa using j
        have c:aA (r.ok=Md):=A (sl r (by rw[g.o,if_neg d,if_neg j];rfl));go_wp2;go_ret;exact⟨by first|(rw[c.o];done)|(rw[c.o];rfl),f.o⟩
   |4,_=>
    have U:wr.cell? ⟨w.heap.size,14,S⟩=N (Q I r.k4):=o 14 _ rfl;have V:wr.cell? ⟨w.heap.size,15,S⟩=N (Q I r.v4):=o 15 _ rfl;have X:wr.cell? ⟨w.heap.size,16,S⟩=N (Q I r.m4):=o 16 _ rfl;have q:=A (cd o ((MU _ wr).alloc (MP _) (MY #[Q I r.k4,Q I r.v4,Q I r.m4] 34)));have f:aA (Mb w.heap.size w (wr.alloc (MY #[Q I r.k4,Q I r.v4,Q I r.m4] 34))):=A (v.alloc v.size _);have y:=A (x O);have M:=A (B O);have R:=A (C O);have H3:=A (L O);clear o x B C L P;go_wp2_with fail
    refine(z.o 4 r.v4 _ O).mono ?_;rintro e W ⟨rfl,m⟩;rw[m];clear m W;have g:aA (dM r.k4 r.v4 r.m4 0 65535=(bD 0 (bi 4) r.v4&&(bD 0 (bi 4) r.m4&&(if r.k4=0 then Oa Pc I r.v4 r.m4==0 else if r.k4=1 then decide (r.v4<=r.m4)else Md)))):=A rfl;have D:bi 4<=4294967295:=US;have s:aA (bD 0 (bi 4) r.v4=Mk->bD 0 (bi 4) r.m4=Mk->(Oa Pc I r.v4 r.m4==0)=(Oa Oc I r.v4 r.m4==r.v4)):=A λa b=>jp (by have:=aw.1 a;omega) (by have:=aw.1 b;omega);clear D;generalize bD 0 (bi 4) r.v4=E at*;go_wp2_with fail
    refine(z.o 4 r.m4 _ O).mono ?_;rintro e W ⟨rfl,m⟩;rw[m];clear m W;generalize bD 0 (bi 4) r.m4=F at*;cases E with
    |false=>
     have c:aA (r.ok=Md):=A (sk r (by rw[g.o];rfl));go_wp2;go_ret;exact⟨by first|(rw[c.o];done)|(rw[c.o];rfl),f.o⟩
    |true=>
     cases F with
     |false=>
      have c:aA (r.ok=Md):=A (sk r (by rw[g.o];rfl));go_wp2;go_ret;exact⟨by first|(rw[c.o];done)|(rw[c.o];rfl),f.o⟩
     |true=>
      have t:=A (s.o rfl rfl);clear s;by_cases d:r.k4=0
      ·have G:(r.k4==0)=true:=by simp[d]
       cases l:(Oa Oc I r.v4 r.m4==r.v4)with
       |true=>
        have H:(Oa Oc I r.v4 r.m4 !=r.v4)=false:=by rw[bne,l];rfl
        have p:aA (dM r.k4 r.v4 r.m4 0 65535=Mk):=A (by rw[g.o,if_pos d,t.o,l];rfl);clear l d;go_wp2;go_roundw
        case rel=>exact⟨5,O,rfl,f.o,by simp;omega,q.o,λ_=>y.o,λ_=>M.o,λ_=>R.o,λ_=>H3.o,λ_=>p.o⟩
        case measure=>simp[N1]
       |false=>
        have H:(Oa Oc I r.v4 r.m4 !=r.v4)=true:=by rw[bne,l];rfl
        have c:aA (r.ok=Md):=A (sk r (by rw[g.o,if_pos d,t.o,l];rfl));clear l d;go_wp2;go_ret;exact⟨by first|(rw[c.o];done)|(rw[c.o];rfl),f.o⟩
      ·have G:(r.k4==0)=false:=by simpa using d
       by_cases j:r.k4=1
       ·have J:(r.k4==1)=true:=by simp[j]
        by_cases u:r.v4<=r.m4
        ·have K:¬r.m4<r.v4:=by omega
         have p:aA (dM r.k4 r.v4 r.m4 0 65535=Mk):=A (by rw[g.o,if_neg d,if_pos j,decide_eq_true u];rfl);clear d j;go_wp2;go_roundw
         case rel=>exact⟨5,O,rfl,f.o,by simp;omega,q.o,λ_=>y.o,λ_=>M.o,λ_=>R.o,λ_=>H3.o,λ_=>p.o⟩
         case measure=>simp[N1]
        ·have K:r.m4<r.v4:=by omega
         have c:aA (r.ok=Md):=A (sk r (by rw[g.o,if_neg d,if_pos j,decide_eq_false u];rfl));clear d j;go_wp2;go_ret;exact⟨by first|(rw[c.o];done)|(rw[c.o];rfl),f.o⟩
       ·have J:(r.k4==1)=false:=by simpa using j
        have c:aA (r.ok=Md):=A (sk r (by rw[g.o,if_neg d,if_neg j];rfl));go_wp2;go_ret;exact⟨by first|(rw[c.o];done)|(rw[c.o];rfl),f.o⟩
   |5,_=>
    have HB:=A v;have HT:=A (a3.o (x O) (B O) (C O) (L O) (P O));clear x B C L P o v;go_wp2;go_ret;exact⟨by first|(rw[HT.o];done)|(rw[HT.o];rfl),HB.o⟩
theorem eZ(x:Int)(w:MV):Mo MT 25 #[Q I x] w λe a=>e=.returned (Q I x)/\a=w:=by
 go_enter func25,ntmps25;go_wp2;go_ret;exact⟨rfl,rfl⟩
end Go.Proofs.YtnjalelblbjfiaaGreatDoor
