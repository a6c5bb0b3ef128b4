import Derived.Test.YtnjalelblbjfiaaGreatDoorP20
import Derived.Test.YtnjalelblbjfiaaGreatDoorP21
import Derived.Test.YtnjalelblbjfiaaGreatDoorP18
namespace Go.Proofs.YtnjalelblbjfiaaGreatDoor
set_option maxRecDepth 100000
set_option maxHeartbeats 16000000
open Go.RowKit
open Go.Proofs.Tryz
open Go.Sort (grow)
open Bool renaming true→Mk,false→Md
open Decidable renaming decide→M9
open Go renaming World→MV,Calls→Mo,cell_later→MW,Value→Ma,undef→NS,results→QO,run_loadVar_row→Si,bits→Oa,TypeId→NL,heap_setCell_same→Mn,bodyPost_ret→NQ,heap_setCell_other→NE,redrawn→NK,wp_region_quiet_below→Mg,wpQuiet_nil→M3,block_lt_of_cell→MO
open Go.Ending renaming returned→MZ
open Go.Instr renaming index→Nb
open Go.IntKind renaming i64→I,u8→RI,wrap_i64→Mm
open Go.Obj renaming cells→MY
open Go.Proofs.Tryz renaming prog→MT,f109→Tw,func109→RW,f110→Tx
open Go.RowKit renaming Below→Mb
open Go.RowKit.Below renaming refl→MU,trans→NA
open Go.Value renaming agg→M1,string→MS,int→Q,pointer→MQ,bool→M0
open Nat renaming le_refl→MP,shiftLeft_eq→Sj,le_of_lt→QU,and_two_pow_sub_one_eq_mod→Qr
open Option renaming none→S,some→N
open Go.Calls renaming regrown_of→Ml
variable {W w:MV}{a c d e f g j k l:Ma}{t:NL}{B b:Nat}
def iU(b:ByteArray):Nat->Nat
 |0=>0
 |k+1=>kR (iU b k) (bT b (2*k))
theorem rX(b:ByteArray):∀k,iU b k<=65535
 |0=>by unfold iU;omega
 |k+1=>rW (rX b k) (by have:=eN b (2*k);omega)
theorem GI(b:ByteArray)(n:Nat)(l:Int)(w:MV)(h:2*n<=b.size)(C:b.size<=1000):Mo MT 172 #[M1 #[MS b,Q I ((2*n:Nat):Int),Q I l]] w λe D=>e=MZ (Q I (iU b n))/\Mb w.heap.size w D:=by
 obtain⟨d,m⟩:=UX (((2*n:Nat):Int):Int);rw[<-m];have o:=A λ(k:Nat) (W:MV) (E:k<n)=>gv b d l (2*k) W O C;have p:=A λ(k:Nat) (W:MV)=>yh (iU b k) (bT b (2*k)) W (rX b k) (by have:=eN b (2*k);omega);have q:=A m;clear m;go_enter func172,ntmps172;go_wp2;obtain⟨c,f⟩:=UX (w.alloc (MY #[MS b,Q I d,Q I l] 148));have F:c.cell? ⟨w.heap.size,0,S⟩=N (MS b):=by rw[f];exact aB (aU _ _) rfl
 have G:c.cell? ⟨w.heap.size,1,S⟩=N (Q I d):=by rw[f];exact aB (aU _ _) rfl
 have H:c.cell? ⟨w.heap.size,2,S⟩=N (Q I l):=by rw[f];exact aB (aU _ _) rfl
 have v:aA (Mb w.heap.size w c):=A (by rw[f];exact(MU _ w).alloc (MP _) _);rw[<-f];clear f;have J:=v.o.size;go_loopw [3,4] (λs a wr=>∃k:Nat,k<=n/\s=Q I (iU b k)/\a=Q I ((2*k:Nat):Int)/\aA (Mb c.heap.size c wr)) (λ_ a _=>2*n- (intOf a).toNat)
 case atStart=>exact⟨0,Nat.zero_le _,rfl,rfl,A (MU _ _)⟩
 case round=>
  obtain⟨k,E,rfl,rfl,g⟩:=hrel;have R:=MW g.o F;have T:=MW g.o G;have U:=MW g.o H;by_cases K:k<n
  ·have r:((2*k:Nat):Int)<d:=by rw[q.o];omega
   have L:((2*k:Nat):Int)<=1000:=O;have t:=A (o.o k wr K);have u:=A (p.o k);have x:aA (iU b (k+1)=kR (iU b k) (bT b (2*k))):=A rfl;obtain⟨j,i⟩:=UX (2*k);rw[<-i]at t u x r L⊢;have y:=A i;clear i o p;go_wp2_with fail
   refine t.o.mono ?_;rintro e V ⟨rfl,z⟩;go_wp2_with fail
   refine(u.o _).mono ?_;rintro e M ⟨rfl,B⟩;rw[B];clear B M;have P:=A (g.o.trans (z.mono g.o.size));clear z t u;go_wp2;go_roundw
   case rel=>exact⟨k+1,O,by rw[x.o],by rw[y.o];go_num,P⟩
   case measure=>
    have X:=y.o;have Y:=q.o;simp[intOf];omega
  ·obtain rfl:k=n:=by omega
   have r:¬((2*k:Nat):Int)<d:=by rw[q.o];omega
   obtain⟨j,i⟩:=UX (2*k);rw[<-i]at r⊢;clear o p i;go_wp2;go_ret;exact⟨rfl,v.o.trans (g.o.mono J)⟩
def cn(b:ByteArray):Nat:=if h:0<b.size then(b[0]'h).toNat%16*4 else 0
def Kk(b:ByteArray):Nat:=if h:0<b.size then(b[0]'h).toNat/16 else 0
def jX(b:ByteArray):Bool:=M9 (20<=b.size)&&(Kk b==4)&&(M9 (20<=cn b)&&M9 (cn b<=bT b 2)&&M9 (bT b 2<=b.size))&&(iU b (cn b/2)==65535)
theorem Br(b:ByteArray):cn b<=60:=by unfold cn;split<;>omega
theorem oB{a:Array Ma}{x y z:Ma}(c:W.heap[b]?=N (MY #[x,y,z] 148 (0,0)))(d:a.getD 2 NS=MQ (N ⟨b,0,S⟩)):(QO Tw a).run MT W=.ok (.tuple #[M1 #[x,y,z],a.getD 3 NS]) W:=by
 rw[results_cell_tmp (fn:=Tw) (p:=2) (u:=3) (ty:=148) rfl,d];have e:(prog.info? 148).map (·.size)=N (#[x,y,z]:Array Ma).size:=UR;simp[asAddr,Si W b 148 148 #[x,y,z] (0,0) _ c underlying148 rfl e,Result.andThen]
theorem KL:∀n,n<256->Oa BinOp.and RI (n:Nat) 15=((n%16:Nat):Int):=by decide+kernel
theorem mS{v0 v1 v2:Ma}(h:W.heap[b]?=N (MY #[a,c,d] t (0,0))):(((W.setCell ⟨b,0,S⟩ v0).setCell ⟨b,1,S⟩ v1).setCell ⟨b,2,S⟩ v2).heap[b]?=N (MY #[v0,v1,v2] t (0,0)):=by
 have e:=Mn W b 0 _ _ v0 h;have f:=Mn _ b 1 _ _ v1 e;have g:=Mn _ b 2 _ _ v2 f;simpa using g
def yW(b:ByteArray):Array Value:=if jX b then#[MS b,Q I (cn b),Q I (bT b 2)]else#[MS ⟨#[]⟩,Q I 0,Q I 0]
theorem EI(b:ByteArray)(w:MV)(hs:b.size<=1000):Mo MT 109 #[MS b] w λe R=>e=MZ (.tuple #[M1 (yW b),M0 (jX b)])/\Mb w.heap.size w R:=by
 have e5:=Br b;by_cases e6:b.size<20
 ·have T:jX b=false:=by
   unfold jX;rw[decide_eq_false O];rfl
  have hi:(b.size:Int)<20:=O;have a7:yW b=#[MS ⟨#[]⟩,Q I 0,Q I 0]:=by unfold yW;rw[T];rfl
  rw[T,a7];clear T a7;go_enter RW,ntmps109;go_wp2;refine NQ (oB (b:=w.heap.size) (aU w _) rfl) rfl ?_;exact⟨rfl,UQ⟩
 ·have hi:¬(b.size:Int)<20:=by omega
  have l:0<b.size:=O;have C:Kk b=(b[0]'l).toNat/16:=dif_pos l;have U:cn b=(b[0]'l).toNat%16*4:=dif_pos l;have V:=(b[0]'l).toNat_lt;have c3:=KL _ V;have e7:∀W:MV,(Nb 9 (MS b) (Q I 0)).run MT W=.ok (Q RI ((b[0]'l).toNat:Int)) W:=λW=>by
   simp[go_sem,l]
  generalize(b[0]'l).toNat=x at*;obtain⟨g,n⟩:=UX (jX b);obtain⟨X,Y⟩:=UX (yW b);have o:aA (X=if g=Mk then#[MS b,Q I (cn b),Q I (bT b 2)]else#[MS ⟨#[]⟩,Q I 0,Q I 0]):=A (by rw[Y,n];rfl);rw[<-n,<-Y];clear Y;by_cases D:x/16=4
  ·have c4:(x:Int)/16=4:=by omega
   have C2:aA (∀W:MV,Mo MT 171 #[M1 #[MS b,Q I (cn b),Q I 0],Q I 2] W λe R=>e=MZ (Q I (bT b 2))/\Mb W.heap.size W R):=A λW=>gv b (cn b) 0 2 W O hs;have a9:2*(cn b/2)=cn b:=O;have p:=A λ(W:MV) (e8:cn b<=b.size)=>GI b (cn b/2) (bT b 2) W O hs;rw[a9]at p;have b0:g=(M9 (20<=cn b)&&M9 (cn b<=bT b 2)&&M9 (bT b 2<=b.size)&&(iU b (cn b/2)==65535)):=by
    rw[n];unfold jX;rw[decide_eq_true (by omega:20<=b.size),C,D];rfl
   have m:=A b0;have f0:=eN b 2;have f1:=rX b (cn b/2);have e2:(x:Int)%16*4=cn b:=by rw[U];omega
   have b2:=A e2;clear n b0 U C V D a9 e2;go_enter RW,ntmps109;go_wp2_with fail
   rw[b2.o];clear b2;obtain⟨q,v⟩:=UX ((w.alloc (MY #[MS ⟨#[]⟩,Q I 0,Q I 0] 148)).alloc (MY #[MS b,Q I (cn b),Q I 0] 148));have Z:q.heap[w.heap.size]?=N (MY #[MS ⟨#[]⟩,Q I 0,Q I 0] 148 (0,0)):=by rw[v];exact(((MU _ (w.alloc _)).alloc (MP _) _).block _ (by simp)).trans (aU _ _)
   have A1:q.heap[w.heap.size+1]?=N (MY #[MS b,Q I (cn b),Q I 0] 148 (0,0)):=by
    rw[v];have:=aU (w.alloc (MY #[MS ⟨#[]⟩,Q I 0,Q I 0] 148)) (MY #[MS b,Q I (cn b),Q I 0] 148);rwa[World.size_alloc]at this
   have a4:Mb w.heap.size w q:=by rw[v];exact((MU _ w).alloc (MP _) _).alloc (by simp) _
   rw[<-v];clear v;refine(C2.o q).mono ?_;rintro e i ⟨rfl,E⟩;have r:=(E.block _ (aJ Z)).trans Z;have s:=(E.block _ (aJ A1)).trans A1;have b3:Mb w.heap.size w i:=a4.trans (E.mono a4.size);have y2:i.cell? ⟨w.heap.size+1,2,S⟩=N (Q I 0):=aB s rfl;have y0:i.cell? ⟨w.heap.size+1,0,S⟩=N (MS b):=aB s rfl;have y1:i.cell? ⟨w.heap.size+1,1,S⟩=N (Q I (cn b)):=aB s rfl;have u0:i.cell? ⟨w.heap.size,0,S⟩=N (MS ⟨#[]⟩):=aB r rfl;have u1:i.cell? ⟨w.heap.size,1,S⟩=N (Q I 0):=aB r rfl;have u2:i.cell? ⟨w.heap.size,2,S⟩=N (Q I 0):=aB r rfl;have uf:∀j,i.frozen? ⟨w.heap.size,j,S⟩=false:=λj=>bC r j;have yf:i.frozen? ⟨w.heap.size+1,2,S⟩=false:=bC s 2;obtain⟨a,y⟩:=UX (i.setCell ⟨w.heap.size+1,2,S⟩ (Q I (bT b 2)));have c:a.heap[w.heap.size]?=N (MY #[MS ⟨#[]⟩,Q I 0,Q I 0] 148 (0,0)):=by rw[y];exact(NE _ _ _ _ (by show w.heap.size≠w.heap.size+1;omega)).trans r
   have t:a.heap[w.heap.size+1]?=N (MY #[MS b,Q I (cn b),Q I (bT b 2)] 148 (0,0)):=by rw[y];exact(Mn _ _ 2 _ _ _ s).trans (by simp)
   have u:aA (Mb w.heap.size w a):=A (by rw[y];exact b3.setCell (by simp) _);have z:=A y;have d0:a.cell? ⟨w.heap.size+1,0,S⟩=N (MS b):=aB t rfl;have d1:a.cell? ⟨w.heap.size+1,1,S⟩=N (Q I (cn b)):=aB t rfl;have d2:a.cell? ⟨w.heap.size+1,2,S⟩=N (Q I (bT b 2)):=aB t rfl;clear y r s E a4 b3 Z A1 C2;by_cases F:cn b<20
   ·have d6:(cn b:Int)<20:=by omega
    have h:aA (g=Md):=A (by rw[m.o,decide_eq_false O];rfl);clear m p F;have G:a.cell? ⟨w.heap.size,0,S⟩=N (MS ⟨#[]⟩):=aB c rfl;have H:a.cell? ⟨w.heap.size,1,S⟩=N (Q I 0):=aB c rfl;have J:a.cell? ⟨w.heap.size,2,S⟩=N (Q I 0):=aB c rfl;have K:∀j,a.frozen? ⟨w.heap.size,j,S⟩=false:=λj=>bC c j;have k:=A (mS (v0:=MS ⟨#[]⟩) (v1:=Q I 0) (v2:=Q I 0) c);clear c;go_wp2;rw[<-z.o];refine NQ (oB k.o rfl) rfl ?_;exact⟨by rw[o.o,h.o];rfl,((u.o.setCell (MP _) _).setCell (MP _) _).setCell (MP _) _⟩
   ·have d6:¬(cn b:Int)<20:=by omega
    by_cases a2:bT b 2<cn b
    ·have e0:(bT b 2:Int)<cn b:=by omega
     have h:aA (g=Md):=A (by rw[m.o,decide_eq_false (by omega:¬cn b<=bT b 2)];simp);clear m p F a2;have G:a.cell? ⟨w.heap.size,0,S⟩=N (MS ⟨#[]⟩):=aB c rfl;have H:a.cell? ⟨w.heap.size,1,S⟩=N (Q I 0):=aB c rfl;have J:a.cell? ⟨w.heap.size,2,S⟩=N (Q I 0):=aB c rfl;have K:∀j,a.frozen? ⟨w.heap.size,j,S⟩=false:=λj=>bC c j;have k:=A (mS (v0:=MS ⟨#[]⟩) (v1:=Q I 0) (v2:=Q I 0) c);clear c;go_wp2;rw[<-z.o];refine NQ (oB k.o rfl) rfl ?_;exact⟨by rw[o.o,h.o];rfl,((u.o.setCell (MP _) _).setCell (MP _) _).setCell (MP _) _⟩
    ·have e0:¬(bT b 2:Int)<cn b:=by omega
     by_cases a3:b.size<bT b 2
     ·have e1:(b.size:Int)<bT b 2:=by omega
      have h:aA (g=Md):=A (by rw[m.o,decide_eq_false (by omega:¬bT b 2<=b.size)];simp);clear m p F a2 a3;have G:a.cell? ⟨w.heap.size,0,S⟩=N (MS ⟨#[]⟩):=aB c rfl;have H:a.cell? ⟨w.heap.size,1,S⟩=N (Q I 0):=aB c rfl;have J:a.cell? ⟨w.heap.size,2,S⟩=N (Q I 0):=aB c rfl;have K:∀j,a.frozen? ⟨w.heap.size,j,S⟩=false:=λj=>bC c j;have k:=A (mS (v0:=MS ⟨#[]⟩) (v1:=Q I 0) (v2:=Q I 0) c);clear c;go_wp2;rw[<-z.o];refine NQ (oB k.o rfl) rfl ?_;exact⟨by rw[o.o,h.o];rfl,((u.o.setCell (MP _) _).setCell (MP _) _).setCell (MP _) _⟩
     ·have e1:¬(b.size:Int)<bT b 2:=by omega
      have c0:=A (p.o a O);have L:aA (g=(iU b (cn b/2)==65535)):=A (by rw[m.o,decide_eq_true (by omega:20<=cn b),decide_eq_true (by omega:cn b<=bT b 2),decide_eq_true (by omega:bT b 2<=b.size)];rfl);clear m p F a2 a3;go_wp2_with fail
      rw[<-z.o];refine c0.o.mono ?_;rintro e d ⟨rfl,M⟩;have f:=(M.block _ (aJ c)).trans c;have B:=(M.block _ (aJ t)).trans t;have c1:aA (Mb w.heap.size w d):=A (u.o.trans (M.mono u.o.size));clear c t d0 d1 d2 M c0 u z yf y2 y0 y1 u0 u1 u2 uf;by_cases P:iU b (cn b/2)=65535
      ·have e3:(iU b (cn b/2):Int)=65535:=by omega
       have h:aA (g=Mk):=A (by rw[L.o,P];rfl);have G:d.cell? ⟨w.heap.size,0,S⟩=N (MS ⟨#[]⟩):=aB f rfl;have H:d.cell? ⟨w.heap.size,1,S⟩=N (Q I 0):=aB f rfl;have J:d.cell? ⟨w.heap.size,2,S⟩=N (Q I 0):=aB f rfl;have K:∀j,d.frozen? ⟨w.heap.size,j,S⟩=false:=λj=>bC f j;have d0:d.cell? ⟨w.heap.size+1,0,S⟩=N (MS b):=aB B rfl;have d1:d.cell? ⟨w.heap.size+1,1,S⟩=N (Q I (cn b)):=aB B rfl;have d2:d.cell? ⟨w.heap.size+1,2,S⟩=N (Q I (bT b 2)):=aB B rfl;have k:=A (mS (v0:=MS b) (v1:=Q I (cn b)) (v2:=Q I (bT b 2)) f);generalize iU b (cn b/2)=sm at*;clear f B L P;go_wp2;refine NQ (oB k.o rfl) rfl ?_;exact⟨by rw[o.o,h.o];rfl,((c1.o.setCell (MP _) _).setCell (MP _) _).setCell (MP _) _⟩
      ·have e3:¬(iU b (cn b/2):Int)=65535:=by omega
       have h:aA (g=Md):=A (by rw[L.o];simpa using P);generalize iU b (cn b/2)=sm at*;clear B L P;have G:d.cell? ⟨w.heap.size,0,S⟩=N (MS ⟨#[]⟩):=aB f rfl;have H:d.cell? ⟨w.heap.size,1,S⟩=N (Q I 0):=aB f rfl;have J:d.cell? ⟨w.heap.size,2,S⟩=N (Q I 0):=aB f rfl;have K:∀j,d.frozen? ⟨w.heap.size,j,S⟩=false:=λj=>bC f j;have k:=A (mS (v0:=MS ⟨#[]⟩) (v1:=Q I 0) (v2:=Q I 0) f);clear f;go_wp2;skip
       refine NQ (oB k.o rfl) rfl ?_;exact⟨by rw[o.o,h.o];rfl,((c1.o.setCell (MP _) _).setCell (MP _) _).setCell (MP _) _⟩
  ·have c4:¬(x:Int)/16=4:=by omega
   have h:aA (g=Md):=A (by
    rw[n];unfold jX;have:(Kk b==4)=false:=by rw[C];simpa using D
    rw[this];simp)
   clear n U C V D c3;go_enter RW,ntmps109;go_wp2;refine NQ (oB (b:=w.heap.size) (aU w _) rfl) rfl ?_;exact⟨by rw[o.o,h.o];rfl,UQ⟩
section
attribute [local go_sem] aI
def i7(b:ByteArray)(i:Nat):Nat:=bT b i*65536+bT b (i+2)
theorem xO(b:ByteArray)(i:Nat):i7 b i<4294967296:=by
 have a:=eN b i;have c:=eN b (i+2);unfold i7;omega
theorem GN(x y:Nat)(c:x<65536)(d:y<65536):Oa BinOp.or I (IntKind.i64.wrap ((x:Int)*65536)) y=((x*65536+y:Nat):Int):=by
 have a:IntKind.i64.wrap ((x:Int)*65536)=(x:Int)*65536:=by rw[Mm];omega
 have e:(x:Int)*65536=((x*65536:Nat):Int):=O;rw[a,e,ik _ _ O O];congr 1;have:=Nat.shiftLeft_add_eq_or_of_lt (i:=16) (b:=y) O x;rw[Sj]at this;exact this.symm
theorem pE(b:ByteArray)(g j:Int)(i:Nat)(w:MV)(h:i+3<b.size)(l:b.size<=1000):Mo MT 173 #[M1 #[MS b,Q I g,Q I j],Q I i] w λe o=>e=MZ (Q I (i7 b i))/\Mb w.heap.size w o:=by
 have m:IntKind.i64.wrap ((i:Int)+2)=((i+2:Nat):Int):=by rw[Mm];omega
 have p:aA (Oa BinOp.or I (IntKind.i64.wrap ((bT b i:Int)*65536)) (bT b (i+2))=((i7 b i:Nat):Int)):=A (GN _ _ (eN b i) (eN b (i+2)));go_enter func173,ntmps173;go_wp2;obtain⟨a,c⟩:=UX (w.alloc (MY #[MS b,Q I g,Q I j] 148));have z:a.cell? ⟨w.heap.size,0,S⟩=N (MS b):=by rw[c];exact aB (aU _ _) rfl
 have B:a.cell? ⟨w.heap.size,1,S⟩=N (Q I g):=by rw[c];exact aB (aU _ _) rfl
 have C:a.cell? ⟨w.heap.size,2,S⟩=N (Q I j):=by rw[c];exact aB (aU _ _) rfl
 have q:w.heap.size<a.heap.size:=by rw[c];simp
 have r:aA (Mb w.heap.size w a):=A (by rw[c];exact(MU _ w).alloc (MP _) _);have s:=A λ(d:Nat) (k:Array Obj)=>gv b g j i (grow (NK a d) k) O l;have n:=A λ(d:Nat) (k:Array Obj)=>gv b g j (i+2) (grow (NK a d) k) O l;rw[<-m]at n;rw[<-c];generalize bT b i=x at*;generalize bT b (i+2)=y at*;clear c m h;refine Mg UR UR ?_
 repeat(first|go_big_quiet_skip|quiet_step (fail))
 quiet_step (exact Ml (s.o _ _))
 repeat(first|go_big_quiet_skip|quiet_step (fail))
 quiet_step (exact Ml (n.o _ _))
 repeat(first|go_big_quiet_skip|quiet_step (fail))
 refine M3 ?_;intro D f;replace f:=aE f;obtain⟨t,u⟩:=aW f;have E:=f.size;have v:=A f;clear t u f;go_wp2;go_ret;exact⟨lN (by rw[p.o]),r.o.trans (v.o.mono (QU q))⟩
theorem vA(b:ByteArray)(a c:Int)(w:MV)(h:20<=b.size)(f:b.size<=1000):Mo MT 115 #[M1 #[MS b,Q I a,Q I c]] w λe d=>e=MZ (Q I (i7 b 16))/\Mb w.heap.size w d:=by
 have C:aA (∀W:MV,Mo MT 173 #[M1 #[MS b,Q I a,Q I c],Q I 16] W λe d=>e=MZ (Q I (i7 b 16))/\Mb W.heap.size W d):=A λW=>pE b a c 16 W O f;go_enter func115,ntmps115;go_wp2_with fail
 refine(C.o _).mono ?_;rintro e i ⟨rfl,g⟩;go_wp2;go_ret;exact⟨rfl,((MU _ w).alloc (MP _) _).trans (g.mono (by simp))⟩
def b8(b:ByteArray)(i:Nat):Nat:=if h:i<b.size then(b[i]'h).toNat else 0
theorem rG(b:ByteArray)(i:Nat):b8 b i<256:=by
 unfold b8;split
 ·rename_i h
  exact(b[i]'h).toNat_lt
 ·omega
theorem pK(b:ByteArray)(i:Nat)(h:i<b.size)(W:MV):(Nb 9 (MS b) (Q I (i:Int))).run MT W=.ok (Q RI (b8 b i:Int)) W:=by
 have a:(i:Int)<b.size:=O;have e:b8 b i=(b[i]'h).toNat:=dif_pos h;rw[e];simp[go_sem,a]
theorem yZ(b:ByteArray)(a c:Int)(w:MV)(h:20<=b.size):Mo MT 113 #[M1 #[MS b,Q I a,Q I c]] w λe d=>e=MZ (Q I (b8 b 8))/\Mb w.heap.size w d:=by
 have f:∀W:MV,(Nb 9 (MS b) (Q I 8)).run MT W=.ok (Q RI (b8 b 8:Int)) W:=λW=>pK b 8 O W;have g:=rG b 8;generalize b8 b 8=x at*;go_enter func113,ntmps113;go_wp2;go_ret;exact⟨rfl,(MU _ w).alloc (MP _) _⟩
def mD(b:ByteArray):Bool:=(b8 b 9==6||b8 b 9==17)&&(bT b 6%8192==0)&&M9 (cn b+4<=bT b 2)
theorem KM(n:Nat)(h:n<65536):Oa BinOp.and I (n:Int) 8191=((n%8192:Nat):Int):=by
 have:=gx n 8191 O O;rw[show((8191:Nat):Int)=8191 from rfl]at this;rw[this];congr 1;exact Qr n 13
theorem uM(b:ByteArray)(w:MV)(h:20<=b.size)(M:b.size<=1000):Mo MT 174 #[M1 #[MS b,Q I (cn b),Q I (bT b 2)]] w λe t=>e=MZ (M0 (mD b))/\Mb w.heap.size w t:=by
 have P:∀W:MV,(Nb 9 (MS b) (Q I 9)).run MT W=.ok (Q RI (b8 b 9:Int)) W:=λW=>pK b 9 O W;have hl:=rG b 9;have D:=KM _ (eN b 6);have hi:=Br b;have hw:=eN b 2;obtain⟨s,u⟩:=UX (mD b);rw[<-u];have E:=A u;have F:=A D;clear u D;go_enter func174,ntmps174;go_wp2;obtain⟨g,p⟩:=UX (w.alloc (MY #[MS b,Q I (cn b),Q I (bT b 2)] 148));have R:g.cell? ⟨w.heap.size,0,S⟩=N (MS b):=by rw[p];exact aB (aU _ _) rfl
 have G:g.cell? ⟨w.heap.size,1,S⟩=N (Q I (cn b)):=by rw[p];exact aB (aU _ _) rfl
 have H:g.cell? ⟨w.heap.size,2,S⟩=N (Q I (bT b 2)):=by rw[p];exact aB (aU _ _) rfl
 have T:w.heap.size<g.heap.size:=by rw[p];simp
 have J:aA (Mb w.heap.size w g):=A (by rw[p];exact(MU _ w).alloc (MP _) _);have K:aA (∀(d:Nat) (r:Array Obj),Mo MT 171 #[M1 #[MS b,Q I (cn b),Q I (bT b 2)],Q I 6] (grow (NK g d) r) λe t=>e=MZ (Q I (bT b 6))/\Mb (grow (NK g d) r).heap.size (grow (NK g d) r) t):=A λd r=>gv b (cn b) (bT b 2) 6 (grow (NK g d) r) O M;rw[<-p];clear p;refine Mg UR UR ?_
 repeat(first|go_big_quiet_skip|quiet_step (exact Ml (K.o _ _)))
 refine M3 ?_;intro U m;replace m:=aE m;obtain⟨V,X⟩:=aW m;have a4:=m.size;have q1:=MW m G;have q2:=MW m H;have q:aA (Mb w.heap.size w U):=A (J.o.trans (m.mono (QU T)));clear V X m R G H K P;have v:aA (s=((b8 b 9==6||b8 b 9==17)&&(bT b 6%8192==0)&&M9 (cn b+4<=bT b 2))):=E;rw[F.o];clear F E J;generalize b8 b 9=n at*;generalize bT b 6=Y at*;generalize cn b=j at*;generalize bT b 2=k at*;obtain⟨l,L⟩:=UX (Y%8192);rw[<-L]at v⊢;clear L;have c:∀x y z:Bool,(n==6||n==17)=x->(l==0)=y->M9 (j+4<=k)=z->s=(x&&y&&z):=λx y z f a i=>by rw[v.o,f,a,i]
 clear v;by_cases f:n=6
 ·have Z:(n:Int)=6:=by omega
  by_cases a:l=0
  ·have B:(l:Int)=0:=by omega
   by_cases i:j+4<=k
   ·have C:(j:Int)+4<=k:=by omega
    obtain rfl:=c Mk Mk Mk (by simp[f]) (by simp[a]) (by simp[i]);clear c f a i;go_wp2;go_ret;exact⟨rfl,q.o⟩
   ·have C:¬(j:Int)+4<=k:=by omega
    obtain rfl:=c Mk Mk Md (by simp[f]) (by simp[a]) (by simp[i]);clear c f a i;go_wp2;go_ret;exact⟨rfl,q.o⟩
  ·have B:¬(l:Int)=0:=by omega
   obtain rfl:=c Mk Md (M9 (j+4<=k)) (by simp[f]) (by simp[a]) rfl;clear c f a;go_wp2;go_ret;exact⟨rfl,q.o⟩
 ·have Z:¬(n:Int)=6:=by omega
  by_cases o:n=17
  ·have i4:(n:Int)=17:=by omega
   by_cases a:l=0
   ·have B:(l:Int)=0:=by omega
    by_cases i:j+4<=k
    ·have C:(j:Int)+4<=k:=by omega
     obtain rfl:=c Mk Mk Mk (by simp[o]) (by simp[a]) (by simp[i]);clear c f a i o;go_wp2;go_ret;exact⟨rfl,q.o⟩
    ·have C:¬(j:Int)+4<=k:=by omega
     obtain rfl:=c Mk Mk Md (by simp[o]) (by simp[a]) (by simp[i]);clear c f a i o;go_wp2;go_ret;exact⟨rfl,q.o⟩
   ·have B:¬(l:Int)=0:=by omega
    obtain rfl:=c Mk Md (M9 (j+4<=k)) (by simp[o]) (by simp[a]) rfl;clear c f a o;go_wp2;go_ret;exact⟨rfl,q.o⟩
  ·have i4:¬(n:Int)=17:=by omega
   obtain rfl:=c Md (l==0) (M9 (j+4<=k)) (by simp[f,o]) rfl rfl;clear c f o;go_wp2;go_ret;exact⟨rfl,q.o⟩
end
theorem nQ{fn:Func}{p:Tmp}{ty:NL}(h:fn.results=#[.cell p ty])(b:Array Ma)(P:Program)(w:MV):(QO fn b).run P w=((asAddr (b.getD p NS)).run P w).andThen λa c=>(loadVar ty a).run P c:=by
 simp only[QO,h];simp[Sem.run_bind]
theorem Cw{g:Array Ma}(h:W.heap[b]?=N (MY #[a,c,d,e,f] 39 (0,0)))(i:g.getD 2 NS=MQ (N ⟨b,0,S⟩)):(QO Tx g).run MT W=.ok (M1 #[a,c,d,e,f]) W:=by
 rw[nQ (fn:=Tx) (p:=2) (ty:=39) rfl,i];have j:(prog.info? 39).map (·.size)=N (#[a,c,d,e,f]:Array Ma).size:=UR;simp[asAddr,Si W b 39 39 #[a,c,d,e,f] (0,0) _ h underlying39 rfl j,Result.andThen]
theorem Fv{i:Ma}(h:W.heap[b]?=N (MY #[g,i,j,k,l] t (0,0))):(((((W.setCell ⟨b,0,S⟩ a).setCell ⟨b,1,S⟩ c).setCell ⟨b,2,S⟩ d).setCell ⟨b,3,S⟩ e).setCell ⟨b,4,S⟩ f).heap[b]?=N (MY #[a,c,d,e,f] t (0,0)):=by
 have m:=Mn W b 0 _ _ a h;have n:=Mn _ b 1 _ _ c m;have o:=Mn _ b 2 _ _ d n;have p:=Mn _ b 3 _ _ e o;have q:=Mn _ b 4 _ _ f p;simpa using q
theorem Fw(h:Mb B w W)(a:B<=b):Mb B w (((((W.setCell ⟨b,0,S⟩ c).setCell ⟨b,1,S⟩ d).setCell ⟨b,2,S⟩ e).setCell ⟨b,3,S⟩ f).setCell ⟨b,4,S⟩ g):=
 ((((h.setCell a _).setCell a _).setCell a _).setCell a _).setCell a _
theorem iv{m n:Ma}(c d e f g:Ma)(h:W.heap[b]?=N (MY #[j,k,l,m,n] t (0,0)))(o:Mb B w W)(i:B<=b):∃a,a=(((((W.setCell ⟨b,0,S⟩ c).setCell ⟨b,1,S⟩ d).setCell ⟨b,2,S⟩ e).setCell ⟨b,3,S⟩ f).setCell ⟨b,4,S⟩ g)/\a.heap[b]?=N (MY #[c,d,e,f,g] t (0,0))/\Mb B w a/\B<=b:=⟨_,rfl,Fv h,Fw o i,i⟩
theorem yL(b:Array Ma)(t:NL)(d:Mb B w W)(c:B<=W.heap.size):∃a,a=W.alloc (MY b t)/\a.heap[W.heap.size]?=N (MY b t (0,0))/\Mb B w a/\B<=W.heap.size:=⟨_,rfl,aU W _,d.alloc c _,c⟩
def pB(b:ByteArray):Nat:=if mD b then bT b (cn b)else 0
def pA(b:ByteArray):Nat:=if mD b then bT b (cn b+2)else 0
theorem GK(b:ByteArray)(w:MV)(h:20<=b.size)(H:b.size<=1000)(ht:bT b 2<=b.size):Mo MT 110 #[M1 #[MS b,Q I (cn b),Q I (bT b 2)]] w λe g=>e=MZ (M1 #[Q I (i7 b 12),Q I (i7 b 16),Q I (b8 b 9),Q I (pB b),Q I (pA b)])/\Mb w.heap.size w g:=by
 have hx:∀W:MV,(Nb 9 (MS b) (Q I 9)).run MT W=.ok (Q RI (b8 b 9:Int)) W:=λW=>pK b 9 O W;have hl:=rG b 9;have CA:aA (∀W:MV,Mo MT 173 #[M1 #[MS b,Q I (cn b),Q I (bT b 2)],Q I 12] W λe g=>e=MZ (Q I (i7 b 12))/\Mb W.heap.size W g):=A λW=>pE b _ _ 12 W O H;have CD:=A λ(W:MV)=>vA b (cn b) (bT b 2) W h H;have CH:=A λ(W:MV)=>uM b W h H;go_enter func110,ntmps110;go_wp2_with fail
 obtain⟨a,z⟩:=UX ((w.alloc (MY #[MS b,Q I (cn b),Q I (bT b 2)] 148)).alloc (MY #[Q I 0,Q I 0,Q I 0,Q I 0,Q I 0] 39));have B:a.heap[w.heap.size]?=N (MY #[MS b,Q I (cn b),Q I (bT b 2)] 148 (0,0)):=by rw[z];exact(((MU _ (w.alloc _)).alloc (MP _) _).block _ (by simp)).trans (aU _ _)
 have A1:a.heap[w.heap.size+1]?=N (MY #[Q I 0,Q I 0,Q I 0,Q I 0,Q I 0] 39 (0,0)):=by
  rw[z];have:=aU (w.alloc (MY #[MS b,Q I (cn b),Q I (bT b 2)] 148)) (MY #[Q I 0,Q I 0,Q I 0,Q I 0,Q I 0] 39);rwa[World.size_alloc]at this
 have c6:aA (Mb w.heap.size w a):=A (by rw[z];exact((MU _ w).alloc (MP _) _).alloc (by simp) _);have c7:a.heap.size=w.heap.size+2:=by rw[z];simp
 rw[<-z];have c0:a.cell? ⟨w.heap.size,0,S⟩=N (MS b):=aB B rfl;have c1:a.cell? ⟨w.heap.size,1,S⟩=N (Q I (cn b)):=aB B rfl;have c2:a.cell? ⟨w.heap.size,2,S⟩=N (Q I (bT b 2)):=aB B rfl;have n1:¬w.heap.size=a.heap.size:=O;have n2:¬a.heap.size=w.heap.size:=O;have i0:w.heap.size<a.heap.size:=O;have e8:w.heap.size<=a.heap.size:=O;have f0:=A c7;clear z c7;generalize c8:i7 b 12=x0 at*;generalize c9:i7 b 16=x1 at*;generalize d3:b8 b 9=x2 at*;have d4:=A c8;have d5:=A c9;have d6:=A d3;clear c8 c9 d3;rename_i Kc f2
 have f3:∀(c:Nat) (f:MV),f.heap[c]?=N (MY #[Q I x0,Q I x1,Q I x2,Q I 0,Q I 0] 39 (0,0))->Mb a.heap.size a f->a.heap.size<=c->Kc {tmps:=#[M1 #[MS b,Q I (cn b),Q I (bT b 2)],MQ (N ⟨w.heap.size,0,S⟩),MQ (N ⟨w.heap.size+1,0,S⟩),MQ (N ⟨c,0,S⟩),M1 #[MS b,Q I (cn b),Q I (bT b 2)],Q I x0,M1 #[MS b,Q I (cn b),Q I (bT b 2)],Q I x1,MQ (N ⟨w.heap.size,0,S⟩),MS b,Q RI x2,Q I x2,M1 #[Q I x0,Q I x1,Q I x2,Q I 0,Q I 0],NS,NS,NS,NS,NS,NS,NS,NS,NS,NS,NS,NS,NS,NS],defers:=[]} f:=by
  intro c f m k J;have C:=(k.block _ (aJ B)).trans B;have R1:=(k.block _ (aJ A1)).trans A1;have BL:Mb w.heap.size w f:=c6.o.trans (k.mono e8);have i1:w.heap.size+1<c:=by have:=f0.o;omega
  refine f2 _ _ ?_;have p0:f.cell? ⟨w.heap.size,0,S⟩=N (MS b):=aB C rfl;have p1:f.cell? ⟨w.heap.size,1,S⟩=N (Q I (cn b)):=aB C rfl;have p2:f.cell? ⟨w.heap.size,2,S⟩=N (Q I (bT b 2)):=aB C rfl;clear CA CD k c0 c1 c2 B A1 c6;go_wp2_with fail
  refine(CH.o _).mono ?_;rintro e K ⟨rfl,L⟩;have n:=(L.block _ (aJ m)).trans m;have s:=(L.block _ (aJ C)).trans C;have i:=(L.block _ (aJ R1)).trans R1;have Y:Mb w.heap.size w K:=BL.trans (L.mono BL.size);clear L m C R1 BL p0 p1 p2 CH;cases o:mD b with
  |false=>
   have a7:aA (pB b=0):=A (by unfold pB;rw[o];rfl);have a8:aA (pA b=0):=A (by unfold pA;rw[o];rfl);clear o s;have k0:=aB (j:=0) n rfl;have k1:=aB (j:=1) n rfl;have k2:=aB (j:=2) n rfl;have k3:=aB (j:=3) n rfl;have k4:=aB (j:=4) n rfl;have t0:=aB (j:=0) i rfl;have t1:=aB (j:=1) i rfl;have t2:=aB (j:=2) i rfl;have t3:=aB (j:=3) i rfl;have t4:=aB (j:=4) i rfl;have tf:=λj=>bC i j;have HZ:=A (iv (Q I x0) (Q I x1) (Q I x2) (Q I 0) (Q I 0) i Y O);clear n i Y;go_wp2;obtain⟨W9,b0,Z1,Z2,_⟩:=HZ.o;rw[<-b0];refine NQ (Cw Z1 rfl) rfl ?_;exact⟨by rw[d4.o,d5.o,d6.o,a7.o,a8.o];rfl,Z2⟩
  |true=>
   have a7:aA (pB b=bT b (cn b)):=A (by unfold pB;rw[o];rfl);have a8:aA (pA b=bT b (cn b+2)):=A (by unfold pA;rw[o];rfl);have i2:=Br b;have g9:cn b+4<=b.size:=by
    unfold mD at o;simp only[Bool.and_eq_true,decide_eq_true_eq]at o;omega
   have e2:IntKind.i64.wrap ((cn b:Int)+2)=((cn b+2:Nat):Int):=by rw[Mm];omega
   have C1:=A λ(W:MV)=>gv b (cn b) (bT b 2) (cn b) W O H;have C2:=A λ(W:MV)=>gv b (cn b) (bT b 2) (cn b+2) W O H;rw[<-e2]at C2;have d0:K.cell? ⟨w.heap.size,0,S⟩=N (MS b):=aB s rfl;have d1:K.cell? ⟨w.heap.size,1,S⟩=N (Q I (cn b)):=aB s rfl;have d2:K.cell? ⟨w.heap.size,2,S⟩=N (Q I (bT b 2)):=aB s rfl;have i3:w.heap.size<K.heap.size:=aJ s;have i4:¬c=w.heap.size:=O;have i5:¬w.heap.size=c:=O;have q:=n;have d:=s;have p:=i;have D:=Y;generalize bT b (cn b)=y3 at*;generalize bT b (cn b+2)=y4 at*;clear o e2 g9 n s i Y;go_wp2_with fail
   go_region_held3 (λg=>g.cell? ⟨w.heap.size,0,S⟩=N (MS b)/\g.cell? ⟨w.heap.size,1,S⟩=N (Q I (cn b))/\g.cell? ⟨w.heap.size,2,S⟩=N (Q I (bT b 2))) (go_keep)
    (first
     |(go_at_call 171;with_reducible refine(C1.o _).mono ?_;rintro e v1 ⟨rfl,l⟩;have q:=(l.block _ (aJ q)).trans q;have d:=(l.block _ (aJ d)).trans d;have p:=(l.block _ (aJ p)).trans p;have d0:=aB (j:=0) d rfl;have d1:=aB (j:=1) d rfl;have d2:=aB (j:=2) d rfl;have D:Mb w.heap.size w v1:=NA (b:=_) UQ (l.mono (by have:=D.size;first|omega|(simp;omega)));have t:=aB (j:=3) q rfl;have u:=aB (j:=4) q rfl;have v:=λj=>bC q j;have x:=aJ q)
     |(go_at_call 171;with_reducible refine(C2.o _).mono ?_;rintro e v2 ⟨rfl,l⟩;have q:=(l.block _ (aJ q)).trans q;have d:=(l.block _ (aJ d)).trans d;have p:=(l.block _ (aJ p)).trans p;have d0:=aB (j:=0) d rfl;have d1:=aB (j:=1) d rfl;have d2:=aB (j:=2) d rfl;have D:Mb w.heap.size w v2:=NA (b:=_) UQ (l.mono (by have:=D.size;first|omega|(simp;omega)));have t:=aB (j:=3) q rfl;have u:=aB (j:=4) q rfl;have v:=λj=>bC q j;have x:=aJ q))
   obtain⟨M,P⟩:=UX ((v2.setCell ⟨c,3,S⟩ (Q I y3)).setCell ⟨c,4,S⟩ (Q I y4));have E:M.heap[c]?=N (MY #[Q I x0,Q I x1,Q I x2,Q I y3,Q I y4] 39 (0,0)):=by rw[P];exact(Mn _ _ 4 _ _ _ (Mn _ _ 3 _ _ _ q)).trans (by simp)
   have r:M.heap[w.heap.size+1]?=N (MY #[Q I 0,Q I 0,Q I 0,Q I 0,Q I 0] 39 (0,0)):=by rw[P];exact((NE _ _ _ _ (λ(e:w.heap.size+1=c)=>O)).trans (NE _ _ _ _ (λ(e:w.heap.size+1=c)=>O))).trans p
   have e7:Mb w.heap.size w M:=by rw[P];exact(D.setCell (by show w.heap.size<=c;omega) _).setCell (by show w.heap.size<=c;omega) _
   rw[<-P];clear P q d p D d0 d1 d2;have k0:=aB (j:=0) E rfl;have k1:=aB (j:=1) E rfl;have k2:=aB (j:=2) E rfl;have k3:=aB (j:=3) E rfl;have k4:=aB (j:=4) E rfl;have t0:=aB (j:=0) r rfl;have t1:=aB (j:=1) r rfl;have t2:=aB (j:=2) r rfl;have t3:=aB (j:=3) r rfl;have t4:=aB (j:=4) r rfl;have tf:=λj=>bC r j;have HZ:=A (iv (Q I x0) (Q I x1) (Q I x2) (Q I y3) (Q I y4) r e7 O);clear E r e7;go_wp2;obtain⟨W9,b0,Z1,Z2,_⟩:=HZ.o;rw[<-b0];refine NQ (Cw Z1 rfl) rfl ?_;exact⟨by rw[d4.o,d5.o,d6.o,a7.o,a8.o],Z2⟩
 go_region_held3 (λg=>g.cell? ⟨w.heap.size,0,S⟩=N (MS b)/\g.cell? ⟨w.heap.size,1,S⟩=N (Q I (cn b))/\g.cell? ⟨w.heap.size,2,S⟩=N (Q I (bT b 2))) (go_keep)
  (first
   |(go_at_call 173;refine(CA.o _).mono ?_;rintro e R ⟨rfl,Z⟩;have F:Mb a.heap.size a R:=NA (b:=_) UQ (Z.mono SZ);have g0:=MW F c0;have g1:=MW F c1;have g2:=MW F c2;have h2:=F.size;have j0:¬R.heap.size=w.heap.size:=O;have j1:¬w.heap.size=R.heap.size:=O;(first|(have q:=(Z.block _ (aJ q)).trans q;have T:=aB (j:=0) q rfl;have U:=aB (j:=1) q rfl;have V:=aB (j:=2) q rfl;have t:=aB (j:=3) q rfl;have u:=aB (j:=4) q rfl;have v:=λj=>bC q j;have x:=aJ q)|(have q:=(Z.block a.heap.size (by simp)).trans (aU a _);have T:=aB (j:=0) q rfl;have U:=aB (j:=1) q rfl;have V:=aB (j:=2) q rfl;have t:=aB (j:=3) q rfl;have u:=aB (j:=4) q rfl;have v:=λj=>bC q j;have x:=aJ q)|(have q:=(Z.block X.heap.size (by simp)).trans (aU X _);have T:=aB (j:=0) q rfl;have U:=aB (j:=1) q rfl;have V:=aB (j:=2) q rfl;have t:=aB (j:=3) q rfl;have u:=aB (j:=4) q rfl;have v:=λj=>bC q j;have x:=aJ q)|skip))
   |(go_at_call 115;refine(CD.o _).mono ?_;rintro e X ⟨rfl,a0⟩;have G:Mb a.heap.size a X:=NA (b:=_) UQ (a0.mono SZ);have k0:=MW G c0;have k1:=MW G c1;have k2:=MW G c2;have h3:=G.size;have j2:¬X.heap.size=w.heap.size:=O;have j3:¬w.heap.size=X.heap.size:=O;(first|(have q:=(a0.block _ (aJ q)).trans q;have T:=aB (j:=0) q rfl;have U:=aB (j:=1) q rfl;have V:=aB (j:=2) q rfl;have t:=aB (j:=3) q rfl;have u:=aB (j:=4) q rfl;have v:=λj=>bC q j;have x:=aJ q)|(have q:=(a0.block a.heap.size (by simp)).trans (aU a _);have T:=aB (j:=0) q rfl;have U:=aB (j:=1) q rfl;have V:=aB (j:=2) q rfl;have t:=aB (j:=3) q rfl;have u:=aB (j:=4) q rfl;have v:=λj=>bC q j;have x:=aJ q)|(have q:=(a0.block R.heap.size (by simp)).trans (aU R _);have T:=aB (j:=0) q rfl;have U:=aB (j:=1) q rfl;have V:=aB (j:=2) q rfl;have t:=aB (j:=3) q rfl;have u:=aB (j:=4) q rfl;have v:=λj=>bC q j;have x:=aJ q)|skip)))
 all_goals
  have h4:IntKind.i64.wrap (x2:Int)=(x2:Int):=by rw[Mm];omega
  rw[h4]
  first
  |(obtain⟨f,y,m,k,J⟩:=iv (Q I x0) (Q I x1) (Q I x2) (Q I 0) (Q I 0) q G O;rw[<-y])
  |(obtain⟨f,y,m,k,J⟩:=iv (Q I x0) (Q I x1) (Q I x2) (Q I 0) (Q I 0) q F O;rw[<-y])
  |(obtain⟨f,y,m,k,J⟩:=yL #[Q I x0,Q I x1,Q I x2,Q I 0,Q I 0] 39 G h3;rw[<-y])
  |(obtain⟨f,y,m,k,J⟩:=yL #[.int .i64 x0,.int .i64 x1,.int .i64 x2,.int .i64 0,.int .i64 0] 39 F h2;rw[<-y])
 all_goals exact f3 _ _ m k J
section
attribute [local go_sem] aI
theorem IT(a b:Nat)(c:a<4294967296):Oa .and I (a:Int) ((mK b:Int) -1)=((a%mK b:Nat):Int):=by
 have h:=wa b;have e:(mK b:Int) -1=((mK b-1:Nat):Int):=O;rw[e,gx _ _ O O];congr 1;exact Qr a (32-b)
theorem FI(a b:Nat)(d:a<4294967296):Oa .andNot I (a:Int) ((mK b:Int) -1)=((a/mK b*mK b:Nat):Int):=by
 have h:=wa b;have e:(mK b:Int) -1=((mK b-1:Nat):Int):=O;rw[e,iN _ _ O O];congr 1;apply Nat.eq_of_testBit_eq;intro i;have f:mK b-1<2^64:=O;rw[Nat.testBit_and,show(18446744073709551615- (mK b-1):Nat)=2^64- ((mK b-1)+1) by omega,Nat.testBit_two_pow_sub_succ f];unfold mK;rw[Nat.testBit_two_pow_sub_one,<-Sj,<-Nat.shiftRight_eq_div_pow,Nat.testBit_shiftLeft,Nat.testBit_shiftRight];by_cases c:i<32-b
 ·simp[c,Nat.not_le.2 c]
 ·have g:32-b+(i- (32-b))=i:=by omega
  rw[g];by_cases j:i<64
  ·simp[c,j,Nat.not_lt.1 c]
  ·have:a.testBit i=false:=Nat.testBit_lt_two_pow (Nat.lt_of_lt_of_le d (Nat.pow_le_pow_right (n:=2) (i:=32) O O));simp[this]
def qm(c:Int)(b a:Nat):Bool:=(((a/mK b*mK b:Nat):Int)==c)
theorem yU(d:Int)(b a:Nat)(w:MV)(f:b<=32)(g:a<4294967296):Mo MT 177 #[M1 #[Q I d,Q I b],Q I a] w λe h=>e=MZ (M0 (qm d b a))/\Mb w.heap.size w h:=by
 have C:=A λ(W:MV)=>oU d b W f;have E:=FI a b g;unfold qm;generalize(mK b:Int) -1=q at*;generalize((a/mK b*mK b:Nat):Int)=z at*;go_enter func177,ntmps177;go_wp2_with fail
 refine Mg UR UR ?_
 repeat(quiet_step (exact Ml (C.o _)))
 refine M3 ?_;intro i c;replace c:=aE c;obtain⟨j,k⟩:=aW c;have l:=c.size;go_wp2;go_ret;exact⟨rfl,NA UQ (c.mono SZ)⟩
theorem kK(w:MV):Mo MT 195 #[Q I 32] w λe a=>e=MZ (M1 #[Q I 32,Q I 0,Q I 4294967295])/\Mb w.heap.size w a:=by
 go_enter func195,ntmps195;go_wp2;exact NQ (v:=M1 #[Q I 32,Q I 0,Q I 4294967295]) (by simp[QO,results195,go_sem]) rfl ⟨rfl,UQ⟩
theorem zE(d c:Nat)(w:MV)(v:d<4294967296)(x:c<=32)(o:d%mK c=0):Mo MT 145 #[M1 #[Q I d,Q I c]] w λe y=>e=MZ (M0 Mk)/\Mb w.heap.size w y:=by
 have p:=A λ(W:MV)=>kK W;have z:=A λ(W:MV)=>oU d c W x;have r:=A λ(W:MV)=>fL 0 32 c W;have s:=A λ(W:MV)=>gR 32 0 4294967295 d W;rw[show bD 0 32 c=Mk from aw.2 O]at r;rw[show bD 0 4294967295 d=Mk from aw.2 O]at s;have E:=IT d c v;rw[o]at E;generalize(mK c:Int) -1=q at*;clear o;go_enter func145,ntmps145;go_wp2_with fail
 refine(p.o _).mono ?_;rintro e a ⟨rfl,i⟩;have l:a.cell? ⟨w.heap.size,0,S⟩=N (Q I d):=MW i (aB (aU _ _) rfl);have t:a.cell? ⟨w.heap.size,1,S⟩=N (Q I c):=MW i (aB (aU _ _) rfl);have K:=MO l;have m:Mb w.heap.size w a:=((MU _ w).alloc (MP _) _).trans (i.mono (by simp));obtain⟨b,g⟩:=UX ((a.alloc (MY #[Q I 0,Q I 32] 122)).alloc (MY #[Q I 32,Q I 0,Q I 4294967295] 178));have j:Mb a.heap.size a b:=by rw[g];exact((MU _ a).alloc (MP _) _).alloc (by simp) _
 have n:b.heap[a.heap.size]?=N (MY #[Q I 0,Q I 32] 122 (0,0)):=by
  rw[g];exact(((MU _ (a.alloc (MY #[Q I 0,Q I 32] 122))).alloc (MP _) _).block _ (by simp)).trans (aU _ _)
 have k:b.heap[a.heap.size+1]?=N (MY #[Q I 32,Q I 0,Q I 4294967295] 178 (0,0)):=by
  have h:=aU (a.alloc (MY #[Q I 0,Q I 32] 122)) (MY #[Q I 32,Q I 0,Q I 4294967295] 178);rw[show(a.alloc (MY #[Q I 0,Q I 32] 122)).heap.size=a.heap.size+1 by simp]at h;rw[g];exact h
 have B:=MW j l;have L:=MW j t;have C:b.cell? ⟨a.heap.size,0,S⟩=N (Q I 0):=aB n rfl;have M:b.cell? ⟨a.heap.size,1,S⟩=N (Q I 32):=aB n rfl;have D:b.cell? ⟨a.heap.size+1,0,S⟩=N (Q I 32):=aB k rfl;have P:b.cell? ⟨a.heap.size+1,1,S⟩=N (Q I 0):=aB k rfl;have R:b.cell? ⟨a.heap.size+1,2,S⟩=N (Q I 4294967295):=aB k rfl;have T:=MO B;have U:=MO C;have V:=MO D;have u:Mb w.heap.size w b:=m.trans (j.mono m.size);have F:=A g;clear n k l t j i g p m;go_wp2_with fail
 rw[<-F.o];refine Mg UR UR ?_
 repeat(first|go_big_quiet_skip|quiet_step (first|exact Ml (z.o _)|exact Ml (r.o _)|exact Ml (s.o _)))
 refine M3 ?_;intro X f;replace f:=aE f;obtain⟨G,H⟩:=aW f;have Y:=f.size;have J:=A (u.trans (f.mono u.size));clear f G H;go_wp2;go_ret;exact⟨rfl,J.o⟩
end
end Go.Proofs.YtnjalelblbjfiaaGreatDoor
