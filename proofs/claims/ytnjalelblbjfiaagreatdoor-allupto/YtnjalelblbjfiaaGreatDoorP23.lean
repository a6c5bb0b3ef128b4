import Derived.Test.YtnjalelblbjfiaaGreatDoorP20
import Derived.Test.YtnjalelblbjfiaaGreatDoorP9
namespace Go.Proofs.YtnjalelblbjfiaaGreatDoor
set_option maxRecDepth 100000
set_option maxHeartbeats 16000000
open Go.RowKit
open Go.Proofs.Tryz
open Go.Sort (grow)
open Bool renaming eq_iff_iff→Oq,false→Md,true→Mk
open Go renaming World→MV,Calls→Mo,Value→Ma,bodyPost_ret→NQ,heap_alloc_old→ON,heap_alloc_new→O8,heap_setCell_other→NE
open Go.Ending renaming returned→MZ
open Go.IntKind renaming i64→I,wrap_i64→Mm
open Go.Proofs.Tryz renaming prog→MT,func185→TD,func127→RV,ntmps127→RD,f129→Tv,func129→Qc
open Go.Value renaming string→MS,int→Q,bool→M0,slice→MR
open List renaming contains_iff_mem→QH,length_append→Mz,append_assoc→Oi,length_take→Mh,take_append_drop→Np,length_set→Mw
open Nat renaming not_lt_zero→OV,le_refl→MP,succ_mul→OI,min_eq_left→Oo,mul_le_mul_right→NX
open Go.ByteArray renaming toList_eq→No
open Go.RowKit.Below renaming refl→MU
open Option renaming some→N,none→S
open UInt8 renaming ofNat→NR
open _root_.ByteArray renaming size_extract→O9,getElem_extract→Qj,extract_extract→Qk
variable {a:Array Ma}{d:ByteArray}{g i n:Nat}
section
attribute [local go_sem] aI
theorem iH(b:ByteArray)(i:Nat)(w:MV)(h:i+1<b.size)(k:b.size<=1000):Mo MT 183 #[MS b,Q I i] w λe l=>e=MZ (Q I (bT b i))/\Below w.heap.size w l:=by
 have g:(i:Int)<b.size:=O;have c:(i:Int)+1<b.size:=O;have q:(0:Int)<=i:=O;have d:(0:Int)<=(i:Int)+1:=O;have r:(i:Int)<=1000:=O;have f:i<b.size:=O;have j:bT b i=(b[i]'O).toNat*256+(b[i+1]'h).toNat:=dif_pos h;have s:=(b[i]'O).toNat_lt;have t:=(b[i+1]'h).toNat_lt;have u:∀W:MV,(Instr.index 9 (MS b) (Q I (IntKind.i64.wrap ((i:Int)+1)))).run MT W=.ok (Q .u8 ((b[i+1]'h).toNat:Int)) W:=λW=>by
  rw[show IntKind.i64.wrap ((i:Int)+1)=(i:Int)+1 by rw[Mm];omega];simp[go_sem,c,d]
 have v:∀W:MV,(Instr.index 9 (MS b) (Q I ((i:Int)+1))).run MT W=.ok (Q .u8 ((b[i+1]'h).toNat:Int)) W:=λW=>by
  simp[go_sem,c,d]
 have z:∀W:MV,(Instr.index 9 (MS b) (Q I (i:Int))).run MT W=.ok (Q .u8 ((b[i]'f).toNat:Int)) W:=λW=>by
  simp[go_sem,g]
 generalize(b[i+1]'h).toNat=y at*;generalize(b[i]'f).toNat=x at*;have B:IntKind.i64.wrap (x:Int)=x:=by rw[Mm];omega
 have C:IntKind.i64.wrap (256*(x:Int))=256*x:=by rw[Mm];omega
 have D:IntKind.i64.wrap (y:Int)=y:=by rw[Mm];omega
 have E:IntKind.i64.wrap (256*(x:Int)+y)=256*x+y:=by rw[Mm];omega
 have m:=A j;clear c d g f h k j;go_enter func183,ntmps183;go_wp2;refine wp_region_quiet_below UR UR ?_
 repeat(first|go_big_quiet_skip|quiet_step (fail))
 refine wpQuiet_nil ?_;intro F a;replace a:=aE a;obtain⟨n,o⟩:=aW a;have G:=a.size;have p:=A a;clear n o a;go_wp2;go_ret;exact⟨lN (by rw[m.o];omega),p.o⟩
theorem gW(b:ByteArray)(w:MV)(h:0<b.size):Mo MT 130 #[MS b] w λe c=>e=MZ (M0 (dH b))/\c=w:=by
 have a:dH b=(b[0].toNat%2==1):=by rw[dH,dif_pos h]
 have f:=b[0].toNat_lt;have g:∀W:MV,(Instr.index 9 (MS b) (Q I 0)).run MT W=.ok (Q .u8 ((b[0]'h).toNat:Int)) W:=λW=>by
  simp[go_sem,h]
 rw[a];generalize(b[0]'h).toNat=x at*;have d:aA (((x:Int)%2==1)=(x%2==1)):=A (by
  rw[Oq,beq_iff_eq,beq_iff_eq];omega)
 clear a;go_enter func130,ntmps130;go_wp2;go_ret;exact⟨by simp[d.o],rfl⟩
theorem DY(b:ByteArray)(i:Nat)(w:MV)(h:i+3<b.size)(a:b.size<=1000):Mo MT 187 #[MS b,Q I i] w λe k=>e=MZ (Q I ((65536*bT b i+bT b (i+2):Nat):Int))/\Below w.heap.size w k:=by
 have c:=A (iH b i w O a);have d:=A λ(W:MV)=>iH b (i+2) W O a;have m:=eN b i;have n:=eN b (i+2);have o:IntKind.i64.wrap ((i:Int)+2)=((i+2:Nat):Int):=by rw[Mm];omega
 have p:IntKind.i64.wrap (65536*(bT b i:Int))=65536*(bT b i:Int):=by rw[Mm];omega
 have q:IntKind.i64.wrap (65536*(bT b i:Int)+(bT b (i+2):Int))=65536*(bT b i:Int)+(bT b (i+2):Int):=by rw[Mm];omega
 clear h a;go_enter func187,ntmps187;go_wp2_with fail
 refine c.o.mono ?_;rintro e r ⟨rfl,f⟩;have g:=A f;clear c f;go_wp2_with fail
 refine(d.o _).mono ?_;rintro e s ⟨rfl,j⟩;have l:=A (g.o.trans (j.mono g.o.size));clear d j;go_wp2;go_ret;exact⟨lN O,l.o⟩
theorem xY(x y:Nat)(w:MV)(b:x<=65535)(c:y<=65535):Mo MT 185 #[Q I x,Q I y] w λe a=>e=MZ (Q I (kR x y))/\a=w:=by
 have d:IntKind.i64.wrap ((x:Int)+y)=(x:Int)+y:=by rw[Mm];omega
 by_cases h:(65535:Int)<(x:Int)+y
 ·have f:IntKind.i64.wrap ((x:Int)+y-65535)=(x:Int)+y-65535:=by rw[Mm];omega
  go_enter TD,ntmps185;go_wp2;go_ret;exact⟨lN (by unfold kR;omega),rfl⟩
 ·go_enter TD,ntmps185;go_wp2;go_ret;exact⟨lN (by unfold kR;omega),rfl⟩
theorem jx(v:Int)(w:MV):Mo MT 127 #[Q I v] w λe b=>e=MZ (M0 (js v))/\b=w:=by
 have c:js v=(decide (1<=v)&&decide (v<=4094)):=rfl;rw[c];by_cases d:1<=v
 ·by_cases a:v<=4094
  ·go_enter RV,RD;go_wp2;go_ret;exact⟨by simp[d,a],rfl⟩
  ·go_enter RV,RD;go_wp2;go_ret;exact⟨by simp[a],rfl⟩
 ·go_enter RV,RD;go_wp2;go_ret;exact⟨by have f:¬1<=v:=O;simp[f],rfl⟩
theorem ni(b:ByteArray)(w:MV):Mo MT 144 #[MS b] w λe a=>e=MZ (M0 (decide (b.size=6)))/\a=w:=by
 have c:aA (((b.size:Int)==6)=decide (b.size=6)):=A (by
  rw[Oq,beq_iff_eq,decide_eq_true_iff];omega)
 go_enter func144,ntmps144;go_wp2;go_ret;exact⟨by simp[c.o],rfl⟩
theorem vz(T:List Int)(v:Ma)(x:Int)(w:MV)(h:ir w v T)(u:T.length<1000000000000):Mo MT 128 #[v,Q I x] w λe q=>e=MZ (M0 (gF T x))/\q=w:=by
 obtain⟨a,z,b,rfl,g⟩:=h;have r:=A g;clear g;go_enter func128,ntmps128;go_wp2_with fail
 go_loopw [5] (λi wr=>wr=w/\∃k:Nat,k<=T.length/\i=Q I k/\∀j (c:j<T.length),j<k->T[j]≠x) (λi _=>T.length- (intOf i).toNat)
 case atStart=>exact⟨rfl,0,O,rfl,λj _ h=>absurd h (OV j)⟩
 case round=>
  obtain⟨rfl,k,B,rfl,l⟩:=hrel;have m:=A l;clear l;by_cases n:k<T.length
  ·have s:(k:Int)<T.length:=by omega
   obtain⟨rfl,o⟩:=r.o k n;have C:=block_lt_of_cell o;obtain⟨y,d⟩:=UX (T[k]);rw[<-d]at o;have p:=A d;clear d;by_cases f:y=x
   ·have D:=A f;subst f;go_wp2;go_ret;refine⟨?_,rfl⟩;have:gF T y=true:=by
     unfold gF;rw[QH,p.o];exact List.getElem_mem n
    rw[this];rfl
   ·go_wp2_with fail
    go_roundw
    case rel=>exact⟨by trivial,k+1,O,by go_num,λj c E=>by
     by_cases e:j=k
     ·subst e;rw[<-p.o];exact f
     ·exact m.o j c O⟩
    case measure=>simp[intOf];omega
  ·have s:¬(k:Int)<T.length:=by omega
   go_wp2;go_ret;refine⟨?_,rfl⟩;have:gF T x=false:=by
    unfold gF;rw[<-Bool.not_eq_true,QH];intro t;obtain⟨j,c,e⟩:=List.getElem_of_mem t;exact m.o j c O e
   rw[this];rfl
def r9(z:Int):ByteArray:=⟨#[NR (z/256%256).toNat,NR (z%256).toNat]⟩
theorem qS(z:Int)(w:MV)(c:0<=z/\z<65536):Mo MT 214 #[Q I z] w λe b=>e=MZ (MS (r9 z))/\Below w.heap.size w b:=by
 have d:=Jt (w.alloc (.cells #[Q .u8 (z/256),Q .u8 (z%256)] 5)) w.heap.size (z/256) (z%256) O O (aB (aU _ _) rfl) (aB (aU _ _) rfl);have a:r9 z=⟨#[NR (z/256).toNat,NR (z%256).toNat]⟩:=by unfold r9;rw[show z/256%256=z/256 by omega]
 rw[a];clear a;go_enter func214,ntmps214;go_wp2;go_ret;exact⟨rfl,(MU _ w).alloc (MP _) _⟩
theorem yy(b:ByteArray):cj b=1↔(b.toList==[129,0])=true:=by
 have e:(⟨#[129,0]⟩:ByteArray).toList=[129,0]:=by rw[No]
 rw[beq_iff_eq];by_cases h:b.toList=[129,0]
 ·simp[cj,kG,e,h]
 ·have a:¬[129,0]=b.toList:=λx=>h x.symm;simp only[cj,kG,e,beq_iff_eq,h,a,if_false,iff_false];split<;>omega
theorem kF(b:ByteArray):cj b=2↔(b.toList==[8,0])=true:=by
 have e:(⟨#[129,0]⟩:ByteArray).toList=[129,0]:=by rw[No]
 have a:(⟨#[8,0]⟩:ByteArray).toList=[8,0]:=by rw[No]
 rw[beq_iff_eq];by_cases h:b.toList=[8,0]
 ·simp[cj,kG,e,a,h]
 ·have c:¬[8,0]=b.toList:=λx=>h x.symm;simp only[cj,kG,e,a,beq_iff_eq,h,c,if_false,iff_false];split<;>omega
theorem Fi(h:16<=d.size):dh (d.extract 14 16)=bT d 14:=by
 have a:(d.extract 14 16).size=2:=by rw[O9];omega
 rw[dh,dif_pos a,bT,dif_pos O,Qj,Qj]
def an(f:Fr):Array Value:=#[MS f.to,MS f.fr,Q I f.vlan,Q I f.mark,M0 f.tagged,MS f.ty,MS f.rest]
theorem wO{W:MV}{b:Nat}{cs:Array Ma}(c:W.heap[b]?=N (.cells cs 248 (0,0)))(d:cs.size=7)(e:a.getD 2 undef=.pointer (N ⟨b,0,S⟩)):(results Tv a).run MT W=.ok (.tuple #[.agg cs,a.getD 3 undef]) W:=by
 rw[results_cell_tmp (fn:=Tv) (p:=2) (u:=3) (ty:=248) rfl,e];have f:(prog.info? 248).map (·.size)=N cs.size:=by rw[d];kernel_rfl
 simp[asAddr,run_loadVar_row W b 248 248 cs (0,0) _ c underlying248 rfl f,Result.andThen]
def Ib(d:ByteArray)(a:Array Ma):Prop:=(∃f,a=an f)/\∀f,bd d=N f->a=an f
theorem Ib.none(h:bd d=S)(c:∃f,a=an f):Ib d a:=⟨c,λf b=>by rw[h]at b;cases b⟩
theorem Ib.some{f:Fr}(h:bd d=N f)(b:a=an f):Ib d a:=⟨⟨f,b⟩,λe c=>by rw[h]at c;cases c;exact b⟩
theorem ru(d:ByteArray)(w:MV)(B:d.size<=600):Mo MT 129 #[MS d] w λe C=>(∃t,e=MZ (.tuple #[.agg t,M0 (bd d).isSome])/\Ib d t)/\Below w.heap.size w C:=by
 by_cases i:d.size<14
 ·have c:bd d=none:=by unfold bd;rw[if_pos i]
  rw[show(bd d).isSome=Md by rw[c];rfl];have k:=A c;have D:(d.size:Int)<14:=O;clear c;go_enter Qc,ntmps129;go_wp2;refine NQ (wO (b:=w.heap.size) (cs:=#[MS ⟨#[]⟩,MS ⟨#[]⟩,Q I 0,Q I 0,M0 Md,MS ⟨#[]⟩,MS ⟨#[]⟩]) ((ON _ _ (by simp)).trans (O8 w _)) rfl rfl) rfl ?_;exact⟨⟨_,rfl,Ib.none k.o ⟨⟨_,_,_,_,_,_,_⟩,rfl⟩⟩,UQ⟩
 ·have D:¬(d.size:Int)<14:=by omega
  have M:(6:Int)<=d.size:=O;have P:(12:Int)<=d.size:=O;have R:(14:Int)<=d.size:=O;cases u:((d.extract 12 14).toList==[129,0])with
  |false=>
   have l:¬cj (d.extract 12 14)=1:=λh=>by rw[yy,u]at h;cases h
   have c:bd d=N ⟨d.extract 0 6,d.extract 6 12,Md,0,0,d.extract 12 14,d.extract 14 d.size⟩:=by unfold bd;rw[if_neg i,if_neg l]
   rw[show(bd d).isSome=Mk by rw[c];rfl];have k:=A c;clear c l i;go_enter Qc,ntmps129;go_wp2;refine NQ (wO (b:=w.heap.size) (cs:=#[MS (d.extract 0 6),MS (d.extract 6 12),Q I 0,Q I 0,M0 Md,MS (d.extract 12 14),MS (d.extract 14 d.size)]) ((ON _ _ (by simp)).trans (O8 w _)) rfl rfl) rfl ?_;exact⟨⟨_,rfl,Ib.some k.o rfl⟩,UQ⟩
  |true=>
   have l:cj (d.extract 12 14)=1:=(yy _).2 u;by_cases q:d.size<18
   ·have c:bd d=none:=by unfold bd;rw[if_neg i,if_pos l,if_pos q]
    rw[show(bd d).isSome=Md by rw[c];rfl];have k:=A c;have E:(d.size:Int)<18:=O;clear c l i;go_enter Qc,ntmps129;go_wp2;refine NQ (wO (b:=w.heap.size) (cs:=#[MS (d.extract 0 6),MS (d.extract 6 12),Q I 0,Q I 0,M0 Md,MS ⟨#[]⟩,MS ⟨#[]⟩]) ((ON _ _ (by simp)).trans (O8 w _)) rfl rfl) rfl ?_;exact⟨⟨_,rfl,Ib.none k.o ⟨⟨_,_,_,_,_,_,_⟩,rfl⟩⟩,UQ⟩
   ·have c:bd d=N ⟨d.extract 0 6,d.extract 6 12,Mk,((dh (d.extract 14 16)%4096:Nat):Int),((dh (d.extract 14 16)/4096:Nat):Int),d.extract 16 18,d.extract 18 d.size⟩:=by unfold bd;rw[if_neg i,if_pos l,if_neg q]
    rw[Fi O]at c;rw[show(bd d).isSome=Mk by rw[c];rfl];have k:=A c;have E:¬(d.size:Int)<18:=O;have T:(4:Int)<=d.size:=O;have r:(d.extract 4 d.size).size=d.size-4:=by rw[O9];omega
    have U:(12:Int)<=(d.extract 4 d.size).size:=by rw[r];omega
    have V:(14:Int)<=(d.extract 4 d.size).size:=by rw[r];omega
    have W:(d.extract 4 d.size).extract 12 14=d.extract 16 18:=by rw[Qk];congr 1;omega
    have F:aA ((d.extract 4 d.size).extract 14 (d.size-4)=d.extract 18 d.size):=A (by rw[Qk];congr 1;omega);have X:=eN d 14;obtain⟨m,n⟩:=UX ((w.alloc (.cells #[MS ⟨#[]⟩,MS ⟨#[]⟩,Q I 0,Q I 0,M0 Md,MS ⟨#[]⟩,MS ⟨#[]⟩] 248)).alloc (.cells #[MS (d.extract 0 6),MS (d.extract 6 12),Q I 0,Q I 0,M0 Md,MS ⟨#[]⟩,MS ⟨#[]⟩] 248));have v:Below w.heap.size w m:=by rw[n];exact((MU _ w).alloc (MP _) _).alloc (by simp) _
    have x:m.heap[w.heap.size]?=N (.cells #[MS ⟨#[]⟩,MS ⟨#[]⟩,Q I 0,Q I 0,M0 Md,MS ⟨#[]⟩,MS ⟨#[]⟩] 248 (0,0)):=by rw[n];exact(ON _ _ (by simp)).trans (O8 w _)
    have y:m.heap[w.heap.size+1]?=N (.cells #[MS (d.extract 0 6),MS (d.extract 6 12),Q I 0,Q I 0,M0 Md,MS ⟨#[]⟩,MS ⟨#[]⟩] 248 (0,0)):=by rw[n,<-xN w];exact aU _ _
    have G:m.heap.size=w.heap.size+2:=by rw[n];simp
    have z:=A (iH d 14 m O O);have s:=A v;clear c l i q r B v;go_enter Qc,ntmps129;go_wp2_with fail
    rw[<-n];clear n;refine z.o.mono ?_;rintro e a ⟨rfl,o⟩;have f:=(o.block _ O).trans x;have g:=(o.block _ O).trans y;have H:=o.size;have Y:w.heap.size<a.heap.size:=O;have Z:w.heap.size+1<a.heap.size:=O;have c0:a.cell? ⟨w.heap.size,0,S⟩=N (MS ⟨#[]⟩):=aB f rfl;have c1:a.cell? ⟨w.heap.size,1,S⟩=N (MS ⟨#[]⟩):=aB f rfl;have c2:a.cell? ⟨w.heap.size,2,S⟩=N (Q I 0):=aB f rfl;have c3:a.cell? ⟨w.heap.size,3,S⟩=N (Q I 0):=aB f rfl;have c4:a.cell? ⟨w.heap.size,4,S⟩=N (M0 Md):=aB f rfl;have c5:a.cell? ⟨w.heap.size,5,S⟩=N (MS ⟨#[]⟩):=aB f rfl;have c6:a.cell? ⟨w.heap.size,6,S⟩=N (MS ⟨#[]⟩):=aB f rfl;have e0:a.cell? ⟨w.heap.size+1,0,S⟩=N (MS (d.extract 0 6)):=aB g rfl;have e1:a.cell? ⟨w.heap.size+1,1,S⟩=N (MS (d.extract 6 12)):=aB g rfl;have e2:a.cell? ⟨w.heap.size+1,2,S⟩=N (Q I 0):=aB g rfl;have e3:a.cell? ⟨w.heap.size+1,3,S⟩=N (Q I 0):=aB g rfl;have e4:a.cell? ⟨w.heap.size+1,4,S⟩=N (M0 Md):=aB g rfl;have e5:a.cell? ⟨w.heap.size+1,5,S⟩=N (MS ⟨#[]⟩):=aB g rfl;have e6:a.cell? ⟨w.heap.size+1,6,S⟩=N (MS ⟨#[]⟩):=aB g rfl;have f0:∀j,a.frozen? ⟨w.heap.size,j,S⟩=false:=λj=>bC f j;have f1:∀j,a.frozen? ⟨w.heap.size+1,j,S⟩=false:=λj=>bC g j;have J:=A f;have K:=A (s.o.trans (o.mono s.o.size));clear f g x y G H o z s;go_wp2;have p:w.heap.size≠w.heap.size+1:=O;have L:=yK (v0:=MS (d.extract 0 6)) (v1:=MS (d.extract 6 12)) (v2:=Q I ((bT d 14:Int)%4096)) (v3:=Q I ((bT d 14:Int)/4096)) (v4:=M0 Mk) (v5:=MS (d.extract 16 18)) (v6:=MS ((d.extract 4 d.size).extract 14 (d.size-4))) (((((NE _ ⟨w.heap.size+1,6,S⟩ _ (MS ((d.extract 4 d.size).extract 14 (d.size-4))) p).trans (NE _ ⟨w.heap.size+1,5,S⟩ _ (MS (d.extract 16 18)) p)).trans (NE _ ⟨w.heap.size+1,3,S⟩ _ (Q I ((bT d 14:Int)/4096)) p)).trans (NE _ ⟨w.heap.size+1,2,S⟩ _ (Q I ((bT d 14:Int)%4096)) p)).trans ((NE a ⟨w.heap.size+1,4,S⟩ _ (M0 Mk) p).trans J.o));refine NQ (wO L rfl rfl) rfl ?_;refine⟨⟨_,rfl,Ib.some k.o ?_⟩,oy (((((K.o.setCell (by simp) _).setCell (by simp) _).setCell (by simp) _).setCell (by simp) _).setCell (by simp) _) (MP _)⟩;rw[F.o];simp[an]
end
section
variable {α:Type}{f:α->List Value}{s:Nat}
def ed(f:α->List Ma)(l:List α):List Value:=l.flatMap f
theorem eh(a b:List α):ed f (a++b)=ed f a++ed f b:=List.flatMap_append
theorem gu(b:∀a,(f a).length=s)(l:List α):(ed f l).length=l.length*s:=by
 induction l with
 |nil=>simp[ed]
 |cons e t c=>
  have:ed f (e::t)=f e++ed f t:=rfl;rw[this,Mz,c,b,List.length_cons,OI];omega
theorem yO(c:∀a,(f a).length=s):∀(l:List α) (k:Nat) (b:k<l.length) (j:Nat),j<s->(ed f l)[k*s+j]?=(f l[k])[j]?
 |[],k,b,_,_=>absurd b (OV k)
 |e::t,k,b,j,g=>by
  have h:ed f (e::t)=f e++ed f t:=rfl;rw[h];match k,b with
  |0,_=>rw[List.getElem?_append_left (by rw[c];omega)];simp
  |k+1,b=>
   have i:k<t.length:=by simpa using b
   rw[List.getElem?_append_right (by rw[c,OI];omega),c,show(k+1)*s+j-s=k*s+j by rw[OI];omega,yO c t k i j g];rfl
theorem yN(b:∀a,∀u∈f a,u.oneCell'=Mk)(l:List α):∀u∈ed f l,u.oneCell'=true:=λu c=>by
 obtain⟨r,_,h⟩:=List.mem_flatMap.1 c;exact b r u h
theorem wR(b:∀a,(f a).length=s)(l:List α)(i:Nat)(c:i<l.length)(r:α):jz (ed f l) (i*s) (f r)=ed f (l.set i r):=by
 have e:l=l.take i++[l[i]]++l.drop (i+1):=by
  rw[Oi];simp
 have g:l.set i r=l.take i++[r]++l.drop (i+1):=by
  rw[List.set_eq_take_append_cons_drop,if_pos c,Oi];rfl
 have h:=mP (f r) (ed f (l.take i)) (ed f [l[i]]) (ed f (l.drop (i+1))) (by rw[gu b,b];simp);rw[<-eh,<-eh,<-e,gu b,Mh,Oo O]at h;rw[h,g,eh,eh];simp[ed]
theorem D9(b:∀a,(f a).length=s)(l:List α)(k:Nat)(c:k<=l.length):(ed f l).take (k*s)=ed f (l.take k):=by
 have h:=eh (f:=f) (l.take k) (l.drop k);rw[Np]at h;have e:(ed f (l.take k)).length=k*s:=by rw[gu b,Mh,Oo c]
 rw[h,<-e,List.take_left]
theorem EA(b:∀a,(f a).length=s)(l:List α)(k:Nat)(c:k<=l.length):(ed f l).drop (k*s)=ed f (l.drop k):=by
 have h:=eh (f:=f) (l.take k) (l.drop k);rw[Np]at h;have e:(ed f (l.take k)).length=k*s:=by rw[gu b,Mh,Oo c]
 rw[h,<-e,List.drop_left]
def aX(f:α->List Ma)(B:Nat)(w:MV)(t:TypeId)(s:Nat)(v:Ma)(l:List α):Prop:=w.ownsRow B t s v l.length (ed f l)/\(l=[]->v=MR S 0 0)
variable {B:Nat}{w d:World}{t:TypeId}{v:Value}{l:List α}
theorem aX.nil(f:α->List Ma)(B:Nat)(w:MV)(t:TypeId)(s:Nat):aX f B w t s (MR S 0 0) []:=⟨World.ownsRow_nil w B t s,λ_=>rfl⟩
theorem aX.lt(h:aX f B w t s v l)(a:v.ownBlock=N g):g<w.heap.size:=(h.1.lt g a).2
theorem aX.iG(h:aX f B w t s v l)(a:v.ownBlock=N g):B<=g:=(h.1.lt g a).1
theorem aX.same(h:aX f B w t s v l)(a:∀g,v.ownBlock=N g->d.heap[g]?=w.heap[g]?):aX f B d t s v l:=⟨aY h.1 a,h.2⟩
theorem aX.aD(h:aX f B w t s v l)(a:Below w.heap.size w d):aX f B d t s v l:=h.same λ_ b=>a.block _ (h.lt b)
theorem aX.row(i:∀a,(f a).length=s)(h:aX f B w t s v l):∃a c g,v=MR a l.length c/\∀k (e:k<l.length),a=N ⟨g,0,S⟩/\w.rangeAt g (k*s) (f l[k]):=by
 rcases h.1.2 with⟨b,p⟩|⟨g,c,r,b,_⟩
 ·exact⟨S,0,0,by rw[b,p],λj m=>O⟩
 ·refine⟨_,c,g,b,λk e=>⟨rfl,λj u n=>?_⟩⟩;have o:=h.1;rw[b]at o;have m:j<s:=by have:=(List.getElem?_eq_some_iff.1 n).1;rwa[i]at this
  have q:k*s+j<l.length*s:=by
   have:(k+1)*s<=l.length*s:=NX s e;rw[OI]at this;omega
  rw[o.cellAt _ q,yO i l k e j m];exact n
theorem aX.there{a:Nat}(h:aX f B w t s (MR (N ⟨g,0,S⟩) n a) l)(b:n=l.length)(c:i<l.length):w.there g (i*s) s:=by
 subst b;refine kQ h.1 ?_;have:(i+1)*s<=l.length*s:=NX s c;rw[OI]at this;omega
theorem aX.nO(c:∀a,(f a).length=s){j:Nat}(h:aX f B w t s (MR (N ⟨g,0,S⟩) n j) l)(m:n=l.length)(b:i<l.length)(r:α):aX f B (w.setCells g (i*s) (f r)) t s (MR (N ⟨g,0,S⟩) n j) (l.set i r):=by
 subst m;refine⟨?_,λe=>?_⟩
 ·have o:i*s+(f r).length<=l.length*s:=by
   have:(i+1)*s<=l.length*s:=NX s b;rw[OI]at this;rw[c];omega
  have k:=ii (f r) (i*s) h.1 o;rw[wR c l i b r]at k;rw[Mw];exact k
 ·have:=congrArg List.length e;rw[Mw]at this;simp at this;rw[this]at b;exact absurd b (by simp)
theorem aX.append{P:Program}{tl:TypeId}{i:TypeInfo}{z:Ma}(o:∀a,(f a).length=s)(p:∀a,∀u∈f a,u.oneCell'=Mk)(q:P.underlying tl=N (.slice t))(r:P.info? t=N i)(x:i.zero=N z)(y:i.size=s)(C:i.bytes=n)(K:z.cells.size=s)(L:0<s)(h:aX f B w t s v l)(m:List α)(D:m≠[]){a:Addr}{c:Nat}(E:∀j u,(ed f m)[j]?=N u->w.cell? (a.add j)=N u)(F:l.length+m.length<=maxLen)(G:(l.length+m.length)*n<=140737488355328)(M:B<=w.heap.size):∃g k d,(Builtin.append_ #[tl,tl] tl #[v,MR (N a) m.length c]).run P w=.ok (MR (N ⟨g,0,S⟩) (l.length+m.length) k) d/\aX f B d t s (MR (N ⟨g,0,S⟩) (l.length+m.length) k) (l++m)/\aH (λb=>v.ownBlock=N b) w d/\(v.ownBlock=N g\/w.heap.size<=g):=by
 have X:0<m.length:=List.length_pos_iff.2 D;obtain⟨R,d,H,J,T,Y⟩:=run_append_own (P:=P) w B tl tl t i z s n q r x y C K L v l.length (ed f l) h.1 a m.length c (ed f m) (gu o m) E (yN p m) F G M;have U:=gA (P:=P) w B tl tl t i z s n q r x y C v l.length (ed f l) h.1 a m.length c (ed f m) (gu o m) E (yN p m) F G H;have V:∃g k,R=MR (N ⟨g,0,S⟩) (l.length+m.length) k:=by
  rcases J.2 with⟨e,Z⟩|⟨g,k,_,e,_⟩
  ·omega
  ·exact⟨g,k,e⟩
 obtain⟨g,k,rfl⟩:=V;refine⟨g,k,d,H,⟨?_,λe=>?_⟩,aH.grown T λ_ W=>W,?_⟩
 ·rw[Mz,eh];exact J
 ·exact absurd (List.append_eq_nil_iff.1 e).2 D
 ·rcases U g rfl with h|h
  ·exact .inl h
  ·exact .inr O
end
end Go.Proofs.YtnjalelblbjfiaaGreatDoor
