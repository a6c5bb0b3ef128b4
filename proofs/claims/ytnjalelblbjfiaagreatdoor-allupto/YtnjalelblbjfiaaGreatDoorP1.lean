import Derived.Test.YtnjalelblbjfiaaGreatDoorProg
import Derived.WalkSpells
import Derived.BigQuiet
import Derived.WalkSmall
import Derived.Lib.QuietBelow
import Derived.Deep.RegionHeld3
import Derived.Deep.LoopGhost
namespace Go.Proofs.YtnjalelblbjfiaaGreatDoor
set_option maxRecDepth 100000
set_option maxHeartbeats 16000000
open Go.RowKit
open Go.Proofs.Tryz
open Go.Sort (grow)
open Bool renaming false→Md,true→Mk,and_eq_true→NH,not_eq_true→NB
open Go renaming World→MV,Calls→Mo,bits→Oa,bodyPost_ret→NQ,results→QO,block_lt_of_cell→MO,below_regrown→NP,Value→Ma,wp_region_quiet_below→Mg,wpQuiet_nil→M3,cell_later→MW,ofInt_u64→QX
open Go.Ending renaming returned→MZ
open Go.IntKind renaming i64→I
open Go.Proofs.Tryz renaming prog→MT,func35→TO,func90→TP,results90→So,func37→Qm,ntmps37→RM,func164→On,func47→TQ
open Go.Value renaming int→Q,bool→M0,agg→M1,pointer→MQ,slice→MR
open Decidable renaming decide→M9
open Go.RowKit renaming Below→Mb,intOf→N1
open Go.RowKit.Below renaming trans→NA,setCell→Me,refl→MU
open Option renaming none→S,some→N,any_some→SI
open Go.Instr renaming index→Nb
open Nat renaming lt_of_lt_of_le→Mi,le_refl→MP,le_trans→Mx,and_le_left→Qy,pow_le_pow_right→QB
open Go.Calls renaming regrown_of→Ml
open Int renaming not_lt→Rb,eq_ofNat_of_zero_le→P5
open List renaming getElem_mem→Ms,drop_eq_getElem_cons→Q9,drop_of_length_le→RP,filter_sublist→Rs,mem_filter→Nc,pairwise_cons→PJ,mem_cons→Nk
open Or renaming inl→Mf,inr→MX
open BitVec renaming ofInt→PN,toNat_and→SD
def aA(p:Prop):Prop:=p
theorem aA.o{p:Prop}(h:aA p):p:=h
theorem SZ{p:Prop}(h:p:=by first|exact Nat.le_refl _|omega|(simp;done)|(simp;omega)):p:=h
theorem UQ{p:Prop}(h:p:=by repeat(first|exact Below.refl _ _|assumption|refine aF ?_|refine Below.drew ?_|refine Below.setCell ?_ SZ _|refine Below.alloc ?_ SZ _)):p:=h
theorem O{p:Prop}(h:p:=by omega):p:=h
theorem UR{p:Prop}(h:p:=by kernel_rfl):p:=h
theorem US{p:Prop}(h:p:=by decide):p:=h
theorem UT{p:Prop}(h:p:=by unfold maxLen;omega):p:=h
theorem UU{p:Prop}(h:p:=by simp;omega):p:=h
theorem UV{p:Prop}(h:p:=by simp[Act.eval,Act.put]):p:=h
theorem UW{p:Prop}(h:p:=by simp only[Nat.min_def];split<;>omega):p:=h
theorem oc{p:Prop}(h:p:=by simp[Value.oneCell']):p:=h
theorem UX{α:Sort _}(a:α):∃d,d=a:=⟨_,rfl⟩
theorem UY{w W:World}{o:Obj}(h:W=w.alloc o):Below w.heap.size w W:=by rw[h];exact(Below.refl _ w).alloc (Nat.le_refl _) _
variable {d i j k m x:Int}{a c w:MV}{v:Ma}{B b n:Nat}
theorem Ee(a:Int)(w:MV):Mo MT 84 #[Q I a] w λe b=>e=MZ (M0 Md)/\b=w:=by
 go_enter func84,ntmps84;go_wp2;go_ret;exact⟨by simp,rfl⟩
def d9(a b:Int):Int:=if a<b then -1 else if b<a then 1 else 0
theorem io(a b:Int)(w:MV):Mo MT 33 #[Q I a,Q I b] w λe c=>e=MZ (Q I (d9 a b))/\c=w:=by
 go_enter func33,ntmps33;go_wp2_with (go_at_call 84;refine(Ee _ _).mono ?_;rintro e c ⟨rfl,rfl⟩)
 all_goals go_ret
 all_goals(refine⟨?_,rfl⟩;unfold d9)
 all_goals simp[*]
 all_goals omega
theorem aW{W:MV}(c:Mb W.heap.size W a):(∀b o,b<W.heap.size->a.cell? ⟨b,o,S⟩=W.cell? ⟨b,o,S⟩)/\(∀b o,b<W.heap.size->a.frozen? ⟨b,o,S⟩=W.frozen? ⟨b,o,S⟩):=
 ⟨λb o h=>c.cell (p:=⟨b,o,S⟩) h,λb o h=>c.frozen (p:=⟨b,o,S⟩) h⟩
theorem aF(h:Mb B a w):Mb B a (w.drewN n):=below_drewN h n
def kV(a c b d:Int):Int:=if a=b then d9 c d else d9 b a
theorem rE(a d b f:Int)(w:MV):Mo MT 35 #[M1 #[Q I a,Q I d],M1 #[Q I b,Q I f]] w λe c=>e=MZ (Q I (kV a d b f))/\Mb w.heap.size w c:=by
 by_cases h:a=b
 ·have g:(a !=b)=false:=by simp[h]
  go_enter TO,ntmps35;go_wp2_with (go_at_call 33;refine(io _ _ _).mono ?_;rintro e c ⟨rfl,rfl⟩)
  go_ret;exact⟨by simp[kV,h],UQ⟩
 ·have g:(a !=b)=true:=by simp[h]
  go_enter TO,ntmps35;go_wp2_with (go_at_call 33;refine(io _ _ _).mono ?_;rintro e c ⟨rfl,rfl⟩)
  go_ret;exact⟨by simp[kV,h],UQ⟩
def bD(a b x:Int):Bool:=M9 (a<=x)&&M9 (x<=b)
theorem aw{a b:Int}:bD a b x=Mk↔a<=x/\x<=b:=by simp[bD]
theorem fL(a b x:Int)(w:MV):Mo MT 163 #[M1 #[Q I a,Q I b],Q I x] w λe c=>e=MZ (M0 (bD a b x))/\Mb w.heap.size w c:=by
 by_cases h:a<=x
 all_goals
  go_enter func163,ntmps163;go_wp2;go_ret;exact⟨by simp[bD,h];try omega,UQ⟩
theorem gR(d a b x:Int)(w:MV):Mo MT 95 #[M1 #[Q I d,Q I a,Q I b],Q I x] w λe c=>e=MZ (M0 (bD a b x))/\Mb w.heap.size w c:=by
 go_enter func95,ntmps95;go_wp2_with (go_at_call 163;refine(fL _ _ _ _).mono ?_;rintro e c ⟨rfl,f⟩)
 go_ret;exact⟨rfl,NA UQ (f.mono (by simp))⟩
theorem Du(a b x:Int)(w:MV):Mo MT 203 #[M1 #[Q I a,Q I b],Q I x] w λe c=>e=MZ (.tuple #[M0 (M9 (a<=x)),M0 (M9 (x<b))])/\Mb w.heap.size w c:=by
 go_enter func203,ntmps203;go_wp2;go_quiet (fail)
 go_wp2;go_ret2;exact⟨by simp,UQ⟩
def rL(a b:Int):Int:=if a<b then b else a
theorem ke(l a b:Int)(w:MV):Mo MT 202 #[M1 #[Q I l,Q I a,Q I b]] w λe c=>e=MZ (Q I (rL a b))/\Mb w.heap.size w c:=by
 go_enter func202,ntmps202;go_wp2
 all_goals
  go_ret;refine⟨?_,UQ⟩
  first|(simp[rL, *];done)|(simp[rL];omega)
def AC(a p:Int):Bool:=if a=0 then p==0 else if a=1 then p==0 else if a=2 then M9 (0<=p)&&M9 (p<8)else Md
theorem wt(a p:Int)(w:MV):Mo MT 88 #[Q I a,Q I p] w λe b=>e=MZ (M0 (AC a p))/\b=w:=by
 go_enter func88,ntmps88;go_wp2
 all_goals
  go_ret;refine⟨?_,rfl⟩
  first|(simp_all [AC];done)|(simp_all [AC];omega)
def vL(a v m:Int):Int:=Oa .or I v (Oa .andNot I a m)
theorem Hi(b c a v m:Int)(w:MV):Mo MT 155 #[M1 #[Q I b,Q I c,Q I a],Q I v,Q I m] w λe d=>e=MZ (M1 #[Q I v,Q I (vL a v m)])/\Mb w.heap.size w d:=by
 go_enter func155,ntmps155;go_wp2;exact NQ (v:=M1 #[Q I v,Q I (vL a v m)]) (by simp[QO,results155,go_sem,vL]) rfl ⟨rfl,UQ⟩
def eW(k v m a:Int):Int:=if k=1 then m else vL a v m
theorem jn(k v m d f a:Int)(w:MV):Mo MT 90 #[M1 #[Q I k,Q I v,Q I m],M1 #[Q I d,Q I f,Q I a]] w λe c=>e=MZ (M1 #[Q I v,Q I (eW k v m a)])/\Mb w.heap.size w c:=by
 by_cases h:k=1
 ·have g:(k==1)=true:=by simp[h]
  go_enter TP,ntmps90;go_wp2;exact NQ (v:=M1 #[Q I v,Q I (eW k v m a)]) (by simp[QO,So,go_sem,eW,h]) rfl ⟨rfl,UQ⟩
 ·have g:(k==1)=false:=by simp[h]
  go_enter TP,ntmps90;go_wp2_with (go_at_call 155;refine(Hi _ _ _ _ _ _).mono ?_;rintro e c ⟨rfl,b⟩;obtain⟨i,j⟩:=aW b;have l:=b.size)
  refine NQ (v:=M1 #[Q I v,Q I (eW k v m a)]) ?_ rfl ⟨rfl,?_⟩
  ·simp[QO,So,go_sem,eW,h,i]
  ·refine Me (Me (NA ?_ (b.mono SZ)) SZ _) SZ _;exact UQ
theorem Gx(a b c d e:Int)(w:MV):(Nb 39 (M1 #[Q I a,Q I b,Q I c,Q I d,Q I e]) (Q I 0)).run MT w=.ok (Q I a) w:=UR
theorem Gw(b a c d e:Int)(w:MV):(Nb 39 (M1 #[Q I b,Q I a,Q I c,Q I d,Q I e]) (Q I 1)).run MT w=.ok (Q I a) w:=UR
theorem Gv(b c a d e:Int)(w:MV):(Nb 39 (M1 #[Q I b,Q I c,Q I a,Q I d,Q I e]) (Q I 2)).run MT w=.ok (Q I a) w:=UR
theorem Gu(b c d a e:Int)(w:MV):(Nb 39 (M1 #[Q I b,Q I c,Q I d,Q I a,Q I e]) (Q I 3)).run MT w=.ok (Q I a) w:=UR
theorem Gt(b c d e a:Int)(w:MV):(Nb 39 (M1 #[Q I b,Q I c,Q I d,Q I e,Q I a]) (Q I 4)).run MT w=.ok (Q I a) w:=UR
theorem Kv(a b c d e f g h i j k l m n o:Int)(w:MV):(Nb 35 (M1 #[Q I a,Q I b,Q I c,Q I d,Q I e,Q I f,Q I g,Q I h,Q I i,Q I j,Q I k,Q I l,Q I m,Q I n,Q I o]) (Q I 0)).run MT w=.ok (M1 #[Q I a,Q I b,Q I c]) w:=UR
theorem Ku(d e f a b c g h i j k l m n o:Int)(w:MV):(Nb 35 (M1 #[Q I d,Q I e,Q I f,Q I a,Q I b,Q I c,Q I g,Q I h,Q I i,Q I j,Q I k,Q I l,Q I m,Q I n,Q I o]) (Q I 1)).run MT w=.ok (M1 #[Q I a,Q I b,Q I c]) w:=UR
theorem Kt(d e f g h i a b c j k l m n o:Int)(w:MV):(Nb 35 (M1 #[Q I d,Q I e,Q I f,Q I g,Q I h,Q I i,Q I a,Q I b,Q I c,Q I j,Q I k,Q I l,Q I m,Q I n,Q I o]) (Q I 2)).run MT w=.ok (M1 #[Q I a,Q I b,Q I c]) w:=UR
theorem Kr(d e f g h i j k l a b c m n o:Int)(w:MV):(Nb 35 (M1 #[Q I d,Q I e,Q I f,Q I g,Q I h,Q I i,Q I j,Q I k,Q I l,Q I a,Q I b,Q I c,Q I m,Q I n,Q I o]) (Q I 3)).run MT w=.ok (M1 #[Q I a,Q I b,Q I c]) w:=UR
theorem Kq(d e f g h i j k l m n o a b c:Int)(w:MV):(Nb 35 (M1 #[Q I d,Q I e,Q I f,Q I g,Q I h,Q I i,Q I j,Q I k,Q I l,Q I m,Q I n,Q I o,Q I a,Q I b,Q I c]) (Q I 4)).run MT w=.ok (M1 #[Q I a,Q I b,Q I c]) w:=UR
theorem Lj(a b c d e f g h i j k l m n o:Int)(w:MV):(Nb 179 (M1 #[Q I a,Q I b,Q I c,Q I d,Q I e,Q I f,Q I g,Q I h,Q I i,Q I j,Q I k,Q I l,Q I m,Q I n,Q I o]) (Q I 0)).run MT w=.ok (M1 #[Q I a,Q I b,Q I c]) w:=UR
theorem Li(d e f a b c g h i j k l m n o:Int)(w:MV):(Nb 179 (M1 #[Q I d,Q I e,Q I f,Q I a,Q I b,Q I c,Q I g,Q I h,Q I i,Q I j,Q I k,Q I l,Q I m,Q I n,Q I o]) (Q I 1)).run MT w=.ok (M1 #[Q I a,Q I b,Q I c]) w:=UR
theorem Lh(d e f g h i a b c j k l m n o:Int)(w:MV):(Nb 179 (M1 #[Q I d,Q I e,Q I f,Q I g,Q I h,Q I i,Q I a,Q I b,Q I c,Q I j,Q I k,Q I l,Q I m,Q I n,Q I o]) (Q I 2)).run MT w=.ok (M1 #[Q I a,Q I b,Q I c]) w:=UR
theorem Lg(d e f g h i j k l a b c m n o:Int)(w:MV):(Nb 179 (M1 #[Q I d,Q I e,Q I f,Q I g,Q I h,Q I i,Q I j,Q I k,Q I l,Q I a,Q I b,Q I c,Q I m,Q I n,Q I o]) (Q I 3)).run MT w=.ok (M1 #[Q I a,Q I b,Q I c]) w:=UR
theorem Lf(d e f g h i j k l m n o a b c:Int)(w:MV):(Nb 179 (M1 #[Q I d,Q I e,Q I f,Q I g,Q I h,Q I i,Q I j,Q I k,Q I l,Q I m,Q I n,Q I o,Q I a,Q I b,Q I c]) (Q I 4)).run MT w=.ok (M1 #[Q I a,Q I b,Q I c]) w:=UR
section
attribute [local go_sem] Gx Gw Gv Gu Gt
def cP(w:MV):Prop:=w.cell? ⟨0,0,S⟩=N (Q I 32)/\w.cell? ⟨0,1,S⟩=N (Q I 0)/\w.cell? ⟨0,2,S⟩=N (Q I 4294967295)/\w.cell? ⟨0,3,S⟩=N (Q I 32)/\w.cell? ⟨0,4,S⟩=N (Q I 0)/\w.cell? ⟨0,5,S⟩=N (Q I 4294967295)/\w.cell? ⟨0,6,S⟩=N (Q I 8)/\w.cell? ⟨0,7,S⟩=N (Q I 0)/\w.cell? ⟨0,8,S⟩=N (Q I 255)/\w.cell? ⟨0,9,S⟩=N (Q I 16)/\w.cell? ⟨0,10,S⟩=N (Q I 0)/\w.cell? ⟨0,11,S⟩=N (Q I 65535)/\w.cell? ⟨0,12,S⟩=N (Q I 16)/\w.cell? ⟨0,13,S⟩=N (Q I 0)/\w.cell? ⟨0,14,S⟩=N (Q I 65535)
theorem cP.uE(h:cP w):0<w.heap.size:=MO h.1
theorem cP.aD(h:cP w)(b:Mb B w a)(c:0<B):cP a:=by
 have e:∀i,a.cell? ⟨0,i,S⟩=w.cell? ⟨0,i,S⟩:=λi=>b.cell (p:=⟨0,i,S⟩) c;simpa only[cP,e]using h
def iE(a b c d e:Int):Bool:=bD 0 4294967295 a&&(bD 0 4294967295 b&&(bD 0 255 c&&(bD 0 65535 d&&bD 0 65535 e)))
theorem vI(g h j l m:Int)(w:MV)(n:cP w):Mo MT 45 #[M1 #[Q I g,Q I h,Q I j,Q I l,Q I m]] w λe d=>e=MZ (M0 (iE g h j l m))/\Mb w.heap.size w d:=by
 go_enter func45,ntmps45;go_wp2;go_loopw [6] (λi wr=>∃k:Nat,k<=5/\i=Q I k/\Mb w.heap.size w wr/\(0<k->bD 0 4294967295 g=Mk)/\(1<k->bD 0 4294967295 h=Mk)/\(2<k->bD 0 255 j=Mk)/\(3<k->bD 0 65535 l=Mk)/\(4<k->bD 0 65535 m=Mk)) (λi _=>5- (N1 i).toNat)
 case atStart=>exact⟨0,O,rfl,UQ,O,O,O,O,O⟩
 case round=>
  obtain⟨k,s,rfl,a,f,o,p,r,t⟩:=hrel;obtain⟨u,v,x,y,z,B,C,D,E,F,G,H,J,K,L⟩:=n.aD a n.uE;have M:=Mi n.uE a.size;clear n;match k,s with
  |0,_=>
   go_wp2_with (go_at_call 95;refine(gR _ _ _ _ _).mono ?_;rintro e d ⟨rfl,b⟩;generalize c:bD 0 4294967295 g=q at*;cases q)
   ·go_ret;exact⟨by simp[iE, *],a.trans (b.mono a.size)⟩
   ·go_roundw
    case rel=>exact⟨1,O,rfl,a.trans (b.mono a.size),λ_=>c,O,O,O,O⟩
    case measure=>simp[N1]
  |1,_=>
   go_wp2_with (go_at_call 95;refine(gR _ _ _ _ _).mono ?_;rintro e d ⟨rfl,b⟩;generalize c:bD 0 4294967295 h=q at*;cases q)
   ·go_ret;exact⟨by simp[iE, *],a.trans (b.mono a.size)⟩
   ·go_roundw
    case rel=>exact⟨2,O,rfl,a.trans (b.mono a.size),λ_=>f O,λ_=>c,O,O,O⟩
    case measure=>simp[N1]
  |2,_=>
   go_wp2_with (go_at_call 95;refine(gR _ _ _ _ _).mono ?_;rintro e d ⟨rfl,b⟩;generalize c:bD 0 255 j=q at*;cases q)
   ·go_ret;exact⟨by simp[iE, *],a.trans (b.mono a.size)⟩
   ·go_roundw
    case rel=>exact⟨3,O,rfl,a.trans (b.mono a.size),λ_=>f O,λ_=>o O,λ_=>c,O,O⟩
    case measure=>simp[N1]
  |3,_=>
   go_wp2_with (go_at_call 95;refine(gR _ _ _ _ _).mono ?_;rintro e d ⟨rfl,b⟩;generalize c:bD 0 65535 l=q at*;cases q)
   ·go_ret;exact⟨by simp[iE, *],a.trans (b.mono a.size)⟩
   ·go_roundw
    case rel=>exact⟨4,O,rfl,a.trans (b.mono a.size),λ_=>f O,λ_=>o O,λ_=>p O,λ_=>c,O⟩
    case measure=>simp[N1]
  |4,_=>
   go_wp2_with (go_at_call 95;refine(gR _ _ _ _ _).mono ?_;rintro e d ⟨rfl,b⟩;generalize c:bD 0 65535 m=q at*;cases q)
   ·go_ret;exact⟨by simp[iE, *],a.trans (b.mono a.size)⟩
   ·go_roundw
    case rel=>exact⟨5,O,rfl,a.trans (b.mono a.size),λ_=>f O,λ_=>o O,λ_=>p O,λ_=>r O,λ_=>c⟩
    case measure=>simp[N1]
  |5,_=>
   go_wp2;go_ret;exact⟨by simp[iE,f O,o O,p O,r O,t O],a⟩
end
def dM(k v m a b:Int):Bool:=bD a b v&&(bD a b m&&(if k=0 then Oa .andNot I v m==0 else if k=1 then M9 (v<=m)else Md))
theorem jI(k v m i a b:Int)(w:MV):Mo MT 87 #[M1 #[Q I k,Q I v,Q I m],M1 #[Q I i,Q I a,Q I b]] w λe j=>e=MZ (M0 (dM k v m a b))/\Mb w.heap.size w j:=by
 go_enter func87,ntmps87;go_wp2_with fail
 refine(gR _ _ _ _ _).mono ?_;rintro e l ⟨rfl,c⟩;obtain⟨r,s⟩:=aW c;have d:=c.size;have t:w.heap.size<l.heap.size:=by simp at d;omega
 generalize f:bD a b v=n at*;cases n
 ·go_wp2_with fail
  go_ret;refine⟨by simp[dM,f],NA UQ (c.mono SZ)⟩
 ·go_wp2_with fail
  refine(gR _ _ _ _ _).mono ?_;rintro e o ⟨rfl,g⟩;have h:Mb w.heap.size w o:=NA (NA UQ (c.mono SZ)) (g.mono (by simp at d;omega));obtain⟨u,x⟩:=aW g;generalize p:bD a b m=q at*;cases q
  ·go_wp2_with fail
   go_ret;exact⟨by simp[dM,f,p],h⟩
  ·go_wp2_with fail
   all_goals
    go_ret;refine⟨?_,h⟩;simp_all [dM]
theorem aI(w:MV)(d:Nat)(a:Array Obj)(b o:Nat)(h:b<w.heap.size):(grow (redrawn w d) a).cell? ⟨b,o,S⟩=w.cell? ⟨b,o,S⟩:=
 (NP w d a).cell (p:=⟨b,o,S⟩) h
theorem aE(h:∃p:Regrown,a=grow (redrawn w p.d) p.os):Mb w.heap.size w a:=by
 obtain⟨p,b⟩:=h;rw[b];exact NP _ _ _
theorem fW{o:Obj}{i:Nat}(h:b<w.heap.size)(a:w.cell? ⟨b,i,S⟩=N v):(w.alloc o).cell? ⟨b,i,S⟩=N v:=
 (((MU w.heap.size w).alloc (MP _) o).cell (p:=⟨b,i,S⟩) h).trans a
theorem dR{a b:Bool}(h:a=b):MZ (M0 a)=MZ (M0 b):=by rw[h]
theorem I2{k:IntKind}{a b:Int}(h:a=b):MZ (Q k a)=MZ (Q k b):=by rw[h]
section
attribute [local go_sem] Kv Ku Kt Kr Kq aI
def fM(b a c d e f g h i j k l m n o p q r s:Int):Bool:=!(M9 (b<0))&&(!(M9 (a<0))&&(!(M9 (1000<a))&&(dM c d e 0 4294967295&&(dM f g h 0 4294967295&&(dM i j k 0 255&&(dM l m n 0 65535&&(dM o p q 0 65535&&AC r s)))))))
theorem Bi(U t u v x y z B C D E F G H J K L m n:Int)(w:MV)(M:cP w):Mo MT 37 #[M1 #[Q I U,Q I t,Q I u,Q I v,Q I x,Q I y,Q I z,Q I B,Q I C,Q I D,Q I E,Q I F,Q I G,Q I H,Q I J,Q I K,Q I L,Q I m,Q I n]] w λe W=>e=MZ (M0 (fM U t u v x y z B C D E F G H J K L m n))/\Mb w.heap.size w W:=by
 by_cases X:U<0
 ·go_enter Qm,RM;go_wp2;go_ret;exact⟨by simp[fM,X],UQ⟩
 by_cases Y:t<0
 ·go_enter Qm,RM;go_wp2;go_ret;exact⟨by simp[fM,Y],UQ⟩
 by_cases Z:1000<t
 ·go_enter Qm,RM;go_wp2;go_ret;exact⟨by simp[fM,Z],UQ⟩
 go_enter Qm,ntmps37;go_wp2;go_loopw [20] (λi wr=>∃k:Nat,k<=5/\i=Q I k/\Mb w.heap.size w wr/\w.heap.size<wr.heap.size/\wr.cell? ⟨w.heap.size,17,S⟩=N (Q I m)/\wr.cell? ⟨w.heap.size,18,S⟩=N (Q I n)/\(0<k->dM u v x 0 4294967295=Mk)/\(1<k->dM y z B 0 4294967295=Mk)/\(2<k->dM C D E 0 255=Mk)/\(3<k->dM F G H 0 65535=Mk)/\(4<k->dM J K L 0 65535=Mk)) (λi _=>5- (N1 i).toNat)
 case atStart=>exact⟨0,O,rfl,UQ,by simp,by simp,by simp,O,O,O,O,O⟩
 case round=>
  obtain⟨k,hk,rfl,o,d,p,r,s,P,V,h3,h4⟩:=hrel;obtain⟨g0,g1,g2,g3,g4,g5,g6,g7,g8,g9,b3,b4,b5,b6,b9⟩:=M.aD o M.uE;have c0:=Mi M.uE o.size;clear M;match k,hk with
  |0,_=>
   go_wp2_with fail
   refine Mg UR UR ?_
   repeat(quiet_step (exact Ml (jI _ _ _ _ _ _ _)))
   refine M3 ?_;intro b a;replace a:=aE a;obtain⟨R,T⟩:=aW a;have f:=a.size;have c:Mb w.heap.size w b:=o.trans (NA UQ (a.mono SZ));have g:b.cell? ⟨w.heap.size,17,S⟩=N (Q I m):=MW a (fW d p);have h:b.cell? ⟨w.heap.size,18,S⟩=N (Q I n):=MW a (fW d r);have j:w.heap.size<b.heap.size:=by simp at f;omega
   generalize l:dM u v x 0 4294967295=q at*;cases q
   ·go_wp2;go_ret;exact⟨by simp[fM, *],c⟩
   ·go_wp2;go_roundw
    case rel=>exact⟨1,O,rfl,c,j,g,h,λ_=>l,O,O,O,O⟩
    case measure=>simp[N1]
  |1,_=>
   go_wp2_with fail
   refine Mg UR UR ?_
   repeat(quiet_step (exact Ml (jI _ _ _ _ _ _ _)))
   refine M3 ?_;intro b a;replace a:=aE a;obtain⟨R,T⟩:=aW a;have f:=a.size;have c:Mb w.heap.size w b:=o.trans (NA UQ (a.mono SZ));have g:b.cell? ⟨w.heap.size,17,S⟩=N (Q I m):=MW a (fW d p);have h:b.cell? ⟨w.heap.size,18,S⟩=N (Q I n):=MW a (fW d r);have j:w.heap.size<b.heap.size:=by simp at f;omega
   generalize l:dM y z B 0 4294967295=q at*;cases q
   ·go_wp2;go_ret;exact⟨by simp[fM, *],c⟩
   ·go_wp2;go_roundw
    case rel=>exact⟨2,O,rfl,c,j,g,h,λ_=>s O,λ_=>l,O,O,O⟩
    case measure=>simp[N1]
  |2,_=>
   go_wp2_with fail
   refine Mg UR UR ?_
   repeat(quiet_step (exact Ml (jI _ _ _ _ _ _ _)))
   refine M3 ?_;intro b a;replace a:=aE a;obtain⟨R,T⟩:=aW a;have f:=a.size;have c:Mb w.heap.size w b:=o.trans (NA UQ (a.mono SZ));have g:b.cell? ⟨w.heap.size,17,S⟩=N (Q I m):=MW a (fW d p);have h:b.cell? ⟨w.heap.size,18,S⟩=N (Q I n):=MW a (fW d r);have j:w.heap.size<b.heap.size:=by simp at f;omega
   generalize l:dM C D E 0 255=q at*;cases q
   ·go_wp2;go_ret;exact⟨by simp[fM, *],c⟩
   ·go_wp2;go_roundw
    case rel=>exact⟨3,O,rfl,c,j,g,h,λ_=>s O,λ_=>P O,λ_=>l,O,O⟩
    case measure=>simp[N1]
  |3,_=>
   go_wp2_with fail
   refine Mg UR UR ?_
   repeat(quiet_step (exact Ml (jI _ _ _ _ _ _ _)))
   refine M3 ?_;intro b a;replace a:=aE a;obtain⟨R,T⟩:=aW a;have f:=a.size;have c:Mb w.heap.size w b:=o.trans (NA UQ (a.mono SZ));have g:b.cell? ⟨w.heap.size,17,S⟩=N (Q I m):=MW a (fW d p);have h:b.cell? ⟨w.heap.size,18,S⟩=N (Q I n):=MW a (fW d r);have j:w.heap.size<b.heap.size:=by simp at f;omega
   generalize l:dM F G H 0 65535=q at*;cases q
   ·go_wp2;go_ret;exact⟨by simp[fM, *],c⟩
   ·go_wp2;go_roundw
    case rel=>exact⟨4,O,rfl,c,j,g,h,λ_=>s O,λ_=>P O,λ_=>V O,λ_=>l,O⟩
    case measure=>simp[N1]
  |4,_=>
   go_wp2_with fail
   refine Mg UR UR ?_
   repeat(quiet_step (exact Ml (jI _ _ _ _ _ _ _)))
   refine M3 ?_;intro b a;replace a:=aE a;obtain⟨R,T⟩:=aW a;have f:=a.size;have c:Mb w.heap.size w b:=o.trans (NA UQ (a.mono SZ));have g:b.cell? ⟨w.heap.size,17,S⟩=N (Q I m):=MW a (fW d p);have h:b.cell? ⟨w.heap.size,18,S⟩=N (Q I n):=MW a (fW d r);have j:w.heap.size<b.heap.size:=by simp at f;omega
   generalize l:dM J K L 0 65535=q at*;cases q
   ·go_wp2;go_ret;exact⟨by simp[fM, *],c⟩
   ·go_wp2;go_roundw
    case rel=>exact⟨5,O,rfl,c,j,g,h,λ_=>s O,λ_=>P O,λ_=>V O,λ_=>h3 O,λ_=>l⟩
    case measure=>simp[N1]
  |5,_=>
   go_wp2_with (go_at_call 88;refine(wt _ _ _).mono ?_;rintro e W ⟨rfl,rfl⟩)
   go_ret;refine⟨dR ?_,o⟩;simp only[fM,decide_eq_false (Rb.2 X),decide_eq_false (Rb.2 Y),decide_eq_false (Rb.2 Z),Bool.not_false,Bool.true_and,s O,P O,V O,h3 O,h4 O]
end
structure Rl where
 id:Int
 pr:Int
 k0:Int
 v0:Int
 m0:Int
 k1:Int
 v1:Int
 m1:Int
 k2:Int
 v2:Int
 m2:Int
 k3:Int
 v3:Int
 m3:Int
 k4:Int
 v4:Int
 m4:Int
 ac:Int
 po:Int
def Rl.cells(r:Rl):Array Value:=#[Q I r.id,Q I r.pr,Q I r.k0,Q I r.v0,Q I r.m0,Q I r.k1,Q I r.v1,Q I r.m1,Q I r.k2,Q I r.v2,Q I r.m2,Q I r.k3,Q I r.v3,Q I r.m3,Q I r.k4,Q I r.v4,Q I r.m4,Q I r.ac,Q I r.po]
def Rl.vq(r:Rl):Array Value:=#[Q I r.id,Q I r.pr,Q I r.k0,Q I r.v0,Q I r.m0,Q I r.k1,Q I r.v1,Q I r.m1,Q I r.k2,Q I r.v2,Q I r.m2,Q I r.k3,Q I r.v3,Q I r.m3,Q I r.k4,Q I r.v4,Q I r.m4,Q I r.ac,Q I r.po,Q I r.v0,Q I (eW r.k0 r.v0 r.m0 4294967295),Q I r.v1,Q I (eW r.k1 r.v1 r.m1 4294967295),Q I r.v2,Q I (eW r.k2 r.v2 r.m2 255),Q I r.v3,Q I (eW r.k3 r.v3 r.m3 65535),Q I r.v4,Q I (eW r.k4 r.v4 r.m4 65535)]
def Rl.ok(r:Rl):Bool:=fM r.id r.pr r.k0 r.v0 r.m0 r.k1 r.v1 r.m1 r.k2 r.v2 r.m2 r.k3 r.v3 r.m3 r.k4 r.v4 r.m4 r.ac r.po
def ak(w:MV)(b:Nat)(r:Rl):Prop:=∀i:Nat,i<30->w.cell? ⟨b,i,S⟩=r.vq[i]?
theorem ak.lt{r:Rl}(h:ak w b r):b<w.heap.size:=MO (h 0 O)
theorem ak.same{r:Rl}(h:ak w b r)(d:c.heap[b]?=w.heap[b]?):ak c b r:=λi e=>
 (World.cell?_of_block (w:=w) (a:=⟨b,i,S⟩) d).trans (h i e)
theorem ak.aD{r:Rl}(h:ak w b r)(c:Mb B w a)(d:b<B):ak a b r:=h.same (c.block b d)
theorem ak.c0{r:Rl}(h:ak w b r):w.cell? ⟨b,0,S⟩=N (Q I r.id):=h 0 O
theorem ak.c1{r:Rl}(h:ak w b r):w.cell? ⟨b,1,S⟩=N (Q I r.pr):=h 1 O
theorem ak.c2{r:Rl}(h:ak w b r):w.cell? ⟨b,2,S⟩=N (Q I r.k0):=h 2 O
theorem ak.c3{r:Rl}(h:ak w b r):w.cell? ⟨b,3,S⟩=N (Q I r.v0):=h 3 O
theorem ak.c4{r:Rl}(h:ak w b r):w.cell? ⟨b,4,S⟩=N (Q I r.m0):=h 4 O
theorem ak.c5{r:Rl}(h:ak w b r):w.cell? ⟨b,5,S⟩=N (Q I r.k1):=h 5 O
theorem ak.c6{r:Rl}(h:ak w b r):w.cell? ⟨b,6,S⟩=N (Q I r.v1):=h 6 O
theorem ak.c7{r:Rl}(h:ak w b r):w.cell? ⟨b,7,S⟩=N (Q I r.m1):=h 7 O
theorem ak.c8{r:Rl}(h:ak w b r):w.cell? ⟨b,8,S⟩=N (Q I r.k2):=h 8 O
theorem ak.c9{r:Rl}(h:ak w b r):w.cell? ⟨b,9,S⟩=N (Q I r.v2):=h 9 O
theorem ak.MN{r:Rl}(h:ak w b r):w.cell? ⟨b,10,S⟩=N (Q I r.m2):=h 10 O
theorem ak.MM{r:Rl}(h:ak w b r):w.cell? ⟨b,11,S⟩=N (Q I r.k3):=h 11 O
theorem ak.ML{r:Rl}(h:ak w b r):w.cell? ⟨b,12,S⟩=N (Q I r.v3):=h 12 O
theorem ak.MK{r:Rl}(h:ak w b r):w.cell? ⟨b,13,S⟩=N (Q I r.m3):=h 13 O
theorem ak.MJ{r:Rl}(h:ak w b r):w.cell? ⟨b,14,S⟩=N (Q I r.k4):=h 14 O
theorem ak.MI{r:Rl}(h:ak w b r):w.cell? ⟨b,15,S⟩=N (Q I r.v4):=h 15 O
theorem ak.MH{r:Rl}(h:ak w b r):w.cell? ⟨b,16,S⟩=N (Q I r.m4):=h 16 O
theorem ak.L9{r:Rl}(h:ak w b r):w.cell? ⟨b,19,S⟩=N (Q I r.v0):=h 19 O
theorem ak.L8{r:Rl}(h:ak w b r):w.cell? ⟨b,20,S⟩=N (Q I (eW r.k0 r.v0 r.m0 4294967295)):=h 20 O
theorem ak.L7{r:Rl}(h:ak w b r):w.cell? ⟨b,21,S⟩=N (Q I r.v1):=h 21 O
theorem ak.L5{r:Rl}(h:ak w b r):w.cell? ⟨b,22,S⟩=N (Q I (eW r.k1 r.v1 r.m1 4294967295)):=h 22 O
theorem ak.L0{r:Rl}(h:ak w b r):w.cell? ⟨b,23,S⟩=N (Q I r.v2):=h 23 O
theorem ak.Lz{r:Rl}(h:ak w b r):w.cell? ⟨b,24,S⟩=N (Q I (eW r.k2 r.v2 r.m2 255)):=h 24 O
theorem ak.Ly{r:Rl}(h:ak w b r):w.cell? ⟨b,25,S⟩=N (Q I r.v3):=h 25 O
theorem ak.Lx{r:Rl}(h:ak w b r):w.cell? ⟨b,26,S⟩=N (Q I (eW r.k3 r.v3 r.m3 65535)):=h 26 O
theorem ak.Lw{r:Rl}(h:ak w b r):w.cell? ⟨b,27,S⟩=N (Q I r.v4):=h 27 O
theorem ak.Lv{r:Rl}(h:ak w b r):w.cell? ⟨b,28,S⟩=N (Q I (eW r.k4 r.v4 r.m4 65535)):=h 28 O
theorem o4(b:Nat)(r:Rl)(w:MV)(a:ak w b r):Mo MT 43 #[MQ (N ⟨b,0,S⟩)] w λe c=>e=MZ (M1 #[Q I r.pr,Q I r.id])/\Mb w.heap.size w c:=by
 have d:=a.c0;have f:=a.c1;have g:=a.lt;clear a;go_enter func43,ntmps43;go_wp2;go_region
 all_goals go_wp2
 all_goals exact NQ (v:=M1 #[Q I r.pr,Q I r.id]) (by simp[QO,results43,go_sem]) rfl ⟨rfl,UQ⟩
def bJ(k v m a x:Int):Bool:=if k=0 then Oa .and I x m==v else bD v (eW k v m a) x
theorem uT(b:Nat)(r:Rl)(x:Int)(w:MV)(a:ak w b r):Mo MT 164 #[MQ (N ⟨b,0,S⟩),Q I 0,Q I x] w λe c=>e=MZ (M0 (bJ r.k0 r.v0 r.m0 4294967295 x))/\Mb w.heap.size w c:=by
 have g:=a.c2;have i:=a.c3;have j:=a.c4;have k:=a.L9;have l:=a.L8;have m:=a.lt;clear a;by_cases h:r.k0=0
 ·have d:(r.k0==0)=true:=by simp[h]
  go_enter On,ntmps164;go_wp2;go_ret;exact⟨dR (by simp[bJ,h]),UQ⟩
 ·have d:(r.k0==0)=false:=by simp[h]
  go_enter On,ntmps164;go_wp2_with (go_at_call 163;refine(fL _ _ _ _).mono ?_;rintro e c ⟨rfl,f⟩)
  go_ret;exact⟨dR (by simp[bJ,h]),NA UQ (f.mono SZ)⟩
theorem uS(b:Nat)(r:Rl)(x:Int)(w:MV)(a:ak w b r):Mo MT 164 #[MQ (N ⟨b,0,S⟩),Q I 1,Q I x] w λe c=>e=MZ (M0 (bJ r.k1 r.v1 r.m1 4294967295 x))/\Mb w.heap.size w c:=by
 have g:=a.c5;have i:=a.c6;have j:=a.c7;have k:=a.L7;have l:=a.L5;have m:=a.lt;clear a;by_cases h:r.k1=0
 ·have d:(r.k1==0)=true:=by simp[h]
  go_enter On,ntmps164;go_wp2;go_ret;exact⟨dR (by simp[bJ,h]),UQ⟩
 ·have d:(r.k1==0)=false:=by simp[h]
  go_enter On,ntmps164;go_wp2_with (go_at_call 163;refine(fL _ _ _ _).mono ?_;rintro e c ⟨rfl,f⟩)
  go_ret;exact⟨dR (by simp[bJ,h]),NA UQ (f.mono SZ)⟩
theorem uR(b:Nat)(r:Rl)(x:Int)(w:MV)(a:ak w b r):Mo MT 164 #[MQ (N ⟨b,0,S⟩),Q I 2,Q I x] w λe c=>e=MZ (M0 (bJ r.k2 r.v2 r.m2 255 x))/\Mb w.heap.size w c:=by
 have g:=a.c8;have i:=a.c9;have j:=a.MN;have k:=a.L0;have l:=a.Lz;have m:=a.lt;clear a;by_cases h:r.k2=0
 ·have d:(r.k2==0)=true:=by simp[h]
  go_enter On,ntmps164;go_wp2;go_ret;exact⟨dR (by simp[bJ,h]),UQ⟩
 ·have d:(r.k2==0)=false:=by simp[h]
  go_enter On,ntmps164;go_wp2_with (go_at_call 163;refine(fL _ _ _ _).mono ?_;rintro e c ⟨rfl,f⟩)
  go_ret;exact⟨dR (by simp[bJ,h]),NA UQ (f.mono SZ)⟩
theorem uQ(b:Nat)(r:Rl)(x:Int)(w:MV)(a:ak w b r):Mo MT 164 #[MQ (N ⟨b,0,S⟩),Q I 3,Q I x] w λe c=>e=MZ (M0 (bJ r.k3 r.v3 r.m3 65535 x))/\Mb w.heap.size w c:=by
 have g:=a.MM;have i:=a.ML;have j:=a.MK;have k:=a.Ly;have l:=a.Lx;have m:=a.lt;clear a;by_cases h:r.k3=0
 ·have d:(r.k3==0)=true:=by simp[h]
  go_enter On,ntmps164;go_wp2;go_ret;exact⟨dR (by simp[bJ,h]),UQ⟩
 ·have d:(r.k3==0)=false:=by simp[h]
  go_enter On,ntmps164;go_wp2_with (go_at_call 163;refine(fL _ _ _ _).mono ?_;rintro e c ⟨rfl,f⟩)
  go_ret;exact⟨dR (by simp[bJ,h]),NA UQ (f.mono SZ)⟩
theorem uP(b:Nat)(r:Rl)(x:Int)(w:MV)(a:ak w b r):Mo MT 164 #[MQ (N ⟨b,0,S⟩),Q I 4,Q I x] w λe c=>e=MZ (M0 (bJ r.k4 r.v4 r.m4 65535 x))/\Mb w.heap.size w c:=by
 have g:=a.MJ;have i:=a.MI;have j:=a.MH;have k:=a.Lw;have l:=a.Lv;have m:=a.lt;clear a;by_cases h:r.k4=0
 ·have d:(r.k4==0)=true:=by simp[h]
  go_enter On,ntmps164;go_wp2;go_ret;exact⟨dR (by simp[bJ,h]),UQ⟩
 ·have d:(r.k4==0)=false:=by simp[h]
  go_enter On,ntmps164;go_wp2_with (go_at_call 163;refine(fL _ _ _ _).mono ?_;rintro e c ⟨rfl,f⟩)
  go_ret;exact⟨dR (by simp[bJ,h]),NA UQ (f.mono SZ)⟩
def Rl.dX(r:Rl)(a b c d e:Int):Bool:=bJ r.k0 r.v0 r.m0 4294967295 a&&(bJ r.k1 r.v1 r.m1 4294967295 b&&(bJ r.k2 r.v2 r.m2 255 c&&(bJ r.k3 r.v3 r.m3 65535 d&&(bJ r.k4 r.v4 r.m4 65535 e))))
section
attribute [local go_sem] Gx Gw Gv Gu Gt
theorem qp(b:Nat)(r:Rl)(j l m n o:Int)(w:MV)(s:ak w b r):Mo MT 96 #[MQ (N ⟨b,0,S⟩),M1 #[Q I j,Q I l,Q I m,Q I n,Q I o]] w λe f=>e=MZ (M0 (r.dX j l m n o))/\Mb w.heap.size w f:=by
 have v:=s.lt;go_enter func96,ntmps96;go_wp2;go_loopw [8] (λi wr=>∃k:Nat,k<=5/\i=Q I k/\Mb w.heap.size w wr/\(0<k->bJ r.k0 r.v0 r.m0 4294967295 j=Mk)/\(1<k->bJ r.k1 r.v1 r.m1 4294967295 l=Mk)/\(2<k->bJ r.k2 r.v2 r.m2 255 m=Mk)/\(3<k->bJ r.k3 r.v3 r.m3 65535 n=Mk)/\(4<k->bJ r.k4 r.v4 r.m4 65535 o=Mk)) (λi _=>5- (N1 i).toNat)
 case atStart=>exact⟨0,O,rfl,UQ,O,O,O,O,O⟩
 case round=>
  obtain⟨k,x,rfl,a,g,p,t,u,y⟩:=hrel;have h:=s.aD a v;clear s;match k,x with
  |0,_=>
   go_wp2_with (go_at_call 164;refine(uT b r _ _ h).mono ?_;rintro e f ⟨rfl,c⟩;generalize d:bJ r.k0 r.v0 r.m0 4294967295 j=q at*;cases q)
   ·go_ret;exact⟨dR (by simp[Rl.dX, *]),a.trans (c.mono a.size)⟩
   ·go_roundw
    case rel=>exact⟨1,O,rfl,a.trans (c.mono a.size),λ_=>d,O,O,O,O⟩
    case measure=>simp[N1]
  |1,_=>
   go_wp2_with (go_at_call 164;refine(uS b r _ _ h).mono ?_;rintro e f ⟨rfl,c⟩;generalize d:bJ r.k1 r.v1 r.m1 4294967295 l=q at*;cases q)
   ·go_ret;exact⟨dR (by simp[Rl.dX, *]),a.trans (c.mono a.size)⟩
   ·go_roundw
    case rel=>exact⟨2,O,rfl,a.trans (c.mono a.size),λ_=>g O,λ_=>d,O,O,O⟩
    case measure=>simp[N1]
  |2,_=>
   go_wp2_with (go_at_call 164;refine(uR b r _ _ h).mono ?_;rintro e f ⟨rfl,c⟩;generalize d:bJ r.k2 r.v2 r.m2 255 m=q at*;cases q)
   ·go_ret;exact⟨dR (by simp[Rl.dX, *]),a.trans (c.mono a.size)⟩
   ·go_roundw
    case rel=>exact⟨3,O,rfl,a.trans (c.mono a.size),λ_=>g O,λ_=>p O,λ_=>d,O,O⟩
    case measure=>simp[N1]
  |3,_=>
   go_wp2_with (go_at_call 164;refine(uQ b r _ _ h).mono ?_;rintro e f ⟨rfl,c⟩;generalize d:bJ r.k3 r.v3 r.m3 65535 n=q at*;cases q)
   ·go_ret;exact⟨dR (by simp[Rl.dX, *]),a.trans (c.mono a.size)⟩
   ·go_roundw
    case rel=>exact⟨4,O,rfl,a.trans (c.mono a.size),λ_=>g O,λ_=>p O,λ_=>t O,λ_=>d,O⟩
    case measure=>simp[N1]
  |4,_=>
   go_wp2_with (go_at_call 164;refine(uP b r _ _ h).mono ?_;rintro e f ⟨rfl,c⟩;generalize d:bJ r.k4 r.v4 r.m4 65535 o=q at*;cases q)
   ·go_ret;exact⟨dR (by simp[Rl.dX, *]),a.trans (c.mono a.size)⟩
   ·go_roundw
    case rel=>exact⟨5,O,rfl,a.trans (c.mono a.size),λ_=>g O,λ_=>p O,λ_=>t O,λ_=>u O,λ_=>d⟩
    case measure=>simp[N1]
  |5,_=>
   go_wp2;go_ret;exact⟨dR (by simp[Rl.dX,g O,p O,t O,u O,y O]),a⟩
end
theorem A{p:Prop}(h:p):aA p:=h
abbrev af:=Nat×Rl
def mH(o:Option af):Value:=MQ (o.map λe=>⟨e.1,0,S⟩)
theorem nA(e:af):mH (N e)=MQ (N ⟨e.1,0,S⟩):=rfl
theorem nB:mH S=MQ none:=rfl
def Rl.al(a b:Rl):Bool:=M9 (kV a.pr a.id b.pr b.id<0)
def bR(w:MV)(v:Ma)(c:List af):Prop:=
 ∃(a:Option Addr) (f:Nat),v=MR a c.length f/\(∀i (h:i<c.length),∃b d,(a=N ⟨b,d,S⟩/\d=0)/\w.cell? ⟨b,d+i,S⟩=N (MQ (N ⟨c[i].1,0,S⟩)))/\∀e∈c,ak w e.1 e.2
def ea(c d f g h:Int)(a:Option af):List af->Option af
 |[]=>a
 |e::t=>if(a.any λb=>b.2.al e.2)then a else if e.2.dX c d f g h then N e else ea c d f g h a t
theorem bR.aD{d:List af}(h:bR w v d)(f:Mb B w c)(g:w.heap.size<=B):bR c v d:=by
 obtain⟨a,m,n,o,j⟩:=h;refine⟨a,m,n,λi q=>?_,λe k=>(j e k).aD f (Mi (j e k).lt g)⟩;obtain⟨b,l,r,h⟩:=o i q;exact⟨b,l,r,(f.cell (p:=⟨b,l+i,S⟩) (Mi (MO h) g)).trans h⟩
theorem jc(v:Ma)(b:List af)(g h j l m:Int)(J:Option af)(w:MV)(a6:bR w v b)(hn:b.length<=200)(U:∀e∈J,ak w e.1 e.2):Mo MT 47 #[v,M1 #[Q I g,Q I h,Q I j,Q I l,Q I m],mH J] w λe w'=>e=MZ (mH (ea g h j l m J b))/\Mb w.heap.size w w':=by
 obtain⟨a,b4,rfl,x,r⟩:=a6;cases J with
 |none=>
  rw[nB];go_enter TQ,ntmps47;go_wp2;go_loopw [11] (λi wr=>∃k:Nat,k<=b.length/\i=Q I k/\Mb w.heap.size w wr/\w.heap.size<wr.heap.size/\wr.cell? ⟨w.heap.size,0,S⟩=N (Q I g)/\wr.cell? ⟨w.heap.size,1,S⟩=N (Q I h)/\wr.cell? ⟨w.heap.size,2,S⟩=N (Q I j)/\wr.cell? ⟨w.heap.size,3,S⟩=N (Q I l)/\wr.cell? ⟨w.heap.size,4,S⟩=N (Q I m)/\ea g h j l m S (b.drop k)=ea g h j l m S b) (λi _=>b.length- (N1 i).toNat)
  case atStart=>exact⟨0,O,rfl,UQ,by simp,by simp,by simp,by simp,by simp,by simp,by simp⟩
  case round=>
   obtain⟨k,hk,rfl,c,K,L,M,P,R,T,B⟩:=hrel;have s:=A B;clear B;by_cases o:k<b.length
   ·obtain⟨C,D,⟨rfl,V⟩,u⟩:=x k o;clear V;have a9:wr.cell? ⟨C,D+k,S⟩=N (MQ (N ⟨b[k].1,0,S⟩)):=(c.cell (p:=⟨C,D+k,S⟩) (MO u)).trans u;have y:=(r b[k] (Ms o)).aD c (r b[k] (Ms o)).lt;have E:b.drop k=b[k]::b.drop (k+1):=Q9 o;generalize W:b[k]=f at*;have z:=A E;clear E W u x r;clear U;go_wp2_with fail
    refine(qp f.1 f.2 _ _ _ _ _ _ y).mono ?_;rintro e Y ⟨rfl,d⟩;generalize F:f.2.dX g h j l m=q at*;have G:=A F;clear F;cases q
    ·go_wp2;go_roundw
     case rel=>exact⟨k+1,O,by go_num,c.trans (d.mono c.size),Mi K d.size,MW d L,MW d M,MW d P,MW d R,MW d T,by rw[<-s.o,z.o];simp[ea,G.o]⟩
     case measure=>simp[N1];omega
    ·go_wp2;go_ret;refine⟨?_,c.trans (d.mono c.size)⟩;rw[<-s.o,z.o];simp[ea,G.o,mH]
   ·clear x r;go_wp2;go_ret;refine⟨?_,c⟩;rw[<-s.o,RP O];simp[ea,mH]
 |some t=>
  have Z:=U t rfl;rw[nA];go_enter TQ,ntmps47;go_wp2;go_loopw [11] (λi wr=>∃k:Nat,k<=b.length/\i=Q I k/\Mb w.heap.size w wr/\w.heap.size<wr.heap.size/\wr.cell? ⟨w.heap.size,0,S⟩=N (Q I g)/\wr.cell? ⟨w.heap.size,1,S⟩=N (Q I h)/\wr.cell? ⟨w.heap.size,2,S⟩=N (Q I j)/\wr.cell? ⟨w.heap.size,3,S⟩=N (Q I l)/\wr.cell? ⟨w.heap.size,4,S⟩=N (Q I m)/\ea g h j l m (N t) (b.drop k)=ea g h j l m (N t) b) (λi _=>b.length- (N1 i).toNat)
  case atStart=>exact⟨0,O,rfl,UQ,by simp,by simp,by simp,by simp,by simp,by simp,by simp⟩
  case round=>
   obtain⟨k,hk,rfl,c,K,L,M,P,R,T,B⟩:=hrel;have s:=A B;clear B;by_cases o:k<b.length
   ·obtain⟨C,D,⟨rfl,V⟩,u⟩:=x k o;clear V;have a9:wr.cell? ⟨C,D+k,S⟩=N (MQ (N ⟨b[k].1,0,S⟩)):=(c.cell (p:=⟨C,D+k,S⟩) (MO u)).trans u;have y:=(r b[k] (Ms o)).aD c (r b[k] (Ms o)).lt;have E:b.drop k=b[k]::b.drop (k+1):=Q9 o;generalize W:b[k]=f at*;have z:=A E;clear E W u x r;have a0:=Z.aD c Z.lt;clear U;go_wp2_with fail
    refine(o4 t.1 t.2 _ a0).mono ?_;rintro e w1 ⟨rfl,H⟩;go_wp2_with fail
    refine(o4 f.1 f.2 _ (y.aD H y.lt)).mono ?_;rintro e w2 ⟨rfl,X⟩;go_wp2_with fail
    refine(rE _ _ _ _ _).mono ?_;rintro e w3 ⟨rfl,a2⟩;have n:Mb wr.heap.size wr w3:=(H.trans (X.mono H.size)).trans (a2.mono (Mx H.size X.size));have b5:w.heap.size<w3.heap.size:=Mi K n.size;have d0:=MW n L;have d1:=MW n M;have d2:=MW n P;have d3:=MW n R;have d4:=MW n T;clear H X a2 w1 w2 a0;by_cases a3:kV t.2.pr t.2.id f.2.pr f.2.id<0
    ·go_wp2;go_ret;refine⟨?_,c.trans (n.mono c.size)⟩;rw[<-s.o,z.o];simp[ea,Rl.al,a3,mH]
    ·have a4:t.2.al f.2=false:=by simp only[Rl.al];exact decide_eq_false a3
     have HF:=A a4;clear a4;go_wp2_with fail
     refine(qp f.1 f.2 _ _ _ _ _ _ (y.aD n y.lt)).mono ?_;rintro e Y ⟨rfl,b2⟩;have d:Mb wr.heap.size wr Y:=n.trans (b2.mono n.size);generalize F:f.2.dX g h j l m=q at*;have G:=A F;clear F;cases q
     ·go_wp2;go_roundw
      case rel=>exact⟨k+1,O,by go_num,c.trans (d.mono c.size),Mi K d.size,MW d L,MW d M,MW d P,MW d R,MW d T,by rw[<-s.o,z.o];simp[ea,HF.o,G.o]⟩
      case measure=>simp[N1];omega
     ·go_wp2;go_ret;refine⟨?_,c.trans (d.mono c.size)⟩;rw[<-s.o,z.o];simp[ea,HF.o,G.o,mH]
   ·clear x r;go_wp2;go_ret;refine⟨?_,c⟩;rw[<-s.o,RP O];simp[ea,mH]
def Rl.lo(r:Rl)(f:Nat):Int:=match f with|0=>r.v0|1=>r.v1|2=>r.v2|3=>r.v3|_=>r.v4
def Rl.hi(r:Rl)(f:Nat):Int:=match f with|0=>eW r.k0 r.v0 r.m0 4294967295|1=>eW r.k1 r.v1 r.m1 4294967295|2=>eW r.k2 r.v2 r.m2 255|3=>eW r.k3 r.v3 r.m3 65535|_=>eW r.k4 r.v4 r.m4 65535
def eC(w:MV):Nat->Nat->List af->Prop
 |0,b,a=>∃v,bR w v a/\w.cell? ⟨b,0,S⟩=N v/\w.cell? ⟨b,3,S⟩=N (MQ S)
 |n+1,b,a=>(∃v,bR w v a/\w.cell? ⟨b,0,S⟩=N v/\w.cell? ⟨b,3,S⟩=N (MQ S))\/
   ∃(f:Nat) (c:Int) (d g:Nat),f<5/\w.cell? ⟨b,1,S⟩=N (Q I f)/\w.cell? ⟨b,2,S⟩=N (Q I c)/\w.cell? ⟨b,3,S⟩=N (MQ (N ⟨d,0,S⟩))/\w.cell? ⟨b,4,S⟩=N (MQ (N ⟨g,0,S⟩))/\
    eC w n d (a.filter λe=>M9 (e.2.lo f<=c))/\eC w n g (a.filter λe=>M9 (c<e.2.hi f))
theorem eC.aD{j:MV}(k:Mb B w j)(l:w.heap.size<=B):∀{n b:Nat} {g:List af},eC w n b g->eC j n b g:=by
 have a:∀{b i:Nat} {v:Ma},w.cell? ⟨b,i,S⟩=N v->j.cell? ⟨b,i,S⟩=N v:=λ{b i v} h=>
  (k.cell (p:=⟨b,i,S⟩) (Mi (MO h) l)).trans h
 intro n;induction n with
 |zero=>rintro b g ⟨v,c,d,e⟩;exact⟨v,c.aD k l,a d,a e⟩
 |succ n m=>
  rintro b g (⟨v,c,d,e⟩|⟨f,o,q,r,s,c,d,e,t,u,x⟩)
  ·exact Mf ⟨v,c.aD k l,a d,a e⟩
  ·exact MX ⟨f,o,q,r,s,a c,a d,a e,a t,m u,m x⟩
def uY(a b c d e:Int)(f:Nat):Int:=match f with|0=>a|1=>b|2=>c|3=>d|_=>e
def Rl.AM(r:Rl)(x:Nat->Int):Prop:=∀f,f<5->r.lo f<=x f/\x f<=r.hi f
def kX(w:MV)(x:Nat->Int)(v:Ma):Nat->Nat->Prop
 |0,b=>w.cell? ⟨b,0,S⟩=N v/\w.cell? ⟨b,3,S⟩=N (MQ S)
 |n+1,b=>(w.cell? ⟨b,0,S⟩=N v/\w.cell? ⟨b,3,S⟩=N (MQ S))\/
   ∃(f:Nat) (a:Int) (c d:Nat),f<5/\w.cell? ⟨b,1,S⟩=N (Q I f)/\w.cell? ⟨b,2,S⟩=N (Q I a)/\w.cell? ⟨b,3,S⟩=N (MQ (N ⟨c,0,S⟩))/\w.cell? ⟨b,4,S⟩=N (MQ (N ⟨d,0,S⟩))/\
    ((x f<=a/\kX w x v n c)\/(a<x f/\kX w x v n d))
theorem kX.aD{g:MV}{x:Nat->Int}(l:Mb B w g)(m:w.heap.size<=B):∀{n b:Nat},kX w x v n b->kX g x v n b:=by
 have a:∀{b i:Nat} {v:Ma},w.cell? ⟨b,i,S⟩=N v->g.cell? ⟨b,i,S⟩=N v:=λ{b i v} h=>
  (l.cell (p:=⟨b,i,S⟩) (Mi (MO h) m)).trans h
 intro n;induction n with
 |zero=>rintro b ⟨c,d⟩;exact⟨a c,a d⟩
 |succ n k=>
  rintro b (⟨c,d⟩|⟨f,o,q,r,s,t,c,d,u,e⟩)
  ·exact Mf ⟨a c,a d⟩
  ·refine MX ⟨f,o,q,r,s,a t,a c,a d,a u,?_⟩;rcases e with⟨e,j⟩|⟨e,j⟩
   ·exact Mf ⟨e,k j⟩
   ·exact MX ⟨e,k j⟩
theorem kX.Ki{x:Nat->Int}(h:kX w x v n b):(w.cell? ⟨b,0,S⟩=N v/\w.cell? ⟨b,3,S⟩=N (MQ S))\/∃(e f:Nat) (a:Int) (c d:Nat),n=e+1/\f<5/\w.cell? ⟨b,1,S⟩=N (Q I f)/\w.cell? ⟨b,2,S⟩=N (Q I a)/\w.cell? ⟨b,3,S⟩=N (MQ (N ⟨c,0,S⟩))/\w.cell? ⟨b,4,S⟩=N (MQ (N ⟨d,0,S⟩))/\((x f<=a/\kX w x v e c)\/(a<x f/\kX w x v e d)):=by
 cases n with
 |zero=>exact Mf h
 |succ n=>
  rcases h with h|⟨f,a,c,d,h⟩
  ·exact Mf h
  ·exact MX ⟨n,f,a,c,d,rfl,h⟩
theorem eC.leaf(x:Nat->Int):∀{n b:Nat} {a:List af},eC w n b a->∃v c,kX w x v n b/\bR w v c/\c.Sublist a/\∀e∈a,e.2.AM x->e∈c:=by
 intro n;induction n with
 |zero=>
  rintro b a ⟨v,d,g,i⟩;exact⟨v,a,⟨g,i⟩,d,List.Sublist.refl _,λ_ h _=>h⟩
 |succ n s=>
  rintro b a (⟨v,d,g,i⟩|⟨f,l,t,u,k,d,g,i,y,B,C⟩)
  ·exact⟨v,a,Mf ⟨g,i⟩,d,List.Sublist.refl _,λ_ h _=>h⟩
  ·by_cases z:x f<=l
   ·obtain⟨v,c,m,o,p,q⟩:=s B;refine⟨v,c,MX ⟨f,l,t,u,k,d,g,i,y,Mf ⟨z,m⟩⟩,o,p.trans Rs,λe r j=>q e ?_ j⟩;simp only[Nc,decide_eq_true_eq];exact⟨r,Int.le_trans (j f k).1 z⟩
   ·obtain⟨v,c,m,o,p,q⟩:=s C;refine⟨v,c,MX ⟨f,l,t,u,k,d,g,i,y,MX ⟨O,m⟩⟩,o,p.trans Rs,λe r j=>q e ?_ j⟩;simp only[Nc,decide_eq_true_eq];exact⟨r,by have:=(j f k).2;omega⟩
theorem kh(i:Nat)(x:Nat->Int)(w:MV)(p:∀f,f<5->w.cell? ⟨i,f,S⟩=N (Q I (x f)))(j c:Nat)(a:Option Addr)(d g:Nat)(k:kX w x (MR a d g) j c):Mo MT 46 #[MQ (N ⟨c,0,S⟩),MR (N ⟨i,0,S⟩) 5 5] w λe q=>e=MZ (MR a d g)/\Mb w.heap.size w q:=by
 go_enter func46,ntmps46;go_wp2;go_loopg [0] j (λn t wr=>∃(b:Nat),t=MQ (N ⟨b,0,S⟩)/\kX w x (MR a d g) n b/\∃m,wr=w.drewN m)
 case atStart=>exact⟨c,rfl,k,0,rfl⟩
 case round=>
  obtain⟨b,rfl,l,m,rfl⟩:=hrel;have r:=l.Ki;clear l k;rcases r with⟨C,s⟩|⟨u,f,D,E,F,o,v,G,H,s,J,⟨y,h⟩|⟨y,h⟩⟩
  ·go_wp2;go_ret;exact⟨rfl,UQ⟩
  all_goals
   have z:=A h;have B:=A o;clear h o;have K:=p f v;have L:(f:Int)<5:=O;go_wp2;go_quiet (fail)
   go_wp2;go_roundg u
   case measure=>have:=B.o;omega
   case rel=>exact⟨_,rfl,z.o,_,rfl⟩
theorem je(n:Nat)(h:n<9223372036854775808):IntKind.i64.wrap (n:Int)=n:=by
 rw[IntKind.wrap_i64];omega
theorem gx(a b:Nat)(c:a<9223372036854775808)(d:b<9223372036854775808):Oa .and I (a:Int) (b:Int)=((a&&&b:Nat):Int):=by
 have e:a&&&b<2^63:=Nat.and_lt_two_pow _ O;show IntKind.i64.wrap ((PN 64 (a:Int)&&&PN 64 (b:Int)).toNat:Int)=_;rw[SD,QX a O,QX b O,je _ O]
theorem ik(a b:Nat)(c:a<9223372036854775808)(d:b<9223372036854775808):Oa .or I (a:Int) (b:Int)=((a|||b:Nat):Int):=by
 have e:a|||b<2^63:=Nat.or_lt_two_pow O O;show IntKind.i64.wrap ((PN 64 (a:Int)|||PN 64 (b:Int)).toNat:Int)=_;rw[BitVec.toNat_or,QX a O,QX b O,je _ O]
theorem iN(a b:Nat)(c:a<9223372036854775808)(d:b<9223372036854775808):Oa .andNot I (a:Int) (b:Int)=((a&&&(18446744073709551615-b):Nat):Int):=by
 have f:a&&&(18446744073709551615-b)<2^63:=Nat.lt_of_le_of_lt Qy O;show IntKind.i64.wrap ((PN 64 (a:Int)&&&~~~PN 64 (b:Int)).toNat:Int)=_;rw[SD,BitVec.toNat_not,QX a O,QX b O];have e:2^64-1-b=18446744073709551615-b:=O;rw[e,je _ O]
theorem Ga(n a m:Nat)(l:n<=32)(d:a<2^n)(f:m<2^n):a<=(a&&&m)|||((2^n-1)&&&(18446744073709551615-m)):=by
 have g:m<2^64:=Mi f (QB O O);have e:18446744073709551615-m=2^64- (m+1):=O;have h:a&&&((a&&&m)|||((2^n-1)&&&(18446744073709551615-m)))=a:=by
  apply Nat.eq_of_testBit_eq;intro i;rw[e];simp only[Nat.testBit_and,Nat.testBit_or,Nat.testBit_two_pow_sub_one,Nat.testBit_two_pow_sub_succ g];cases b:a.testBit i
  ·simp
  ·have j:i<n:=by
    apply Classical.byContradiction;intro o;have:=Nat.testBit_lt_two_pow (x:=a) (i:=i) (Mi d (QB O O));rw[this]at b;cases b
   have k:i<64:=O;cases m.testBit i<;>simp[j,k]
 have c:=Nat.and_le_right (n:=a) (m:=(a&&&m)|||((2^n-1)&&&(18446744073709551615-m)));rw[h]at c;exact c
theorem lY(n:Nat)(d:n<=32)(k v m x:Int)(a:Nat)(i:a=2^n-1)(e:bD 0 a x=Mk)(f:dM k v m 0 a=Mk)(b:bJ k v m a x=Mk):v<=x/\x<=eW k v m a:=by
 rw[aw]at e;simp only[dM,NH]at f;obtain⟨j,g,l⟩:=f;rw[aw]at j g;have o:(2:Nat)^n<=4294967296:=Mx (QB O d) US;have p:0<(2:Nat)^n:=Nat.pow_pos O;by_cases c:k=0
 ·simp only[bJ,c,if_true,beq_iff_eq]at b;simp only[eW,c,vL];rw[if_neg O];obtain⟨X,rfl⟩:=P5 e.1;obtain⟨M,rfl⟩:=P5 g.1;rw[gx X M O O]at b;rw[<-b,iN a M O O];have q:X&&&M<=X:=Qy;have r:a&&&(18446744073709551615-M)<=a:=Qy;rw[ik _ _ O O,i];have:=Ga n X M d O O;omega
 ·by_cases h:k=1
  ·subst h;simp[bJ,eW]at b⊢;exact aw.1 b
  ·simp[c,h]at l
theorem mi{v a:Int}(h:a=4294967295\/a=255\/a=65535)(b:bD 0 a x=Mk)(c:dM k v m 0 a=Mk)(d:bJ k v m a x=Mk):v<=x/\x<=eW k v m a:=by
 rcases h with rfl|rfl|rfl
 ·exact lY 32 O k v m x 4294967295 US b c d
 ·exact lY 8 O k v m x 255 US b c d
 ·exact lY 16 O k v m x 65535 US b c d
theorem Rl.gq{r:Rl}{a b c e:Int}(g:iE a b c d e=Mk)(h:r.ok=Mk)(i:r.dX a b c d e=Mk):r.AM (uY a b c d e):=by
 simp only[iE,NH]at g;simp only[Rl.ok,fM,NH]at h;simp only[Rl.dX,NH]at i;obtain⟨j,k,l,m,n⟩:=g;obtain⟨_,_,_,o,p,q,s,t,_⟩:=h;obtain⟨u,v,w,x,y⟩:=i;intro f z;match f,z with
 |0,_=>exact mi (by simp) j o u
 |1,_=>exact mi (by simp) k p v
 |2,_=>exact mi (by simp) l q w
 |3,_=>exact mi (by simp) m s x
 |4,_=>exact mi (by simp) n t y
theorem Rl.cU{a b:Rl}:a.al b=Mk↔b.pr<a.pr\/(a.pr=b.pr/\a.id<b.id):=by
 unfold Rl.al kV d9;rw[decide_eq_true_eq];by_cases d:a.pr=b.pr
 ·rw[if_pos d];by_cases c:a.id<b.id
  ·rw[if_pos c];exact⟨λ_=>MX ⟨d,c⟩,λ_=>O⟩
  ·rw[if_neg c];refine⟨λh=>?_,λh=>O⟩;split at h<;>omega
 ·rw[if_neg d];by_cases c:b.pr<a.pr
  ·rw[if_pos c];exact⟨λ_=>Mf c,λ_=>O⟩
  ·rw[if_neg c];refine⟨λh=>?_,λh=>O⟩;split at h<;>omega
theorem Rl.dj(a:Rl):a.al a=false:=by
 rw[<-NB,Rl.cU];omega
theorem Rl.fh{a b:Rl}(h:a.al b=Mk):b.al a=false:=by
 rw[<-NB,Rl.cU];rw[Rl.cU]at h;omega
theorem Rl.lF{a b c:Rl}(h:a.al b=Mk)(k:b.al c=Mk):a.al c=true:=by
 rw[Rl.cU]at*;omega
theorem Rl.AQ{a b c:Rl}(h:a.al b=Md)(k:b.al c=Md):a.al c=false:=by
 rw[<-NB,Rl.cU]at*;omega
def iT(a:af->Prop)(b c d f g:Int):Option af->Prop
 |none=>∀e,a e->e.2.dX b c d f g=Md
 |some r=>a r/\r.2.dX b c d f g=Mk/\∀e,a e->e.2.dX b c d f g=Mk->e.2.al r.2=Md
abbrev cC(l:List af):Prop:=l.Pairwise λa b=>a.2.al b.2=Mk
theorem iT.Kf{p:af->Prop}{l:Int}{n:Option af}(h:iT p i j k l m n):∀{bs:List af},cC bs->iT (λe=>p e\/e∈bs) i j k l m (ea i j k l m n bs)
 |[],_=>by
  have e:(λe=>p e\/e∈([]:List af))=p:=by funext e;simp
  rw[e];exact h
 |e::t,q=>by
  have s:∀{c:af},c∈t->e.2.al c.2=true:=λ{c} h=>(PJ.1 q).1 c h;have v:=(PJ.1 q).2;unfold ea;by_cases d:(n.any λb=>b.2.al e.2)=Mk
  ·rw[if_pos d];cases n with
   |none=>simp at d
   |some b=>
    simp only[SI]at d;refine⟨Mf h.1,h.2.1,λc a o=>?_⟩;rcases a with a|a
    ·exact h.2.2 c a o
    ·rcases Nk.1 a with rfl|a
     ·exact Rl.fh d
     ·exact Rl.fh (Rl.lF d (s a))
  ·rw[if_neg d];by_cases o:e.2.dX i j k l m=Mk
   ·rw[if_pos o];refine⟨MX (by simp),o,λc a f=>?_⟩;rcases a with a|a
    ·cases n with
     |none=>have:=h c a;rw[this]at f;cases f
     |some b=>
      simp only[SI,NB]at d;exact Rl.AQ (h.2.2 c a f) d
    ·rcases Nk.1 a with rfl|a
     ·exact Rl.dj _
     ·exact Rl.fh (s a)
   ·rw[if_neg o];have g:=iT.Kf h v;generalize ea i j k l m n t=w at g;have u:e.2.dX i j k l m=false:=by simpa using o
    cases w with
    |none=>
     intro c a;rcases a with a|a
     ·exact g c (Mf a)
     ·rcases Nk.1 a with rfl|a
      ·exact u
      ·exact g c (MX a)
    |some r=>
     refine⟨g.1.imp id (λh=>List.mem_cons_of_mem _ h),g.2.1,λc a f=>?_⟩;rcases a with a|a
     ·exact g.2.2 c (Mf a) f
     ·rcases Nk.1 a with rfl|a
      ·rw[u]at f;cases f
      ·exact g.2.2 c (MX a) f
theorem iT.nL{n:af->Prop}{f g:Int}{m:Option af}(h:iT n d f g i j m){l k:List af}(q:cC l)(o:k.Sublist l)(p:∀e∈l,e.2.dX d f g i j=Mk->e∈k):iT (λe=>n e\/e∈l) d f g i j (ea d f g i j m k):=by
 have b:=h.Kf (bs:=k) (q.sublist o);generalize ea d f g i j m k=s at b;cases s with
 |none=>
  intro e a;rcases a with a|a
  ·exact b e (Mf a)
  ·cases c:e.2.dX d f g i j
   ·rfl
   ·have:=b e (MX (p e a c));rw[this]at c;cases c
 |some r=>
  refine⟨b.1.imp id (λh=>o.subset h),b.2.1,λe a c=>?_⟩;rcases a with a|a
  ·exact b.2.2 e (Mf a) c
  ·exact b.2.2 e (MX (p e a c)) c
end Go.Proofs.YtnjalelblbjfiaaGreatDoor
