import Derived.Test.YtnjalelblbjfiaaGreatDoorP1
import Derived.Deep.AppendLies
namespace Go.Proofs.YtnjalelblbjfiaaGreatDoor
set_option maxRecDepth 100000
set_option maxHeartbeats 16000000
open Go.RowKit
open Go.Proofs.Tryz
open Go.Sort (grow)
open Go renaming Addr→Oz,World→MV,block_lt_of_cell→MO,redrawn→NK,below_regrown→NP,wp_region_quiet_below→Mg,wpQuiet_nil→M3,TypeId→NL,Value→Ma,wpList_append_lies→OC,cell_one_new→Ql,wpList_load_mid→Sb
open Go.Calls renaming regrown_of→Ml
open Go.Instr renaming index→Nb
open Go.IntKind renaming i64→I
open Go.Proofs.Tryz renaming prog→MT
open Go.RowKit renaming Below→Mb,intOf→N1
open Go.RowKit.Below renaming refl→MU,trans→NA,setCell→Me
open Go.Value renaming agg→M1,pointer→MQ,int→Q,slice→MR,oneCell'→NC
open Nat renaming le_refl→MP,le_trans→Mx,lt_of_lt_of_le→Mi,zero_add→NO,lt_succ_self→Ol
open Option renaming none→S,some→N
open Or renaming inl→Mf,inr→MX
open Go.World renaming ownsRow_nil→Qg,cell?_alloc_new→Uj
open List renaming filter_append→SC,length_filter_le→OX,getElem_mem→Ms,append_nil→OY,mem_filter→Nc
variable {a w wq:MV}{u v:Ma}{e:NL}{B b c d f g i k n:Nat}{x:Nat->Int}{o:Obj}{r:Rl}
section
theorem Lc(a b c d e f:Option Oz)(w:MV):(Nb 104 (M1 #[MQ a,MQ b,MQ c,MQ d,MQ e,MQ f]) (Q I 0)).run MT w=.ok (MQ a) w:=UR
theorem Lb(b a c d e f:Option Oz)(w:MV):(Nb 104 (M1 #[MQ b,MQ a,MQ c,MQ d,MQ e,MQ f]) (Q I 1)).run MT w=.ok (MQ a) w:=UR
theorem La(b c a d e f:Option Oz)(w:MV):(Nb 104 (M1 #[MQ b,MQ c,MQ a,MQ d,MQ e,MQ f]) (Q I 2)).run MT w=.ok (MQ a) w:=UR
theorem LZ(b c d a e f:Option Oz)(w:MV):(Nb 104 (M1 #[MQ b,MQ c,MQ d,MQ a,MQ e,MQ f]) (Q I 3)).run MT w=.ok (MQ a) w:=UR
theorem LY(b c d e a f:Option Oz)(w:MV):(Nb 104 (M1 #[MQ b,MQ c,MQ d,MQ e,MQ a,MQ f]) (Q I 4)).run MT w=.ok (MQ a) w:=UR
theorem LX(b c d e f a:Option Oz)(w:MV):(Nb 104 (M1 #[MQ b,MQ c,MQ d,MQ e,MQ f,MQ a]) (Q I 5)).run MT w=.ok (MQ a) w:=UR
def rI(w:MV)(b:Nat)(x:Nat->Int):Prop:=∀f,f<5->w.cell? ⟨b,f,S⟩=N (Q I (x f))
theorem rI.aD(h:rI w b x)(c:Mb B w a)(d:b<B):rI a b x:=λf e=>(c.cell (p:=⟨b,f,S⟩) d).trans (h f e)
theorem rI.lt(h:rI w b x):b<w.heap.size:=MO (h 0 O)
theorem rI.my(h:rI w b x)(d:Nat)(a:Array Obj):rI (grow (NK w d) a) b x:=h.aD (NP w d a) h.lt
theorem rI.ud{a c d e f:Int}(h:rI w b (uY a c d e f)):w.cell? ⟨b,0,S⟩=N (Q I a)/\w.cell? ⟨b,1,S⟩=N (Q I c)/\w.cell? ⟨b,2,S⟩=N (Q I d)/\w.cell? ⟨b,3,S⟩=N (Q I e)/\w.cell? ⟨b,4,S⟩=N (Q I f):=
 ⟨h 0 O,h 1 O,h 2 O,h 3 O,h 4 O⟩
theorem fo(o:Option af):∃a,mH o=MQ a:=⟨_,rfl⟩
theorem iT.rm{a b:af->Prop}{c d f g i:Int}{j:Option af}(k:∀e,a e↔b e)(h:iT a c d f g i j):iT b c d f g i j:=by
 have e:a=b:=funext λe=>propext (k e);rw[<-e];exact h
theorem gi(a b c f g:Int){i:Option af}{e:af}:∀{j:List af},e∈ea a b c f g i j->e∈i\/e∈j
 |[],h=>Mf h
 |d::t,h=>by
  unfold ea at h;split at h
  ·exact Mf h
  ·split at h
   ·cases h;exact MX (by simp)
   ·exact(gi a b c f g h).imp id (List.mem_cons_of_mem _)
attribute [local go_sem] Lc Lb La LZ LY LX aI
theorem Ht(t:Nat)(y z B C D:Int)(w:MV)(hl:cP w)(hk:iE y z B C D=true)(tb:Nat->Nat)(E:Nat->List af)(hc:∀h,h<6->w.cell? ⟨t,2+h,S⟩=N (MQ (N ⟨tb h,0,S⟩)))(n:∀h,h<6->eC w 12 (tb h) (E h)/\cC (E h)/\(E h).length<=200/\∀e∈E h,ak w e.1 e.2/\e.2.ok=true):Calls MT 16 #[MQ (N ⟨t,0,S⟩),M1 #[Q I y,Q I z,Q I B,Q I C,Q I D]] w λe w'=>∃c6,iT (λe=>∃h,h<6/\e∈E h) y z B C D c6/\e=.returned (.tuple #[Q I (match c6 with|some r=>r.2.id|none=>0),Q I (match c6 with|some _=>0|none=>7)])/\Mb w.heap.size w w':=by
 have c0:=hc 0 O;have c1:=hc 1 O;have c2:=hc 2 O;have c3:=hc 3 O;have c4:=hc 4 O;have c5:=hc 5 O;have d5:=MO c0;simp only[Nat.add_zero,Nat.reduceAdd]at c0 c1 c2 c3 c4 c5 d5;clear hc;go_enter func16,ntmps16;go_wp2_with fail
 refine(vI _ _ _ _ _ _ (hl.aD ((MU _ _).alloc (MP _) _) hl.uE)).mono ?_;rintro e w1 ⟨rfl,a4⟩;rw[hk];have c8:rI w1 w.heap.size (uY y z B C D):=rI.aD (λf hf=>by match f,hf with|0,_=>simp[uY]|1,_=>simp[uY]|2,_=>simp[uY]|3,_=>simp[uY]|4,_=>simp[uY]) a4 (by simp);obtain⟨e1,e2⟩:=aW a4;have e3:=a4.size;go_wp2_with fail
 go_loopw [6,16] (λp i wr=>∃(k:Nat) (F:Option af),k<=6/\i=Q I k/\p=mH F/\Mb w.heap.size w wr/\rI wr w.heap.size (uY y z B C D)/\iT (λe=>∃h,h<k/\e∈E h) y z B C D F/\∀e∈F,ak w e.1 e.2) (λ_ i _=>6- (N1 i).toNat)
 case atStart=>exact⟨0,S,O,rfl,rfl,NA UQ (a4.mono SZ),c8,λe h=>absurd h.choose_spec.1 O,λe h=>by cases h⟩
 case round=>
  obtain⟨k,F,e4,rfl,rfl,m,q,P,o⟩:=hrel;clear hl a4 e1 e2 e3 c8;match k,e4 with
  |0,_=>
   obtain⟨v,c,G,s,u,H⟩:=(n 0 O).1.leaf (uY y z B C D);obtain⟨a,x,J,K,L⟩:=s;have s:bR w (MR a c.length x) c:=⟨a,x,rfl,K,L⟩;rw[J]at G;have U:c.length<=200:=Mx u.length_le (n 0 O).2.2.1;have V:=A (λd g=>kh w.heap.size (uY y z B C D) (grow (NK wr d) g) (q.my d g) 12 (tb 0) a c.length x ((G.aD m (MP _)).aD (NP wr d g) (MP _)));have W:=A (λd g=>jc (MR a c.length x) c y z B C D F (grow (NK wr d) g) ((s.aD m (MP _)).aD (NP wr d g) (MP _)) U (λe b=>((o e b).aD m (o e b).lt).aD (NP wr d g) (Mi (o e b).lt m.size)));have R:=A (P.nL (n 0 O).2.1 u (λe b X=>H e b (Rl.gq hk ((n 0 O).2.2.2 e b).2 X)));have Y:=A (λe (b:e∈c)=>((n 0 O).2.2.2 e (u.subset b)).1);obtain⟨g0,g1,g2,g3,g4⟩:=q.ud;have b0:=q.lt;have T:=A o;clear G s K L J n H u P o;generalize M:mH F=pb at*;obtain⟨pa,Z⟩:=fo F;rw[Z]at M;subst M;go_wp2_with fail
   refine Mg UR UR ?_
   repeat(quiet_step (first|exact Ml (V.o _ _)|exact Ml (W.o _ _)))
   refine M3 ?_;intro wq l;replace l:=aE l;obtain⟨b4,b5⟩:=aW l;have b6:=l.size;go_wp2;go_roundw
   case rel=>exact⟨1,_,O,rfl,rfl,m.trans (l.mono m.size),q.aD l q.lt,iT.rm (λe=>⟨λh=>h.elim (λ⟨j,hj,b⟩=>⟨j,O,b⟩) (λb=>⟨0,O,b⟩),λ⟨j,hj,b⟩=>if h:j=0 then MX (h▸b)else Mf ⟨j,O,b⟩⟩) R.o,λe b=>(gi _ _ _ _ _ b).elim (λh=>T.o e h) (λh=>Y.o e h)⟩
   case measure=>simp[N1]
  |1,_=>
   obtain⟨v,c,G,s,u,H⟩:=(n 1 O).1.leaf (uY y z B C D);obtain⟨a,x,J,K,L⟩:=s;have s:bR w (MR a c.length x) c:=⟨a,x,rfl,K,L⟩;rw[J]at G;have U:c.length<=200:=Mx u.length_le (n 1 O).2.2.1;have V:=A (λd g=>kh w.heap.size (uY y z B C D) (grow (NK wr d) g) (q.my d g) 12 (tb 1) a c.length x ((G.aD m (MP _)).aD (NP wr d g) (MP _)));have W:=A (λd g=>jc (MR a c.length x) c y z B C D F (grow (NK wr d) g) ((s.aD m (MP _)).aD (NP wr d g) (MP _)) U (λe b=>((o e b).aD m (o e b).lt).aD (NP wr d g) (Mi (o e b).lt m.size)));have R:=A (P.nL (n 1 O).2.1 u (λe b X=>H e b (Rl.gq hk ((n 1 O).2.2.2 e b).2 X)));have Y:=A (λe (b:e∈c)=>((n 1 O).2.2.2 e (u.subset b)).1);obtain⟨g0,g1,g2,g3,g4⟩:=q.ud;have b0:=q.lt;have T:=A o;clear G s K L J n H u P o;generalize M:mH F=pb at*;obtain⟨pa,Z⟩:=fo F;rw[Z]at M;subst M;go_wp2_with fail
   refine Mg UR UR ?_
   repeat(quiet_step (first|exact Ml (V.o _ _)|exact Ml (W.o _ _)))
   refine M3 ?_;intro wq l;replace l:=aE l;obtain⟨b4,b5⟩:=aW l;have b6:=l.size;go_wp2;go_roundw
   case rel=>exact⟨2,_,O,rfl,rfl,m.trans (l.mono m.size),q.aD l q.lt,iT.rm (λe=>⟨λh=>h.elim (λ⟨j,hj,b⟩=>⟨j,O,b⟩) (λb=>⟨1,O,b⟩),λ⟨j,hj,b⟩=>if h:j=1 then MX (h▸b)else Mf ⟨j,O,b⟩⟩) R.o,λe b=>(gi _ _ _ _ _ b).elim (λh=>T.o e h) (λh=>Y.o e h)⟩
   case measure=>simp[N1]
  |2,_=>
   obtain⟨v,c,G,s,u,H⟩:=(n 2 O).1.leaf (uY y z B C D);obtain⟨a,x,J,K,L⟩:=s;have s:bR w (MR a c.length x) c:=⟨a,x,rfl,K,L⟩;rw[J]at G;have U:c.length<=200:=Mx u.length_le (n 2 O).2.2.1;have V:=A (λd g=>kh w.heap.size (uY y z B C D) (grow (NK wr d) g) (q.my d g) 12 (tb 2) a c.length x ((G.aD m (MP _)).aD (NP wr d g) (MP _)));have W:=A (λd g=>jc (MR a c.length x) c y z B C D F (grow (NK wr d) g) ((s.aD m (MP _)).aD (NP wr d g) (MP _)) U (λe b=>((o e b).aD m (o e b).lt).aD (NP wr d g) (Mi (o e b).lt m.size)));have R:=A (P.nL (n 2 O).2.1 u (λe b X=>H e b (Rl.gq hk ((n 2 O).2.2.2 e b).2 X)));have Y:=A (λe (b:e∈c)=>((n 2 O).2.2.2 e (u.subset b)).1);obtain⟨g0,g1,g2,g3,g4⟩:=q.ud;have b0:=q.lt;have T:=A o;clear G s K L J n H u P o;generalize M:mH F=pb at*;obtain⟨pa,Z⟩:=fo F;rw[Z]at M;subst M;go_wp2_with fail
   refine Mg UR UR ?_
   repeat(quiet_step (first|exact Ml (V.o _ _)|exact Ml (W.o _ _)))
   refine M3 ?_;intro wq l;replace l:=aE l;obtain⟨b4,b5⟩:=aW l;have b6:=l.size;go_wp2;go_roundw
   case rel=>exact⟨3,_,O,rfl,rfl,m.trans (l.mono m.size),q.aD l q.lt,iT.rm (λe=>⟨λh=>h.elim (λ⟨j,hj,b⟩=>⟨j,O,b⟩) (λb=>⟨2,O,b⟩),λ⟨j,hj,b⟩=>if h:j=2 then MX (h▸b)else Mf ⟨j,O,b⟩⟩) R.o,λe b=>(gi _ _ _ _ _ b).elim (λh=>T.o e h) (λh=>Y.o e h)⟩
   case measure=>simp[N1]
  |3,_=>
   obtain⟨v,c,G,s,u,H⟩:=(n 3 O).1.leaf (uY y z B C D);obtain⟨a,x,J,K,L⟩:=s;have s:bR w (MR a c.length x) c:=⟨a,x,rfl,K,L⟩;rw[J]at G;have U:c.length<=200:=Mx u.length_le (n 3 O).2.2.1;have V:=A (λd g=>kh w.heap.size (uY y z B C D) (grow (NK wr d) g) (q.my d g) 12 (tb 3) a c.length x ((G.aD m (MP _)).aD (NP wr d g) (MP _)));have W:=A (λd g=>jc (MR a c.length x) c y z B C D F (grow (NK wr d) g) ((s.aD m (MP _)).aD (NP wr d g) (MP _)) U (λe b=>((o e b).aD m (o e b).lt).aD (NP wr d g) (Mi (o e b).lt m.size)));have R:=A (P.nL (n 3 O).2.1 u (λe b X=>H e b (Rl.gq hk ((n 3 O).2.2.2 e b).2 X)));have Y:=A (λe (b:e∈c)=>((n 3 O).2.2.2 e (u.subset b)).1);obtain⟨g0,g1,g2,g3,g4⟩:=q.ud;have b0:=q.lt;have T:=A o;clear G s K L J n H u P o;generalize M:mH F=pb at*;obtain⟨pa,Z⟩:=fo F;rw[Z]at M;subst M;go_wp2_with fail
   refine Mg UR UR ?_
   repeat(quiet_step (first|exact Ml (V.o _ _)|exact Ml (W.o _ _)))
   refine M3 ?_;intro wq l;replace l:=aE l;obtain⟨b4,b5⟩:=aW l;have b6:=l.size;go_wp2;go_roundw
   case rel=>exact⟨4,_,O,rfl,rfl,m.trans (l.mono m.size),q.aD l q.lt,iT.rm (λe=>⟨λh=>h.elim (λ⟨j,hj,b⟩=>⟨j,O,b⟩) (λb=>⟨3,O,b⟩),λ⟨j,hj,b⟩=>if h:j=3 then MX (h▸b)else Mf ⟨j,O,b⟩⟩) R.o,λe b=>(gi _ _ _ _ _ b).elim (λh=>T.o e h) (λh=>Y.o e h)⟩
   case measure=>simp[N1]
  |4,_=>
   obtain⟨v,c,G,s,u,H⟩:=(n 4 O).1.leaf (uY y z B C D);obtain⟨a,x,J,K,L⟩:=s;have s:bR w (MR a c.length x) c:=⟨a,x,rfl,K,L⟩;rw[J]at G;have U:c.length<=200:=Mx u.length_le (n 4 O).2.2.1;have V:=A (λd g=>kh w.heap.size (uY y z B C D) (grow (NK wr d) g) (q.my d g) 12 (tb 4) a c.length x ((G.aD m (MP _)).aD (NP wr d g) (MP _)));have W:=A (λd g=>jc (MR a c.length x) c y z B C D F (grow (NK wr d) g) ((s.aD m (MP _)).aD (NP wr d g) (MP _)) U (λe b=>((o e b).aD m (o e b).lt).aD (NP wr d g) (Mi (o e b).lt m.size)));have R:=A (P.nL (n 4 O).2.1 u (λe b X=>H e b (Rl.gq hk ((n 4 O).2.2.2 e b).2 X)));have Y:=A (λe (b:e∈c)=>((n 4 O).2.2.2 e (u.subset b)).1);obtain⟨g0,g1,g2,g3,g4⟩:=q.ud;have b0:=q.lt;have T:=A o;clear G s K L J n H u P o;generalize M:mH F=pb at*;obtain⟨pa,Z⟩:=fo F;rw[Z]at M;subst M;go_wp2_with fail
   refine Mg UR UR ?_
   repeat(quiet_step (first|exact Ml (V.o _ _)|exact Ml (W.o _ _)))
   refine M3 ?_;intro wq l;replace l:=aE l;obtain⟨b4,b5⟩:=aW l;have b6:=l.size;go_wp2;go_roundw
   case rel=>exact⟨5,_,O,rfl,rfl,m.trans (l.mono m.size),q.aD l q.lt,iT.rm (λe=>⟨λh=>h.elim (λ⟨j,hj,b⟩=>⟨j,O,b⟩) (λb=>⟨4,O,b⟩),λ⟨j,hj,b⟩=>if h:j=4 then MX (h▸b)else Mf ⟨j,O,b⟩⟩) R.o,λe b=>(gi _ _ _ _ _ b).elim (λh=>T.o e h) (λh=>Y.o e h)⟩
   case measure=>simp[N1]
  |5,_=>
   obtain⟨v,c,G,s,u,H⟩:=(n 5 O).1.leaf (uY y z B C D);obtain⟨a,x,J,K,L⟩:=s;have s:bR w (MR a c.length x) c:=⟨a,x,rfl,K,L⟩;rw[J]at G;have U:c.length<=200:=Mx u.length_le (n 5 O).2.2.1;have V:=A (λd g=>kh w.heap.size (uY y z B C D) (grow (NK wr d) g) (q.my d g) 12 (tb 5) a c.length x ((G.aD m (MP _)).aD (NP wr d g) (MP _)));have W:=A (λd g=>jc (MR a c.length x) c y z B C D F (grow (NK wr d) g) ((s.aD m (MP _)).aD (NP wr d g) (MP _)) U (λe b=>((o e b).aD m (o e b).lt).aD (NP wr d g) (Mi (o e b).lt m.size)));have R:=A (P.nL (n 5 O).2.1 u (λe b X=>H e b (Rl.gq hk ((n 5 O).2.2.2 e b).2 X)));have Y:=A (λe (b:e∈c)=>((n 5 O).2.2.2 e (u.subset b)).1);obtain⟨g0,g1,g2,g3,g4⟩:=q.ud;have b0:=q.lt;have T:=A o;clear G s K L J n H u P o;generalize M:mH F=pb at*;obtain⟨pa,Z⟩:=fo F;rw[Z]at M;subst M;go_wp2_with fail
   refine Mg UR UR ?_
   repeat(quiet_step (first|exact Ml (V.o _ _)|exact Ml (W.o _ _)))
   refine M3 ?_;intro wq l;replace l:=aE l;obtain⟨b4,b5⟩:=aW l;have b6:=l.size;go_wp2;go_roundw
   case rel=>exact⟨6,_,O,rfl,rfl,m.trans (l.mono m.size),q.aD l q.lt,iT.rm (λe=>⟨λh=>h.elim (λ⟨j,hj,b⟩=>⟨j,O,b⟩) (λb=>⟨5,O,b⟩),λ⟨j,hj,b⟩=>if h:j=5 then MX (h▸b)else Mf ⟨j,O,b⟩⟩) R.o,λe b=>(gi _ _ _ _ _ b).elim (λh=>T.o e h) (λh=>Y.o e h)⟩
   case measure=>simp[N1]
  |6,_=>
   have R:=A P;have T:=A o;clear n P o;cases F with
   |none=>
    rw[nB];go_wp2;go_ret2;exact⟨S,R.o,rfl,m⟩
   |some r=>
    have e5:=((T.o r rfl).aD m (T.o r rfl).lt).c0;rw[nA];go_wp2;go_ret2;exact⟨N r,R.o,rfl,m⟩
end
section
theorem He:(prog.info? 96).map (λi=>(i.zero,i.size,i.bytes))=N (N (MQ S),1,8):=UR
theorem jg:prog.underlying 118=N (.slice 96):=UR
def lP(e:af):Value:=MQ (N ⟨e.1,0,S⟩)
theorem ak.lo(h:ak w b r)(a:f<5):w.cell? ⟨b,19+f*2,S⟩=N (Q I (r.lo f)):=by
 match f,a with
 |0,_=>exact h.L9
 |1,_=>exact h.L7
 |2,_=>exact h.L0
 |3,_=>exact h.Ly
 |4,_=>exact h.Lw
theorem ak.hi(h:ak w b r)(a:f<5):w.cell? ⟨b,19+f*2+1,S⟩=N (Q I (r.hi f)):=by
 match f,a with
 |0,_=>exact h.L8
 |1,_=>exact h.L5
 |2,_=>exact h.Lz
 |3,_=>exact h.Lx
 |4,_=>exact h.Lv
def sy(f:Nat)(a:Int)(b:List af):List af:=b.filter λe=>decide (e.2.lo f<=a)
def mj(f:Nat)(a:Int)(b:List af):List af:=b.filter λe=>decide (a<e.2.hi f)
theorem ix{b:MV}{f:List Ma}(h:w.ownsRow c e d v n f)(a:Mb B w b)(i:w.heap.size<=B):b.ownsRow c e d v n f:=by
 refine h.kept (row:=S) ⟨a.os,a.tape,a.output,a.size,λk j _=>a.block k (Mi j i)⟩ ?_;cases l:v.ownBlock with
 |none=>exact Mf rfl
 |some g=>exact MX (by simp)
theorem jb{c:MV}{v1 a:Ma}{i:List Ma}(j:wq.ownsRow B e d a f i)(k:∀g,v1.ownBlock=N g->a.ownBlock≠N g)(m:(wq.alloc o).grownBy c v1.ownBlock)(n:v1.ownBlock=N g\/g=wq.heap.size+1):c.ownsRow B e d a f i/\a.ownBlock≠N g:=by
 refine⟨(j.alloc o).kept m ?_,?_⟩
 ·cases b:a.ownBlock with
  |none=>exact Mf rfl
  |some p=>
   refine MX λh=>?_;exact k p h.symm b
 ·intro b;rcases n with l|l
  ·exact k g l b
  ·have:=(j.lt g b).2;omega
theorem ez{c:Ma}{g:List Ma}(h:Mb B w wq)(i:B<=wq.heap.size)(j:wq.ownsRow b e d c f g)(n:B<=b)(l:(wq.alloc o).grownBy a c.ownBlock):Mb B w a:=
 Below.grown (h.alloc i o) l UU λk m=>by have:=(j.lt k m).1;omega
theorem ld{a:List af}(h:w.ownsRow B 96 1 v a.length (a.map lP))(c:∀e∈a,ak w e.1 e.2):bR w v a:=by
 rcases h.2 with⟨b,f⟩|⟨g,j,k,b,_⟩
 ·exact⟨S,0,by rw[b,f],λi d=>O,c⟩
 ·refine⟨N ⟨g,0,S⟩,j,b,λi d=>⟨g,0,⟨rfl,rfl⟩,?_⟩,c⟩;rw[b]at h;rw[NO,h.cellAt i O];simp[d,lP]
theorem nD(f:Nat)(a:Int)(b:List af)(e:af):sy f a (b++[e])=sy f a b++(if e.2.lo f<=a then [e]else []):=by
 unfold sy;rw[SC];by_cases h:e.2.lo f<=a<;>simp[h]
theorem lZ(f:Nat)(a:Int)(b:List af)(e:af):mj f a (b++[e])=mj f a b++(if a<e.2.hi f then [e]else []):=by
 unfold mj;rw[SC];by_cases h:a<e.2.hi f<;>simp[h]
theorem DB(f:Nat)(b:Int)(a:List af):(sy f b a).length<=a.length:=OX _ _
theorem zI(f:Nat)(b:Int)(a:List af):(mj f b a).length<=a.length:=OX _ _
theorem GM{a:Nat}(b:(MR (N ⟨a,0,S⟩) n c).ownBlock=N g)(d:u.ownBlock=N g):u.ownBlock=N a:=by
 have e:a=g:=by simpa[Value.ownBlock]using b
 rw[e];exact d
theorem ou{L:List af}{e:af}(h:w.ownsRow B 96 1 v (L.length+1) (L.map lP++[lP e])):w.ownsRow B 96 1 v (L++[e]).length ((L++[e]).map lP):=by
 simpa using h
attribute [local go_sem] aI
theorem Ap(v:Ma)(b:List af)(f:Nat)(c:Int)(w:MV)(d5:bR w v b)(hn:b.length<=200)(hf:f<5):Calls MT 152 #[v,M1 #[Q I f,Q I c]] w λe w'=>∃B C,e=.returned (.tuple #[B,C])/\bR w' B (sy f c b)/\bR w' C (mj f c b)/\Mb w.heap.size w w':=by
 obtain⟨a,g0,rfl,hc,u⟩:=d5;obtain⟨J,K,M,P,R⟩:=info_parts He;go_enter func152,ntmps152;go_wp2;go_loopw [4,5,12] (λB C i wr=>∃k:Nat,k<=b.length/\i=Q I k/\wr.ownsRow (w.heap.size+1) 96 1 B (sy f c (b.take k)).length ((sy f c (b.take k)).map lP)/\wr.ownsRow (w.heap.size+1) 96 1 C (mj f c (b.take k)).length ((mj f c (b.take k)).map lP)/\(∀g,B.ownBlock=N g->C.ownBlock≠N g)/\Mb (w.heap.size+1) (w.alloc (.cells #[Q I f,Q I c] 193)) wr) (λ_ _ i _=>b.length- (N1 i).toNat)
 case atStart=>exact⟨0,O,rfl,Qg _ _ _ _,Qg _ _ _ _,(λg h=>by cases h),MU _ _⟩
 case round=>
  obtain⟨k,hk,rfl,b3,b4,b5,x⟩:=hrel;have D:Mb w.heap.size w wr:=NA UQ (x.mono O);have b6:w.heap.size<wr.heap.size:=by have:=x.size;simp at this;omega
  have c0:wr.cell? ⟨w.heap.size,0,S⟩=N (Q I f):=(x.cell (p:=⟨w.heap.size,0,S⟩) (by exact Ol _)).trans (by simp);have c1:wr.cell? ⟨w.heap.size,1,S⟩=N (Q I c):=(x.cell (p:=⟨w.heap.size,1,S⟩) (by exact Ol _)).trans (by simp);have T:=A b3;have U:=A b4;have V:=A b5;clear b3 b4 b5;by_cases W:k<b.length
  ·obtain⟨ab,c2,⟨rfl,e1⟩,a4⟩:=hc k W;clear e1;have e2:wr.cell? ⟨ab,c2+k,S⟩=N (MQ (N ⟨b[k].1,0,S⟩)):=(D.cell (p:=⟨ab,c2+k,S⟩) (MO a4)).trans a4;have X:=(u b[k] (Ms W)).aD D (u b[k] (Ms W)).lt;have e3:=X.lo hf;have e4:=X.hi hf;have e5:=X.lt;have g4:(f:Int)<5:=O;generalize c3:b[k]=o at*;have HE:=A c3;clear a4 hc u c3 X;go_wp2_with fail
   refine Mg UR UR ?_
   repeat(quiet_step (exact Ml (Du _ _ _ _)))
   refine M3 ?_;intro E q;replace q:=aE q;obtain⟨e7,e8⟩:=aW q;have f0:=q.size;have c4:Mb (w.heap.size+1) (w.alloc (.cells #[Q I f,Q I c] 193)) E:=x.trans (q.mono O);have a5:w.heap.size<E.heap.size:=Mi b6 f0;have j:=A (ix T.o q (MP _));have l:=A (ix U.o q (MP _));have l1:=DB f c (b.take k);have l2:=zI f c (b.take k);have c5:(b.take k).length=k:=by simp;omega
   rw[c5]at l1 l2;have r:aA (b.take (k+1)=b.take k++[o]):=by rw[List.take_succ_eq_append_getElem W,HE.o];exact rfl
   clear e7 e8 e3 e4 e2 c0 c1 q e5 c5;generalize hL:sy f c (b.take k)=L at*;generalize hH:mj f c (b.take k)=H at*;have Y:=A hL;have Z:=A hH;have HB:=A c4;clear hL hH T U x b6 D c4;by_cases b1:o.2.lo f<=c
   ·by_cases b2:c<o.2.hi f
    ·go_wp2_with (first|(at_builtin;refine OC _ rfl _ _ 118 rfl (w.heap.size+1) 96 J (MQ S) 1 8 jg K M P R rfl US _ _ _ rfl (j.o.alloc _) ⟨E.heap.size,0,S⟩ 1 1 [lP o] rfl rfl (Ql _ _ _) (by simp[lP,NC]) US UT O UU _ rfl ?_))
     intro g1 d0 w1 s d t d1;have m:=A (jb l.o V.o d t);have y:=A (ez HB.o a5 j.o (MP _) d);have f3:w.heap.size<w1.heap.size:=by have:=y.o.size;simp at this;omega
     have F:=A s;clear s d t;go_wp2_with (first|(at_builtin;refine OC _ rfl _ _ 118 rfl (w.heap.size+1) 96 J (MQ S) 1 8 jg K M P R rfl US _ _ _ rfl (m.o.1.alloc _) ⟨w1.heap.size,0,S⟩ 1 1 [lP o] rfl rfl (Ql _ _ _) (by simp[lP,NC]) US UT O UU _ rfl ?_))
     intro g2 g6 w2 d2 a7 d3 g8;have P2:=A (jb (v1:=u5) F.o (λg h5 n=>m.o.2 (GM n h5)) a7 d3);have B2:=A (ez y.o f3 m.o.1 (MP _) a7);have H2:=A d2;clear d2 a7 d3;go_wp2;go_roundw
     case rel=>exact⟨k+1,O,by go_num,by rw[r.o,nD,Y.o,if_pos b1];exact ou P2.o.1,by rw[r.o,lZ,Z.o,if_pos b2];exact ou H2.o,λg n G=>P2.o.2 (n.trans G.symm|>.trans (by rfl)),B2.o⟩
     case measure=>simp[N1];omega
    ·go_wp2_with (first|(at_builtin;refine OC _ rfl _ _ 118 rfl (w.heap.size+1) 96 J (MQ S) 1 8 jg K M P R rfl US _ _ _ rfl (j.o.alloc _) ⟨E.heap.size,0,S⟩ 1 1 [lP o] rfl rfl (Ql _ _ _) (by simp[lP,NC]) US UT O UU _ rfl ?_))
     intro g1 d0 w1 s d t d1;have m:=A (jb l.o V.o d t);have y:=A (ez HB.o a5 j.o (MP _) d);have F:=A s;clear s d t;go_wp2;go_roundw
     case rel=>exact⟨k+1,O,by go_num,by rw[r.o,nD,Y.o,if_pos b1];exact ou F.o,by rw[r.o,lZ,Z.o,if_neg O,OY];exact m.o.1,λg n G=>m.o.2 (G.trans n.symm|>.trans (by rfl)),y.o⟩
     case measure=>simp[N1];omega
   ·by_cases b2:c<o.2.hi f
    ·go_wp2_with (first|(at_builtin;refine OC _ rfl _ _ 118 rfl (w.heap.size+1) 96 J (MQ S) 1 8 jg K M P R rfl US _ _ _ rfl (l.o.alloc _) ⟨E.heap.size,0,S⟩ 1 1 [lP o] rfl rfl (Ql _ _ _) (by simp[lP,NC]) US UT O UU _ rfl ?_))
     intro g1 d0 w1 s d t d1;have m:=A (jb j.o (λg h5 n=>V.o g n h5) d t);have y:=A (ez HB.o a5 l.o (MP _) d);have F:=A s;clear s d t;go_wp2;go_roundw
     case rel=>exact⟨k+1,O,by go_num,by rw[r.o,nD,Y.o,if_neg O,OY];exact m.o.1,by rw[r.o,lZ,Z.o,if_pos b2];exact ou F.o,λg n G=>m.o.2 (n.trans G.symm|>.trans (by rfl)),y.o⟩
     case measure=>simp[N1];omega
    ·go_wp2;go_roundw
     case rel=>exact⟨k+1,O,by go_num,by rw[r.o,nD,Y.o,if_neg O,OY];exact j.o,by rw[r.o,lZ,Z.o,if_neg O,OY];exact l.o,V.o,HB.o⟩
     case measure=>simp[N1];omega
  ·have f6:k=b.length:=by omega
   have a9:∀e∈b,ak wr e.1 e.2:=λe z=>(u e z).aD D (u e z).lt;have j:=T.o;have l:=U.o;rw[f6,List.take_length]at j l;have f7:=A (ld j λe z=>a9 e (Nc.1 z).1);have f8:=A (ld l λe z=>a9 e (Nc.1 z).1);clear hc u j l T U a9;go_wp2;go_ret2;exact⟨_,_,rfl,f7.o,f8.o,D⟩
end
theorem Cc(a b c d e f g h i j k l m n o p q r s:Int)(w:MV):(Instr.build 125 #[(0,M1 #[Q I a,Q I b,Q I c,Q I d,Q I e,Q I f,Q I g,Q I h,Q I i,Q I j,Q I k,Q I l,Q I m,Q I n,Q I o,Q I p,Q I q,Q I r,Q I s])]).run MT w=.ok (M1 #[Q I a,Q I b,Q I c,Q I d,Q I e,Q I f,Q I g,Q I h,Q I i,Q I j,Q I k,Q I l,Q I m,Q I n,Q I o,Q I p,Q I q,Q I r,Q I s,Q I 0,Q I 0,Q I 0,Q I 0,Q I 0,Q I 0,Q I 0,Q I 0,Q I 0,Q I 0]) w:=UR
theorem gO{P:Program}{t:NL}(h:(P.underlying t).any TypeDesc.isRow=true):∃d,P.underlying t=N d/\d.isRow=true:=by
 cases a:P.underlying t with
 |none=>rw[a]at h;cases h
 |some d=>rw[a]at h;exact⟨d,rfl,h⟩
theorem dJ:∃d,prog.underlying 37=N d/\d.isRow=true:=gO UR
theorem xe:∃d,prog.underlying 35=N d/\d.isRow=true:=gO UR
theorem ay:(prog.info? 37).map (·.size)=N 19:=UR
theorem An:(prog.info? 35).map (·.size)=N 15:=UR
theorem aN(w:MV)(a:Array Ma)(t:NL):(w.alloc (.cells a t)).rangeAt w.heap.size 0 a.toList:=λj v b=>by
 rw[NO,Uj];simpa using b
theorem jB(h:w.cell? ⟨b,i,S⟩=N u):(w.setCell ⟨b,i,S⟩ v).cell? ⟨b,i,S⟩=N v:=World.cell?_setCell_same _ _ _ h
theorem cB{a:Nat}(h:b≠a\/i≠c):(w.setCell ⟨b,i,S⟩ v).cell? ⟨a,c,S⟩=w.cell? ⟨a,c,S⟩:=
 World.cell?_setCell_other _ _ _ _ UU
def EP(w:MV)(e k:Nat)(r:Rl):Prop:=
 e<w.heap.size/\(∀j,w.frozen? ⟨e,j,S⟩=false)/\(∀j,j<19->w.cell? ⟨e,j,S⟩=r.vq[j]?)/\(∀j,j<k->w.cell? ⟨e,19+j*2,S⟩=N (Q I (r.lo j))/\w.cell? ⟨e,19+j*2+1,S⟩=N (Q I (r.hi j)))/\(∀j,j<29->∃v,w.cell? ⟨e,j,S⟩=N v)/\w.cell? ⟨e,29,S⟩=S
theorem EP.aD{c:MV}{e:Nat}(h:EP w e k r)(d:Mb B w c)(f:e<B):EP c e k r:=by
 have a:∀j,c.cell? ⟨e,j,S⟩=w.cell? ⟨e,j,S⟩:=λj=>d.cell (p:=⟨e,j,S⟩) f;have g:∀j,c.frozen? ⟨e,j,S⟩=w.frozen? ⟨e,j,S⟩:=λj=>d.frozen (p:=⟨e,j,S⟩) f;refine⟨Mi h.1 d.size,λj=>(g j).trans (h.2.1 j),λj b=>(a j).trans (h.2.2.1 j b),λj b=>?_,λj b=>?_,(a 29).trans h.2.2.2.2.2⟩
 ·rw[a,a];exact h.2.2.2.1 j b
 ·rw[a];exact h.2.2.2.2.1 j b
theorem EP.set{e:Nat}(h:EP w e k r)(x:k<5):EP ((w.setCell ⟨e,19+k*2,S⟩ (Q I (r.lo k))).setCell ⟨e,19+k*2+1,S⟩ (Q I (r.hi k))) e (k+1) r:=by
 obtain⟨l,m,n,o,c,p⟩:=h;have a:∀j,j≠19+k*2->j≠19+k*2+1->((w.setCell ⟨e,19+k*2,S⟩ (Q I (r.lo k))).setCell ⟨e,19+k*2+1,S⟩ (Q I (r.hi k))).cell? ⟨e,j,S⟩=w.cell? ⟨e,j,S⟩:=by
  intro j y z;rw[cB (MX O),cB (MX O)]
 obtain⟨B,q⟩:=c (19+k*2) O;obtain⟨s,t⟩:=c (19+k*2+1) O;have d:((w.setCell ⟨e,19+k*2,S⟩ (Q I (r.lo k))).setCell ⟨e,19+k*2+1,S⟩ (Q I (r.hi k))).cell? ⟨e,19+k*2+1,S⟩=N (Q I (r.hi k)):=
  jB (u:=s) (by rw[cB (MX O)];exact t)
 have f:((w.setCell ⟨e,19+k*2,S⟩ (Q I (r.lo k))).setCell ⟨e,19+k*2+1,S⟩ (Q I (r.hi k))).cell? ⟨e,19+k*2,S⟩=N (Q I (r.lo k)):=by
  rw[cB (MX O)];exact jB q
 refine⟨by simpa using l,λj=>by simpa using m j,λj b=>(a j O O).trans (n j b),λj b=>?_,λj b=>?_,(a 29 O O).trans p⟩
 ·by_cases v:j=k
  ·subst v;exact⟨f,d⟩
  ·rw[a _ O O,a _ O O];exact o j O
 ·by_cases g:j=19+k*2
  ·subst g;exact⟨_,f⟩
  ·by_cases i:j=19+k*2+1
   ·subst i;exact⟨_,d⟩
   ·rw[a j g i];exact c j b
theorem EP.AN{e:Nat}(h:EP w e 5 r):ak w e r:=by
 intro i l;by_cases g:i<19
 ·exact h.2.2.1 i g
 ·have a:=h.2.2.2.1 0 O;have b:=h.2.2.2.1 1 O;have c:=h.2.2.2.1 2 O;have d:=h.2.2.2.1 3 O;have f:=h.2.2.2.1 4 O;obtain⟨j,rfl⟩:∃j,i=19+j:=⟨i-19,O⟩;have k:j<11:=O;match j,k with
  |0,_=>exact a.1
  |1,_=>exact a.2
  |2,_=>exact b.1
  |3,_=>exact b.2
  |4,_=>exact c.1
  |5,_=>exact c.2
  |6,_=>exact d.1
  |7,_=>exact d.2
  |8,_=>exact f.1
  |9,_=>exact f.2
  |10,_=>exact h.2.2.2.2.2
theorem EP.oX(w:MV)(r:Rl)(o:Obj):EP ((w.alloc o).alloc (.cells #[Q I r.id,Q I r.pr,Q I r.k0,Q I r.v0,Q I r.m0,Q I r.k1,Q I r.v1,Q I r.m1,Q I r.k2,Q I r.v2,Q I r.m2,Q I r.k3,Q I r.v3,Q I r.m3,Q I r.k4,Q I r.v4,Q I r.m4,Q I r.ac,Q I r.po,Q I 0,Q I 0,Q I 0,Q I 0,Q I 0,Q I 0,Q I 0,Q I 0,Q I 0,Q I 0] 125)) (w.heap.size+1) 0 r:=by
 have b:∀j,((w.alloc o).alloc (.cells #[Q I r.id,Q I r.pr,Q I r.k0,Q I r.v0,Q I r.m0,Q I r.k1,Q I r.v1,Q I r.m1,Q I r.k2,Q I r.v2,Q I r.m2,Q I r.k3,Q I r.v3,Q I r.m3,Q I r.k4,Q I r.v4,Q I r.m4,Q I r.ac,Q I r.po,Q I 0,Q I 0,Q I 0,Q I 0,Q I 0,Q I 0,Q I 0,Q I 0,Q I 0,Q I 0] 125)).cell? ⟨w.heap.size+1,j,S⟩=(#[Q I r.id,Q I r.pr,Q I r.k0,Q I r.v0,Q I r.m0,Q I r.k1,Q I r.v1,Q I r.m1,Q I r.k2,Q I r.v2,Q I r.m2,Q I r.k3,Q I r.v3,Q I r.m3,Q I r.k4,Q I r.v4,Q I r.m4,Q I r.ac,Q I r.po,Q I 0,Q I 0,Q I 0,Q I 0,Q I 0,Q I 0,Q I 0,Q I 0,Q I 0,Q I 0]:Array Ma)[j]?:=λj=>World.cell?_alloc_at _ _ _ _ (by simp);refine⟨by simp,λj=>World.frozen?_alloc_at _ _ _ _ (by simp),λj a=>?_,λj a=>O,λj a=>?_,by rw[b];rfl⟩
 ·rw[b];match j,a with
  |0,_=>exact rfl
  |1,_=>exact rfl
  |2,_=>exact rfl
  |3,_=>exact rfl
  |4,_=>exact rfl
  |5,_=>exact rfl
  |6,_=>exact rfl
  |7,_=>exact rfl
  |8,_=>exact rfl
  |9,_=>exact rfl
  |10,_=>exact rfl
  |11,_=>exact rfl
  |12,_=>exact rfl
  |13,_=>exact rfl
  |14,_=>exact rfl
  |15,_=>exact rfl
  |16,_=>exact rfl
  |17,_=>exact rfl
  |18,_=>exact rfl
  |n+19,h=>exact absurd h O
 ·rw[b];exact⟨_,Array.getElem?_eq_getElem (by simpa using a)⟩
section
attribute [local go_sem] Kv Ku Kt Kr Kq
attribute [local go_sem ↓] Cc
theorem xF(r:Rl)(w:MV)(u:cP w):Calls MT 40 #[M1 #[Q I r.id,Q I r.pr,Q I r.k0,Q I r.v0,Q I r.m0,Q I r.k1,Q I r.v1,Q I r.m1,Q I r.k2,Q I r.v2,Q I r.m2,Q I r.k3,Q I r.v3,Q I r.m3,Q I r.k4,Q I r.v4,Q I r.m4,Q I r.ac,Q I r.po]] w λe a=>e=.returned (MQ (N ⟨w.heap.size+1,0,S⟩))/\ak a (w.heap.size+1) r/\Mb w.heap.size w a:=by
 obtain⟨P,F,G⟩:=dJ;obtain⟨R,H,J⟩:=xe;have K:=A (EP.oX w r (.cells #[Q I r.id,Q I r.pr,Q I r.k0,Q I r.v0,Q I r.m0,Q I r.k1,Q I r.v1,Q I r.m1,Q I r.k2,Q I r.v2,Q I r.m2,Q I r.k3,Q I r.v3,Q I r.m3,Q I r.k4,Q I r.v4,Q I r.m4,Q I r.ac,Q I r.po] 37));have L:((w.alloc (.cells #[Q I r.id,Q I r.pr,Q I r.k0,Q I r.v0,Q I r.m0,Q I r.k1,Q I r.v1,Q I r.m1,Q I r.k2,Q I r.v2,Q I r.m2,Q I r.k3,Q I r.v3,Q I r.m3,Q I r.k4,Q I r.v4,Q I r.m4,Q I r.ac,Q I r.po] 37)).alloc (.cells #[Q I r.id,Q I r.pr,Q I r.k0,Q I r.v0,Q I r.m0,Q I r.k1,Q I r.v1,Q I r.m1,Q I r.k2,Q I r.v2,Q I r.m2,Q I r.k3,Q I r.v3,Q I r.m3,Q I r.k4,Q I r.v4,Q I r.m4,Q I r.ac,Q I r.po,Q I 0,Q I 0,Q I 0,Q I 0,Q I 0,Q I 0,Q I 0,Q I 0,Q I 0,Q I 0] 125)).rangeAt w.heap.size 2 [Q I r.k0,Q I r.v0,Q I r.m0,Q I r.k1,Q I r.v1,Q I r.m1,Q I r.k2,Q I r.v2,Q I r.m2,Q I r.k3,Q I r.v3,Q I r.m3,Q I r.k4,Q I r.v4,Q I r.m4]:=World.rangeAt_alloc (λj v f=>by
  rw[Uj];have T:j<15:=by
   rcases Nat.lt_or_ge j 15 with h|h
   ·exact h
   ·rw[List.getElem?_eq_none (by simpa using h)]at f;cases f
  match j,T with
  |0,_=>exact f
  |1,_=>exact f
  |2,_=>exact f
  |3,_=>exact f
  |4,_=>exact f
  |5,_=>exact f
  |6,_=>exact f
  |7,_=>exact f
  |8,_=>exact f
  |9,_=>exact f
  |10,_=>exact f
  |11,_=>exact f
  |12,_=>exact f
  |13,_=>exact f
  |14,_=>exact f
  |n+15,h=>exact absurd h O) _
 have M:=A L;clear L;go_enter func40,ntmps40;go_wp2_with (first|(refine Sb rfl 37 _ rfl w.heap.size 0 rfl [Q I r.id,Q I r.pr,Q I r.k0,Q I r.v0,Q I r.m0,Q I r.k1,Q I r.v1,Q I r.m1,Q I r.k2,Q I r.v2,Q I r.m2,Q I r.k3,Q I r.v3,Q I r.m3,Q I r.k4,Q I r.v4,Q I r.m4,Q I r.ac,Q I r.po] P (aN _ _ _) F G ay ?_)|(refine Sb rfl 35 _ rfl w.heap.size 2 rfl [Q I r.k0,Q I r.v0,Q I r.m0,Q I r.k1,Q I r.v1,Q I r.m1,Q I r.k2,Q I r.v2,Q I r.m2,Q I r.k3,Q I r.v3,Q I r.m3,Q I r.k4,Q I r.v4,Q I r.m4] R M.o H J An ?_))
 go_loopw [11] (λi wr=>∃k:Nat,k<=5/\i=Q I k/\Mb w.heap.size w wr/\EP wr (w.heap.size+1) k r) (λi _=>5- (N1 i).toNat)
 case atStart=>exact⟨0,O,rfl,UQ,K.o⟩
 case round=>
  obtain⟨k,U,rfl,d,b⟩:=hrel;obtain⟨V,W,X,Y,Z,g5,g6,g7,g8,g9,a5,a6,a7,a8,a9⟩:=u.aD d u.uE;have b0:=Mi u.uE d.size;have hp:=u.uE;have x:=b.1;have b2:w.heap.size<wr.heap.size:=O;have b3:¬wr.heap.size=w.heap.size+1:=O;have b4:¬w.heap.size+1=wr.heap.size:=O;clear u F G H J M K;match k,U with
  |0,_=>
   have y:=b.2.1 19;have z:=b.2.1 20;obtain⟨B,C⟩:=b.2.2.2.2.1 19 O;obtain⟨D,E⟩:=b.2.2.2.2.1 20 O;have m:=A b;clear b;go_wp2_with fail
   go_region_held3 (λa=>a.cell? ⟨wr.heap.size,0,S⟩=N (Q I r.k0)/\a.cell? ⟨wr.heap.size,1,S⟩=N (Q I r.v0)/\a.cell? ⟨wr.heap.size,2,S⟩=N (Q I r.m0)/\a.cell? ⟨0,0,S⟩=N (Q I 32)/\a.cell? ⟨0,1,S⟩=N (Q I 0)/\a.cell? ⟨0,2,S⟩=N (Q I 4294967295)) (go_keep)
    (first|(go_at_call 90;refine(jn _ _ _ _ _ _ _).mono ?_;rintro e a ⟨rfl,c⟩;obtain⟨o,q⟩:=aW c))
   have g:=((m.o.aD ((MU wr.heap.size wr).alloc (MP _) _).drew x).aD c UU).set (k:=0) O;have l:Mb w.heap.size w _:=Me (Me (d.trans (NA ((MU _ _).alloc d.size _).drew (c.mono (by have:=d.size;simp;omega)))) (p:=⟨w.heap.size+1,19,S⟩) (by simp) (Q I r.v0)) (p:=⟨w.heap.size+1,20,S⟩) (by simp) (Q I (eW r.k0 r.v0 r.m0 4294967295));have s:=A g;have t:=A l;clear g l o q c;go_wp2;go_roundw
   case rel=>exact⟨1,O,rfl,t.o,s.o⟩
   case measure=>simp[N1]
  |1,_=>
   have y:=b.2.1 21;have z:=b.2.1 22;obtain⟨B,C⟩:=b.2.2.2.2.1 21 O;obtain⟨D,E⟩:=b.2.2.2.2.1 22 O;have m:=A b;clear b;go_wp2_with fail
   go_region_held3 (λa=>a.cell? ⟨wr.heap.size,0,S⟩=N (Q I r.k1)/\a.cell? ⟨wr.heap.size,1,S⟩=N (Q I r.v1)/\a.cell? ⟨wr.heap.size,2,S⟩=N (Q I r.m1)/\a.cell? ⟨0,3,S⟩=N (Q I 32)/\a.cell? ⟨0,4,S⟩=N (Q I 0)/\a.cell? ⟨0,5,S⟩=N (Q I 4294967295)) (go_keep)
    (first|(go_at_call 90;refine(jn _ _ _ _ _ _ _).mono ?_;rintro e a ⟨rfl,c⟩;obtain⟨o,q⟩:=aW c))
   have g:=((m.o.aD ((MU wr.heap.size wr).alloc (MP _) _).drew x).aD c UU).set (k:=1) O;have l:Mb w.heap.size w _:=Me (Me (d.trans (NA ((MU _ _).alloc d.size _).drew (c.mono (by have:=d.size;simp;omega)))) (p:=⟨w.heap.size+1,21,S⟩) (by simp) (Q I r.v1)) (p:=⟨w.heap.size+1,22,S⟩) (by simp) (Q I (eW r.k1 r.v1 r.m1 4294967295));have s:=A g;have t:=A l;clear g l o q c;go_wp2;go_roundw
   case rel=>exact⟨2,O,rfl,t.o,s.o⟩
   case measure=>simp[N1]
  |2,_=>
   have y:=b.2.1 23;have z:=b.2.1 24;obtain⟨B,C⟩:=b.2.2.2.2.1 23 O;obtain⟨D,E⟩:=b.2.2.2.2.1 24 O;have m:=A b;clear b;go_wp2_with fail
   go_region_held3 (λa=>a.cell? ⟨wr.heap.size,0,S⟩=N (Q I r.k2)/\a.cell? ⟨wr.heap.size,1,S⟩=N (Q I r.v2)/\a.cell? ⟨wr.heap.size,2,S⟩=N (Q I r.m2)/\a.cell? ⟨0,6,S⟩=N (Q I 8)/\a.cell? ⟨0,7,S⟩=N (Q I 0)/\a.cell? ⟨0,8,S⟩=N (Q I 255)) (go_keep)
    (first|(go_at_call 90;refine(jn _ _ _ _ _ _ _).mono ?_;rintro e a ⟨rfl,c⟩;obtain⟨o,q⟩:=aW c))
   have g:=((m.o.aD ((MU wr.heap.size wr).alloc (MP _) _).drew x).aD c UU).set (k:=2) O;have l:Mb w.heap.size w _:=Me (Me (d.trans (NA ((MU _ _).alloc d.size _).drew (c.mono (by have:=d.size;simp;omega)))) (p:=⟨w.heap.size+1,23,S⟩) (by simp) (Q I r.v2)) (p:=⟨w.heap.size+1,24,S⟩) (by simp) (Q I (eW r.k2 r.v2 r.m2 255));have s:=A g;have t:=A l;clear g l o q c;go_wp2;go_roundw
   case rel=>exact⟨3,O,rfl,t.o,s.o⟩
   case measure=>simp[N1]
  |3,_=>
   have y:=b.2.1 25;have z:=b.2.1 26;obtain⟨B,C⟩:=b.2.2.2.2.1 25 O;obtain⟨D,E⟩:=b.2.2.2.2.1 26 O;have m:=A b;clear b;go_wp2_with fail
   go_region_held3 (λa=>a.cell? ⟨wr.heap.size,0,S⟩=N (Q I r.k3)/\a.cell? ⟨wr.heap.size,1,S⟩=N (Q I r.v3)/\a.cell? ⟨wr.heap.size,2,S⟩=N (Q I r.m3)/\a.cell? ⟨0,9,S⟩=N (Q I 16)/\a.cell? ⟨0,10,S⟩=N (Q I 0)/\a.cell? ⟨0,11,S⟩=N (Q I 65535)) (go_keep)
    (first|(go_at_call 90;refine(jn _ _ _ _ _ _ _).mono ?_;rintro e a ⟨rfl,c⟩;obtain⟨o,q⟩:=aW c))
   have g:=((m.o.aD ((MU wr.heap.size wr).alloc (MP _) _).drew x).aD c UU).set (k:=3) O;have l:Mb w.heap.size w _:=Me (Me (d.trans (NA ((MU _ _).alloc d.size _).drew (c.mono (by have:=d.size;simp;omega)))) (p:=⟨w.heap.size+1,25,S⟩) (by simp) (Q I r.v3)) (p:=⟨w.heap.size+1,26,S⟩) (by simp) (Q I (eW r.k3 r.v3 r.m3 65535));have s:=A g;have t:=A l;clear g l o q c;go_wp2;go_roundw
   case rel=>exact⟨4,O,rfl,t.o,s.o⟩
   case measure=>simp[N1]
  |4,_=>
   have y:=b.2.1 27;have z:=b.2.1 28;obtain⟨B,C⟩:=b.2.2.2.2.1 27 O;obtain⟨D,E⟩:=b.2.2.2.2.1 28 O;have m:=A b;clear b;go_wp2_with fail
   go_region_held3 (λa=>a.cell? ⟨wr.heap.size,0,S⟩=N (Q I r.k4)/\a.cell? ⟨wr.heap.size,1,S⟩=N (Q I r.v4)/\a.cell? ⟨wr.heap.size,2,S⟩=N (Q I r.m4)/\a.cell? ⟨0,12,S⟩=N (Q I 16)/\a.cell? ⟨0,13,S⟩=N (Q I 0)/\a.cell? ⟨0,14,S⟩=N (Q I 65535)) (go_keep)
    (first|(go_at_call 90;refine(jn _ _ _ _ _ _ _).mono ?_;rintro e a ⟨rfl,c⟩;obtain⟨o,q⟩:=aW c))
   have g:=((m.o.aD ((MU wr.heap.size wr).alloc (MP _) _).drew x).aD c UU).set (k:=4) O;have l:Mb w.heap.size w _:=Me (Me (d.trans (NA ((MU _ _).alloc d.size _).drew (c.mono (by have:=d.size;simp;omega)))) (p:=⟨w.heap.size+1,27,S⟩) (by simp) (Q I r.v4)) (p:=⟨w.heap.size+1,28,S⟩) (by simp) (Q I (eW r.k4 r.v4 r.m4 65535));have s:=A g;have t:=A l;clear g l o q c;go_wp2;go_roundw
   case rel=>exact⟨5,O,rfl,t.o,s.o⟩
   case measure=>simp[N1]
  |5,_=>
   have m:=A b;clear b;go_wp2;go_ret;exact⟨rfl,m.o.AN,d⟩
end
end Go.Proofs.YtnjalelblbjfiaaGreatDoor
