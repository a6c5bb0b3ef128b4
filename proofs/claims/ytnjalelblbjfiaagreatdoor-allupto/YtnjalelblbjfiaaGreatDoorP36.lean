import Derived.Test.YtnjalelblbjfiaaGreatDoorP35
import Derived.Test.YtnjalelblbjfiaaGreatDoorP10
import Derived.Test.YtnjalelblbjfiaaGreatDoorP30
namespace Go.Proofs.YtnjalelblbjfiaaGreatDoor
set_option maxRecDepth 100000
set_option maxHeartbeats 16000000
open Go.RowKit
open Go.Proofs.Tryz
open Go.Sort (grow)
open Bool renaming false→Md,and_eq_true→NH,true→Mk,not_eq_true→NB
open Decidable renaming decide→M9
open Go renaming World→MV,cell_later→MW,Calls→Mo,block_lt_of_cell→MO,Value→Ma,run_loadAt_mid→NW,wp_region_quiet_below→Mg,wpQuiet_nil→M3,splice→M8,length_splice→NI,zeroValue→QZ
open Go.Ending renaming returned→MZ
open Go.IntKind renaming i64→I
open Go.Proofs.Tryz renaming prog→MT,func74→PD,func145→RZ,func75→Qt,func215→TI,func220→TK,func191→TL
open Go.RowKit renaming Below→Mb
open Go.RowKit.Below renaming heap_setCell→Nh,refl→MU
open Go.Value renaming slice→MR,pointer→MQ,int→Q,string→MS,agg→M1,bool→M0,cells→N5,oneCell'→NC,ownBlock→NF
open Go.World renaming cell?_setCell_same→Nf,cell?_setCell_other→NT,cell?_of_block→Mj
open List renaming append_nil→OY,take_zero→Q5,length_filter_le→OX,length_take→Mh,take_of_length_le→NN,range→PO,length_drop→M2,getElem?_drop→N2,getElem?_take→M5,mem_of_mem_drop→Nu,length_cons→N6,length_nil→OH,length_append→Mz,getElem?_eq_none→Re,eq_nil_of_length_eq_zero→PP,size_toArray→NY,pairwise_iff_getElem→Mr
open Nat renaming lt_of_le_of_lt→PL,zero_le→NG,le_trans→Mx,le_refl→MP,lt_or_ge→N8,add_sub_cancel_left→RQ
open Option renaming none→S,some→N
open Or renaming inl→Mf,inr→MX
open Go.Obj renaming cells→MY
open Go.Calls renaming regrown_of→Ml
open Go.Builtin renaming zeroCells→NV
open _root_.ByteArray renaming empty→Mq
variable {x:Int}{W w:MV}{m y:Nat}
section
attribute [local go_sem] Oper.semAt_some aI
attribute [local go_sem ↓ high] cu
theorem aT.xU{f:MV}{x:aK}{a:Option Addr}{c:Nat}{k:List (Int×ByteArray)}(h:aT w y x)(d:Mb w.heap.size w f)(g:aX gz w.heap.size f 260 2 (MR a m c) k):aT (f.setCell ⟨y,1,S⟩ (MR a m c)) y {x with fv:=MR a m c,Fl:=k}/\aH (λb=>b=y) w (f.setCell ⟨y,1,S⟩ (MR a m c))/\(∀b,(MR a m c).ownBlock=N b->w.heap.size<=b)/\f.cell? ⟨y,1,S⟩=N x.fv/\f.frozen? ⟨y,1,S⟩=false:=by
 have i:=h.lt;have l:=MW d h.c1;have o:f.frozen? ⟨y,1,S⟩=false:=(d.frozen (p:=⟨y,1,S⟩) i).trans (h.frz 1);obtain⟨n,q⟩:=h.blk;have r:∀b,(MR a m c).ownBlock=N b->b≠y:=λb d e=>by have:=g.iG d;omega
 refine⟨h.LJ (aH.setCell (p:=⟨y,1,S⟩) (aH.aG d) (Mf (Mf rfl)) _) ⟨n.setIfInBounds 1 (MR a m c),heap_setCell_same f y 1 n 90 _ ((d.block y i).trans q)⟩ (λj s=>?_) (Nf _ _ _ l) ⟨gM (g.same λb d=>Nh _ _ _ _ (r b d)).1 (PL (NG _) i),g.2⟩,aH.setCell (X:=λb=>b=y) (p:=⟨y,1,S⟩) (aH.aG d) (Mf rfl) _,λb d=>g.iG d,l,o⟩;rw[NT _ _ _ _ (λe=>s (congrArg Addr.off e).symm)];exact d.cell (p:=⟨y,j,S⟩) i
theorem De(y:Nat)(x:aK)(v:Int)(b:ByteArray)(w:MV)(h:aT w y x)(hF:x.Fl.length<=100):Mo MT 74 #[MQ (N ⟨y,0,S⟩),Q I v,MS b] w λe W=>e=MZ (Q I (ku x.Fl v b))/\qK y x v b w W:=by
 by_cases hr:ku x.Fl v b≠0
 ·refine(Dd y x v b w h hF hr).mono ?_;rintro e W ⟨he,hW⟩;exact⟨he,Mf ⟨hr,hW⟩⟩
 have c6:ku x.Fl v b=0:=O;clear hr;have d2:=A c6;have CV:=A (jx v w);have X:=A (ni b w);have CF:=A (eU y x v w h O);obtain⟨o,ho⟩:=UX (cH x.Fl v);have n:=c6;unfold ku at n;rw[<-ho]at CF n;rw[c6];have hv:js v=true:=by
  cases hv:js v with
  |true=>rfl
  |false=>rw[if_pos hv]at n;cases n
 rw[hv]at CV;rw[if_neg (by rw[hv];decide)]at n;obtain⟨F,d3⟩:=UX x.Fl;obtain⟨a,g1,g,c7,d4⟩:=h.oc;have c1:=h.c1;have g2:=h.lt;rw[<-d3]at c7 d4 n hF;rw[c7]at c1;have g3:(F.length:Int)<=100:=O;have HX:=A h;have d6:=A d4;have e4:=A d3;have b1:=A hF;have e5:=A c7;have c9:=gj b;have b2:=gj o;have b3:=kw b;have a5:=kw o;clear h d4 d3 c6 hv ho hF c7;by_cases E:b.size=0
 ·have e0:b=⟨#[]⟩:=b3.2 E;rw[if_neg O]at n;have R:¬o.size=0:=λe=>by rw[if_pos ⟨E,e⟩]at n;cases n
  have eo:¬o=⟨#[]⟩:=λe=>R (a5.1 e);have f9:o.toList.isEmpty=false:=by rw[b2];simp[R]
  rw[show M9 (b.size=6)=Md by simp[E]]at X;have d0:aA (nX x.Fl v b=F.filter λf=>f.1 !=v):=A (by unfold nX;rw[if_pos E,OY,e4.o]);have g6:=A E;clear n c9 b2 b3 a5 R E;subst e0;go_enter PD,ntmps74;go_wp2_with fail
  refine CV.o.mono ?_;rintro e W ⟨rfl,c⟩;rw[c];clear c W CV;go_wp2_with fail
  refine X.o.mono ?_;rintro e W ⟨rfl,c⟩;rw[c];clear c W X;go_wp2_with fail
  refine CF.o.mono ?_;rintro e W ⟨rfl,c⟩;rw[c];clear c W CF;go_wp2_with fail
  go_loopw [10,11] (λlv i wr=>∃k:Nat,k<=F.length/\i=Q I k/\aX gz w.heap.size wr 260 2 lv ((F.take k).filter λf=>f.1 !=v)/\Mb w.heap.size w wr) (λ_ i _=>F.length- (intOf i).toNat)
  case atStart=>exact⟨0,O,rfl,by rw[Q5];exact aX.nil gz w.heap.size w 260 2,MU _ _⟩
  case round=>
   obtain⟨k,hk,rfl,j,l⟩:=hrel;obtain⟨a4,a7,g4,hl,-⟩:=j.row iO;subst hl;have yc:=MW l c1;have ly:y<wr.heap.size:=MO yc;have r:=A j;have d:=A l;clear j l;by_cases G:k<F.length
   ·have b9:(k:Int)<F.length:=by omega
    obtain⟨c0,s,H⟩:=d6.o k G;subst c0;have s:=MW d.o s;have H:=MW d.o H;have lg:=MO s;obtain⟨z,J⟩:=UX (F[k]);rw[<-J]at s H;have Y:=A J;clear J;cases Z:(z.1 !=v)with
    |false=>
     have t:aA (aX gz w.heap.size wr 260 2 (MR a4 ((F.take k).filter λf=>f.1 !=v).length a7) ((F.take (k+1)).filter λf=>f.1 !=v)):=A (by
      rw[gt _ G,<-Y.o];simp only[Z];rw[if_neg US,OY];exact r.o)
     go_wp2_with fail
     go_roundw
     case rel=>exact⟨k+1,O,by go_num,t.o,d.o⟩
     case measure=>simp[intOf];omega
    |true=>
     have K:((F.take k).filter λf=>f.1 !=v).length<=1000:=Mx (OX _ _) (by rw[Mh];have:=b1.o;omega);obtain⟨T,U,q,u,B,C⟩:=kx (e:=z) r.o d.o.size K;have V:=dN u;have D:Mb w.heap.size w q:=d.o.trans (C.aD d.o.size λb l=>r.o.iG l);have t:aA (aX gz w.heap.size q 260 2 (MR (N ⟨T,0,S⟩) (((F.take k).filter λf=>f.1 !=v).length+1) U) ((F.take (k+1)).filter λf=>f.1 !=v)):=A (by
      rw[gt _ G,<-Y.o];simp only[Z,if_true];exact B)
     have c2:=A D;obtain⟨m,p⟩:=UX (((F.take k).filter λf=>f.1 !=v).length);rw[<-p]at V t⊢;clear u B C D p;go_wp2_with fail
     go_roundw
     case rel=>exact⟨k+1,O,by go_num,t.o,c2.o⟩
     case measure=>simp[intOf];omega
   ·have b9:¬(k:Int)<F.length:=by omega
    have a0:F.take k=F:=NN O;have j:=r.o;rw[a0]at j⊢;obtain⟨L,M,P,y7,f7⟩:=HX.o.xU d.o j;obtain⟨m,p⟩:=UX ((F.filter λf=>f.1 !=v).length);rw[<-p]at L M P⊢;have HF:aA (qK y x v ⟨#[]⟩ w (wr.setCell ⟨y,1,S⟩ (MR a4 m a7))):=A (MX ⟨d2.o,_,by rw[d0.o];exact L,M,P⟩);clear L M P j p y7 a0;go_wp2;go_ret;exact⟨rfl,HF.o⟩
 ·have e0:¬b=⟨#[]⟩:=λe=>E (b3.1 e);have e1:b.toList.isEmpty=false:=by rw[c9];simp[E]
  have a8:fQ b=true:=by
   cases a8:fQ b with
   |true=>rfl
   |false=>rw[if_pos ⟨E,a8⟩]at n;cases n
  have a9:=a8;unfold fQ at a9;simp only[NH,beq_iff_eq,Bool.not_eq_true']at a9;rw[if_neg (by rw[a8];simp),if_neg O]at n;rw[show M9 (b.size=6)=Mk by simp[a9.1]]at X;have CG:=A (gW b w O);rw[a9.2]at CG;have d0:aA (nX x.Fl v b=(F.filter λf=>f.1 !=v)++[(v,b)]):=A (by unfold nX;rw[if_neg E,e4.o]);by_cases R:o.size=0
  ·have eo:o=⟨#[]⟩:=a5.2 R;have g8:¬(16:Int)<=F.length:=λe=>by rw[if_pos ⟨E,R,O⟩]at n;cases n
   clear n c9 b2 b3 a5 R E a8 a9;subst eo;go_enter PD,ntmps74;go_wp2_with fail
   refine CV.o.mono ?_;rintro e W ⟨rfl,c⟩;rw[c];clear c W CV;go_wp2_with fail
   refine X.o.mono ?_;rintro e W ⟨rfl,c⟩;rw[c];clear c W X;go_wp2_with fail
   refine CG.o.mono ?_;rintro e W ⟨rfl,c⟩;rw[c];clear c W CG;go_wp2_with fail
   refine CF.o.mono ?_;rintro e W ⟨rfl,c⟩;rw[c];clear c W CF;go_wp2_with fail
   go_loopw [10,11] (λlv i wr=>∃k:Nat,k<=F.length/\i=Q I k/\aX gz w.heap.size wr 260 2 lv ((F.take k).filter λf=>f.1 !=v)/\Mb w.heap.size w wr) (λ_ i _=>F.length- (intOf i).toNat)
   case atStart=>exact⟨0,O,rfl,by rw[Q5];exact aX.nil gz w.heap.size w 260 2,MU _ _⟩
   case round=>
    obtain⟨k,hk,rfl,j,l⟩:=hrel;obtain⟨a4,a7,g4,hl,-⟩:=j.row iO;subst hl;have yc:=MW l c1;have ly:y<wr.heap.size:=MO yc;have r:=A j;have d:=A l;clear j l;by_cases G:k<F.length
    ·have b9:(k:Int)<F.length:=by omega
     obtain⟨c0,s,H⟩:=d6.o k G;subst c0;have s:=MW d.o s;have H:=MW d.o H;have lg:=MO s;obtain⟨z,J⟩:=UX (F[k]);rw[<-J]at s H;have Y:=A J;clear J;cases Z:(z.1 !=v)with
     |false=>
      have t:aA (aX gz w.heap.size wr 260 2 (MR a4 ((F.take k).filter λf=>f.1 !=v).length a7) ((F.take (k+1)).filter λf=>f.1 !=v)):=A (by
       rw[gt _ G,<-Y.o];simp only[Z];rw[if_neg US,OY];exact r.o)
      go_wp2_with fail
      go_roundw
      case rel=>exact⟨k+1,O,by go_num,t.o,d.o⟩
      case measure=>simp[intOf];omega
     |true=>
      have K:((F.take k).filter λf=>f.1 !=v).length<=1000:=Mx (OX _ _) (by rw[Mh];have:=b1.o;omega);obtain⟨T,U,q,u,B,C⟩:=kx (e:=z) r.o d.o.size K;have V:=dN u;have D:Mb w.heap.size w q:=d.o.trans (C.aD d.o.size λb l=>r.o.iG l);have t:aA (aX gz w.heap.size q 260 2 (MR (N ⟨T,0,S⟩) (((F.take k).filter λf=>f.1 !=v).length+1) U) ((F.take (k+1)).filter λf=>f.1 !=v)):=A (by
       rw[gt _ G,<-Y.o];simp only[Z,if_true];exact B)
      have c2:=A D;obtain⟨m,p⟩:=UX (((F.take k).filter λf=>f.1 !=v).length);rw[<-p]at V t⊢;clear u B C D p;go_wp2_with fail
      go_roundw
      case rel=>exact⟨k+1,O,by go_num,t.o,c2.o⟩
      case measure=>simp[intOf];omega
    ·have b9:¬(k:Int)<F.length:=by omega
     have a0:F.take k=F:=NN O;have j:=r.o;rw[a0]at j⊢;have K:(F.filter λf=>f.1 !=v).length<=1000:=Mx (OX _ _) (by have:=b1.o;omega);obtain⟨T,U,q,u,B,C⟩:=kx (e:=(v,b)) j d.o.size K;have V:=dN u;have D:Mb w.heap.size w q:=d.o.trans (C.aD d.o.size λb l=>j.iG l);obtain⟨L,M,P,y7,f7⟩:=HX.o.xU D B;rw[e5.o]at y7;have g0:y<q.heap.size:=MO y7;obtain⟨m,p⟩:=UX ((F.filter λf=>f.1 !=v).length);rw[<-p]at L M P V⊢;have HF:aA (qK y x v b w (q.setCell ⟨y,1,S⟩ (MR (N ⟨T,0,S⟩) (m+1) U))):=A (MX ⟨d2.o,_,by rw[d0.o];exact L,M,P⟩);clear L M P j p a0 u B C D K;go_wp2;go_ret;exact⟨rfl,HF.o⟩
  ·have eo:¬o=⟨#[]⟩:=λe=>R (a5.1 e);have f9:o.toList.isEmpty=false:=by rw[b2];simp[R]
   clear n c9 b2 b3 a5 R E a8 a9;go_enter PD,ntmps74;go_wp2_with fail
   refine CV.o.mono ?_;rintro e W ⟨rfl,c⟩;rw[c];clear c W CV;go_wp2_with fail
   refine X.o.mono ?_;rintro e W ⟨rfl,c⟩;rw[c];clear c W X;go_wp2_with fail
   refine CG.o.mono ?_;rintro e W ⟨rfl,c⟩;rw[c];clear c W CG;go_wp2_with fail
   refine CF.o.mono ?_;rintro e W ⟨rfl,c⟩;rw[c];clear c W CF;go_wp2_with fail
   go_loopw [10,11] (λlv i wr=>∃k:Nat,k<=F.length/\i=Q I k/\aX gz w.heap.size wr 260 2 lv ((F.take k).filter λf=>f.1 !=v)/\Mb w.heap.size w wr) (λ_ i _=>F.length- (intOf i).toNat)
   case atStart=>exact⟨0,O,rfl,by rw[Q5];exact aX.nil gz w.heap.size w 260 2,MU _ _⟩
   case round=>
    obtain⟨k,hk,rfl,j,l⟩:=hrel;obtain⟨a4,a7,g4,hl,-⟩:=j.row iO;subst hl;have yc:=MW l c1;have ly:y<wr.heap.size:=MO yc;have r:=A j;have d:=A l;clear j l;by_cases G:k<F.length
    ·have b9:(k:Int)<F.length:=by omega
     obtain⟨c0,s,H⟩:=d6.o k G;subst c0;have s:=MW d.o s;have H:=MW d.o H;have lg:=MO s;obtain⟨z,J⟩:=UX (F[k]);rw[<-J]at s H;have Y:=A J;clear J;cases Z:(z.1 !=v)with
     |false=>
      have t:aA (aX gz w.heap.size wr 260 2 (MR a4 ((F.take k).filter λf=>f.1 !=v).length a7) ((F.take (k+1)).filter λf=>f.1 !=v)):=A (by
       rw[gt _ G,<-Y.o];simp only[Z];rw[if_neg US,OY];exact r.o)
      go_wp2_with fail
      go_roundw
      case rel=>exact⟨k+1,O,by go_num,t.o,d.o⟩
      case measure=>simp[intOf];omega
     |true=>
      have K:((F.take k).filter λf=>f.1 !=v).length<=1000:=Mx (OX _ _) (by rw[Mh];have:=b1.o;omega);obtain⟨T,U,q,u,B,C⟩:=kx (e:=z) r.o d.o.size K;have V:=dN u;have D:Mb w.heap.size w q:=d.o.trans (C.aD d.o.size λb l=>r.o.iG l);have t:aA (aX gz w.heap.size q 260 2 (MR (N ⟨T,0,S⟩) (((F.take k).filter λf=>f.1 !=v).length+1) U) ((F.take (k+1)).filter λf=>f.1 !=v)):=A (by
       rw[gt _ G,<-Y.o];simp only[Z,if_true];exact B)
      have c2:=A D;obtain⟨m,p⟩:=UX (((F.take k).filter λf=>f.1 !=v).length);rw[<-p]at V t⊢;clear u B C D p;go_wp2_with fail
      go_roundw
      case rel=>exact⟨k+1,O,by go_num,t.o,c2.o⟩
      case measure=>simp[intOf];omega
    ·have b9:¬(k:Int)<F.length:=by omega
     have a0:F.take k=F:=NN O;have j:=r.o;rw[a0]at j⊢;have K:(F.filter λf=>f.1 !=v).length<=1000:=Mx (OX _ _) (by have:=b1.o;omega);obtain⟨T,U,q,u,B,C⟩:=kx (e:=(v,b)) j d.o.size K;have V:=dN u;have D:Mb w.heap.size w q:=d.o.trans (C.aD d.o.size λb l=>j.iG l);obtain⟨L,M,P,y7,f7⟩:=HX.o.xU D B;rw[e5.o]at y7;have g0:y<q.heap.size:=MO y7;obtain⟨m,p⟩:=UX ((F.filter λf=>f.1 !=v).length);rw[<-p]at L M P V⊢;have HF:aA (qK y x v b w (q.setCell ⟨y,1,S⟩ (MR (N ⟨T,0,S⟩) (m+1) U))):=A (MX ⟨d2.o,_,by rw[d0.o];exact L,M,P⟩);clear L M P j p a0 u B C D K;go_wp2;go_ret;exact⟨rfl,HF.o⟩
end
section
attribute [local go_sem] Oper.semAt_some aI
attribute [local go_sem ↓ high] ia
def lG(r:Rl)(n:Nat):Bool:=r.ok&&(r.ac==2&&M9 ((n:Int)<=r.po))
theorem uB.iF{B o:Nat}{v:Ma}{m:List Rl}{r:Rl}{n:MV}{e:Ending}(a:Mb w.heap.size w n)(p:y<w.heap.size)(h:uB B y o v m r n e W):uB B y o v m r w e W:=by
 have k:=a.size;rcases h with⟨c,d,f⟩|⟨c,d,f,g⟩|⟨c,d,f,g,l⟩|⟨c,d,f,g,i,u,l,x,z,C,D,s,E,F⟩
 ·exact Mf ⟨c,d,a.trans (f.mono k)⟩
 ·exact MX (Mf ⟨c,d,f,a.trans (g.mono k)⟩)
 ·exact MX (MX (Mf ⟨c,d,f,g,a.trans (l.mono k)⟩))
 ·refine MX (MX (MX ⟨c,d,f,g,i,u,l,x,z,C,(aH.aG a).trans D,λj t=>?_,λb G=>(E b G).imp id λq=>Mx k q,(Ju.aS (a.block y p)).trans F⟩));have q:=jr.aS (a.block y p) j;exact⟨(s j t).1.trans q.1,(s j t).2.trans q.2⟩
def uA(y:Nat)(x:aK)(r:Rl)(w:MV)(e:Ending)(W:MV):Prop:=(lG r x.Q.length=Mk/\e=MZ (Q I 1)/\Mb w.heap.size w W)\/(lG r x.Q.length=Md/\uB 1 y 3 x.tv x.rs r w e W)
theorem vx(y:Nat)(x:aK)(r:Rl)(w:MV)(h:aT w y x)(H:x.rs.length<=200):Mo MT 80 #[MQ (N ⟨y,0,S⟩),M1 #[Q I r.id,Q I r.pr,Q I r.k0,Q I r.v0,Q I r.m0,Q I r.k1,Q I r.v1,Q I r.m1,Q I r.k2,Q I r.v2,Q I r.m2,Q I r.k3,Q I r.v3,Q I r.m3,Q I r.k4,Q I r.v4,Q I r.m4,Q I r.ac,Q I r.po]] w (uA y x r w):=by
 obtain⟨J,K,L⟩:=dJ;obtain⟨f,l⟩:=UX (w.alloc (MY #[Q I r.id,Q I r.pr,Q I r.k0,Q I r.v0,Q I r.m0,Q I r.k1,Q I r.v1,Q I r.m1,Q I r.k2,Q I r.v2,Q I r.m2,Q I r.k3,Q I r.v3,Q I r.m3,Q I r.k4,Q I r.v4,Q I r.m4,Q I r.ac,Q I r.po] 37));obtain⟨d,o⟩:=UX w.heap.size;have M:=UY l;have B:f.rangeAt d 0 [Q I r.id,Q I r.pr,Q I r.k0,Q I r.v0,Q I r.m0,Q I r.k1,Q I r.v1,Q I r.m1,Q I r.k2,Q I r.v2,Q I r.m2,Q I r.k3,Q I r.v3,Q I r.m3,Q I r.k4,Q I r.v4,Q I r.m4,Q I r.ac,Q I r.po]:=by rw[l,o];exact aN _ _ _
 have Z:(kZ (MQ (N ⟨w.heap.size,0,S⟩))).run MT (w.alloc (MY #[Q I r.id,Q I r.pr,Q I r.k0,Q I r.v0,Q I r.m0,Q I r.k1,Q I r.v1,Q I r.m1,Q I r.k2,Q I r.v2,Q I r.m2,Q I r.k3,Q I r.v3,Q I r.m3,Q I r.k4,Q I r.v4,Q I r.m4,Q I r.ac,Q I r.po] 37))=.ok (M1 #[Q I r.id,Q I r.pr,Q I r.k0,Q I r.v0,Q I r.m0,Q I r.k1,Q I r.v1,Q I r.m1,Q I r.k2,Q I r.v2,Q I r.m2,Q I r.k3,Q I r.v3,Q I r.m3,Q I r.k4,Q I r.v4,Q I r.m4,Q I r.ac,Q I r.po]) (w.alloc (MY #[Q I r.id,Q I r.pr,Q I r.k0,Q I r.v0,Q I r.m0,Q I r.k1,Q I r.v1,Q I r.m1,Q I r.k2,Q I r.v2,Q I r.m2,Q I r.k3,Q I r.v3,Q I r.m3,Q I r.k4,Q I r.v4,Q I r.m4,Q I r.ac,Q I r.po] 37)):=by
  have:=NW (P:=MT) f d 0 37 [Q I r.id,Q I r.pr,Q I r.k0,Q I r.v0,Q I r.m0,Q I r.k1,Q I r.v1,Q I r.m1,Q I r.k2,Q I r.v2,Q I r.m2,Q I r.k3,Q I r.v3,Q I r.m3,Q I r.k4,Q I r.v4,Q I r.m4,Q I r.ac,Q I r.po] J B K L ay;rw[l,o]at this;exact this
 have R:aA (Mo MT 123 #[M1 #[Q I r.id,Q I r.pr,Q I r.k0,Q I r.v0,Q I r.m0,Q I r.k1,Q I r.v1,Q I r.m1,Q I r.k2,Q I r.v2,Q I r.m2,Q I r.k3,Q I r.v3,Q I r.m3,Q I r.k4,Q I r.v4,Q I r.m4,Q I r.ac,Q I r.po]] (w.alloc (MY #[Q I r.id,Q I r.pr,Q I r.k0,Q I r.v0,Q I r.m0,Q I r.k1,Q I r.v1,Q I r.m1,Q I r.k2,Q I r.v2,Q I r.m2,Q I r.k3,Q I r.v3,Q I r.m3,Q I r.k4,Q I r.v4,Q I r.m4,Q I r.ac,Q I r.po] 37)) λe w'=>e=MZ (M0 r.ok)/\Mb f.heap.size f w'):=A (by rw[<-l];exact qU r f);have T:=h.lt;have HX:=A h;have HR:=A H;have U:=A M;have a3:=A B;have a7:=A o;clear h H M B;go_enter func80,ntmps80;go_wp2_with fail
 refine R.o.mono ?_;rintro e a ⟨rfl,C⟩;rw[<-o];have s:=U.o.trans (C.mono U.o.size);have t:=aO a3.o C;have a4:a.cell? ⟨d,17,S⟩=N (Q I r.ac):=t 17 _ rfl;have a8:a.cell? ⟨d,18,S⟩=N (Q I r.po):=t 18 _ rfl;have i:=HX.o.aD s;obtain⟨pa,b0,pg,V,-⟩:=i.jd;have X:=i.c0;rw[V]at X;obtain⟨n,D⟩:=UX x.Q.length;rw[<-D]at X;have ly:y<a.heap.size:=i.lt;have lx:d<a.heap.size:=MO a4;have j:∀m,Mb a.heap.size a (a.drewN m):=λm=>aF (MU _ a);have b3:∀m,(kZ (MQ (N ⟨d,0,S⟩))).run MT (a.drewN m)=.ok (M1 #[Q I r.id,Q I r.pr,Q I r.k0,Q I r.v0,Q I r.m0,Q I r.k1,Q I r.v1,Q I r.m1,Q I r.k2,Q I r.v2,Q I r.m2,Q I r.k3,Q I r.v3,Q I r.m3,Q I r.k4,Q I r.v4,Q I r.m4,Q I r.ac,Q I r.po]) (a.drewN m):=λm=>NW (a.drewN m) d 0 37 [Q I r.id,Q I r.pr,Q I r.k0,Q I r.v0,Q I r.m0,Q I r.k1,Q I r.v1,Q I r.m1,Q I r.k2,Q I r.v2,Q I r.m2,Q I r.k3,Q I r.v3,Q I r.m3,Q I r.k4,Q I r.v4,Q I r.m4,Q I r.ac,Q I r.po] J (aO t (j m)) K L ay;have u:=A λ(m:Nat)=>qV 1 y 3 x.tv x.rs r (a.drewN m) (show iB 1 (a.drewN m) y 3 x.tv x.rs from⟨(i.aD (j m)).c3,(i.aD (j m)).frz 3,(i.aD (j m)).rt,HR.o,US⟩) ⟨US,Nat.lt_of_lt_of_le (PL (NG _) ly) (j m).size⟩;have v:aA (∀m,Mb w.heap.size w (a.drewN m)):=A λm=>s.trans ((j m).mono s.size);have E:=A T;have Y:=A D;clear R C s t i V Z l o T D j;cases g:r.ok with
 |false=>
  have k:aA (∀m e W,uB 1 y 3 x.tv x.rs r (a.drewN m) e W->uA y x r w e W):=A λm e W b=>MX ⟨by unfold lG;rw[g];rfl,uB.iF (v.o m) E.o b⟩;clear g;go_wp2_with fail
  go_quiet (fail)
  go_wp2_with fail
  go_region_with
   (first|(go_at_call 67;refine(u.o _).mono ?_;rintro e W b;have p:=A (k.o _ e W b);have q:∃z,e=MZ (Q I z):=(by rcases b with⟨c,-⟩|⟨c,-⟩|⟨c,-⟩|⟨c,-⟩<;>exact⟨_,c⟩);clear b;obtain⟨z,rfl⟩:=q))
  all_goals
   go_wp2;go_ret;exact p.o
 |true=>
  cases F:(r.ac==2)with
  |false=>
   have k:aA (∀m e W,uB 1 y 3 x.tv x.rs r (a.drewN m) e W->uA y x r w e W):=A λm e W b=>MX ⟨by unfold lG;rw[g,F];rfl,uB.iF (v.o m) E.o b⟩;clear g;go_wp2_with fail
   go_quiet (fail)
   go_wp2_with fail
   go_region_with
    (first|(go_at_call 67;refine(u.o _).mono ?_;rintro e W b;have p:=A (k.o _ e W b);have q:∃z,e=MZ (Q I z):=(by rcases b with⟨c,-⟩|⟨c,-⟩|⟨c,-⟩|⟨c,-⟩<;>exact⟨_,c⟩);clear b;obtain⟨z,rfl⟩:=q))
   all_goals
    go_wp2;go_ret;exact p.o
  |true=>
   by_cases a6:(n:Int)<=r.po
   ·have G:M9 ((n:Int)<=r.po)=true:=by simp[a6]
    have k:aA (∀m,uA y x r w (MZ (Q I 1)) (a.drewN m)):=A λm=>Mf ⟨by unfold lG;rw[g,F,<-Y.o,G];rfl,rfl,v.o m⟩;clear g u;go_wp2_with fail
    go_quiet (fail)
    go_wp2;go_ret;exact k.o _
   ·have G:M9 ((n:Int)<=r.po)=false:=by simp;omega
    have k:aA (∀m e W,uB 1 y 3 x.tv x.rs r (a.drewN m) e W->uA y x r w e W):=A λm e W b=>MX ⟨by unfold lG;rw[g,F,<-Y.o,G];rfl,uB.iF (v.o m) E.o b⟩;clear g;go_wp2_with fail
    go_quiet (fail)
    go_wp2_with fail
    go_region_with
     (first|(go_at_call 67;refine(u.o _).mono ?_;rintro e W b;have p:=A (k.o _ e W b);have q:∃z,e=MZ (Q I z):=(by rcases b with⟨c,-⟩|⟨c,-⟩|⟨c,-⟩|⟨c,-⟩<;>exact⟨_,c⟩);clear b;obtain⟨z,rfl⟩:=q))
    all_goals
     go_wp2;go_ret;exact p.o
end
section
attribute [local go_sem] Oper.semAt_some aI
theorem DF{a b:Int}(h:¬(a<=x/\x<=b)):bD a b x=false:=by
 rw[<-NB,aw];exact h
theorem xi(n a:Nat):mG n a=n↔n%mK a=0:=by
 unfold mG;have:=Nat.div_add_mod n (mK a);rw[Nat.mul_comm]at this;omega
theorem zD(p l:Int)(w:MV)(h:¬(0<=l/\l<=32)):Mo MT 145 #[M1 #[Q I p,Q I l]] w λe s=>e=MZ (M0 Md)/\Mb w.heap.size w s:=by
 have n:=A λ(W:MV)=>kK W;have o:=A λ(W:MV)=>fL 0 32 l W;rw[DF h]at o;clear h;go_enter RZ,ntmps145;go_wp2_with fail
 refine(n.o _).mono ?_;rintro e a ⟨rfl,f⟩;have j:a.cell? ⟨w.heap.size,0,S⟩=N (Q I p):=MW f (aB (aU _ _) rfl);have q:a.cell? ⟨w.heap.size,1,S⟩=N (Q I l):=MW f (aB (aU _ _) rfl);have C:=MO j;have k:Mb w.heap.size w a:=((MU _ w).alloc (MP _) _).trans (f.mono (by simp));obtain⟨b,d⟩:=UX ((a.alloc (MY #[Q I 0,Q I 32] 122)).alloc (MY #[Q I 32,Q I 0,Q I 4294967295] 178));have g:Mb a.heap.size a b:=by rw[d];exact((MU _ a).alloc (MP _) _).alloc (by simp) _
 have m:b.heap[a.heap.size]?=N (MY #[Q I 0,Q I 32] 122 (0,0)):=by
  rw[d];exact(((MU _ (a.alloc (MY #[Q I 0,Q I 32] 122))).alloc (MP _) _).block _ (by simp)).trans (aU _ _)
 have i:b.heap[a.heap.size+1]?=N (MY #[Q I 32,Q I 0,Q I 4294967295] 178 (0,0)):=by
  have h:=aU (a.alloc (MY #[Q I 0,Q I 32] 122)) (MY #[Q I 32,Q I 0,Q I 4294967295] 178);rw[show(a.alloc (MY #[Q I 0,Q I 32] 122)).heap.size=a.heap.size+1 by simp]at h;rw[d];exact h
 have t:=MW g j;have D:=MW g q;have u:b.cell? ⟨a.heap.size,0,S⟩=N (Q I 0):=aB m rfl;have E:b.cell? ⟨a.heap.size,1,S⟩=N (Q I 32):=aB m rfl;have v:b.cell? ⟨a.heap.size+1,0,S⟩=N (Q I 32):=aB i rfl;have F:b.cell? ⟨a.heap.size+1,1,S⟩=N (Q I 0):=aB i rfl;have G:b.cell? ⟨a.heap.size+1,2,S⟩=N (Q I 4294967295):=aB i rfl;have H:=MO t;have J:=MO u;have K:=MO v;have r:Mb w.heap.size w b:=k.trans (g.mono k.size);have x:=A d;clear m i j q g f d n k;go_wp2_with fail
 rw[<-x.o];refine Mg UR UR ?_
 repeat(first|go_big_quiet_skip|quiet_step (first|exact Ml (o.o _)))
 refine M3 ?_;intro L c;replace c:=aE c;obtain⟨y,z⟩:=aW c;have M:=c.size;have B:=A (r.trans (c.mono r.size));clear c y z;go_wp2;go_ret;exact⟨rfl,B.o⟩
theorem zC(p l:Int)(w:MV)(h:0<=l/\l<=32)(n:¬(0<=p/\p<=4294967295)):Mo MT 145 #[M1 #[Q I p,Q I l]] w λe u=>e=MZ (M0 Md)/\Mb w.heap.size w u:=by
 have o:=A λ(W:MV)=>kK W;have q:=A λ(W:MV)=>fL 0 32 l W;have r:=A λ(W:MV)=>gR 32 0 4294967295 p W;rw[show bD 0 32 l=Mk from aw.2 h]at q;rw[DF n]at r;clear h n;go_enter RZ,ntmps145;go_wp2_with fail
 refine(o.o _).mono ?_;rintro e a ⟨rfl,f⟩;have j:a.cell? ⟨w.heap.size,0,S⟩=N (Q I p):=MW f (aB (aU _ _) rfl);have s:a.cell? ⟨w.heap.size,1,S⟩=N (Q I l):=MW f (aB (aU _ _) rfl);have E:=MO j;have k:Mb w.heap.size w a:=((MU _ w).alloc (MP _) _).trans (f.mono (by simp));obtain⟨b,d⟩:=UX ((a.alloc (MY #[Q I 0,Q I 32] 122)).alloc (MY #[Q I 32,Q I 0,Q I 4294967295] 178));have g:Mb a.heap.size a b:=by rw[d];exact((MU _ a).alloc (MP _) _).alloc (by simp) _
 have m:b.heap[a.heap.size]?=N (MY #[Q I 0,Q I 32] 122 (0,0)):=by
  rw[d];exact(((MU _ (a.alloc (MY #[Q I 0,Q I 32] 122))).alloc (MP _) _).block _ (by simp)).trans (aU _ _)
 have i:b.heap[a.heap.size+1]?=N (MY #[Q I 32,Q I 0,Q I 4294967295] 178 (0,0)):=by
  have h:=aU (a.alloc (MY #[Q I 0,Q I 32] 122)) (MY #[Q I 32,Q I 0,Q I 4294967295] 178);rw[show(a.alloc (MY #[Q I 0,Q I 32] 122)).heap.size=a.heap.size+1 by simp]at h;rw[d];exact h
 have v:=MW g j;have F:=MW g s;have x:b.cell? ⟨a.heap.size,0,S⟩=N (Q I 0):=aB m rfl;have G:b.cell? ⟨a.heap.size,1,S⟩=N (Q I 32):=aB m rfl;have y:b.cell? ⟨a.heap.size+1,0,S⟩=N (Q I 32):=aB i rfl;have H:b.cell? ⟨a.heap.size+1,1,S⟩=N (Q I 0):=aB i rfl;have J:b.cell? ⟨a.heap.size+1,2,S⟩=N (Q I 4294967295):=aB i rfl;have K:=MO v;have L:=MO x;have M:=MO y;have t:Mb w.heap.size w b:=k.trans (g.mono k.size);have z:=A d;clear m i j s g f d o k;go_wp2_with fail
 rw[<-z.o];refine Mg UR UR ?_
 repeat(first|go_big_quiet_skip|quiet_step (first|exact Ml (q.o _)|exact Ml (r.o _)))
 refine M3 ?_;intro P c;replace c:=aE c;obtain⟨B,C⟩:=aW c;have R:=c.size;have D:=A (t.trans (c.mono t.size));clear c B C;go_wp2;go_ret;exact⟨rfl,D.o⟩
theorem zB(d c:Nat)(w:MV)(z:d<4294967296)(B:c<=32)(o:¬d%mK c=0):Mo MT 145 #[M1 #[Q I d,Q I c]] w λe C=>e=MZ (M0 Md)/\Mb w.heap.size w C:=by
 have p:=A λ(W:MV)=>kK W;have D:=A λ(W:MV)=>oU d c W B;have r:=A λ(W:MV)=>fL 0 32 c W;have s:=A λ(W:MV)=>gR 32 0 4294967295 d W;rw[show bD 0 32 c=Mk from aw.2 O]at r;rw[show bD 0 4294967295 d=Mk from aw.2 O]at s;have E:=IT d c z;obtain⟨t,u⟩:=UX (d%mK c);rw[<-u]at E o;have v:¬(t:Int)=0:=O;have F:aA (((t:Int)==0)=Md):=A (by simpa using v);generalize(mK c:Int) -1=q at*;clear o u v;go_enter RZ,ntmps145;go_wp2_with fail
 refine(p.o _).mono ?_;rintro e a ⟨rfl,i⟩;have l:a.cell? ⟨w.heap.size,0,S⟩=N (Q I d):=MW i (aB (aU _ _) rfl);have x:a.cell? ⟨w.heap.size,1,S⟩=N (Q I c):=MW i (aB (aU _ _) rfl);have R:=MO l;have m:Mb w.heap.size w a:=((MU _ w).alloc (MP _) _).trans (i.mono (by simp));obtain⟨b,g⟩:=UX ((a.alloc (MY #[Q I 0,Q I 32] 122)).alloc (MY #[Q I 32,Q I 0,Q I 4294967295] 178));have j:Mb a.heap.size a b:=by rw[g];exact((MU _ a).alloc (MP _) _).alloc (by simp) _
 have n:b.heap[a.heap.size]?=N (MY #[Q I 0,Q I 32] 122 (0,0)):=by
  rw[g];exact(((MU _ (a.alloc (MY #[Q I 0,Q I 32] 122))).alloc (MP _) _).block _ (by simp)).trans (aU _ _)
 have k:b.heap[a.heap.size+1]?=N (MY #[Q I 32,Q I 0,Q I 4294967295] 178 (0,0)):=by
  have h:=aU (a.alloc (MY #[Q I 0,Q I 32] 122)) (MY #[Q I 32,Q I 0,Q I 4294967295] 178);rw[show(a.alloc (MY #[Q I 0,Q I 32] 122)).heap.size=a.heap.size+1 by simp]at h;rw[g];exact h
 have G:=MW j l;have T:=MW j x;have H:b.cell? ⟨a.heap.size,0,S⟩=N (Q I 0):=aB n rfl;have U:b.cell? ⟨a.heap.size,1,S⟩=N (Q I 32):=aB n rfl;have J:b.cell? ⟨a.heap.size+1,0,S⟩=N (Q I 32):=aB k rfl;have V:b.cell? ⟨a.heap.size+1,1,S⟩=N (Q I 0):=aB k rfl;have X:b.cell? ⟨a.heap.size+1,2,S⟩=N (Q I 4294967295):=aB k rfl;have Y:=MO G;have Z:=MO H;have z2:=MO J;have y:Mb w.heap.size w b:=m.trans (j.mono m.size);have K:=A g;clear n k l x j i g p m;go_wp2_with fail
 rw[<-K.o];refine Mg UR UR ?_
 repeat(first|go_big_quiet_skip|quiet_step (first|exact Ml (D.o _)|exact Ml (r.o _)|exact Ml (s.o _)))
 refine M3 ?_;intro wq f;replace f:=aE f;obtain⟨L,M⟩:=aW f;have a2:=f.size;have P:=A (y.trans (f.mono y.size));clear f L M;go_wp2;go_ret;exact⟨by show MZ (M0 ((t:Int)==0))=_;rw[F.o],P.o⟩
theorem Bj(p l:Int)(w:MV):Mo MT 145 #[M1 #[Q I p,Q I l]] w λe g=>e=MZ (M0 (jV p l))/\Mb w.heap.size w g:=by
 by_cases f:0<=l/\l<=32
 ·by_cases h:0<=p/\p<=4294967295
  ·obtain⟨a,rfl⟩:∃a:Nat,p=a:=⟨p.toNat,O⟩;obtain⟨b,rfl⟩:∃b:Nat,l=b:=⟨l.toNat,O⟩;by_cases d:a%mK b=0
   ·have c:jV a b=true:=by
     unfold jV;simp[(xi a b).2 d];omega
    rw[c];exact zE a b w O O d
   ·have c:jV a b=false:=by
     have:¬mG a b=a:=λe=>d ((xi a b).1 e);unfold jV;simp[this]
    rw[c];exact zB a b w O O d
  ·have c:jV p l=false:=by
    unfold jV;rw[<-NB];intro e;simp only[NH,decide_eq_true_eq]at e;omega
   rw[c];exact zC p l w f h
 ·have c:jV p l=false:=by
   unfold jV;rw[<-NB];intro e;simp only[NH,decide_eq_true_eq]at e;omega
  rw[c];exact zD p l w f
theorem sZ{d:Ma}{K:List Rt}{e:Rt}{a:Bool}{b:MV}(c:Mb w.heap.size w W)(f:uC m d K e a W b):uC m d K e a w b:=by
 unfold uC at*;cases a with
 |true=>exact oE c f
 |false=>
  have g:Mb W.heap.size W b:=f;exact c.trans (g.mono c.size)
theorem I4(l i:Nat)(m:Ma)(K:List Rt)(a:Rt)(w:MV)(p:w.cell? ⟨l,0,S⟩=N (MQ (N ⟨i,0,S⟩)))(t:dx w i m K)(u:dA K)(v:K.length<=199)(V:a.mac.size<=1000):Mo MT 146 #[MQ (N ⟨l,0,S⟩),M1 #[Q I a.bits,Q I a.len],M1 #[Q I a.vlan,MS a.mac]] w λe n=>∃b:Bool,b=((cM K a.bits a.len).isSome||M9 ((K.length:Int)<100))/\e=MZ (M0 b)/\uC i m K a b w n:=by
 obtain⟨c,j⟩:=UX ((w.alloc (MY #[Q I a.bits,Q I a.len] 205)).alloc (MY #[Q I a.vlan,MS a.mac] 207));have q:Mb w.heap.size w c:=by rw[j];exact((MU _ w).alloc (MP _) _).alloc (by rw[aZ];omega) _
 have b5:c.heap.size=w.heap.size+2:=by rw[j,aZ,aZ]
 have r:c.heap[w.heap.size]?=N (MY #[Q I a.bits,Q I a.len] 205 (0,0)):=by
  rw[j];exact(((MU _ (w.alloc (MY #[Q I a.bits,Q I a.len] 205))).alloc (MP _) _).block _ (by rw[aZ];omega)).trans (bI _ _)
 have o:c.heap[w.heap.size+1]?=N (MY #[Q I a.vlan,MS a.mac] 207 (0,0)):=by
  rw[j,<-aZ w (MY #[Q I a.bits,Q I a.len] 205)];exact bI _ _
 have x:=A λ(W:MV)=>qG a.mac W O;have X:=A λ(W:MV) (h:Mb w.heap.size w W)=>(ED i m K a 100 W (t.vt h) u v).mono (R':=λe n=>∃b:Bool,b=((cM K a.bits a.len).isSome||M9 ((K.length:Int)<100))/\e=MZ (M0 b)/\uC i m K a b w n) λe n Y=>by
  obtain⟨b,Z,e2,e3⟩:=Y;exact⟨b,Z,e2,sZ h e3⟩
 have y:c.cell? ⟨w.heap.size,0,S⟩=N (Q I a.bits):=aM r rfl;have z:c.cell? ⟨w.heap.size,1,S⟩=N (Q I a.len):=aM r rfl;have B:c.cell? ⟨w.heap.size+1,0,S⟩=N (Q I a.vlan):=aM o rfl;have C:c.cell? ⟨w.heap.size+1,1,S⟩=N (MS a.mac):=aM o rfl;have D:=MW q p;have b6:=MO p;have E:=A q;have F:=A j;have s:=A o;clear q j r o t u v V p;go_enter func146,ntmps146;go_wp2_with fail
 rw[<-F.o];refine(x.o _).mono ?_;rintro e k ⟨rfl,d⟩;have G:=MW d y;have H:=MW d z;have J:=MW d B;have L:=MW d C;have M:=MW d D;have a2:=d.size;have f3:k.frozen? ⟨w.heap.size+1,1,S⟩=false:=wy ((d.block _ (aJ s.o)).trans s.o) 1;have q0:w.heap.size<k.heap.size:=O;have q1:w.heap.size+1<k.heap.size:=O;have q2:l<k.heap.size:=O;have q3:¬l=w.heap.size+1:=O;have P:aA (Mb w.heap.size w (k.setCell ⟨w.heap.size+1,1,S⟩ (MS a.mac))):=A ((E.o.trans (d.mono O)).setCell (show w.heap.size<=w.heap.size+1 by omega) _);obtain⟨g,f⟩:=UX (k.setCell ⟨w.heap.size+1,1,S⟩ (MS a.mac));have g0:g.cell? ⟨w.heap.size,0,S⟩=N (Q I a.bits):=by rw[f,NT _ _ _ _ (by simp)];exact G
 have g1:g.cell? ⟨w.heap.size,1,S⟩=N (Q I a.len):=by rw[f,NT _ _ _ _ (by simp)];exact H
 have g2:g.cell? ⟨w.heap.size+1,0,S⟩=N (Q I a.vlan):=by rw[f,NT _ _ _ _ (by simp)];exact J
 have g3:g.cell? ⟨w.heap.size+1,1,S⟩=N (MS a.mac):=by rw[f];exact Nf _ _ _ L
 have g4:g.cell? ⟨l,0,S⟩=N (MQ (N ⟨i,0,S⟩)):=by rw[f,NT _ _ _ _ (by simp<;>omega)];exact M
 have z0:=MO g0;have z1:=MO g2;have z2:=MO g4;rw[<-f]at P;have R:=A f;clear f F E s d y z B C D x G H J M a2;go_wp2_with fail
 rw[<-R.o];clear R f3 L q0 q1 q2 q3;go_region_with
  (first|(go_at_call 197;refine(X.o _ ?_).mono ?_;(exact P.o.drew);rintro e w3 ⟨b,T,rfl,U⟩;have HP:=A U;have b4:=A T;clear U T))
 all_goals
  go_wp2;go_ret;exact⟨_,b4.o,rfl,HP.o⟩
def gZ(K:List Rt)(p l v:Int)(b:ByteArray):Int:=if jV p l=Md then 8 else if js v=Md then 2 else if fQ b=Md then 3 else if(cM K p l).isNone&&M9 (100<=K.length)then 6 else 0
def fD(b:Nat)(c:Ma)(K:List Rt)(d:Rt)(r:Int)(w a:MV):Prop:=if r=0 then pY b c K d w a else Mb w.heap.size w a
theorem Dz(s L j:Nat)(r:Ma)(K:List Rt)(p l v:Int)(b:ByteArray)(w:MV)(d:w.cell? ⟨s,2,S⟩=N (MQ (N ⟨L,0,S⟩)))(V:w.cell? ⟨L,0,S⟩=N (MQ (N ⟨j,0,S⟩)))(X:dx w j r K)(Y:dA K)(Z:K.length<=100):Mo MT 75 #[MQ (N ⟨s,0,S⟩),Q I p,Q I l,Q I v,MS b] w λe F=>e=MZ (Q I (gZ K p l v b))/\fD j r K ⟨p,l,v,b⟩ (gZ K p l v b) w F:=by
 obtain⟨t,G⟩:=UX (w.alloc (MY #[Q I p,Q I l] 205));have M:=UY G;have P:t.heap[w.heap.size]?=N (MY #[Q I p,Q I l] 205 (0,0)):=by rw[G];exact bI _ _
 have u:=A (Bj p l t);have x:=A λ(W:MV)=>oJ v W;have H:=A λ(W:MV)=>nV b W;have k0:t.cell? ⟨w.heap.size,0,S⟩=N (Q I p):=aM P rfl;have k1:t.cell? ⟨w.heap.size,1,S⟩=N (Q I l):=aM P rfl;have k2:=MW M d;have c:=A M;have k:=A G;have a3:gZ K p l v b=if jV p l=Md then 8 else if js v=Md then 2 else if fQ b=Md then 3 else if(cM K p l).isNone&&M9 (100<=K.length)then 6 else 0:=rfl;have m:=A a3;have J:=A (And.intro V (And.intro X (And.intro Y Z)));clear X Y Z M G P d V a3;cases g:jV p l with
 |false=>
  rw[g]at u;have f:gZ K p l v b=8:=by rw[m.o,g];rfl
  have n:aA (∀W,Mb w.heap.size w W->fD j r K ⟨p,l,v,b⟩ 8 w W):=A λW y=>by unfold fD;rw[if_neg US];exact y
  rw[f];clear f g m;go_enter Qt,ntmps75;go_wp2_with fail
  rw[<-k.o];refine u.o.mono ?_;rintro e R ⟨rfl,a⟩;have B:=A (n.o _ (c.o.trans (a.mono c.o.size)));clear a n c k;go_wp2;go_ret;exact⟨rfl,B.o⟩
 |true=>
  rw[g]at u;cases d:js v with
  |false=>
   rw[d]at x;have f:gZ K p l v b=2:=by rw[m.o,g,d];rfl
   have n:aA (∀W,Mb w.heap.size w W->fD j r K ⟨p,l,v,b⟩ 2 w W):=A λW y=>by unfold fD;rw[if_neg US];exact y
   rw[f];clear f g d m;go_enter Qt,ntmps75;go_wp2_with fail
   rw[<-k.o];refine u.o.mono ?_;rintro e R ⟨rfl,a⟩;go_wp2_with fail
   refine(x.o _).mono ?_;rintro e W2 ⟨rfl,o⟩;have B:=A (n.o _ (c.o.trans ((a.trans (o.mono a.size)).mono c.o.size)));clear a o n c k;go_wp2;go_ret;exact⟨rfl,B.o⟩
  |true=>
   rw[d]at x;cases i:fQ b with
   |false=>
    rw[i]at H;have f:gZ K p l v b=3:=by rw[m.o,g,d,i];rfl
    have n:aA (∀W,Mb w.heap.size w W->fD j r K ⟨p,l,v,b⟩ 3 w W):=A λW y=>by unfold fD;rw[if_neg US];exact y
    rw[f];clear f g d i m;go_enter Qt,ntmps75;go_wp2_with fail
    rw[<-k.o];refine u.o.mono ?_;rintro e R ⟨rfl,a⟩;go_wp2_with fail
    refine(x.o _).mono ?_;rintro e W2 ⟨rfl,o⟩;have B:=A (n.o _ (c.o.trans ((a.trans (o.mono a.size)).mono c.o.size)));clear a o n c k;go_wp2_with fail
    refine(H.o _).mono ?_;rintro e W ⟨rfl,C⟩;rw[C];clear C W;go_wp2;go_ret;exact⟨rfl,B.o⟩
   |true=>
    rw[i]at H;have a8:b.size=6:=by
     unfold fQ at i;simp only[NH,beq_iff_eq]at i;exact i.1
    have f:gZ K p l v b=if(cM K p l).isNone&&M9 (100<=K.length)then 6 else 0:=by rw[m.o,g,d,i];rfl
    have CT:=A λ(W:MV) (h:Mb w.heap.size w W)=>(I4 L j r K ⟨p,l,v,b⟩ W (MW h J.o.1) (J.o.2.1.vt h) J.o.2.2.1 (by have:=J.o.2.2.2;omega) (by show b.size<=1000;omega)).mono (R':=λe F=>∃q:Bool,e=MZ (M0 q)/\gZ K p l v b=(if q then 0 else 6)/\fD j r K ⟨p,l,v,b⟩ (gZ K p l v b) w F) λe F h'=>by
     obtain⟨q,e1,e2,e3⟩:=h';have D:gZ K p l v b=if q then 0 else 6:=by
      rw[f,e1];cases hq:(cM K p l)with
      |some z=>simp
      |none=>
       by_cases c1:K.length<100
       ·have:¬100<=K.length:=by omega
        have T:(K.length:Int)<100:=O;simp[this,T]
       ·have:100<=K.length:=by omega
        have T:¬(K.length:Int)<100:=O;simp[this,T]
     refine⟨q,e2,D,?_⟩;have U:=sZ h e3;unfold fD;rw[D];unfold uC at U;cases q with
     |true=>exact U
     |false=>exact U
    clear f g d i m a8;go_enter Qt,ntmps75;go_wp2_with fail
    rw[<-k.o];refine u.o.mono ?_;rintro e R ⟨rfl,a⟩;go_wp2_with fail
    refine(x.o _).mono ?_;rintro e W2 ⟨rfl,o⟩;have E:=a.trans (o.mono a.size);have d0:=MW E k0;have d1:=MW E k1;have d2:=MW E k2;have z0:=MO d0;have z2:=MO d2;have b9:=A (c.o.trans (E.mono c.o.size));clear a o E k0 k1 k2 k c u x;go_wp2_with fail
    refine(H.o _).mono ?_;rintro e W ⟨rfl,C⟩;rw[C];clear C W;go_wp2_with fail
    go_region_with
     (first|(go_at_call 146;refine(CT.o _ ?_).mono ?_;(exact b9.o.drew);rintro e w3 ⟨q,rfl,D,hp⟩;have HP:=A hp;have a7:=A D;clear hp D))
    all_goals
     cases q with
     |true=>
      go_wp2;go_ret;exact⟨by rw[a7.o];rfl,HP.o⟩
     |false=>
      go_wp2;go_ret;exact⟨by rw[a7.o];rfl,HP.o⟩
end
theorem Co:(NV (N5 (M1 #[Q I 0,MS Mq])) 1).toList=[Q I 0,MS Mq]:=by
 have e:(N5 (M1 #[Q I 0,MS Mq]))=#[Q I 0,MS Mq]:=rfl;rw[e];simp[NV,PO,List.range.loop]
theorem As(g m q i:Nat)(l:List Ma)(w:MV)(h:w.ownsRow 0 300 2 (MR (N ⟨g,0,S⟩) (m+1) q) (m+1) l)(U:∀u∈l,u.oneCell'=Mk)(hi:i<=m)(hn:m<=199):Mo MT 215 #[MR (N ⟨g,0,S⟩) (m+1) q,Q I i,Q I ((i:Int)+1)] w λe z=>e=MZ (MR (N ⟨g,0,S⟩) m q)/\z.ownsRow 0 300 2 (MR (N ⟨g,0,S⟩) m q) m (l.take (i*2)++l.drop ((i+1)*2))/\aH (λb=>b=g) w z/\∀j u,([Q I 0,MS Mq]:List Ma)[j]?=N u->z.cell? ⟨g,m*2+j,S⟩=N u:=by
 obtain⟨V,B,c2,X,e4⟩:=info_parts Bq;obtain⟨t,h2⟩:=h;rcases h2 with⟨r,h0⟩|⟨d,f,n,r,_,E,e6,F,Y,G⟩
 ·cases r
 have e1:d=g:=by simpa using(by injection r with a b c;exact(congrArg (λo=>o.map (·.block)) a).symm:some d=some g)
 have e2:f=q:=by injection r with a b c;exact c.symm
 subst e1 e2;clear r;have x:n.toList.length=f*2:=by rw[Array.length_toList];exact Y
 obtain⟨D,p⟩:=UX (l.drop ((i+1)*2));have Z:D.length=(m-i)*2:=by rw[p,M2,t];omega
 have a0:∀j v,D[j]?=N v->w.cell? ⟨d,(i+1)*2+j,S⟩=N v:=λj v k=>by
  rw[p,N2,<-G,M5]at k;split at k
  ·exact aM E k
  ·cases k
 have a1:∀u∈D,u.oneCell'=true:=λu hu=>U u (by rw[p]at hu;exact Nu hu);have H:(M8 (M8 n.toList (i*2) D) (m*2) [Q I 0,MS Mq]).take (m*2)=l.take (i*2)++l.drop ((i+1)*2):=by
  have:=rc n.toList l [Q I 0,MS Mq] (i*2) ((m+1)*2) 2 G t rfl O (by rw[x];omega);rw[show(m+1)*2-2=m*2 by omega,show i*2+2=(i+1)*2 by omega,<-p]at this;rw[this,p]
 have J:(M8 n.toList (i*2) D).length=f*2:=by rw[NI _ _ _ O,x]
 have a3:(M8 (M8 n.toList (i*2) D) (m*2) [Q I 0,MS Mq]).length=f*2:=by rw[NI _ _ _ (by simp only[N6,OH];omega),J]
 obtain⟨K,L⟩:=UX (l.take (i*2)++l.drop ((i+1)*2));have a4:K.length=m*2:=by rw[L];simp only[Mz,Mh,M2,t];omega
 rw[<-L]at H⊢;have HG:aA (w.heap[d]?=N (MY n.toList.toArray 300 (0,0))):=A (by rw[E]);have HC:=A x;have y:=A Z;have c6:=A a0;have a7:=A a1;have HR:=A H;have a9:=A a3;have b0:=A J;have b1:=A a4;have b2:=A F;have hb:f<=9223372036854775807:=by unfold maxLen at F;omega
 clear E G t Y x Z a0 a1 H a3 a4 L p U F J;generalize n.toList=C at*;have q1:(i:Int)<=(m:Int):=O;have q2:(m:Int)+1<=f:=O;have q3:(0:Int)<=(i:Int)+1:=O;have q4:((i:Int)+1).toNat=i+1:=O;have q5:((m:Int)+1).toNat=m+1:=O;have q6:¬((i:Int)=(i:Int)+1):=O;have q7:(i:Int)<=f:=O;have q8:¬(f=m):=O;have q9:¬(f=i):=O;have f3:(m:Int)<=(m:Int)+1:=O;have d2:(i:Int)<=(i:Int)+1:=O;have f4:(0:Int)<=(m:Int)+1:=O;have b3:∀w,(QZ 300).run MT w=.ok (M1 #[Q I 0,MS Mq]) w:=λ_=>by simp[QZ,typeInfo,B,c2]
 have b4:=A b3;have b5:∀u∈([Q I 0,MS Mq]:List Ma),u.oneCell'=true:=by simp[NC]
 have b6:=A b5;have b9:aA (∀(W:MV),W.heap[d]?=N (MY (M8 (M8 C (i*2) D) (m*2) [Q I 0,MS Mq]).toArray 300 (0,0))->∀j u,([Q I 0,MS Mq]:List Ma)[j]?=N u->W.cell? ⟨d,m*2+j,S⟩=N u):=A λW hW j u k=>by
  have f5:j<([Q I 0,MS Mq]:List Ma).length:=by
   rcases N8 j ([Q I 0,MS Mq]:List Ma).length with h|h
   ·exact h
   ·rw[Re h]at k;cases k
  refine aM hW ?_;have hz:([Q I 0,MS Mq]:List Ma).length=2:=rfl;rw[dY _ _ _ (by rw[b0.o,hz];omega),if_neg O,if_pos O,RQ];exact k
 have c0:aA (m*2+([Q I 0,MS Mq]:List Ma).length<=(M8 C (i*2) D).length):=A (by rw[b0.o];simp only[N6,OH];omega);clear b3 b5;by_cases d5:f=i+1
 ·obtain rfl:m=i:=by omega
  subst d5;clear q8 q9 q6 q1 q7 d2 hi;have d6:D=[]:=PP (by rw[y.o];omega);subst d6;go_enter TI,ntmps215;go_wp2_with fail
  go_region_law (refine cZ rfl _ _ 199 rfl 300 V 2 gU B X d m (m+1) UV ⟨d,0,S⟩ 0 0 [] UV rfl (λj u k=>by cases k) a7.o O C 300 HG.o (by rw[y.o,HC.o];omega) (λb=>b=d) w (aH.refl _ _).drew (Mf rfl) ?_;intro w1 M P)
  go_wp2_with (refine cL rfl _ 199 rfl 300 (M1 #[Q I 0,MS Mq]) gU b4.o [Q I 0,MS Mq] Co b6.o d (m*2) 1 rfl (M8 C (m*2) []) 300 M.o c0.o (λb=>b=d) w P.o (Mf rfl) ?_)
  intro R s T;go_wp2;go_ret;exact⟨rfl,⟨b1.o,MX ⟨d,(m+1),_,rfl,NG _,s.o,O,b2.o,by rw[NY];exact a9.o,HR.o⟩⟩,T.o,b9.o R s.o⟩
 ·go_enter TI,ntmps215;go_wp2_with fail
  go_region_law (refine cZ rfl _ _ 199 rfl 300 V 2 gU B X d i f UV ⟨d,(i+1)*2,S⟩ (m-i) (f- (i+1)) D UV y.o (λj u k=>by rw[Addr.add_lit];exact c6.o j u k) a7.o O C 300 HG.o (by rw[y.o,HC.o];omega) (λb=>b=d) w (aH.refl _ _).drew (Mf rfl) ?_;intro w1 M P)
  have f6:i+(m-i)=m:=O;go_wp2_with (refine cL rfl _ 199 rfl 300 (M1 #[Q I 0,MS Mq]) gU b4.o [Q I 0,MS Mq] Co b6.o d (m*2) (f-m) rfl (M8 C (i*2) D) 300 M.o c0.o (λb=>b=d) w P.o (Mf rfl) ?_)
  intro R s T;go_wp2;go_ret;exact⟨rfl,⟨b1.o,MX ⟨d,f,_,rfl,NG _,s.o,O,b2.o,by rw[NY];exact a9.o,HR.o⟩⟩,T.o,b9.o R s.o⟩
theorem FZ:(NV (N5 (M1 #[Q I 0,Q I 0,Q I 0,MS Mq])) 1).toList=[Q I 0,Q I 0,Q I 0,MS Mq]:=by
 have e:(N5 (M1 #[Q I 0,Q I 0,Q I 0,MS Mq]))=#[Q I 0,Q I 0,Q I 0,MS Mq]:=rfl;rw[e];simp[NV,PO,List.range.loop]
theorem Dy(g m q i:Nat)(l:List Ma)(w:MV)(h:w.ownsRow 0 331 4 (MR (N ⟨g,0,S⟩) (m+1) q) (m+1) l)(U:∀u∈l,u.oneCell'=Mk)(hi:i<=m)(hn:m<=199):Mo MT 220 #[MR (N ⟨g,0,S⟩) (m+1) q,Q I i,Q I ((i:Int)+1)] w λe z=>e=MZ (MR (N ⟨g,0,S⟩) m q)/\z.ownsRow 0 331 4 (MR (N ⟨g,0,S⟩) m q) m (l.take (i*4)++l.drop ((i+1)*4))/\aH (λb=>b=g) w z/\∀j u,([Q I 0,Q I 0,Q I 0,MS Mq]:List Ma)[j]?=N u->z.cell? ⟨g,m*4+j,S⟩=N u:=by
 obtain⟨V,B,c2,X,e4⟩:=info_parts Hg;obtain⟨t,h2⟩:=h;rcases h2 with⟨r,h0⟩|⟨d,f,n,r,_,E,e6,F,Y,G⟩
 ·cases r
 have e1:d=g:=by simpa using(by injection r with a b c;exact(congrArg (λo=>o.map (·.block)) a).symm:some d=some g)
 have e2:f=q:=by injection r with a b c;exact c.symm
 subst e1 e2;clear r;have x:n.toList.length=f*4:=by rw[Array.length_toList];exact Y
 obtain⟨D,p⟩:=UX (l.drop ((i+1)*4));have Z:D.length=(m-i)*4:=by rw[p,M2,t];omega
 have a0:∀j v,D[j]?=N v->w.cell? ⟨d,(i+1)*4+j,S⟩=N v:=λj v k=>by
  rw[p,N2,<-G,M5]at k;split at k
  ·exact aM E k
  ·cases k
 have a1:∀u∈D,u.oneCell'=true:=λu hu=>U u (by rw[p]at hu;exact Nu hu);have H:(M8 (M8 n.toList (i*4) D) (m*4) [Q I 0,Q I 0,Q I 0,MS Mq]).take (m*4)=l.take (i*4)++l.drop ((i+1)*4):=by
  have:=rc n.toList l [Q I 0,Q I 0,Q I 0,MS Mq] (i*4) ((m+1)*4) 4 G t rfl O (by rw[x];omega);rw[show(m+1)*4-4=m*4 by omega,show i*4+4=(i+1)*4 by omega,<-p]at this;rw[this,p]
 have J:(M8 n.toList (i*4) D).length=f*4:=by rw[NI _ _ _ O,x]
 have a3:(M8 (M8 n.toList (i*4) D) (m*4) [Q I 0,Q I 0,Q I 0,MS Mq]).length=f*4:=by rw[NI _ _ _ (by simp only[N6,OH];omega),J]
 obtain⟨K,L⟩:=UX (l.take (i*4)++l.drop ((i+1)*4));have a4:K.length=m*4:=by rw[L];simp only[Mz,Mh,M2,t];omega
 rw[<-L]at H⊢;have HG:aA (w.heap[d]?=N (MY n.toList.toArray 331 (0,0))):=A (by rw[E]);have HC:=A x;have y:=A Z;have c6:=A a0;have a7:=A a1;have HR:=A H;have a9:=A a3;have b0:=A J;have b1:=A a4;have b2:=A F;have hb:f<=9223372036854775807:=by unfold maxLen at F;omega
 clear E G t Y x Z a0 a1 H a3 a4 L p U F J;generalize n.toList=C at*;have q1:(i:Int)<=(m:Int):=O;have q2:(m:Int)+1<=f:=O;have q3:(0:Int)<=(i:Int)+1:=O;have q4:((i:Int)+1).toNat=i+1:=O;have q5:((m:Int)+1).toNat=m+1:=O;have q6:¬((i:Int)=(i:Int)+1):=O;have q7:(i:Int)<=f:=O;have q8:¬(f=m):=O;have q9:¬(f=i):=O;have f3:(m:Int)<=(m:Int)+1:=O;have d2:(i:Int)<=(i:Int)+1:=O;have f4:(0:Int)<=(m:Int)+1:=O;have b3:∀w,(QZ 331).run MT w=.ok (M1 #[Q I 0,Q I 0,Q I 0,MS Mq]) w:=λ_=>by simp[QZ,typeInfo,B,c2]
 have b4:=A b3;have b5:∀u∈([Q I 0,Q I 0,Q I 0,MS Mq]:List Ma),u.oneCell'=true:=by simp[NC]
 have b6:=A b5;have b9:aA (∀(W:MV),W.heap[d]?=N (MY (M8 (M8 C (i*4) D) (m*4) [Q I 0,Q I 0,Q I 0,MS Mq]).toArray 331 (0,0))->∀j u,([Q I 0,Q I 0,Q I 0,MS Mq]:List Ma)[j]?=N u->W.cell? ⟨d,m*4+j,S⟩=N u):=A λW hW j u k=>by
  have f5:j<([Q I 0,Q I 0,Q I 0,MS Mq]:List Ma).length:=by
   rcases N8 j ([Q I 0,Q I 0,Q I 0,MS Mq]:List Ma).length with h|h
   ·exact h
   ·rw[Re h]at k;cases k
  refine aM hW ?_;have hz:([Q I 0,Q I 0,Q I 0,MS Mq]:List Ma).length=4:=rfl;rw[dY _ _ _ (by rw[b0.o,hz];omega),if_neg O,if_pos O,RQ];exact k
 have c0:aA (m*4+([Q I 0,Q I 0,Q I 0,MS Mq]:List Ma).length<=(M8 C (i*4) D).length):=A (by rw[b0.o];simp only[N6,OH];omega);clear b3 b5;by_cases d5:f=i+1
 ·obtain rfl:m=i:=by omega
  subst d5;clear q8 q9 q6 q1 q7 d2 hi;have d6:D=[]:=PP (by rw[y.o];omega);subst d6;go_enter TK,ntmps220;go_wp2_with fail
  go_region_law (refine cZ rfl _ _ 282 rfl 331 V 4 jQ B X d m (m+1) UV ⟨d,0,S⟩ 0 0 [] UV rfl (λj u k=>by cases k) a7.o O C 331 HG.o (by rw[y.o,HC.o];omega) (λb=>b=d) w (aH.refl _ _).drew (Mf rfl) ?_;intro w1 M P)
  go_wp2_with (refine cL rfl _ 282 rfl 331 (M1 #[Q I 0,Q I 0,Q I 0,MS Mq]) jQ b4.o [Q I 0,Q I 0,Q I 0,MS Mq] FZ b6.o d (m*4) 1 rfl (M8 C (m*4) []) 331 M.o c0.o (λb=>b=d) w P.o (Mf rfl) ?_)
  intro R s T;go_wp2;go_ret;exact⟨rfl,⟨b1.o,MX ⟨d,(m+1),_,rfl,NG _,s.o,O,b2.o,by rw[NY];exact a9.o,HR.o⟩⟩,T.o,b9.o R s.o⟩
 ·go_enter TK,ntmps220;go_wp2_with fail
  go_region_law (refine cZ rfl _ _ 282 rfl 331 V 4 jQ B X d i f UV ⟨d,(i+1)*4,S⟩ (m-i) (f- (i+1)) D UV y.o (λj u k=>by rw[Addr.add_lit];exact c6.o j u k) a7.o O C 331 HG.o (by rw[y.o,HC.o];omega) (λb=>b=d) w (aH.refl _ _).drew (Mf rfl) ?_;intro w1 M P)
  have f6:i+(m-i)=m:=O;go_wp2_with (refine cL rfl _ 282 rfl 331 (M1 #[Q I 0,Q I 0,Q I 0,MS Mq]) jQ b4.o [Q I 0,Q I 0,Q I 0,MS Mq] FZ b6.o d (m*4) (f-m) rfl (M8 C (i*4) D) 331 M.o c0.o (λb=>b=d) w P.o (Mf rfl) ?_)
  intro R s T;go_wp2;go_ret;exact⟨rfl,⟨b1.o,MX ⟨d,f,_,rfl,NG _,s.o,O,b2.o,by rw[NY];exact a9.o,HR.o⟩⟩,T.o,b9.o R s.o⟩
def vY(m:Nat)(d:Ma)(L:List Fc)(p:Fc->Bool)(w a:MV):Prop:=
 ∃c,iR a m c (L.filter p)/\gC a c/\c.ownBlock=d.ownBlock/\aH (λb=>b=m\/d.ownBlock=N b) w a
theorem gC.lt{a:Ma}{g:Nat}(h:gC w a)(b:a.ownBlock=N g):g<w.heap.size:=by
 obtain⟨n,p,c,-⟩:=h g b;exact MO c
theorem E5(m g c k i:Nat)(L:List Fc)(p:Fc->Bool)(w h:MV)(J:iR w m (MR (N ⟨g,0,S⟩) L.length c) L)(s:gC w (MR (N ⟨g,0,S⟩) L.length c))(t:L.length=k+1)(K:i<=k)(hcut:L.take i++L.drop (i+1)=L.filter p)(l:Mb w.heap.size w h):Mo MT 215 #[MR (N ⟨g,0,S⟩) L.length c,Q I i,Q I ((i:Int)+1)] h λe d=>e=MZ (MR (N ⟨g,0,S⟩) k c)/\d.cell? ⟨m,1,S⟩=N (MR (N ⟨g,0,S⟩) L.length c)/\d.frozen? ⟨m,1,S⟩=Md/\vY m (MR (N ⟨g,0,S⟩) L.length c) L p w (d.setCell ⟨m,1,S⟩ (MR (N ⟨g,0,S⟩) k c)):=by
 obtain⟨n,u,M,P,X⟩:=J;have R:m<w.heap.size:=MO n;have o:m≠g:=s.ne rfl n;have T:g<w.heap.size:=s.lt rfl;have v:h.ownsRow 0 300 2 (MR (N ⟨g,0,S⟩) L.length c) L.length (dP L):=aY M λb f=>by
  obtain rfl:g=b:=by simpa[NF]using f
  exact l.block g T
 have Y:=l.size;rw[t]at v;have C:=As g k c i (dP L) h v uw K O;rw[<-t]at C;refine C.mono ?_;rintro e d ⟨rfl,q,y,z⟩;have B:d.heap[m]?=w.heap[m]?:=(y.block m O o).trans (l.block m R);have r:∀j,d.cell? ⟨m,j,S⟩=w.cell? ⟨m,j,S⟩:=λj=>Mj (a:=⟨m,j,S⟩) B;have D:∀j,d.frozen? ⟨m,j,S⟩=false:=λj=>(World.frozen?_of_block (a:=⟨m,j,S⟩) B).trans (P j);have U:(dP L).take (i*2)++(dP L).drop ((i+1)*2)=dP (L.filter p):=by rw[sU,sV,<-jW,hcut]
 have E:(L.filter p).length=k:=by rw[<-hcut];simp only[Mz,Mh,M2];omega
 rw[U]at q;refine⟨rfl,(r 1).trans u,D 1,_,pH ((r 0).trans n) ((r 1).trans u) D (by rw[E];exact q) (λb f=>by obtain rfl:g=b:=(by simpa[NF]using f);exact o) O rfl,?_,rfl,aH.setCell ((aH.aG l).trans (y.mono λx _ V=>.inr (by rw[V];rfl))) (.inl (.inl rfl)) _⟩;intro b f;obtain rfl:g=b:=by simpa[NF]using f
 have F:∀j,(d.setCell ⟨m,1,S⟩ (MR (N ⟨g,0,S⟩) k c)).cell? ⟨g,j,S⟩=d.cell? ⟨g,j,S⟩:=λj=>Mj (a:=⟨g,j,S⟩) (Nh _ _ _ _ o.symm);rw[F,F];rcases Nat.eq_zero_or_pos k with rfl|Z
 ·have G:=z 0 _ rfl;have H:=z 1 _ rfl;simp only[Nat.zero_mul,Nat.zero_add]at G H;exact⟨_,_,G,H⟩
 ·have W:gC d (MR (N ⟨g,0,S⟩) k c):=gC.lC (L:=L.filter p) (by rw[E];exact q) O;exact W g rfl
theorem Lm{L:List Fc}{i:Nat}(b:bt L)(h:i<L.length)(c:iV L i=x):L.take i++L.drop (i+1)=L.filter λe=>e.1 !=x:=by
 rw[et h]at c;refine il _ h (by simp[c]) λj d f=>?_;rw[bne_iff_ne];intro g;rcases Nat.lt_or_gt_of_ne f with a|a
 ·have:=Mr.1 b j i d h a;omega
 ·have:=Mr.1 b i j h d a;omega
theorem IG(m:Nat)(f:Ma)(L:List Fc)(x:Int)(w:MV)(b:iR w m f L)(l:bt L)(r:gC w f)(K:∃e∈L,e.1=x):Mo MT 191 #[MQ (N ⟨m,0,S⟩),Q I x] w λe M=>e=MZ (M0 Mk)/\vY m f L (λe=>e.1 !=x) w M:=by
 have s:=A (ej m f L x w b l);obtain⟨a,P,g,rfl,t⟩:=eI b.2.2.1;obtain⟨V,n,u⟩:=K;have v:0<L.length:=List.length_pos_of_mem n;obtain⟨k,o⟩:∃k,L.length=k+1:=⟨L.length-1,O⟩;obtain⟨rfl,R⟩:=t 0 v;clear R;have y:=A λi (z:i<=k) hcut p c=>E5 m g P k i L (λe=>e.1 !=x) w p b r o z hcut c;have q:=b.2.1;have W:=b.2.2.2.2;have B:=A u;have C:=A o;clear b r t u o v;go_enter TL,ntmps191;go_wp2_with fail
 refine s.o.mono ?_;rintro e p ⟨i,z,D,E,rfl,c⟩;have d:i<L.length/\iV L i=x:=by
  obtain⟨j,F,rfl⟩:=List.getElem_of_mem n;have G:=B.o;rw[<-et F]at G;have T:i<=j:=by
   rcases N8 j i with h|h
   ·have:=D j h;omega
   ·exact h
  refine⟨O,?_⟩;have q:=E i (MP _) O;rcases Nat.lt_or_eq_of_le T with h|h
  ·have:=Mr.1 l i j O F h;rw[<-et,<-et]at this;omega
  ·rw[h];exact G
 have hcut:=Lm l d.1 d.2;have H:=A (y.o i (by have:=C.o;omega) hcut p c);have X:=MW c q;have Y:(M9 (i<L.length)&&(iV L i==x))=true:=by simp[d.1,d.2]
 have Z:IntKind.i64.wrap ((i:Int)+1)=(i:Int)+1:=by rw[IntKind.wrap_i64];omega
 clear s D E c q y hcut d l n B C;go_wp2_with fail
 refine H.o.mono ?_;rintro e w2 ⟨rfl,m1,mf,J⟩;have U:=A J;clear J H;go_wp2;go_ret;exact⟨rfl,U.o⟩
theorem IF(m:Nat)(b:Ma)(L:List Fc)(x:Int)(w:MV)(c:iR w m b L)(a:bt L)(d:bG L x=S):Mo MT 191 #[MQ (N ⟨m,0,S⟩),Q I x] w λe l=>e=MZ (M0 Md)/\Mb w.heap.size w l:=by
 have f:=A (ej m b L x w c a);have n:=A a;have o:=A d;clear c a d;go_enter TL,ntmps191;go_wp2_with fail
 refine f.o.mono ?_;rintro e q ⟨i,r,g,j,rfl,k⟩;have s:(M9 (i<L.length)&&(iV L i==x))=false:=by
  rw[<-NB,NH,decide_eq_true_eq,beq_iff_eq];intro h;have:=eu g j n.o;rw[dif_pos h,o.o]at this;cases this
 have p:=A k;clear f g j k;go_wp2;go_ret;exact⟨rfl,p.o⟩
end Go.Proofs.YtnjalelblbjfiaaGreatDoor
