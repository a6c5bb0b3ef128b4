import Derived.Test.YtnjalelblbjfiaaGreatDoorP22
import Derived.Test.YtnjalelblbjfiaaGreatDoorP19
import Derived.Test.YtnjalelblbjfiaaGreatDoorP29
namespace Go.Proofs.YtnjalelblbjfiaaGreatDoor
set_option maxRecDepth 100000
set_option maxHeartbeats 16000000
open Go.RowKit
open Go.Proofs.Tryz
open Go.Sort (grow)
open Bool renaming true→Mk,false→Md,not_eq_true→NB,and_eq_true→NH
open Go renaming World→MV,Value→Ma,heap_setCell_same→Mn,Calls→Mo,block_lt_of_cell→MO,redrawn→NK,below_regrown→NP,wp_region_quiet_below→Mg,wpQuiet_nil→M3,cell_later→MW,Addr→Oz,TypeId→NL,callsIn_of_wp→Sp,heap_setCell_other→NE,callsIn_wide→PF,ownFrom_below→Te,undef→NS,run_takeDeferred→SO,grownBy_putObj'→Sf,bytesRow→PI,grownCap→PM
open Go.Ending renaming returned→MZ
open Go.IntKind renaming i64→I
open Go.Proofs.Tryz renaming prog→MT,func60→Tg,func62→QM,underlying3→Pv,func149→SA,func210→TH,results114→Sl,underlying9→SY,underlying334→SG,underlying5→SZ
open Go.Value renaming string→MS,int→Q,bool→M0,pointer→MQ,agg→M1,tuple→Nn,map→N4,slice→MR,func→Nm,ownBlock→NF
open Option renaming none→S,some→N
open Go.Calls renaming regrown_of→Ml
open Go.RowKit renaming Below→Mb
open Go.Lit renaming int→Ny
open Go.Obj renaming cells→MY
open Go.RowKit.Below renaming refl→MU
open List renaming nil_append→O3,length_map→ND,size_toArray→NY,length_cons→N6,length_nil→OH,push_toArray→Ot,append_toArray→Om,cons_append→Ov,find?_append→SS,find?_eq_none→OQ,length_set→Mw
open Nat renaming le_refl→MP,lt_of_lt_of_le→Mi,le_trans→Mx,zero_le→NG,le_of_lt→QU
open Or renaming inl→Mf,inr→MX
open Go.World renaming frozen?_of_block→NJ,size_alloc→N3
open _root_.Array renaming replicate_succ→Of,replicate_zero→Og,length_toList→Nl
open Go.KeepsOthers renaming alloc→Oy,setCell→Oj
open Go.ByteArray renaming toList_eq→No
open UInt8 renaming ofNat→NR
variable {D:DataW Unit}{V:Int->Int×Int}{K:List Mc}{l:List UInt8}{L:List af}{W a d f w:MV}{v:Ma}{b g i k m n t x:Nat}{F:Nat->Prop}{p:Pg}{r:Rl}
theorem wd(a b:List UInt8)(x y:UInt8):bT (ce (a++x::y::b)) a.length=x.toNat*256+y.toNat:=by
 have h:a.length+1<(ce (a++x::y::b)).size:=by rw[pF];simp
 unfold bT;rw[dif_pos h,C9,C9];simp
def rz(p:Pg):Pg:=if jX p.f.rest then {p with pb:=p.f.rest,ph:=cn p.f.rest,pt:=bT p.f.rest 2,right:=Mk}else {p with pb:=⟨#[]⟩,ph:=0,pt:=0,right:=Md}
def gI(p:Pg):Pg:=if cj p.f.ty==2 then rz p else p
theorem wE(p:Pg):(gI p).f=p.f:=by unfold gI rz;split<;>(try split)<;>rfl
theorem cJ.Jg{a:Ma}(h:cJ w g p a)(b:ByteArray)(i j:Int)(r:Bool):cJ ((((w.setCell ⟨g,9,S⟩ (MS b)).setCell ⟨g,10,S⟩ (Q I i)).setCell ⟨g,11,S⟩ (Q I j)).setCell ⟨g,12,S⟩ (M0 r)) g {p with pb:=b,ph:=i,pt:=j,right:=r} a:=by
 unfold cJ at*;have c:=Mn w g 9 _ _ (MS b) h;have d:=Mn _ g 10 _ _ (Q I i) c;have e:=Mn _ g 11 _ _ (Q I j) d;have f:=Mn _ g 12 _ _ (M0 r) e;rw[f];simp[en]
theorem Ad(g:Nat)(p:Pg)(n:Ma)(w:MV)(j:cJ w g p n)(r:fE w)(D:p.f.rest.size<=1000):Mo MT 60 #[MQ (N ⟨g,0,S⟩)] w λe y=>e=MZ (Q I (-1))/\cJ y g (gI p) n/\dn g w y:=by
 have C:=ge g p n w j r;cases k:(cj p.f.ty==2)with
 |false=>
  refine(qY g p n w j r k).mono ?_;rintro e o ⟨rfl,a⟩;refine⟨rfl,?_,dn.aG a⟩;unfold gI;rw[k];exact j.aD a
 |true=>
  rw[k]at C;have q:=A C;have z:=A j;have h:=A λ(W:MV)=>EI p.f.rest W D;have B:aA (gI p=rz p):=A (by unfold gI;rw[k];rfl);clear C j r k;cases d:jX p.f.rest with
  |true=>
   have l:yW p.f.rest=#[MS p.f.rest,Q I (cn p.f.rest),Q I (bT p.f.rest 2)]:=by unfold yW;rw[d];rfl
   rw[d,l]at h;have s:aA (rz p={p with pb:=p.f.rest,ph:=cn p.f.rest,pt:=bT p.f.rest 2,right:=Mk}):=A (by unfold rz;rw[d];rfl);clear l d;go_enter Tg,ntmps60;go_wp2_with fail
   refine q.o.mono ?_;rintro e o ⟨rfl,a⟩;have f:=z.o.aD a;have t:o.cell? ⟨g,8,S⟩=N (MS p.f.rest):=f.cell rfl;have u:=A f;have m:=A a;clear f a q;go_wp2_with fail
   refine(h.o _).mono ?_;rintro e c ⟨rfl,a⟩;have b:=u.o.aD a;have E:∀i,c.frozen? ⟨g,i,S⟩=false:=λi=>b.frozen i;have F:c.cell? ⟨g,9,S⟩=N (MS p.pb):=b.cell rfl;have G:c.cell? ⟨g,10,S⟩=N (Q I p.ph):=b.cell rfl;have H:c.cell? ⟨g,11,S⟩=N (Q I p.pt):=b.cell rfl;have J:c.cell? ⟨g,12,S⟩=N (M0 p.right):=b.cell rfl;have v:=A ((((((dn.aG (g:=g) (m.o.trans (a.mono m.o.size))).set 9 (MS p.f.rest)).set 10 (Q I (cn p.f.rest)))).set 11 (Q I (bT p.f.rest 2))).set 12 (M0 Mk));have x:=A (b.Jg p.f.rest (cn p.f.rest) (bT p.f.rest 2) Mk);clear b a h t;go_wp2;go_ret;exact⟨rfl,by rw[B.o,s.o];exact x.o,v.o⟩
  |false=>
   have l:yW p.f.rest=#[MS ⟨#[]⟩,Q I 0,Q I 0]:=by unfold yW;rw[d];rfl
   rw[d,l]at h;have s:aA (rz p={p with pb:=⟨#[]⟩,ph:=0,pt:=0,right:=Md}):=A (by unfold rz;rw[d];rfl);clear l d;go_enter Tg,ntmps60;go_wp2_with fail
   refine q.o.mono ?_;rintro e o ⟨rfl,a⟩;have f:=z.o.aD a;have t:o.cell? ⟨g,8,S⟩=N (MS p.f.rest):=f.cell rfl;have u:=A f;have m:=A a;clear f a q;go_wp2_with fail
   refine(h.o _).mono ?_;rintro e c ⟨rfl,a⟩;have b:=u.o.aD a;have E:∀i,c.frozen? ⟨g,i,S⟩=false:=λi=>b.frozen i;have F:c.cell? ⟨g,9,S⟩=N (MS p.pb):=b.cell rfl;have G:c.cell? ⟨g,10,S⟩=N (Q I p.ph):=b.cell rfl;have H:c.cell? ⟨g,11,S⟩=N (Q I p.pt):=b.cell rfl;have J:c.cell? ⟨g,12,S⟩=N (M0 p.right):=b.cell rfl;have v:=A ((((((dn.aG (g:=g) (m.o.trans (a.mono m.o.size))).set 9 (MS ⟨#[]⟩)).set 10 (Q I 0))).set 11 (Q I 0)).set 12 (M0 Md));have x:=A (b.Jg ⟨#[]⟩ 0 0 Md);clear b a h t;go_wp2;go_ret;exact⟨rfl,by rw[B.o,s.o];exact x.o,v.o⟩
section
attribute [local go_sem] aI
theorem iR.aD{c:MV}{d:Ma}{L:List Fc}(a:iR w m d L)(b:Mb w.heap.size w c):iR c m d L:=
 ⟨(b.cell (p:=⟨m,0,S⟩) (MO a.1)).trans a.1,(b.cell (p:=⟨m,1,S⟩) (MO a.2.1)).trans a.2.1,di a.2.2.1 (λg e=>b.block g (a.2.2.1.lt g e).2),λj=>(b.frozen (p:=⟨m,j,S⟩) (show m<w.heap.size from MO a.1)).trans (a.2.2.2.1 j),a.2.2.2.2⟩
def dU(L:List Fc)(p:Pg):Bool:=(bG L p.f.vlan).isSome&&(p.f.to.toList==(jT L p.f.vlan).toList)
theorem kT(s g m:Nat)(c:Ma)(L:List Fc)(p:Pg)(q:Ma)(w:MV)(f:w.cell? ⟨s,1,S⟩=N (MQ (N ⟨m,0,S⟩)))(h:iR w m c L)(i:bt L)(b:cJ w g p q):Mo MT 112 #[MQ (N ⟨s,0,S⟩),MQ (N ⟨g,0,S⟩)] w λe r=>e=MZ (M0 (dU L p))/\Mb w.heap.size w r:=by
 have j:=A λ(d:Nat) (k:Array Obj)=>vP m c L p.f.vlan (grow (NK w d) k) (h.aD (NP w d k)) i;have t:w.cell? ⟨g,5,S⟩=N (Q I p.f.vlan):=b.cell rfl;have l:w.cell? ⟨g,2,S⟩=N (MS p.f.to):=b.cell rfl;have y:=MO f;have z:=b.lt;have n:aA (dU L p=((bG L p.f.vlan).isSome&&(p.f.to.toList==(jT L p.f.vlan).toList))):=A rfl;clear h b i;generalize(bG L p.f.vlan).isSome=u at*;generalize jT L p.f.vlan=B at*;go_enter func112,ntmps112;go_wp2;refine Mg UR UR ?_
 repeat(first|go_big_quiet_skip|quiet_step (exact Ml (j.o _ _)))
 refine M3 ?_;intro C a;replace a:=aE a;obtain⟨v,x⟩:=aW a;have D:=a.size;have E:=MW a l;have o:=A a;clear v x a j l t f;cases u with
 |false=>
  go_wp2;go_ret;exact⟨by rw[n.o];rfl,o.o⟩
 |true=>
  go_wp2;go_ret;exact⟨by rw[n.o];rfl,o.o⟩
theorem Ay(s g m:Nat)(f:Ma)(L:List Fc)(p:Pg)(b:Ma)(w:MV)(c:w.cell? ⟨s,1,S⟩=N (MQ (N ⟨m,0,S⟩)))(h:iR w m f L)(i:bt L)(d:cJ w g p b)(j:fE w)(k:dU L p=Md):Mo MT 62 #[MQ (N ⟨s,0,S⟩),MQ (N ⟨g,0,S⟩)] w λe o=>e=MZ (Q I (-1))/\Mb w.heap.size w o:=by
 have C:=ge g p b w d j;have l:=A λ(W:MV) (a:Mb w.heap.size w W)=>kT s g m f L p b W ((a.cell (p:=⟨s,1,S⟩) (MO c)).trans c) (h.aD a) i (d.aD a);rw[k]at l;have n:=A C;clear C d j h i c k;generalize(cj p.f.ty==2)=q at*;cases q with
 |false=>
  go_enter QM,ntmps62;go_wp2_with fail
  refine n.o.mono ?_;rintro e r ⟨rfl,a⟩;go_wp2;go_ret;exact⟨rfl,a⟩
 |true=>
  go_enter QM,ntmps62;go_wp2_with fail
  refine n.o.mono ?_;rintro e r ⟨rfl,a⟩;go_wp2_with fail
  refine(l.o _ a).mono ?_;rintro e u ⟨rfl,t⟩;go_wp2;go_ret;exact⟨rfl,a.trans (t.mono a.size)⟩
end
section
open Go.RowKit Go.Maps
attribute [local go_sem] aI
theorem uZ{i j k l m a b n o:Int}(h:cD L i j k l m a b)(e:cD L i j k l m n o):a=n/\b=o:=by
 unfold cD at h e;split at h
 ·rename_i g
  rw[if_pos g]at e;obtain⟨q,c,rfl,rfl⟩:=h;obtain⟨p,d,rfl,rfl⟩:=e;cases q with
  |none=>
   cases p with
   |none=>exact⟨rfl,rfl⟩
   |some f=>
    have:=c f d.1;rw[d.2.1]at this;cases this
  |some r=>
   cases p with
   |none=>
    have:=d r c.1;rw[c.2.1]at this;cases this
   |some f=>
    have s:=c.2.2 f d.1 d.2.1;have t:=d.2.2 r c.1 c.2.1;rw[<-NB,Rl.cU]at s t;refine⟨?_,rfl⟩;show r.2.id=f.2.id;omega
 ·rename_i g
  rw[if_neg g]at e;omega
noncomputable def KI(L:List af)(b c d e f:Int):Int×Int:=Classical.epsilon λa=>cD L b c d e f a.1 a.2
theorem tT{c d e f g a b:Int}(h:cD L c d e f g a b):KI L c d e f g=(a,b):=by
 have j:cD L c d e f g (KI L c d e f g).1 (KI L c d e f g).2:=Classical.epsilon_spec (p:=λi:Int×Int=>cD L c d e f g i.1 i.2) ⟨(a,b),h⟩;have:=uZ j h;exact Prod.ext this.1 this.2
theorem Dn(t:Nat)(c d f g i:Int)(w:MV)(F:Nat->Prop)(L:List af)(h:bQ w t F L):Mo MT 16 #[MQ (N ⟨t,0,S⟩),M1 #[Q I c,Q I d,Q I f,Q I g,Q I i]] w λe j=>e=MZ (Nn #[Q I (KI L c d f g i).1,Q I (KI L c d f g i).2])/\Mb w.heap.size w j:=by
 refine(uh t c d f g i w F L h).mono ?_;rintro e j ⟨a,b,rfl,k,l⟩;rw[tT k];exact⟨rfl,l⟩
def qX:Ma->Option (DataW Unit×List MemPlace)
 |.agg b=>match b.toList with
  |[Q I a,Q I p]=>N (.agg [.lit (Ny I a),.lit (Ny I p)],[])
  |_=>S
 |_=>S
theorem xZ(a p:Int):qX (M1 #[Q I a,Q I p])=N (.agg [.lit (Ny I a),.lit (Ny I p)],[]):=rfl
theorem Df{a p:Int}{b:List MemPlace}(h:qX v=N (.agg [.lit (Ny I a),.lit (Ny I p)],b)):v=M1 #[Q I a,Q I p]:=by
 unfold qX at h;split at h
 ·split at h
  ·rename_i d x y c
   simp only[Option.some.injEq,Prod.mk.injEq,DataW.agg.injEq,List.cons.injEq,DataW.lit.injEq,Lit.int.injEq,and_true,true_and]at h;obtain⟨⟨rfl,rfl⟩,_⟩:=h;congr 1;exact Array.toList_inj.1 (by rw[c])
  ·cases h
 ·cases h
theorem Kj(w:MV):(zeroValue 226).run MT w=.ok (M1 #[Q I 0,Q I 0]) w:=UR
theorem pl:prog.underlying 135=N (.map 3 226):=underlying135
def dG(w:MV)(b:Nat):Nat:=match w.heap[b]?with|some (.map a _)=>a.size|_=>0
theorem dZ(h:a.heap[b]?=w.heap[b]?):dG a b=dG w b:=by unfold dG;rw[h]
theorem gw(h:w.ownsMap (H:=Unit) MT 3 qX b n D)(d:a.heap[b]?=w.heap[b]?):a.ownsMap (H:=Unit) MT 3 qX b (dG a b) D:=by
 obtain⟨e,f,g,i,k,j⟩:=h;have c:=d.trans g;exact⟨e,f,c,i,by unfold dG;rw[c];exact MP _,j⟩
theorem sh(h:w.ownsMap (H:=Unit) MT 3 qX b n D):dG w b<=n:=by
 obtain⟨d,e,a,f,c,g⟩:=h;unfold dG;rw[a];exact c
def dc(w:MV)(b _n:Nat)(V:Int->Int×Int):Prop:=
 ∃D,w.ownsMap (H:=Unit) MT 3 qX b (dG w b) D/\∀a,(Ny I a).wf=Mk->D.atKey (Ny I a) (.agg [.lit (Ny I 0),.lit (Ny I 0)])=.agg [.lit (Ny I (V a).1),.lit (Ny I (V a).2)]
theorem dc.aD(h:dc w b n V)(d:Mb w.heap.size w a):dc a b n V:=by
 obtain⟨D,c,e⟩:=h;exact⟨D,gw c (d.block b c.lt),e⟩
theorem dc.DV(h:dc w b n V)(a:Int)(c:(Ny I a).wf=Mk):(Instr.lookup 135 (N4 (N b)) (Q I a) Md).run MT w=.ok (M1 #[Q I (V a).1,Q I (V a).2]) w:=by
 obtain⟨D,e,f⟩:=h;obtain⟨v,i,g,d⟩:=e.lookup Bh pl (Kj w) (xZ 0 0) (keyOf_int_mk Pv c);rw[f a c]at d;rw[g,Df d]
noncomputable def ju(L:List af)(b:ByteArray):Int×Int:=KI L (i7 b 12) (i7 b 16) (b8 b 9) (pB b) (pA b)
def eG(P:List b7)(p:Pg)(a:Int):List (Int×ByteArray):=if gH (iD P a.toNat) p.f.vlan then [(a,jF (iD P a.toNat) p.f)]else []
noncomputable def kj(L:List af)(V:Int->Int×Int)(P:List b7)(p:Pg):Option (Int×List (Int×ByteArray)):=
 if p.right=Mk/\(ju L p.pb).2=0 then
  if(V (ju L p.pb).1).1=1 then N (4,[])else if(V (ju L p.pb).1).1=2 then N (if(eG P p (V (ju L p.pb).1).2).length=0 then 8 else 0,eG P p (V (ju L p.pb).1).2)else S
 else S
def K7(g:Nat)(p:Pg)(j:Option (Int×List (Int×ByteArray)))(w:MV)(e:Ending)(a:MV):Prop:=∃r:Int,e=MZ (Q I r)/\
   ((r= -1/\j=S/\cJ a g p (MR S 0 0)/\dn g w a)\/
    (r≠ -1/\∃b c,j=N (r,b)/\cJ a g p c/\a.ownsRow w.heap.size 66 2 c b.length (lK b)/\dn g w a))
theorem Ed(s g t vb c6:Nat)(R:Ma)(P:List b7)(F:Nat->Prop)(L:List af)(V:Int->Int×Int)(p:Pg)(w:MV)(T:w.cell? ⟨s,0,S⟩=N R)(hp:eM w R P)(h3:w.cell? ⟨s,3,S⟩=N (MQ (N ⟨t,0,S⟩)))(hT:bQ w t F L)(h4:w.cell? ⟨s,4,S⟩=N (N4 (N vb)))(hV:dc w vb c6 V)(i:cJ w g p (MR S 0 0))(a7:p.right=Mk->20<=p.pb.size/\p.pb.size<=1000/\bT p.pb 2<=p.pb.size/\p.ph=cn p.pb/\p.pt=bT p.pb 2)(a8:∀U,(V U).1=2->0<=(V U).2/\(V U).2<P.length)(a9:(Ny I (ju L p.pb).1).wf=Mk)(hv:(Ny I p.f.vlan).wf=Mk)(hl:p.f.to.size+p.f.fr.size+p.f.ty.size+p.f.rest.size<=1000):Mo MT 61 #[MQ (N ⟨s,0,S⟩),MQ (N ⟨g,0,S⟩)] w (K7 g p (kj L V P p) w):=by
 cases o:p.right with
 |false=>
  refine(tI s g p _ w i o).mono ?_;rintro e W' ⟨rfl,rfl⟩;refine⟨-1,rfl,Mf ⟨rfl,?_,i,dn.aG (MU _ _)⟩⟩;unfold kj;rw[if_neg (by rw[o];rintro⟨h,_⟩;cases h)]
 |true=>
  obtain⟨k1,k2,k3,k4,k5⟩:=a7 o;have d0:w.cell? ⟨g,12,S⟩=N (M0 Mk):=by rw[<-o];exact i.cell rfl
  have g9:w.cell? ⟨g,9,S⟩=N (MS p.pb):=i.cell rfl;have d2:w.cell? ⟨g,10,S⟩=N (Q I (cn p.pb)):=by rw[<-k4];exact i.cell rfl
  have d3:w.cell? ⟨g,11,S⟩=N (Q I (bT p.pb 2)):=by rw[<-k5];exact i.cell rfl
  have CK:=A λ(d:Nat) (B:Array Obj)=>GK p.pb (grow (NK w d) B) k1 k2 k3;have X:=A λ(d:Nat) (B:Array Obj)=>Dn t (i7 p.pb 12) (i7 p.pb 16) (b8 p.pb 9) (pB p.pb) (pA p.pb) (grow (NK w d) B) F L (hT.still (NP w d B));rw[show KI L (i7 p.pb 12) (i7 p.pb 16) (b8 p.pb 9) (pB p.pb) (pA p.pb)=ju L p.pb from rfl]at X;have C:aA (kj L V P p=if(ju L p.pb).2=0 then(if(V (ju L p.pb).1).1=1 then N (4,[])else if(V (ju L p.pb).1).1=2 then N (if(eG P p (V (ju L p.pb).1).2).length=0 then 8 else 0,eG P p (V (ju L p.pb).1).2)else S)else S):=A (by
   unfold kj;by_cases D:(ju L p.pb).2=0
   ·rw[if_pos ⟨o,D⟩,if_pos D]
   ·rw[if_neg (λh=>D h.2),if_neg D])
  have b6:=A λ(W:MV) (Y:Mb w.heap.size w W)=>(hV.aD Y).DV (ju L p.pb).1 a9;have r:=A (a8 (ju L p.pb).1);have d4:=MO T;have d5:=i.lt;have E:=A i;have HP:=A hp;generalize kj L V P p=u at*;generalize ju L p.pb=fp at*;obtain⟨fi,fe⟩:=fp;generalize V fi=vv at*;obtain⟨q,j⟩:=vv;generalize i7 p.pb 12=y0 at*;generalize i7 p.pb 16=y1 at*;generalize b8 p.pb 9=y2 at*;generalize pB p.pb=y3 at*;generalize pA p.pb=y4 at*;clear hT hV i hp k1 k2 k3 k4 k5 a7 a9;go_enter func61,ntmps61;go_wp2;refine Mg UR UR ?_
  repeat(first|go_big_quiet_skip|quiet_step (first|exact Ml (CK.o _ _)|exact Ml (X.o _ _)))
  refine M3 ?_;intro G c;replace c:=aE c;obtain⟨e5,e6⟩:=aW c;have h5:=c.size;have q0:=MW c T;have q4:=MW c h4;have m:=A c;have e8:=b6.o G c;have f0:=A (E.o.aD c);have h6:=Mi d4 c.size;have h7:=Mi d5 c.size;clear e5 e6 c CK X b6 g9 d2 d3 d0 h3 h4 T a8 o;by_cases v:fe=0
  ·have l:aA (u=if q=1 then N (4,[])else if q=2 then N (if(eG P p j).length=0 then 8 else 0,eG P p j)else S):=A (by rw[C.o,if_pos v]);clear C;by_cases x:q=1
   ·have y:aA (u=N (4,[])):=A (by rw[l.o,if_pos x]);clear l r;subst v x;go_wp2;go_ret;have f:=m.o.alloc m.o.size (MY #[Q I 1,Q I j] 226);exact⟨4,rfl,MX ⟨US,[],MR S 0 0,y.o,E.o.aD f,⟨rfl,Mf ⟨rfl,rfl⟩⟩,dn.aG f⟩⟩
   ·by_cases H:q=2
    ·have y:aA (u=N (if(eG P p j).length=0 then 8 else 0,eG P p j)):=A (by rw[l.o,if_neg x,if_pos H]);obtain⟨v0,v1⟩:=r.o H;obtain⟨k,rfl⟩:∃k:Nat,j=k:=⟨j.toNat,O⟩;have Z:k<P.length:=O;obtain⟨z,J⟩:=UX (G.alloc (MY #[Q I q,Q I k] 226));have f:Mb w.heap.size w z:=by rw[J];exact m.o.alloc m.o.size _
     have c0:Mb G.heap.size G z:=by rw[J];exact(MU _ _).alloc (MP _) _
     have CL:=A (vF s g w.heap.size R (MR S 0 0) P p [] k z (MW c0 q0) (HP.o.aD f) (E.o.aD f) Z hv ⟨rfl,Mf ⟨rfl,rfl⟩⟩ f.size (by simp) (λb Y=>by cases Y) hl);have c2:eG P p (k:Int)=if gH P[k] p.f.vlan then [((k:Int),jF P[k] p.f)]else []:=by
      unfold eG;rw[Int.toNat_natCast,we Z]
     have c3:=A c2;have HB:=A f;subst H;have HW:=A J;clear l r c2 f c0 J x v0 v1;subst v;go_wp2_with fail
     rw[<-HW.o];refine CL.o.mono ?_;rintro e K ⟨rfl,v',l1,M,l3,l4⟩;simp only[O3,<-c3.o]at M;have f7:∃a n,v'=MR a (eG P p k).length n:=by
      rcases M.2 with⟨e,e0⟩|⟨g',n,h9,e,_⟩
      ·exact⟨S,0,by rw[e,e0]⟩
      ·exact⟨_,n,e⟩
     obtain⟨a,n,rfl⟩:=f7;have CE:=A (yu g _ n a p K l1);have HF:aA (cJ K g p (MR a (eG P p k).length n)/\K.ownsRow w.heap.size 66 2 (MR a (eG P p k).length n) (eG P p k).length (lK (eG P p k))/\dn g w K):=A ⟨l1,M,((k8.aG HB.o (MP _)).trans l4).xR⟩;clear l1 M l3 l4 CL c3 e8 q0 q4 Z;go_wp2_with fail
     refine CE.o.mono ?_;rintro e W3 ⟨rfl,c5⟩;rw[c5];clear c5 W3;have HE:aA ((if(eG P p k).length=0 then(8:Int)else 0)≠ -1):=A (by split<;>decide);generalize(if(eG P p k).length=0 then(8:Int)else 0)=rr at*;go_wp2;go_ret;exact⟨rr,rfl,MX ⟨HE.o,_,_,y.o,HF.o.1,HF.o.2.1,HF.o.2.2⟩⟩
    ·have y:aA (u=S):=A (by rw[l.o,if_neg x,if_neg H]);clear l r;subst v;go_wp2;go_ret;have f:=m.o.alloc m.o.size (MY #[Q I q,Q I j] 226);exact⟨-1,rfl,Mf ⟨rfl,y.o,E.o.aD f,dn.aG f⟩⟩
  ·have l:aA (u=S):=A (by rw[C.o,if_neg v]);clear C r;go_wp2;go_ret;exact⟨-1,rfl,Mf ⟨rfl,l.o,f0.o,dn.aG m.o⟩⟩
end
section
open Go.RowKit Go.Maps
structure eD (w:MV) (x:Nat):Prop where
 zero:x≠0
 ent:∀r,¬ak w x r
 leaf:∀a n c,w.cell? ⟨x,0,S⟩≠N (MR a n c)
 node:∀(f l:Int) (bl:Nat),w.cell? ⟨x,1,S⟩=N (Q I f)->w.cell? ⟨x,2,S⟩=N (Q I l)->w.cell? ⟨x,3,S⟩≠N (MQ (N ⟨bl,0,S⟩))
 bunch:∀e r,w.cell? ⟨x,0,S⟩=N (MQ (N ⟨e,0,S⟩))->¬ak w e r
section
variable {X:Nat->Prop}{w d:World}
theorem ak.nc(h:fF X w d)(c:∀x,X x->eD w x)(a:ak w b r):ak d b r:=
 a.same (h b a.lt λe=>(c b e).ent r a)
theorem bR.nc(h:fF X w d)(f:∀x,X x->eD w x){c:List af}(o:bR w v c):bR d v c:=by
 obtain⟨a,p,q,g,j⟩:=o;refine⟨a,p,q,λi r=>?_,λe s=>(j e s).nc h f⟩;obtain⟨b,t,⟨k,l⟩,u⟩:=g i r;refine⟨b,t,⟨k,l⟩,h.cell (λy=>?_) u⟩;obtain⟨z,B,⟨m,C⟩,n⟩:=g 0 O;rw[k]at m;cases m;subst l;rw[Nat.zero_add]at n;exact(f b y).bunch _ _ n (j c[0] (List.getElem_mem O))
theorem eC.nc(h:fF X w d)(k:∀x,X x->eD w x):∀{n b:Nat} {i:List af},eC w n b i->eC d n b i:=by
 have l:∀{b:Nat} {v:Ma} {i:List af},bR w v i->w.cell? ⟨b,0,S⟩=N v->¬X b:=by
  intro b v i p m g;obtain⟨a,C,q,_,_⟩:=p;rw[q]at m;exact(k b g).leaf _ _ _ m
 intro n;induction n with
 |zero=>
  rintro b i ⟨v,c,e,j⟩;exact⟨v,c.nc h k,h.cell (l c e) e,h.cell (l c e) j⟩
 |succ n o=>
  rintro b i (⟨v,c,e,j⟩|⟨f,r,s,t,u,c,e,j,y,z,B⟩)
  ·exact Mf ⟨v,c.nc h k,h.cell (l c e) e,h.cell (l c e) j⟩
  ·have g:¬X b:=λg=>(k b g).node _ _ _ c e j;exact MX ⟨f,r,s,t,u,h.cell g c,h.cell g e,h.cell g j,h.cell g y,o z,o B⟩
theorem cP.nc(b:cP w)(h:fF X w d)(c:∀x,X x->eD w x):cP d:=by
 have e:∀i,d.cell? ⟨0,i,S⟩=w.cell? ⟨0,i,S⟩:=λi=>World.cell?_of_block (a:=⟨0,i,S⟩) (h 0 b.uE λf=>(c 0 f).zero rfl);simpa only[cP,e]using b
theorem bQ.nc(h:bQ w t F L)(b:aH X w d)(m:∀x,X x->eD w x)(f:∀x,F x->¬X x):bQ d t F L:=by
 obtain⟨n,o,q,r,s,h,u,v,rfl⟩:=h;refine⟨n,o,q,r,s,?_,u,v,rfl⟩;have l:=f t (Mf rfl);refine⟨h.laid.nc b.block m,b.block.cell l h.c0,b.block.cell l h.c1,λj=>(NJ (a:=⟨t,j,S⟩) (b.block t (MO h.c0) l)).trans (h.tf j),h.mI.chg h.hI b (f n (MX (Mf (Mf rfl)))) (λg i=>f g (MX (Mf (MX i)))),h.sI,h.hI.chg b (λg i=>f g (MX (Mf (MX i)))),
  h.mR.chg h.hR b (f o (MX (MX (Mf rfl)))) (λg i=>f g (MX (MX (MX i)))),h.sR,h.hR.chg b (λg i=>f g (MX (MX (MX i)))),λe p=>⟨(h.ent e p).1.nc b.block m,(h.ent e p).2⟩,λk y=>?_⟩
 obtain⟨z,c,T⟩:=h.tree k y;exact⟨z,b.block.cell l c,T.nc b.block m⟩
theorem qI{g:Fn}{f c:Array Ma}{a:Option Oz}(i:cP w)(b:w.cell? ⟨x,0,S⟩=N (Nm g f c))(j:w.cell? ⟨x,1,S⟩=N (MR a n k)):eD w x where
 zero:=by rintro rfl;have:=i.1;rw[b]at this;cases this
 ent r m:=by have:=m.c0;rw[b]at this;cases this
 leaf a n c h:=by rw[b]at h;cases h
 node f l o h _ _:=by rw[j]at h;cases h
 bunch e r h _:=by rw[b]at h;cases h
theorem zw{n:Int}{v:ByteArray}(i:cP w)(g:w.cell? ⟨x,0,S⟩=N (Q I n))(b:w.cell? ⟨x,1,S⟩=N (MS v)):eD w x where
 zero:=by rintro rfl;have:=i.2.1;rw[b]at this;cases this
 ent r j:=by have:=j.c1;rw[b]at this;cases this
 leaf a n c h:=by rw[g]at h;cases h
 node f l k h _ _:=by rw[b]at h;cases h
 bunch e r h _:=by rw[g]at h;cases h
theorem bQ.laid(h:bQ w t F L):cP w:=by
 obtain⟨a,b,c,e,f,T,_,_,rfl⟩:=h;exact T.laid
theorem lW{b:Ma}(c:cP w)(h:bB w k m b K):∀x,KX m b x->eD w x:=by
 rintro x (rfl|f)
 ·obtain⟨a,n,g,e,_⟩:=fN h.2.2.1.1.2.2.1;have i:=h.2.2.1.1.2.1;rw[e]at i;exact qI c h.2.2.1.1.1 i
 ·obtain⟨v,j⟩:=(h.2.2.1.fB f).1;obtain⟨o,l⟩:=h.2.2.1.kY f;exact zw c j l
theorem tC{g:Ma}(l:bQ w t F L)(h:bB w k m g K):∀x,F x->¬KX m g x:=by
 obtain⟨q,r,s,u,y,T,_,_,rfl⟩:=l;have b:=h.2.2.1.1.1;rintro x a (rfl|i)
 ·rcases a with rfl|(rfl|a)|(rfl|a)
  ·have:=T.c0;rw[b]at this;cases this
  ·have:=T.mI.1;rw[b]at this;cases this
  ·obtain⟨n,p,c,_⟩:=T.hI _ a;rw[b]at c;cases c
  ·have:=T.mR.1;rw[b]at this;cases this
  ·obtain⟨n,o,p,c,_⟩:=T.hR _ a;rw[b]at c;cases c
 ·obtain⟨v,f⟩:=(h.2.2.1.fB i).1;obtain⟨z,j⟩:=h.2.2.1.kY i;rcases a with rfl|(rfl|a)|(rfl|a)
  ·have:=T.c0;rw[f]at this;cases this
  ·have:=T.mI.1;rw[f]at this;cases this
  ·obtain⟨n,p,_,e⟩:=T.hI _ a;rw[j]at e;cases e
  ·have:=T.mR.1;rw[f]at this;cases this
  ·obtain⟨n,o,p,_,e,_⟩:=T.hR _ a;rw[j]at e;cases e
theorem bQ.mz{b:Ma}(a:bQ w t F L)(h:bB w k m b K)(c:aH (KX m b) w d):bQ d t F L:=
 a.nc c (lW a.laid h) (tC a h)
end
structure be (w:MV) (s fm t vb:Nat) (fsv:Ma) (Fs:List Fc) (F:Nat->Prop) (L:List af) (V:Int->Int×Int):Prop where
 h1:w.cell? ⟨s,1,S⟩=N (MQ (N ⟨fm,0,S⟩))
 hF:iR w fm fsv Fs
 sF:bt Fs
 hH:∀g,fsv.ownBlock=N g->∃n v,w.cell? ⟨g,0,S⟩=N (Q I n)/\w.cell? ⟨g,1,S⟩=N (MS v)
 h3:w.cell? ⟨s,3,S⟩=N (MQ (N ⟨t,0,S⟩))
 hT:bQ w t F L
 h4:w.cell? ⟨s,4,S⟩=N (N4 (N vb))
 hV:dc w vb L.length V
 hD:¬F fm/\∀g,fsv.ownBlock=N g->¬F g
theorem ot{B:Nat}{t:NL}{c:List Ma}(h:w.ownsRow B t b v n c)(a:v.ownBlock=N g):∃d,w.heap[g]?=N (MY d t (0,0)):=by
 rcases h.2 with⟨rfl,_⟩|⟨e,j,f,rfl,_,i,_⟩
 ·cases a
 ·obtain rfl:e=g:=by simpa[NF]using a
  exact⟨f,i⟩
theorem be.kept{s r:Nat}{J l u:Ma}{P:List b7}{E:List Fc}(h:be w s i t r u E F L V)(f:bW w s J P k m l K)(b:aH (KX m l) w W):be W s i t r u E F L V:=by
 have x:=f.Cl;have o:=f.hK.2.2.1.1.1;have y:¬KX m l i:=by
  rintro(e|e)
  ·subst e;have:=h.hF.1;rw[o]at this;cases this
  ·obtain⟨v,p⟩:=(f.hK.2.2.1.fB e).1;have:=h.hF.1;rw[p]at this;cases this
 have z:∀g,u.ownBlock=N g->¬KX m l g:=by
  rintro g c (e|e)
  ·subst e;obtain⟨n,v,d,_⟩:=h.hH g c;rw[o]at d;cases d
  ·obtain⟨q,M⟩:=ot h.hF.2.2.1 c;obtain⟨B,G⟩:=ot f.hK.2.2.1.1.2.2.1 e;rw[M]at G;cases G
 refine⟨b.block.cell x h.h1,?_,h.sF,λg c=>?_,b.block.cell x h.h3,h.hT.mz f.hK b,b.block.cell x h.h4,?_,h.hD⟩
 ·obtain⟨d,q,B,R,T⟩:=h.hF;exact⟨b.block.cell y d,b.block.cell y q,ap B λg c=>b.block g (ae B c).2 (z g c),λj=>(NJ (a:=⟨i,j,S⟩) (b.block i (MO d) y)).trans (R j),T⟩
 ·obtain⟨n,v,d,q⟩:=h.hH g c;exact⟨n,v,b.block.cell (z g c) d,b.block.cell (z g c) q⟩
 ·obtain⟨D,C,U⟩:=h.hV;have X:=C.lt;refine⟨D,gw C (b.block r X ?_),U⟩;obtain⟨Y,Z,H,e2⟩:=C;rintro(e|e)
  ·subst e;rw[dL H rfl]at o;cases o
  ·obtain⟨v,p⟩:=(f.hK.2.2.1.fB e).1;rw[dL H rfl]at p;cases p
theorem vH{b:ByteArray}(h:jX b=Mk):20<=b.size/\bT b 2<=b.size:=by
 unfold jX at h;simp only[NH,decide_eq_true_eq]at h;exact⟨h.1.1.1,h.1.2.2⟩
theorem ue(b:p.right=Md)(c:p.f.rest.size<=1000)(h:(gI p).right=Mk):20<=(gI p).pb.size/\(gI p).pb.size<=1000/\bT (gI p).pb 2<=(gI p).pb.size/\(gI p).ph=cn (gI p).pb/\(gI p).pt=bT (gI p).pb 2:=by
 unfold gI at*;split at h
 ·rename_i d
  rw[if_pos d];unfold rz at*;split at h
  ·rename_i a
   rw[if_pos a];exact⟨(vH a).1,c,(vH a).2,rfl,rfl⟩
  ·cases h
 ·rw[b]at h;cases h
def LF:Int->Int×Int:=λ_=>(0,0)
theorem Fe(h:w.heap[b]?=N (.map #[] 0)):dc w b 0 LF:=by
 obtain⟨e,f,a,c,d,g⟩:=World.ownsMap_made (H:=Unit) w MT 3 qX;rw[aU]at a;cases a;exact⟨.map [],gw ⟨#[],0,h,c,d,rfl⟩ rfl,λ_ _=>rfl⟩
theorem bu.ME{r i:MV}{l y E o:Nat}{G:Ma}(h:bu w l y E t o k m F f n r)(z:r.heap[f.heap.size]?=N (MY (jy G l y t o k) 140 (0,0)))(p:aH (λb=>b=k\/b=m) r i):be i f.heap.size l t o (MR S 0 0) [] F [] LF:=by
 have L:k<f.heap.size:=MO h.n.nk.1;have M:m<f.heap.size:=MO h.n.nk.2.2.1.1.1;have s:i.heap[f.heap.size]?=_:=(p.block _ (aJ z) (by rintro(e|e)<;>omega)).trans z;have B:=(h.lo.block _ (aJ h.n.nf)).trans h.n.nf;have C:=(h.lo.block _ (aJ h.n.nv)).trans h.n.nv;have u:i.heap[l]?=_:=(p.block _ (aJ B) (by
  have q:f.cell? ⟨l,0,S⟩=N (Nm (.func 33) #[] #[]):=aB h.n.nf rfl;rintro(e|e)
  ·subst e;rw[h.n.nk.1]at q;cases q
  ·subst e;rw[h.n.nk.2.2.1.1.1]at q;cases q)).trans B
 have H:i.heap[o]?=_:=(p.block _ (aJ C) (by
  rintro(e|e)
  ·subst e;have:=h.n.nk.1;rw[dL h.n.nv rfl]at this;cases this
  ·subst e;have:=h.n.nk.2.2.1.1.1;rw[dL h.n.nv rfl]at this;cases this)).trans C
 obtain⟨D,a,b,c,d⟩:=h.n.tw;have J:Mb D.heap.size D i:=(b.trans (h.lo.mono b.size)).trans (p.aD (Mx b.size h.lo.size) (by rintro x (rfl|rfl)<;>assumption));exact⟨aB s rfl,⟨aB u rfl,aB u rfl,⟨rfl,Mf ⟨rfl,rfl⟩⟩,λj=>bC u j,NG _⟩,List.Pairwise.nil,λg v=>(by cases v),aB s rfl,a.still J,aB s rfl,Fe H,λK=>Nat.lt_irrefl _ (h.n.lg _ K),λg v=>(by cases v)⟩
end
section
open Go.RowKit Go.Maps
attribute [local go_sem] aI
theorem mr{a:Array Ma}{t:NL}(b:a[i]?=N v):(w.alloc (MY a t)).cell? ⟨w.heap.size,i,S⟩=N v:=aB (aU _ _) b
theorem Bc(s:Nat)(k:Ma)(P:List b7)(r:Rl)(w:MV)(q:w.cell? ⟨s,0,S⟩=N k)(t:eM w k P)(l:r.ac=2->0<=r.po/\r.po<P.length):Mo MT 149 #[MQ (N ⟨s,0,S⟩),M1 #[Q I r.id,Q I r.pr,Q I r.k0,Q I r.v0,Q I r.m0,Q I r.k1,Q I r.v1,Q I r.m1,Q I r.k2,Q I r.v2,Q I r.m2,Q I r.k3,Q I r.v3,Q I r.m3,Q I r.k4,Q I r.v4,Q I r.m4,Q I r.ac,Q I r.po]] w λe h=>e=MZ (M0 Md)/\Mb w.heap.size w h:=by
 obtain⟨b,g⟩:=UX (w.alloc (MY #[Q I r.id,Q I r.pr,Q I r.k0,Q I r.v0,Q I r.m0,Q I r.k1,Q I r.v1,Q I r.m1,Q I r.k2,Q I r.v2,Q I r.m2,Q I r.k3,Q I r.v3,Q I r.m3,Q I r.k4,Q I r.v4,Q I r.m4,Q I r.ac,Q I r.po] 37));have C:b.cell? ⟨w.heap.size,17,S⟩=N (Q I r.ac):=by rw[g];exact mr rfl
 have G:b.cell? ⟨w.heap.size,18,S⟩=N (Q I r.po):=by rw[g];exact mr rfl
 have i:=UY g;have u:w.heap.size<b.heap.size:=by rw[g];simp
 have m:aA (∀(d:Nat) (f:Array Obj),Mo MT 65 #[MQ (N ⟨s,0,S⟩),Q I r.po] (grow (NK b d) f) λe h=>e=MZ (M0 (decide (0<=r.po)&&decide (r.po<P.length)))/\Mb (grow (NK b d) f).heap.size (grow (NK b d) f) h):=A λd f=>by
  refine(kJ s k P r.po (grow (NK b d) f) (MW (NP b d f) (MW i q)) ((t.aD i).aD (NP b d f))).mono ?_;rintro e h ⟨D,c⟩;rw[c];exact⟨D,MU _ _⟩
 have v:=A i;have j:=A g;clear g i q t;by_cases c:r.ac=2
 ·obtain⟨x,y⟩:=l c;have z:(r.ac==2)=true:=by simp[c]
  rw[decide_eq_true x,decide_eq_true y]at m;have B:=A c;clear x y l c z;go_enter SA,ntmps149;go_wp2;rw[<-j.o];clear j;rw[B.o]at C;clear B;refine Mg UR UR ?_
  repeat(first|go_big_quiet_skip|quiet_step (exact Ml (m.o _ _)))
  refine M3 ?_;intro E a;replace a:=aE a;obtain⟨n,o⟩:=aW a;have F:=a.size;have p:=A a;clear n o a;go_wp2;go_ret;exact⟨rfl,v.o.trans (p.o.mono (QU u))⟩
 ·have z:(r.ac==2)=false:=by simp[c]
  clear l m c;go_enter SA,ntmps149;go_wp2;rw[<-j.o];clear j;refine Mg UR UR ?_
  repeat(first|go_big_quiet_skip|quiet_step (fail))
  refine M3 ?_;intro E a;replace a:=aE a;obtain⟨n,o⟩:=aW a;have F:=a.size;have p:=A a;clear n o a;go_wp2;go_ret;exact⟨rfl,v.o.trans (p.o.mono (QU u))⟩
end
section
open Go.RowKit Go.Maps
def mC(v:Ma):Sem Value:=Instr.loadAt 37 v
theorem lV(v:Ma):Instr.loadAt 37 v=mC v:=rfl
attribute [local go_sem ↓ high] lV
def A9(V:Int->Int×Int)(a b c:Int):Int->Int×Int:=λx=>if x=a then(b,c)else V x
theorem dc.put(h:dc w b n V)(c d f:Int)(j:(Ny I c).wf=Mk)(l:dG w b<maxLen):∃a,(Instr.mapUpdate 135 (N4 (N b)) (Q I c) (M1 #[Q I d,Q I f])).run MT w=.ok () a/\dc a b (n+1) (A9 V c d f)/\w.grownBy a (N b)/\dG a b<=dG w b+1:=by
 obtain⟨D,g,m⟩:=h;have o:IsMap D:=by obtain⟨_,_,_,_,_,rfl⟩:=g;exact⟨_,rfl⟩
 obtain⟨a,p,i,q⟩:=g.update Bh pl l (keyOf_int_mk Pv j) (xZ d f);refine⟨a,p,⟨_,gw i rfl,λx r=>?_⟩,q,sh i⟩;unfold A9;by_cases e:x=c
 ·subst e;rw[if_pos rfl];exact atKey_put_same (k:=Ny I x) o trivial _ _
 ·rw[if_neg e,atKey_put_other (by intro h;cases h;exact e rfl)];exact m x r
theorem dc.same(h:dc w b n V)(c:a.heap[b]?=w.heap[b]?):dc a b n V:=by
 obtain⟨D,d,e⟩:=h;exact⟨D,gw d c,e⟩
theorem dc.AK(h:dc w b n V):∃o,w.heap[b]?=N o/\o.isCells=false:=by
 obtain⟨D,⟨c,d,a,e⟩,f⟩:=h;exact⟨_,a,rfl⟩
theorem tr{o:Obj}(g:cP w)(h:w.heap[x]?=N o)(d:o.isCells=Md):eD w x where
 zero:=by rintro rfl;have:=g.1;rw[dL h d]at this;cases this
 ent r i:=by have:=i.c0;rw[dL h d]at this;cases this
 leaf a n c b:=by rw[dL h d]at b;cases b
 node f l j b _ _:=by rw[dL h d]at b;cases b
 bunch e r b _:=by rw[dL h d]at b;cases b
def K8(t d n:Nat)(F:Nat->Prop)(L:List af)(V:Int->Int×Int)(r:Rl)(w a:MV):Prop:=
 ∃e c b,bQ a t e c/\(∀x,e x->F x\/w.heap.size<=x)/\aH (λx=>F x\/x=d) w a/\(∀x,x∈c↔x=(b,r)\/x∈L)/\c.length=L.length+1/\dc a d (n+1) (A9 V r.id r.ac r.po)
theorem JE{g:MV}{a:Nat}(d:Mb w.heap.size w f)(B:go f.drew g t F L r)(m:dc w a n V)(C:dG w a<maxLen)(D:(Ny I r.id).wf=Mk)(j:¬F a)(E:ah L r=0):∃e,(Instr.mapUpdate 135 (N4 (N a)) (Q I r.id) (M1 #[Q I r.ac,Q I r.po])).run MT g.drew=.ok () e/\K8 t a n F L V r w e/\dG e a<=dG w a+1:=by
 obtain⟨G,H,p,q,k,s⟩:=B;rw[if_pos E]at s;obtain⟨b,J,K⟩:=s;have M:=m.aD d;obtain⟨o,P,a1⟩:=m.AK;have l:a<w.heap.size:=aJ P;have u:dc g.drew a n V:=M.same (k.block a (Mi l d.size) j);have v:dG g.drew a=dG w a:=dZ ((k.block a (Mi l d.size) j).trans (d.block a l));obtain⟨o2,R,T⟩:=u.AK;obtain⟨e,U,W,i,y⟩:=u.put r.id r.ac r.po D (by rw[v];exact C);rw[v]at y;have z:aH (λx=>x=a) g e:=⟨i.os,i.tape,i.output,i.size,λx c X=>i.block x c (by simpa using X)⟩;refine⟨e,U,⟨G,H,b,p.nc z (by rintro x rfl;exact tr p.laid R T) ?_,?_,?_,J,K,W⟩,y⟩
 ·rintro x c rfl;rcases q x c with h|h
  ·exact j h
  ·have Y:f.heap.size<=x:=h;have Z:=d.size;omega
 ·intro x c;rcases q x c with h|h
  ·exact Mf h
  ·have Y:f.heap.size<=x:=h;have Z:=d.size;exact MX O
 ·have c1:aH (λx=>F x\/x=a) w f.drew:=aH.aG d.drew;exact(c1.trans (k.mono λx _ c=>Mf c)).trans (z.mono λx _ c=>MX c)
end
section
open Go.RowKit Go.Maps
theorem bQ.qP(h:bQ w t F L)(a:F x):(∃b,w.cell? ⟨x,0,S⟩=N (MQ (N ⟨b,0,S⟩))/\w.cell? ⟨b,0,S⟩=N (Nm (.func 33) #[] #[]))\/(∃g f c,w.cell? ⟨x,0,S⟩=N (Nm g f c))\/(∃n,w.cell? ⟨x,0,S⟩=N (Q I n)/\((∃p,w.cell? ⟨x,1,S⟩=N (MQ p))\/∃k,w.cell? ⟨x,1,S⟩=N (Q I k))):=by
 obtain⟨i,j,l,m,o,T,_,_,rfl⟩:=h;rcases a with rfl|(rfl|a)|(rfl|a)
 ·exact Mf ⟨i,T.c0,T.mI.1⟩
 ·exact MX (Mf ⟨_,_,_,T.mI.1⟩)
 ·obtain⟨n,p,d,e⟩:=T.hI _ a;exact MX (MX ⟨n,d,Mf ⟨p,e⟩⟩)
 ·exact MX (Mf ⟨_,_,_,T.mR.1⟩)
 ·obtain⟨n,k,p,d,e,_⟩:=T.hR _ a;exact MX (MX ⟨n,d,MX ⟨k,e⟩⟩)
theorem bQ.AJ(h:bQ w t F L)(g:F x):∃v,w.cell? ⟨x,0,S⟩=N v/\(∀a n c,v≠MR a n c)/\∀s,v≠MS s:=by
 rcases h.qP g with⟨b,d,_⟩|⟨i,f,c,d⟩|⟨n,d,_⟩<;>exact⟨_,d,(λ_ _ _ e=>by cases e),λ_ e=>by cases e⟩
end
theorem vE(m:Nat)(a:Option Oz)(n b:Nat)(w:MV)(d:w.cell? ⟨m,1,S⟩=N (MR a n b)):Mo MT 192 #[MQ (N ⟨m,0,S⟩)] w λe c=>e=MZ (Q I n)/\c=w:=by
 go_enter func192,ntmps192;go_wp2;go_ret;exact⟨rfl,rfl⟩
theorem gC.aD{b:Ma}(h:gC w b)(c:Mb w.heap.size w a):gC a b:=λg d=>by
 obtain⟨n,p,e,f⟩:=h g d;exact⟨n,p,MW c e,MW c f⟩
def DR(m:Nat)(e:Ma)(L:List Fc)(f:Fc)(w c:MV):Prop:=
 ∃d a,iR c m d a/\bt a/\gC c d/\(∀x,x∈a↔x=f\/x∈L)/\a.length=L.length+1/\(∀b,d.ownBlock=N b->e.ownBlock=N b\/w.heap.size<=b)/\aH (λb=>b=m\/e.ownBlock=N b) w c
theorem DR.from{a:Ma}{L:List Fc}{c:Fc}(e:Mb w.heap.size w W)(f:DR m a L c W d):DR m a L c w d:=by
 obtain⟨g,h,i,j,k,l,n,o,p⟩:=f;exact⟨g,h,i,j,k,l,n,λb q=>(o b q).imp id λr=>Mx e.size r,(aH.aG e).trans p⟩
theorem A8(m:Nat)(b:Ma)(L:List Fc)(a:Fc)(f:Int)(w:MV)(c:iR w m b L)(d:bt L)(l:gC w b)(j:bG L a.1=S)(u:L.length<=199)(v:(L.length:Int)<f):Mo MT 142 #[MQ (N ⟨m,0,S⟩),Q I f,Q I a.1,MS a.2] w λe x=>e=MZ (M0 Mk)/\DR m b L a w x:=by
 have n:=A (ej m b L a.1 w c d);have y:=A λ(W:MV) (h:Mb w.heap.size w W)=>EF m b L a W (c.aD h) d (l.aD h) j u;obtain⟨z,B,g,rfl,C⟩:=eI c.2.2.1;have D:=A λ(W:MV) (h:Mb w.heap.size w W)=>vE m z L.length B W (c.aD h).2.1;have E:=A d;have F:=A j;have H:¬f<=(L.length:Int):=O;clear c d l j C v;go_enter func142,ntmps142;go_wp2_with fail
 refine n.o.mono ?_;rintro e J ⟨i,K,o,p,rfl,q⟩;have r:=A (eu o p E.o);have M:(decide (i<L.length)&&(iV L i==a.1))=false:=by
  rw[<-NB,NH,decide_eq_true_eq,beq_iff_eq];intro h;have:=r.o;rw[dif_pos h,F.o]at this;cases this
 have k:=A q;clear n o p q r;go_wp2_with fail
 refine(D.o _ k.o).mono ?_;rintro e W ⟨rfl,s⟩;rw[s];clear s W;go_wp2_with fail
 refine(y.o _ k.o).mono ?_;rintro e P ⟨rfl,t⟩;have G:=A (DR.from k.o t);clear t;go_wp2_with fail
 go_ret;exact⟨rfl,G.o⟩
section
open Go.RowKit Go.Maps
structure jA (w:MV) (s r f:Nat) (l:Ma) (R:List Rt):Prop where
 h2:w.cell? ⟨s,2,S⟩=N (MQ (N ⟨r,0,S⟩))
 h0:w.cell? ⟨r,0,S⟩=N (MQ (N ⟨f,0,S⟩))
 hM:dx w f l R
 hS:dA R
section
variable {w W:World}{s k m u t B r f:Nat}{q p C l:Value}{P:List b7}{K:List Mc}{D:List Fc}{F:Nat->Prop}{L:List af}{V:Int->Int×Int}{R:List Rt}{X:Nat->Prop}
theorem dx.aj(h:dx w f l R)(b:aH X w W)(i:¬X f)(d:∀g,l.ownBlock=N g->¬X g):dx W f l R:=by
 obtain⟨⟨n,v,o,x,y⟩,z⟩:=h;exact⟨⟨b.block.cell i n,b.block.cell i v,ap o λg c=>b.block g (ae o c).2 (d g c),λj=>(NJ (a:=⟨f,j,S⟩) (b.block f (MO n) i)).trans (x j),y⟩,λe g c=>by
  obtain⟨E,G,H,J,M,T,U,Y⟩:=z e g c;exact⟨E,G,H,J,b.block.cell (d g c) M,b.block.cell (d g c) T,b.block.cell (d g c) U,b.block.cell (d g c) Y⟩⟩
theorem jA.aj(h:jA w s r f l R)(a:aH X w W)(b:¬X s)(c:¬X r)(d:¬X f)(e:∀g,l.ownBlock=N g->¬X g):jA W s r f l R:=
 ⟨a.block.cell b h.h2,a.block.cell c h.h0,h.hM.aj a d e,h.hS⟩
theorem dx.xT(h:dx w f l R)(e:l.ownBlock=N g):∃a b c d,w.cell? ⟨g,0,S⟩=N (Q I a)/\w.cell? ⟨g,1,S⟩=N (Q I b)/\w.cell? ⟨g,2,S⟩=N (Q I c)/\w.cell? ⟨g,3,S⟩=N (MS d):=h.FV g e
theorem bW.Jh(h:bW w s q P k m p K)(g:0<P.length)(f:q.ownBlock=N b):∃n z,w.cell? ⟨b,0,S⟩=N (Q I n)/\w.cell? ⟨b,1,S⟩=N (N4 z):=by
 obtain⟨a,E,i,e,j⟩:=h.hp;obtain⟨o,c,v,d,x⟩:=j 0 g;rw[e,o]at f;obtain rfl:i=b:=by simpa[NF]using f
 rw[Nat.zero_mul]at c d;have y:∃z,v=N4 z:=by rcases x with⟨rfl,_⟩|⟨_,_,_,rfl,_⟩<;>exact⟨_,rfl⟩
 obtain⟨z,rfl⟩:=y;exact⟨_,z,c,d⟩
theorem bW.vd(h:bW w s q P k m p K):∃a n c,w.cell? ⟨s,0,S⟩=N (MR a n c):=by
 obtain⟨a,b,d,e,_⟩:=h.hp;exact⟨_,_,_,e▸h.h0⟩
end
end
theorem dx.vt{b:Ma}{K:List Rt}(h:dx w m b K)(c:Mb w.heap.size w a):dx a m b K:=⟨h.1.aD c,λe=>(h.2 e).aD c⟩
section
open Go.RowKit Go.Shelf
attribute [local go_sem] Oper.semAt_some
def qM(b:Nat)(W:MV)(c:Ma)(L:List Rt):Prop:=
 ∃(a:Option Oz) (d:Nat),c=MR a L.length d/\∀j (h:j<L.length),∃g,a=N ⟨g,0,S⟩/\g<b/\W.cell? ⟨g,j*4,S⟩=N (Q I L[j].bits)/\W.cell? ⟨g,j*4+1,S⟩=N (Q I L[j].len)/\W.cell? ⟨g,j*4+2,S⟩=N (Q I L[j].vlan)/\W.cell? ⟨g,j*4+3,S⟩=N (MS L[j].mac)
theorem qM.aD{c:Nat}{B:MV}(h:Mb c d B){f:Ma}{L:List Rt}(i:qM c d f L):qM c B f L:=by
 obtain⟨a,k,e,l⟩:=i;refine⟨a,k,e,λj m=>?_⟩;obtain⟨g,n,b,o,q,r,s⟩:=l j m;exact⟨g,n,b,(h.cell (p:=⟨g,j*4,S⟩) b).trans o,(h.cell (p:=⟨g,j*4+1,S⟩) b).trans q,(h.cell (p:=⟨g,j*4+2,S⟩) b).trans r,(h.cell (p:=⟨g,j*4+3,S⟩) b).trans s⟩
theorem dx.row{c:Ma}{K:List Rt}(h:dx w m c K){d:Nat}(l:w.heap.size<=d):qM d w c K:=by
 obtain⟨a,n,g,rfl,o⟩:=gY h.1.2.2.1;refine⟨a,n,rfl,λj e=>?_⟩;obtain⟨p,b,f,i,k⟩:=o j e;rw[iK e]at b f i k;exact⟨g,p,Mi (MO b) l,b,f,i,k⟩
def JM{Pr:Rt->Prop}(x:{e:Rt//Pr e}):Array Value:=#[M1 #[Q I x.1.bits,Q I x.1.len],M1 #[Q I x.1.vlan,MS x.1.mac]]
theorem IW{u:Rt->Prop}(F:Fence)(n:Nat)(M:F.fn 210)(P:F.round=S)(hn:1<=n)(l w m h:Nat)(y:Ma)(L:List {e:Rt//u e})(a5:L.length<=200)(J z:List {e:Rt//u e}->MV->Prop)(B:Nat)(R:AbidesFrom B J)(T:∀b x W,J b W->b.length<L.length->YieldAt F (n-1) MT l (JM x) W λe d=>(e=MZ (M0 Mk)/\J (b++[x]) d/\Mb h W d)\/(e=MZ (M0 Md)/\z (b++[x]) d))(W:MV)(C:h<=W.heap.size)(a6:W.cell? ⟨w,0,S⟩=N (MQ (N ⟨m,0,S⟩)))(U:W.cell? ⟨m,1,S⟩=N y)(V:qM h W y (L.map (·.1)))(X:J [] W):CallsIn F n MT 210 #[Nm (.yield l) #[] #[],MQ (N ⟨w,0,S⟩)] W λe d=>(∃v,e=MZ v)/\((∃D,D=L/\J D d)\/(∃b,b<+:L/\z b d)):=by
 obtain⟨a,a7,rfl,j⟩:=V;simp only[ND]at j U⊢;refine Sp TH rfl M ?_ P;simp only[ntmps210,NY,N6,OH,Nat.reduceAdd,Nat.reduceSub,Of,Og,Ot,Om,O3,Ov];gi_wp2
 gi_loopw [10] (λi wr=>∃k:Nat,k<=L.length/\i=Q I k/\J (L.take k) wr/\Mb h W wr) (λi _=>L.length- (intOf i).toNat)
 case atStart=>exact⟨0,NG _,rfl,by simpa using X,MU _ _⟩
 case round=>
  obtain⟨k,hk,rfl,E,c⟩:=hrel;by_cases G:k<L.length
  ·obtain⟨g,rfl,f,o,q,s,t⟩:=j k G;rw[List.getElem_map]at o q s t;have d0:=(c.cell (p:=⟨g,k*4,S⟩) f).trans o;have d1:=(c.cell (p:=⟨g,k*4+1,S⟩) f).trans q;have d2:=(c.cell (p:=⟨g,k*4+2,S⟩) f).trans s;have d3:=(c.cell (p:=⟨g,k*4+3,S⟩) f).trans t;have b3:g<wr.heap.size:=Mi (Mi f C) c.size;have b4:(k:Int)<L.length:=O;have H:=R _ wr (wr.alloc (MY #[Q I L[k].1.bits,Q I L[k].1.len,Q I L[k].1.vlan,MS L[k].1.mac] 331)) S E (World.grownBy_alloc _ _ _) (λr e=>by cases e);obtain⟨fn,b6,b9,c4,Y,Z⟩:=T _ L[k] _ H UU;simp only[JM]at Y;have K:aA (L.take (k+1)=L.take k++[L[k]]):=by rw[List.take_succ_eq_append_getElem G];exact rfl
   generalize a0:L[k]=ek at*;clear H j o q s t a0;gi_wp2
   refine Z.mono ?_;rintro e W3 (⟨rfl,a1,a2⟩|⟨rfl,a3⟩)
   ·gi_wp2
    go_roundw
    case rel=>exact⟨k+1,O,by simp,by rw[K.o];exact a1,(c.alloc (Mx C c.size) _).trans a2⟩
    case measure=>simp[intOf];omega
   ·gi_wp2
    refine bodyPost_ret (results_none rfl _ _ _) rfl ?_;exact⟨⟨_,rfl⟩,MX ⟨_,by rw[<-K.o];exact List.take_prefix _ _,a3⟩⟩
  ·obtain rfl:k=L.length:=by omega
   clear j;gi_wp2
   go_end0;exact⟨⟨_,rfl⟩,Mf ⟨_,rfl,by simpa using E⟩⟩
theorem Jb(F:Fence)(n:Nat)(a:F.fn 176)(b:F.round=S)(m:Nat)(w:MV):CallsIn F n MT 176 #[MQ (N ⟨m,0,S⟩)] w λe c=>e=MZ (Nm (.func 210) #[] #[MQ (N ⟨w.heap.size,0,S⟩)])/\c=w.alloc (MY #[MQ (N ⟨m,0,S⟩)] 202):=by
 refine Sp func176 rfl a ?_ b;simp only[ntmps176,NY,N6,OH,Nat.reduceAdd,Nat.reduceSub,Of,Og,Ot,Om,O3,Ov];gi_wp2
 go_ret;exact⟨rfl,rfl⟩
theorem Ci{g:Rt->Prop}(F:Fence)(n:Nat)(h:F.fn 210)(i:F.round=S)(j:1<=n)(a m b:Nat)(d:Ma)(L:List {e:Rt//g e})(k:L.length<=200)(w:MV)(o:a<w.heap.size)(q:m<b)(f:b<=w.heap.size)(r:w.cell? ⟨a,0,S⟩=N (MQ (N ⟨m,0,S⟩)))(s:w.cell? ⟨m,1,S⟩=N d)(t:qM b w d (L.map (·.1))):SeqStopsK F n MT 210 #[MQ (N ⟨a,0,S⟩)] (JM (Pr:=g)) (Mb b) (λu=>u=L) (λv=>v<+:L) L.length w:=λl J x W c y _ z B=>
 IW F n h i j l a m b d L k J x W.heap.size y z W (Mx f c.size) ((c.cell (p:=⟨a,0,S⟩) o).trans r) ((c.cell (p:=⟨m,1,S⟩) (Mi q f)).trans s) (t.aD (c.mono f)) B
def kO(e:Rt):Prop:=e.len=(e.len.toNat:Int)/\e.len.toNat<=32
def j7(a:Nat)(e:Rt):Bool:=qm e.bits e.len.toNat a
def fU(K:List Rt)(a:Nat):Option Rt:=K.find? (j7 a)
def KF(o:Option Rt):Value:=match o with|some e=>M1 #[Q I e.vlan,MS e.mac]|none=>M1 #[Q I 0,MS ⟨#[]⟩]
theorem dK.other{a:Array Ma}{t:NL}(h:dK W b a t)(c:b≠x)(i:Nat)(v:Ma):dK (W.setCell ⟨x,i,S⟩ v) b a t:=(NE _ _ _ _ c).trans h
theorem dK.set{a:Array Ma}{t:NL}(h:dK W b a t)(i:Nat)(v:Ma):dK (W.setCell ⟨b,i,S⟩ v) b (a.setIfInBounds i v) t:=Mn _ _ i _ _ _ h
theorem Hr{a:Type}{p:a->Bool}{L b:List a}{x:a}(h:b++[x]<+:L)(c:∀y∈b,p y=Md)(d:p x=Mk):L.find? p=N x:=by
 obtain⟨t,rfl⟩:=h;rw[SS,SS,OQ.2 (λy e=>by rw[c y e];decide)];simp[d]
theorem Et(o q:Nat)(sv:Ma)(a:Nat)(w:MV)(z:List {e:Rt//kO e})(f8:z.length<=200)(ha:a<4294967296)(hk:w.cell? ⟨o,0,S⟩=N (MQ (N ⟨q,0,S⟩)))(hm:w.cell? ⟨q,1,S⟩=N sv)(b4:qM w.heap.size w sv (z.map (·.1))):Mo MT 114 #[MQ (N ⟨o,0,S⟩),Q I a] w λe w'=>e=MZ (Nn #[KF (fU (z.map (·.1)) a),M0 (fU (z.map (·.1)) a).isSome])/\Mb w.heap.size w w':=by
 have k4:o<w.heap.size:=MO hk;have e0:q<w.heap.size:=MO hm;have f9:=b4;obtain⟨ra,g1,rfl,_⟩:=f9;rw[ND]at hm;have g2:aA (∀(t:List {e:Rt//kO e}) (x:{e:Rt//kO e}),t++[x]<+:z->(∀y∈t,j7 a y.1=Md)->j7 a x.1=Mk->fU (z.map (·.1)) a=N x.1):=A λt x hp hn Z=>by
  unfold fU;rw[List.find?_map,Hr (p:=j7 a∘λ(y:{e:Rt//kO e})=>y.1) hp hn Z];rfl
 have g5:aA ((∀y∈z,j7 a y.1=Md)->fU (z.map (·.1)) a=S):=A λh=>by
  unfold fU;rw[OQ];intro e he;obtain⟨y,hy,rfl⟩:=List.mem_map.1 he;rw[h y hy];decide
 obtain⟨B,G⟩:=UX (((w.alloc (MY #[Q I a] 3)).alloc (MY #[Q I 0,MS ⟨#[]⟩] 207)).alloc (MY #[M0 Md] 4));have e5:B.heap.size=w.heap.size+3:=by rw[G];simp
 have e6:Mb w.heap.size w B:=by rw[G];exact(((MU _ w).alloc (MP _) _).alloc (by simp) _).alloc UU _
 have b0:dK B w.heap.size #[Q I a] 3:=by rw[G];exact((dK.new w _ _).alloc _).alloc _
 have b1:dK B (w.heap.size+1) #[Q I 0,MS ⟨#[]⟩] 207:=by
  have:=(dK.new (w.alloc (MY #[Q I a] 3)) #[Q I 0,MS ⟨#[]⟩] 207).alloc (MY #[M0 Md] 4);rw[N3]at this;rw[G];exact this
 have b2:dK B (w.heap.size+1+1) #[M0 Md] 4:=by
  have:=dK.new ((w.alloc (MY #[Q I a] 3)).alloc (MY #[Q I 0,MS ⟨#[]⟩] 207)) #[M0 Md] 4;rw[N3,N3]at this;rw[G];exact this
 have h0:(((w.alloc (MY #[Q I a] 3)).alloc (MY #[Q I 0,MS ⟨#[]⟩] 207)).alloc (MY #[M0 Md] 4)).cell? ⟨o,0,S⟩=N (MQ (N ⟨q,0,S⟩)):=by rw[<-G];exact MW e6 hk
 have r1:o<w.heap.size+1:=O;have r2:o<w.heap.size+1+1:=O;have r3:o<w.heap.size+1+1+1:=O;have h6:=A G;refine(PF (n:=5)).1 ?_;have a4:Fence.wide.round=none:=rfl;refine callsIn_of_wp_marks func114 rfl trivial ?_ a4;simp only[ntmps114,NY,N6,OH,Nat.reduceAdd,Nat.reduceSub,Of,Og,Ot,Om,O3,Ov];clear G;gi_wp2_with (first|(refine⟨trivial,?_⟩;gi_at_call 176;refine(Jb Fence.wide 4 trivial a4 q _).mono ?_;rintro e w' ⟨rfl,rfl⟩))
 rw[<-h6.o];clear h0;have b5:Mb w.heap.size w (B.alloc (MY #[MQ (N ⟨q,0,S⟩)] 202)):=e6.alloc O _;have e7:(B.alloc (MY #[MQ (N ⟨q,0,S⟩)] 202)).heap.size=w.heap.size+4:=by simp[e5]
 have h7:=(b5.cell (p:=⟨q,1,S⟩) e0).trans hm;have bN:=dK.new B #[MQ (N ⟨q,0,S⟩)] 202;rw[e5]at bN;rw[ND]at b4;refine wpIn_rangeFunc_ownH a4 O (gf:=210) (lb:=#[MQ (N ⟨w.heap.size+3,0,S⟩)]) rfl trivial (enters_of TH UR rfl)
  (Ci Fence.wide 4 trivial a4 O (w.heap.size+3) q w.heap.size (MR ra z.length g1) z f8 _ O e0 O (bN.cell rfl) h7 (b4.aD b5)) belowK_t (belowK_b O) (MU _ _) (λ_=>rfl)
  (λt W=>dK W w.heap.size #[Q I a] 3/\dK W (w.heap.size+1) #[Q I 0,MS ⟨#[]⟩] 207/\dK W (w.heap.size+1+1) #[M0 Md] 4/\(∀y∈t,j7 a y.1=Md)/\Mb w.heap.size w W)
  (λc t W=>c=.ret/\(∃P x,t=P++[x]/\(∀y∈P,j7 a y.1=Md)/\j7 a x.1=Mk/\dK W (w.heap.size+1) #[Q I x.1.vlan,MS x.1.mac] 207)/\dK W (w.heap.size+1+1) #[M0 Mk] 4/\Mb w.heap.size w W)
  (λs X Y u j b g=>⟨dK.own _ _ _ () X Y u j.1 b (λr e=>(g r e).2),dK.own _ _ _ () X Y u j.2.1 b (λr e=>(g r e).2),dK.own _ _ _ () X Y u j.2.2.1 b (λr e=>(g r e).2),j.2.2.2.1,(Te (β:=List {e:Rt//kO e}) (MP _) O) s X Y u j.2.2.2.2 b g⟩)
  (λc s X Y u j b g=>⟨j.1,(by obtain⟨P,x,e1,e2,e3,e4⟩:=j.2.1;exact⟨P,x,e1,e2,e3,dK.own _ _ _ () X Y u e4 b (λr e=>(g r e).2)⟩),dK.own _ _ _ () X Y u j.2.2.1 b (λr e=>(g r e).2),(Te (β:=List {e:Rt//kO e}) (MP _) O) s X Y u j.2.2.2 b g⟩)
  ⟨b0.alloc _,b1.alloc _,b2.alloc _,(λy hy=>absurd hy (List.not_mem_nil)),b5⟩
  (λx a' W=>∃E F,w.heap.size+1+1<E/\w.heap.size+1+1<F/\dK W E #[Q I x.1.bits,Q I x.1.len] 205/\dK W F #[Q I x.1.vlan,MS x.1.mac] 207/\a'={tmps:=#[MQ (N ⟨o,0,S⟩),Q I a,NS,MQ (N ⟨w.heap.size,0,S⟩),MQ (N ⟨w.heap.size+1,0,S⟩),MQ (N ⟨w.heap.size+1+1,0,S⟩),MQ (N ⟨E,0,S⟩),MQ (N ⟨F,0,S⟩),MQ (N ⟨o,0,S⟩),MQ (N ⟨o,0,S⟩),MQ (N ⟨o,0,S⟩),MQ (N ⟨q,0,S⟩),Nm (.func 210) #[] #[MQ (N ⟨w.heap.size+3,0,S⟩)],M1 #[Q I x.1.bits,Q I x.1.len],M1 #[Q I x.1.vlan,MS x.1.mac],NS,NS,NS,NS,NS],defers:=[]})
  (λx a' _ X Y u j b g=>by obtain⟨E,F,h1,h2,h3,h4,h5⟩:=j;exact⟨E,F,h1,h2,dK.own E _ _ () X Y u h3 b (λr e=>(g r e).2),dK.own F _ _ () X Y u h4 b (λr e=>(g r e).2),h5⟩)
  ?assign ?body ?done ?stop
 case assign=>
  rintro l t x W K ⟨H,k,d,J,f⟩ L;simp only[JM];gi_wp2
  have f3:=f.size;have j0:=d.lt;have bY:dK ((W.alloc (MY #[Q I x.1.bits,Q I x.1.len] 205)).alloc (MY #[Q I x.1.vlan,MS x.1.mac] 207)) (W.heap.size+1) #[Q I x.1.vlan,MS x.1.mac] 207:=by
   have:=dK.new (W.alloc (MY #[Q I x.1.bits,Q I x.1.len] 205)) #[Q I x.1.vlan,MS x.1.mac] 207;rwa[N3]at this
  exact L _ _ (((Oy _ _).trans (Oy _ _)).from _) (((MU _ W).alloc f3 _).alloc UU _) ⟨(H.alloc _).alloc _,(k.alloc _).alloc _,(d.alloc _).alloc _,J,(f.alloc f3 _).alloc UU _⟩ ⟨W.heap.size,W.heap.size+1,O,O,(dK.new W _ _).alloc _,bY,rfl⟩
 case body=>
  rintro l t x a' W hl ⟨r,g⟩ ⟨H,k,d,J,f⟩ ⟨E,F,l3,l4,bX,bY,rfl⟩ j0;obtain⟨R,a1⟩:=UX (x.1.len.toNat);have M:=yU x.1.bits R a;have x0:W.cell? ⟨E,0,S⟩=N (Q I x.1.bits):=bX.cell rfl;have x1:W.cell? ⟨E,1,S⟩=N (Q I R):=by rw[a1,<-x.2.1];exact bX.cell rfl
  have c0:W.cell? ⟨w.heap.size,0,S⟩=N (Q I a):=H.cell rfl;have f4:R<=32:=by rw[a1];exact x.2.2
  have l0:=H.lt;have lx:=bX.lt;have hH:qm x.1.bits R a=j7 a x.1:=by rw[a1];rfl
  rw[hH]at M;have m1:=A a1;clear a1 hH g;cases T:j7 a x.1 with
  |false=>
   rw[T]at M;have C:=A λ(W:MV)=>M W f4 ha;have HH:=A T;clear M T;gi_wp2_with (first|(refine⟨trivial,?_⟩;gi_at_call 177;refine(PF.2 (C.o _)).mono ?_;rintro e U ⟨rfl,m⟩))
   refine⟨(fC m).from _,m.mono f.size,H.aD m,k.aD m,d.aD m,λy hy=>?_,f.trans (m.mono f.size)⟩;rcases List.mem_append.1 hy with h|h
   ·exact J y h
   ·rw[List.mem_singleton.1 h];exact HH.o
  |true=>
   rw[T]at M;have C:=A λ(W:MV)=>M W f4 ha;have HH:=A T;clear M T;gi_wp2_with (first|(refine⟨trivial,?_⟩;gi_at_call 177;refine(PF.2 (C.o _)).mono ?_;rintro e U ⟨rfl,m⟩;have c3:=bY.aD m;have V:=k.aD m;have a8:=d.aD m;have y0:U.cell? ⟨F,0,S⟩=N (Q I x.1.vlan):=c3.cell rfl;have y1:U.cell? ⟨F,1,S⟩=N (MS x.1.mac):=c3.cell rfl;have z0:U.cell? ⟨w.heap.size+1,0,S⟩=N (Q I 0):=V.cell rfl;have z1:U.cell? ⟨w.heap.size+1,1,S⟩=N (MS ⟨#[]⟩):=V.cell rfl;have z2:U.cell? ⟨w.heap.size+1+1,0,S⟩=N (M0 Md):=a8.cell rfl;have f0:=V.frozen 0;have f1:=V.frozen 1;have f2:=a8.frozen 0;have ly:=c3.lt;have l1:=V.lt;have l2:=a8.lt))
   refine⟨(((fC m).trans (Oj _ _ _)).trans ((Oj _ _ _).trans (Oj _ _ _))).from _,rfl,⟨t,x,rfl,J,HH.o,?_⟩,?_,?_⟩
   ·exact(((V.set 0 _).set 1 _).other O 0 _)
   ·exact((a8.other O 0 _).other O 1 _).set 0 _
   ·exact(((f.trans (m.mono f.size)).setCell (by simp) _).setCell (by simp) _).setCell UU _
 case done=>
  rintro D ys W hD rfl ⟨H,k,d,J,f⟩ L;have z0:W.cell? ⟨w.heap.size+1,0,S⟩=N (Q I 0):=k.cell rfl;have z1:W.cell? ⟨w.heap.size+1,1,S⟩=N (MS ⟨#[]⟩):=k.cell rfl;have z2:W.cell? ⟨w.heap.size+1+1,0,S⟩=N (M0 Md):=d.cell rfl;have f0:=k.frozen 0;have f1:=k.frozen 1;have f2:=d.frozen 0;have l1:=k.lt;have l2:=d.lt;have HN:=A (g5.o J);have a9:=A f;have c5:=A k;have c6:=A d;have HD:=A hD;have HK:=A L;clear H k d J f L hD;gi_wp2
  have k2:=((((Oj W ⟨w.heap.size+1,0,S⟩ (Q I 0)).trans (Oj _ ⟨w.heap.size+1,1,S⟩ (MS ⟨#[]⟩))).trans (Oj _ ⟨w.heap.size+1+1,0,S⟩ (M0 Md)))).same D _ HK.o rfl;refine⟨by simp,Mf ⟨_,_,rfl,SO k2,?_⟩⟩;have b:=Sf (((W.setCell ⟨w.heap.size+1,0,S⟩ (Q I 0)).setCell ⟨w.heap.size+1,1,S⟩ (MS ⟨#[]⟩)).setCell ⟨w.heap.size+1+1,0,S⟩ (M0 Md)) D (.deferred S);have k3:w.heap.size+4<=D:=by have:=HD.o;rw[e7]at this;exact this
  have q1:=(((c5.o.set 0 (Q I 0)).set 1 (MS ⟨#[]⟩)).other (show w.heap.size+1≠w.heap.size+1+1 by omega) 0 (M0 Md)).kept b UU;have q2:=(((c6.o.other (show w.heap.size+1+1≠w.heap.size+1 by omega) 0 (Q I 0)).other (show w.heap.size+1+1≠w.heap.size+1 by omega) 1 (MS ⟨#[]⟩)).set 0 (M0 Md)).kept b UU;have p0:=q1.cell (i:=0) (v:=Q I 0) rfl;have p1:=q1.cell (i:=1) (v:=MS ⟨#[]⟩) rfl;have p2:=q2.cell (i:=0) (v:=M0 Md) rfl;have f6:Mb w.heap.size w (((W.setCell ⟨w.heap.size+1,0,S⟩ (Q I 0)).setCell ⟨w.heap.size+1,1,S⟩ (MS ⟨#[]⟩)).setCell ⟨w.heap.size+1+1,0,S⟩ (M0 Md)):=((a9.o.setCell (by simp) _).setCell (by simp) _).setCell UU _;refine⟨Nn #[M1 #[Q I 0,MS ⟨#[]⟩],M0 Md],?_,by rw[HN.o];rfl,f6.grown b f6.size (λx Z=>by cases Z;omega)⟩;simp[results,Sl,go_sem,p0,p1,p2]
 case stop=>
  rintro D c t W hD f7 ⟨rfl,⟨P,x,rfl,e2,e3,e4⟩,d,f⟩ L;have HN:=A (g2.o P x f7 e2 e3);have a9:=A f;have c5:=A e4;have c6:=A d;have HD:=A hD;have HK:=A L;clear d f L e2 e3 e4 f7 hD;gi_wp2
  refine⟨by simp,Mf ⟨_,_,rfl,SO HK.o,?_⟩⟩;have b:=Sf W D (.deferred S);have k3:w.heap.size+4<=D:=by have:=HD.o;rw[e7]at this;exact this
  have q1:=c5.o.kept b UU;have q2:=c6.o.kept b UU;have p0:=q1.cell (i:=0) (v:=Q I x.1.vlan) rfl;have p1:=q1.cell (i:=1) (v:=MS x.1.mac) rfl;have p2:=q2.cell (i:=0) (v:=M0 Mk) rfl;refine⟨Nn #[M1 #[Q I x.1.vlan,MS x.1.mac],M0 Mk],?_,by rw[HN.o];rfl,a9.o.grown b a9.o.size (λx Z=>by cases Z;omega)⟩;simp[results,Sl,go_sem,p0,p1,p2]
theorem uz{K:List Rt}(a:∀e∈K,kO e):(K.pmap (λe h=>(⟨e,h⟩:{e:Rt//kO e})) a).map (·.1)=K:=by
 induction K with
 |nil=>rfl
 |cons e t b=>
  rw[List.pmap_cons,List.map_cons,b λx c=>a x (List.mem_cons_of_mem _ c)]
theorem EB(b c:Nat)(g:Ma)(K:List Rt)(a:Nat)(w:MV)(i:w.cell? ⟨b,0,S⟩=N (MQ (N ⟨c,0,S⟩)))(d:dx w c g K)(f:∀e∈K,kO e)(j:a<4294967296):Mo MT 114 #[MQ (N ⟨b,0,S⟩),Q I a] w λe k=>e=MZ (Nn #[KF (fU K a),M0 (fU K a).isSome])/\Mb w.heap.size w k:=by
 have h:=Et b c g a w (K.pmap (λe h=>⟨e,h⟩) f) (by rw[List.length_pmap];exact d.1.2.2.2.2) j i d.1.2.1 (by rw[uz f];exact d.row (MP _));rw[uz f]at h;exact h
end
def FL(W:MV)(g:Nat)(l:List UInt8):Prop:=∀j (a:j<l.length),W.cell? ⟨g,j,S⟩=N (Q .u8 (l[j].toNat:Int))
theorem FL.set(h:FL W g l)(b:i<l.length)(x:UInt8):FL (W.setCell ⟨g,i,S⟩ (Q .u8 (x.toNat:Int))) g (l.set i x):=by
 intro j a;rw[Mw]at a;rw[List.getElem_set];by_cases e:i=j
 ·subst e;rw[if_pos rfl];exact World.cell?_setCell_same _ _ _ (h i b)
 ·rw[if_neg e,World.cell?_setCell_other _ _ _ _ (by intro c;simp at c<;>omega)];exact h j a
theorem FL.aD(h:FL W g l)(b:Mb W.heap.size W a):FL a g l:=λj c=>MW b (h j c)
theorem Hk(W:MV)(b:ByteArray):∃c a,(convert 9 334 (MS b)).run MT W=.ok (MR (N ⟨W.heap.size,0,S⟩) b.size c) a/\Mb W.heap.size W a/\a.heap.size=W.heap.size+1/\b.size<=c/\FL a W.heap.size b.toList/\∀j,j<b.size->a.frozen? ⟨W.heap.size,j,S⟩=false:=by
 have g:=grownCap_ge W b.size 0 5;have h:=World.alloc_heap_new W.drew (MY (PI b (PM W b.size 0 5)) 5 ((PI b (PM W b.size 0 5)).size,(PI b (PM W b.size 0 5)).size+1));have d:(W.drew.alloc (MY (PI b (PM W b.size 0 5)) 5 ((PI b (PM W b.size 0 5)).size,(PI b (PM W b.size 0 5)).size+1))).heap[W.heap.size]?=N (MY (PI b (PM W b.size 0 5)) 5 ((PI b (PM W b.size 0 5)).size,(PI b (PM W b.size 0 5)).size+1)):=h;have i:(PI b (PM W b.size 0 5)).size=PM W b.size 0 5:=by
  simp only[PI,Array.size_append,Array.size_map,Array.size_replicate];have:b.data.size=b.size:=rfl;omega
 refine⟨_,_,run_bytes_of_string W 9 334 5 b SY SG SZ,?_,?_,g,?_,?_⟩
 ·exact(MU _ W).drew.alloc (MP _) _
 ·simp
 ·intro j e;have f:j<b.data.size:=by rwa[No,Nl]at e
  refine aB d ?_;unfold PI;rw[Array.getElem?_append_left (by simpa using f)];simp[No];exact⟨_,Array.getElem?_eq_getElem f,rfl⟩
 ·intro j e;unfold World.frozen?;simp only[d];rw[i,decide_eq_false (by omega:¬grownCap W b.size 0 5<=j)];rfl
def qC(b:ByteArray):ByteArray:=ce (((b.toList.set 8 (NR (b8 b 8-1))).set 10 (NR (kR (bT b 10) 256/256))).set 11 (NR (kR (bT b 10) 256%256)))
theorem Cp(h:n<256):((NR n).toNat:Int)=n:=by simp;omega
theorem GL(b:ByteArray)(d f:Int)(w:MV)(h:20<=b.size)(hs:b.size<=1000)(h8:1<=b8 b 8):Mo MT 179 #[M1 #[MS b,Q I d,Q I f]] w λe w'=>e=MZ (MS (qC b))/\Mb w.heap.size w w':=by
 unfold qC;obtain⟨k,l⟩:=UX (w.alloc (MY #[MS b,Q I d,Q I f] 148));have L:k.heap.size=w.heap.size+1:=by rw[l];simp
 have M:=UY l;have m:k.heap[w.heap.size]?=N (MY #[MS b,Q I d,Q I f] 148 (0,0)):=by rw[l];exact aU _ _
 obtain⟨P,o,R,r,b4,d6,s,t⟩:=Hk k b;rw[l]at R;rw[L]at s t;have T:b.toList.length=b.size:=by rw[No,Nl];rfl
 have U:b.toList[8]'O=NR (b8 b 8):=by
  unfold b8;rw[dif_pos (by omega:8<b.size)];simp[No];rfl
 have l8:=rG b 8;have c8:o.cell? ⟨w.heap.size+1,8,S⟩=N (Q .u8 (b8 b 8:Int)):=by
  rw[s 8 O,U,Cp l8]
 have f8:=t 8 O;have e0:(b.size:Int)<=P:=O;have i8:(8:Int)<b.size:=O;have e4:(10:Int)<b.size:=O;have e5:(11:Int)<b.size:=O;have CW:=A λ(W:MV)=>gv b d f 10 W O hs;have e6:=eN b 10;have CA:=A λ(W:MV)=>yh (bT b 10) 256 W O O;have e7:kR (bT b 10) 256<=65535:=rW O O;obtain⟨c,g⟩:=UX (o.setCell ⟨w.heap.size+1,8,S⟩ (Q .u8 ((NR (b8 b 8-1)).toNat:Int)));have V:FL c (w.heap.size+1) (b.toList.set 8 (NR (b8 b 8-1))):=by rw[g];exact s.set O _
 rw[Cp O]at g;have X:Mb w.heap.size w c:=by rw[g];exact(M.trans (r.mono O)).setCell (show w.heap.size<=w.heap.size+1 by omega) _
 have Y:∀j,j<b.size->c.frozen? ⟨w.heap.size+1,j,S⟩=false:=λj D=>by rw[g,World.frozen?_setCell];exact t j D
 have u:c.heap[w.heap.size]?=N (MY #[MS b,Q I d,Q I f] 148 (0,0)):=by
  rw[g,NE _ _ _ _ (Nat.ne_of_lt (Nat.lt_succ_self _))];exact(r.block _ (aJ m)).trans m
 have p0:c.cell? ⟨w.heap.size,0,S⟩=N (MS b):=aB u rfl;have p1:c.cell? ⟨w.heap.size,1,S⟩=N (Q I d):=aB u rfl;have p2:c.cell? ⟨w.heap.size,2,S⟩=N (Q I f):=aB u rfl;have x:=(r.block _ (aJ m)).trans m;have Z:o.cell? ⟨w.heap.size,0,S⟩=N (MS b):=aB x rfl;have k1:o.cell? ⟨w.heap.size,1,S⟩=N (Q I d):=aB x rfl;have k2:o.cell? ⟨w.heap.size,2,S⟩=N (Q I f):=aB x rfl;have E:=A g;have f0:=MO Z;have f1:(1:Int)<=(b8 b 8:Int):=O;have e8:((b8 b 8-1:Nat):Int)=(b8 b 8:Int) -1:=O;rw[e8]at E;have F:=A V;have G:=A Y;have H:=A X;have c7:=A T;clear x l M m u p0 p1 p2 s t g V Y X r T U e8 L b4;generalize b8 b 8=n8 at*;generalize bT b 10=c9 at*;generalize kR c9 256=a at*;go_enter func179,ntmps179;go_wp2_with fail
 rw[<-E.o];clear E Z k1 k2 c8 f8 R;refine(CW.o _).mono ?_;rintro e y ⟨rfl,q⟩;have z:=F.o.aD q;have J:=A z;have a2:(b.toList.set 8 (NR (n8-1))).length=b.size:=by rw[Mw];exact c7.o
 have a3:∃v,y.cell? ⟨w.heap.size+1,10,S⟩=N (Q .u8 v):=⟨_,z 10 O⟩;have a4:∃v,y.cell? ⟨w.heap.size+1,11,S⟩=N (Q .u8 v):=⟨_,z 11 O⟩;obtain⟨f3,a3⟩:=a3;obtain⟨f4,a4⟩:=a4;have a5:w.heap.size+1<c.heap.size:=MO (F.o 0 O);have f5:y.frozen? ⟨w.heap.size+1,10,S⟩=false:=(q.frozen (p:=⟨w.heap.size+1,10,S⟩) a5).trans (G.o 10 O);have f6:y.frozen? ⟨w.heap.size+1,11,S⟩=false:=(q.frozen (p:=⟨w.heap.size+1,11,S⟩) a5).trans (G.o 11 O);have a6:=A (H.o.trans (q.mono H.o.size));clear q z F G H;go_wp2_with fail
 refine(CA.o _).mono ?_;rintro e W ⟨rfl,a7⟩;rw[a7];clear a7 W;obtain⟨B,K⟩:=UX (b.toList.set 8 (NR (n8-1)));rw[<-K]at J a2;have d0:=A K;have e1:(((NR (a/256)).toNat:Nat):Int)=(a:Int)/256:=by rw[Cp (n:=a/256) O];omega
 have e2:(((NR (a%256)).toNat:Nat):Int)=(a:Int)%256:=by rw[Cp (n:=a%256) O];omega
 have C:=(J.o.set (i:=10) O (NR (a/256))).set (i:=11) (by rw[Mw];omega) (NR (a%256));rw[e1,e2]at C;have b0:((B.set 10 (NR (a/256))).set 11 (NR (a%256))).length=b.size:=by rw[Mw,Mw];exact a2
 generalize b1:(B.set 10 (NR (a/256))).set 11 (NR (a%256))=L4 at C b0;have d2:=A b1;have d3:=run_convert_bytes_back _ 334 9 5 ⟨w.heap.size+1,0,S⟩ P L4 SG SZ SY (λj D=>by
  have e:(⟨w.heap.size+1,0,S⟩:Oz).add j=⟨w.heap.size+1,j,S⟩:=by
   unfold Addr.add;split<;>simp_all
  rw[e];exact C j D)
 rw[b0]at d3;have d4:=A (((a6.o).setCell (show w.heap.size<=(⟨w.heap.size+1,10,S⟩:Oz).block by simp) (Q .u8 ((a:Int)/256))).setCell (show w.heap.size<=(⟨w.heap.size+1,11,S⟩:Oz).block by simp) (Q .u8 ((a:Int)%256)));clear C J a6 e1 e2 K b1;go_wp2;go_ret;exact⟨by rw[<-d0.o,d2.o];rfl,d4.o⟩
def o3(p:Pg)(v:Int)(m a:ByteArray):Pg:={p with routed:=Mk,f:={p.f with to:=m,fr:=a,vlan:=v,mark:=0,rest:=qC p.pb}}
theorem uK(g:Nat)(p:Pg)(c:Ma)(v:Int)(m b:ByteArray)(w:MV)(a:cJ w g p c)(o:20<=p.pb.size)(r:p.pb.size<=1000)(s:1<=b8 p.pb 8):Mo MT 117 #[MQ (N ⟨g,0,S⟩),M1 #[Q I v,MS m],MS b] w λe t=>e=MZ (Nn #[])/\cJ t g (o3 p v m b) c/\dn g w t:=by
 obtain⟨d,j⟩:=UX (((((w.setCell ⟨g,13,S⟩ (M0 Mk)).setCell ⟨g,2,S⟩ (MS m)).setCell ⟨g,3,S⟩ (MS b)).setCell ⟨g,5,S⟩ (Q I v)).setCell ⟨g,6,S⟩ (Q I 0));obtain⟨h,k⟩:=UX (d.alloc (MY #[Q I v,MS m] 207));have l:=UY k;have u:cJ h g {p with routed:=Mk,f:={p.f with to:=m,fr:=b,vlan:=v,mark:=0}} c:=by
  have B:=a.set (q:={p with routed:=Mk}) (ov':=c) 13 (M0 Mk) (by simp[en]);have C:=B.set (q:={p with routed:=Mk,f:={p.f with to:=m}}) (ov':=c) 2 (MS m) (by simp[en]);have D:=C.set (q:={p with routed:=Mk,f:={p.f with to:=m,fr:=b}}) (ov':=c) 3 (MS b) (by simp[en]);have E:=D.set (q:={p with routed:=Mk,f:={p.f with to:=m,fr:=b,vlan:=v}}) (ov':=c) 5 (Q I v) (by simp[en]);have x:=E.set (q:={p with routed:=Mk,f:={p.f with to:=m,fr:=b,vlan:=v,mark:=0}}) (ov':=c) 6 (Q I 0) (by simp[en]);rw[<-j]at x;exact x.aD l
 have y:dn g w h:=by
  have q:=(((((dn.aG (MU _ w)).set (g:=g) 13 (M0 Mk)).set 2 (MS m)).set 3 (MS b)).set 5 (Q I v)).set 6 (Q I 0);rw[<-j]at q;exact q.trans (dn.aG l)
 have F:w.cell? ⟨g,13,S⟩=N (M0 p.routed):=a.cell rfl;have G:w.cell? ⟨g,2,S⟩=N (MS p.f.to):=a.cell rfl;have H:w.cell? ⟨g,3,S⟩=N (MS p.f.fr):=a.cell rfl;have J:w.cell? ⟨g,5,S⟩=N (Q I p.f.vlan):=a.cell rfl;have K:w.cell? ⟨g,6,S⟩=N (Q I p.f.mark):=a.cell rfl;have L:w.cell? ⟨g,9,S⟩=N (MS p.pb):=a.cell rfl;have M:w.cell? ⟨g,10,S⟩=N (Q I p.ph):=a.cell rfl;have P:w.cell? ⟨g,11,S⟩=N (Q I p.pt):=a.cell rfl;have R:=a.frozen 13;have T:=a.frozen 2;have U:=a.frozen 3;have V:=a.frozen 5;have X:=a.frozen 6;have a4:=a.lt;have a5:¬g=w.heap.size:=O;have a6:¬w.heap.size=g:=O;have a7:g<w.heap.size+1:=O;have Y:=A λ(W:MV)=>GL p.pb p.ph p.pt W o r s;rw[j]at k;have z:=A k;have Z:=A u;have a0:=A y;clear j l k u y a o r s;go_enter func117,ntmps117;go_wp2_with fail
 rw[<-z.o];refine(Y.o _).mono ?_;rintro e W2 ⟨rfl,n⟩;have i:=Z.o.aD n;have c8:W2.cell? ⟨g,8,S⟩=N (MS p.f.rest):=i.cell rfl;have f8:=i.frozen 8;have b0:=i.lt;have a2:=A (i.set (q:=o3 p v m b) (ov':=c) 8 (MS (qC p.pb)) (by simp[en,o3]));have a3:=A ((a0.o.trans (dn.aG n)).set 8 (MS (qC p.pb)));clear n i z F G H J K L M P R T U V X;go_wp2;go_end0;exact⟨rfl,a2.o,a3.o⟩
end Go.Proofs.YtnjalelblbjfiaaGreatDoor
