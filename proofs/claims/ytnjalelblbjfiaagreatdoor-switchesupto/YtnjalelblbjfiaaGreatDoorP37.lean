import Derived.Test.YtnjalelblbjfiaaGreatDoorP36
import Derived.Test.YtnjalelblbjfiaaGreatDoorP25
namespace Go.Proofs.YtnjalelblbjfiaaGreatDoor
set_option maxRecDepth 100000
set_option maxHeartbeats 16000000
open Go.RowKit
open Go.Proofs.Tryz
open Go.Sort (grow)
open List (Perm)
open Bool renaming true→Mk,not_eq_true→NB,and_eq_true→NH,false→Md,not_eq_true'→Pm
open Go renaming Value→Ma,World→MV,Calls→Mo,cell_later→MW,block_lt_of_cell→MO,run_loadAt_mid→NW,run_storeAt_new→Rn,redrawn→NK,wp_region_quiet_below→Mg,wpQuiet_nil→M3,heap_setCell_same→Mn,heap_setCell_other→NE
open Go.Ending renaming returned→MZ
open Go.IntKind renaming i64→I
open Go.Proofs.Tryz renaming prog→MT,func142→TJ,func140→TM,func73→Qu,func198→TN,func77→Tj,func138→Ra
open Go.RowKit renaming Below→Mb
open Go.Value renaming string→MS,slice→MR,pointer→MQ,int→Q,bool→M0,ownBlock→NF,agg→M1
open Go.World renaming cell?_setCell_other→NT,frozen?_setCell→Ni,cell?_of_block→Mj
open List renaming find?_eq_none→OQ,find?_isSome→Ue,getElem_mem→Ms,pairwise_iff_getElem→Mr,length_set→Mw,getElem_set→OA,getElem_of_mem→Mt,mem_of_find?_eq_some→OT,find?_some→Py,mem_filter→Nc,length_filter_le→OX,perm_ext_iff_of_nodup→Q6,nodup_cons→Sm,mem_cons→Nk,perm_append_singleton→Q7,mem_map→OD,findIdx?_eq_some_iff_getElem→QW,filter_map→Sn
open Nat renaming le_trans→Mx,lt_or_ge→N8,le_refl→MP,lt_or_eq_of_le→Nr,lt_succ_iff→PU
open Option renaming some→N,none→S,not_isSome→SB
open Or renaming inl→Mf,inr→MX
open Go.RowKit.Below renaming refl→MU,heap_setCell→Nh
open Go.Obj renaming cells→MY
open List.Pairwise renaming imp→Q8,filter→PE,map→Tk
open Go.ByteArray renaming toList_eq→No
open UInt8 renaming ofNat→NR
open Go.Calls renaming regrown_of→Ml
variable {b:ByteArray}{p:Int}{L:List Fc}{W w:MV}{a:Ma}{i m:Nat}
theorem uv:∀(L:List Fc) (i:Nat) (a:i<L.length) (e:Fc),e.1=L[i].1->dP (L.set i e)=(dP L).set (i*2+1) (MS e.2)
 |[],i,a,_,_=>absurd a (by simp)
 |p::t,0,_,e,h=>by
  have b:e.1=p.1:=h;simp[dP,b]
 |p::t,i+1,a,e,h=>by
  have c:=uv t i (by simpa using a) e h;have d:(i+1)*2+1=(i*2+1)+1+1:=O;rw[d];show _::_::dP (t.set i e)=_;rw[c];rfl
def rH(m:Nat)(f:Ma)(L:List Fc)(c:Fc)(w d:MV):Prop:=
 ∃e a,iR d m e a/\bt a/\gC d e/\(∀x,x∈a↔x=c\/(x∈L/\x.1≠c.1))/\a.length=(if(bG L c.1).isSome then L.length else L.length+1)/\(∀b,e.ownBlock=N b->f.ownBlock=N b\/w.heap.size<=b)/\aH (λb=>b=m\/f.ownBlock=N b) w d
theorem rH.from{c:Fc}{d:MV}(e:Mb w.heap.size w W)(f:rH m a L c W d):rH m a L c w d:=by
 obtain⟨g,h,i,j,k,l,n,o,p⟩:=f;exact⟨g,h,i,j,k,l,n,λb q=>(o b q).imp id λr=>Mx e.size r,(aH.aG e).trans p⟩
theorem zV{x:Int}(h:bG L x=S):∀e∈L,e.1≠x:=λe a b=>by
 unfold bG at h;rw[OQ]at h;exact h e a (by simp[b])
theorem DR.full{b:Ma}{a:Fc}{c:MV}(h:DR m b L a w c)(d:bG L a.1=S):rH m b L a w c:=by
 obtain⟨f,g,i,j,k,l,n,o,p⟩:=h;refine⟨f,g,i,j,k,λx=>(l x).trans ?_,by rw[d];exact n,o,p⟩;constructor
 ·rintro(e|e)
  ·exact Mf e
  ·exact MX ⟨e,zV d x e⟩
 ·rintro(e|⟨e,_⟩)
  ·exact Mf e
  ·exact MX e
theorem EE{g k:Nat}{e0:Fc}{l:MV}(r:iR w m (MR (N ⟨g,0,S⟩) L.length k) L)(y:bt L)(z:gC w (MR (N ⟨g,0,S⟩) L.length k))(d:i<L.length)(f:L[i].1=e0.1)(c:Mb w.heap.size w l):rH m (MR (N ⟨g,0,S⟩) L.length k) L e0 w (l.setCell ⟨g,i*2+1,S⟩ (MS e0.2)):=by
 have B:m≠g:=z.ne rfl r.1;obtain⟨C,D,E,F,G⟩:=r.aD c;have H:(bG L e0.1).isSome=true:=by
  unfold bG;rw[Ue];exact⟨L[i],Ms d,by simp[f]⟩
 have s:=fO E (j:=i*2+1) O (MS e0.2);rw[<-uv L i d e0 f.symm]at s;have t:∀j,(l.setCell ⟨g,i*2+1,S⟩ (MS e0.2)).cell? ⟨m,j,S⟩=l.cell? ⟨m,j,S⟩:=λj=>NT _ _ _ _ (by intro e;cases e;exact B rfl);have n:=Mr.1 y;have u:(l.setCell ⟨g,i*2+1,S⟩ (MS e0.2)).ownsRow 0 300 2 (MR (N ⟨g,0,S⟩) L.length k) (L.set i e0).length (dP (L.set i e0)):=by rw[Mw];exact s
 refine⟨MR (N ⟨g,0,S⟩) L.length k,L.set i e0,⟨(t 0).trans C,(t 1).trans D,u,λj=>by rw[Ni];exact F j,by rw[Mw];exact G⟩,?_,?_,λq=>?_,by rw[Mw,if_pos H],λb c=>Mf c,aH.setCell (aH.aG c) (Mf (MX rfl)) _⟩
 ·refine Mr.2 λa b o c J=>?_;rw[Mw]at o c;rw[OA,OA];split
  ·rename_i e
   rw[if_neg O,<-f];exact n i b d c O
  ·split
   ·rename_i e
    rw[<-f];exact n a i o d O
   ·exact n a b o c J
 ·exact gC.lC u (by rw[Mw];omega)
 ·constructor
  ·intro p;obtain⟨j,h,rfl⟩:=Mt p;rw[Mw]at h;rw[OA];split
   ·exact Mf rfl
   ·rename_i v
    refine MX ⟨Ms h,?_⟩;rw[<-f];rcases N8 j i with x|x
    ·have:=n j i h d x;omega
    ·have:=n i j d h O;omega
  ·rintro(rfl|⟨p,v⟩)
   ·exact List.mem_set d _
   ·obtain⟨j,h,rfl⟩:=Mt p;have K:i≠j:=by
     rintro rfl;exact v f
    have M:(L.set i e0)[j]'(by rw[Mw];exact h)=L[j]:=by rw[OA,if_neg K]
    rw[<-M];exact Ms _
theorem yT(m:Nat)(j:Ma)(L:List Fc)(b:Fc)(w:MV)(d:iR w m j L)(k:bt L)(o:gC w j)(p:(bG L b.1).isSome=Mk):Mo MT 193 #[MQ (N ⟨m,0,S⟩),Q I b.1,MS b.2] w λe B=>e=MZ (.tuple #[])/\rH m j L b w B:=by
 have q:=A (ej m j L b.1 w d k);obtain⟨a,M,g,rfl,r⟩:=eI d.2.2.1;have s:=d.2.1;have t:=A d;have u:=A k;have C:=A o;have D:=A p;have E:=A r;have P:=d.2.2.2.2;clear d k o p r;go_enter func193,ntmps193;go_wp2_with fail
 refine q.o.mono ?_;rintro e F ⟨i,R,v,x,rfl,f⟩;have l:=eu v x u.o;have c:i<L.length/\iV L i=b.1:=by
  by_cases h:i<L.length/\iV L i=b.1
  ·exact h
  ·rw[dif_neg h]at l;have:=D.o;rw[l]at this;cases this
 have T:(decide (i<L.length)&&(iV L i==b.1))=true:=by simp[c.1,c.2]
 obtain⟨rfl,G,n⟩:=E.o i c.1;obtain⟨y,z⟩:=UX ((L[i]'c.1).2);rw[<-z]at n;have H:=MW f s;have U:=MO H;have J:=MW f n;have V:=MO J;have W:F.frozen? ⟨g,i*2+1,S⟩=false:=fP (t.o.aD f).2.2.1 _;have X:(i:Int)<L.length:=O;have K:=A (EE (e0:=b) t.o u.o C.o c.1 (by rw[<-et c.1];exact c.2) f);clear q v x f l G n s z;clear c;go_wp2;refine bodyPost_ret (results_none rfl _ _ _) rfl ?_;exact⟨rfl,K.o⟩
theorem F0(m:Nat)(b:Ma)(L:List Fc)(a:Fc)(j:Int)(w:MV)(c:iR w m b L)(d:bt L)(q:gC w b)(E:L.length<=199):Mo MT 142 #[MQ (N ⟨m,0,S⟩),Q I j,Q I a.1,MS a.2] w λe k=>∃u:Bool,u=((bG L a.1).isSome||decide ((L.length:Int)<j))/\e=MZ (M0 u)/\(if u then rH m b L a w k else Mb w.heap.size w k):=by
 cases f:bG L a.1 with
 |none=>
  by_cases v:(L.length:Int)<j
  ·refine(A8 m b L a j w c d q f E v).mono ?_;rintro e k ⟨F,r⟩;exact⟨Mk,by simp[v],F,r.full f⟩
  ·have l:=A (ej m b L a.1 w c d);obtain⟨G,H,g,rfl,J⟩:=eI c.2.2.1;have K:=A λ(W:MV) (h:Mb w.heap.size w W)=>vE m G L.length H W (c.aD h).2.1;have x:=A d;have y:=A f;have U:j<=(L.length:Int):=O;clear c d q f J v;go_enter TJ,ntmps142;go_wp2_with fail
   refine l.o.mono ?_;rintro e M ⟨i,P,n,o,rfl,p⟩;have B:=A (eu n o x.o);have s:(decide (i<L.length)&&(iV L i==a.1))=false:=by
    rw[<-NB,NH,decide_eq_true_eq,beq_iff_eq];intro h;have:=B.o;rw[dif_pos h,y.o]at this;cases this
   have t:=A p;clear l n o p B;go_wp2_with fail
   refine(K.o _ t.o).mono ?_;rintro e W ⟨rfl,C⟩;rw[C];clear C W;go_wp2;go_ret;exact⟨Md,by simp;omega,rfl,t.o⟩
 |some V=>
  have l:=A (ej m b L a.1 w c d);have R:=A λ(W:MV) (h:Mb w.heap.size w W)=>(yT m b L a W (c.aD h) d (q.aD h) (by rw[f];rfl)).mono λe k D=>(⟨D.1,rH.from h D.2⟩:e=MZ (.tuple #[])/\rH m b L a w k);have x:=A d;have y:=A f;clear c d q f;go_enter TJ,ntmps142;go_wp2_with fail
  refine l.o.mono ?_;rintro e M ⟨i,P,n,o,rfl,p⟩;have z:=eu n o x.o;have s:i<L.length/\iV L i=a.1:=by
   by_cases h:i<L.length/\iV L i=a.1
   ·exact h
   ·rw[dif_neg h,y.o]at z;cases z
  have X:(decide (i<L.length)&&(iV L i==a.1))=true:=by simp[s.1,s.2]
  have t:=A p;clear l n o p z s;go_wp2_with fail
  refine(R.o _ t.o).mono ?_;rintro e Y ⟨rfl,r⟩;have T:=A r;clear r;go_wp2;go_ret;exact⟨Mk,by simp,rfl,T.o⟩
section
attribute [local go_sem] Oper.semAt_some aI
def fV(L:List Fc)(v:Int)(b:ByteArray):Int:=if js v=Md then 2 else if b.size=0 then(if(bG L v).isSome then 0 else 7)else if fQ b=Md then 3 else if(bG L v).isSome||decide (L.length<16)then 0 else 6
def it(m:Nat)(c:Ma)(L:List Fc)(v:Int)(b:ByteArray)(w a:MV):Prop:=if fV L v b=0 then(if b.size=0 then vY m c L (λe=>e.1 !=v) w a else rH m c L (v,b) w a)else Mb w.heap.size w a
theorem vY.from{p:Fc->Bool}{b:MV}(c:Mb w.heap.size w W)(d:vY m a L p W b):vY m a L p w b:=by
 obtain⟨e,f,g,h,i⟩:=d;exact⟨e,f,g,h,(aH.aG c).trans i⟩
theorem Ae(s b:Nat)(c:Ma)(L:List Fc)(v:Int)(w:MV)(p:w.cell? ⟨s,1,S⟩=N (MQ (N ⟨b,0,S⟩)))(g:iR w b c L)(i:bt L)(l:gC w c):Mo MT 140 #[MQ (N ⟨s,0,S⟩),Q I v] w λe j=>e=MZ (Q I (if(bG L v).isSome then 0 else 7))/\if(bG L v).isSome then vY b c L (λe=>e.1 !=v) w j else Mb w.heap.size w j:=by
 have t:=MO p;cases k:bG L v with
 |none=>
  have n:=A λ(W:MV) (h:Mb w.heap.size w W)=>(IF b c L v W (g.aD h) i k).mono λe j a=>(⟨a.1,h.trans (a.2.mono h.size)⟩:e=MZ (M0 Md)/\Mb w.heap.size w j);have d:=A (n.o w (MU _ _));clear g i l k;go_enter TM,ntmps140;go_wp2_with fail
  refine d.o.mono ?_;rintro e q ⟨rfl,f⟩;have m:=A f;clear f d n;go_wp2;go_ret;exact⟨rfl,m.o⟩
 |some r=>
  have o:∃e∈L,e.1=v:=by
   have a:=k;unfold bG at a;exact⟨r,OT a,by have:=Py a;simpa using this⟩
  have d:=A (IG b c L v w g i l o);clear g i l k o;go_enter TM,ntmps140;go_wp2_with fail
  refine d.o.mono ?_;rintro e q ⟨rfl,f⟩;have m:=A f;clear f d;go_wp2;go_ret;exact⟨rfl,m.o⟩
theorem Fq(s g:Nat)(m:Ma)(L:List Fc)(v:Int)(b:ByteArray)(w:MV)(B:w.cell? ⟨s,1,S⟩=N (MQ (N ⟨g,0,S⟩)))(r:iR w g m L)(t:bt L)(u:gC w m)(hn:L.length<=16):Mo MT 73 #[MQ (N ⟨s,0,S⟩),Q I v,MS b] w λe n=>e=MZ (Q I (fV L v b))/\it g m L v b w n:=by
 have i:=A (oJ v w);have a:=gj b;have j:=kw b;cases k:js v with
 |false=>
  rw[k]at i;have d:fV L v b=2:=by unfold fV;rw[if_pos k]
  have x:aA (∀W,Mb w.heap.size w W->it g m L v b w W):=A λW c=>by unfold it;rw[d,if_neg US];exact c
  rw[d];clear d r t u k a j;go_enter Qu,ntmps73;go_wp2_with fail
  refine i.o.mono ?_;rintro e p ⟨rfl,a⟩;have F:=A (x.o p a);clear a i x;go_wp2;go_ret;exact⟨rfl,F.o⟩
 |true=>
  rw[k]at i;by_cases f:b.size=0
  ·have J:b=⟨#[]⟩:=j.2 f;obtain⟨z,C⟩:=UX ((if(bG L v).isSome then 0 else 7):Int);have d:fV L v b=z:=by unfold fV;rw[if_neg (by rw[k];decide),if_pos f,C]
   have K:aA (∀W,Mb w.heap.size w W->Mo MT 140 #[MQ (N ⟨s,0,S⟩),Q I v] W λe n=>e=MZ (Q I z)/\it g m L v b w n):=A λW c=>by
    rw[C];refine(Ae s g m L v W (MW c B) (r.aD c) t (u.aD c)).mono ?_;rintro e n ⟨he,l⟩;refine⟨he,?_⟩;unfold it;rw[d,C];cases M:(bG L v).isSome with
    |true=>
     rw[M]at l;rw[if_pos (by simp),if_pos f];exact vY.from c l
    |false=>
     rw[M]at l;rw[if_neg (by simp)];exact c.trans ((show Mb W.heap.size W n from l).mono c.size)
   rw[d];clear d C r t u k a j f;subst J;go_enter Qu,ntmps73;go_wp2_with fail
   refine i.o.mono ?_;rintro e p ⟨rfl,a⟩;have P:=A (K.o p a);clear a i K;go_wp2_with fail
   refine P.o.mono ?_;rintro e W2 ⟨rfl,l⟩;have D:=A l;clear l P;go_wp2;go_ret;exact⟨rfl,D.o⟩
  ·have J:¬b=⟨#[]⟩:=λe=>f (j.1 e);have R:b.toList.isEmpty=false:=by rw[a];simp[f]
   have E:=A λ(W:MV)=>nV b W;cases q:fQ b with
   |false=>
    rw[q]at E;have d:fV L v b=3:=by unfold fV;rw[if_neg (by rw[k];decide),if_neg f,if_pos q]
    have x:aA (∀W,Mb w.heap.size w W->it g m L v b w W):=A λW c=>by unfold it;rw[d,if_neg US];exact c
    rw[d];clear d r t u k a j f q;go_enter Qu,ntmps73;go_wp2_with fail
    refine i.o.mono ?_;rintro e p ⟨rfl,a⟩;have F:=A (x.o p a);clear a i x;go_wp2_with fail
    refine(E.o _).mono ?_;rintro e W ⟨rfl,y⟩;rw[y];clear y W;go_wp2;go_ret;exact⟨rfl,F.o⟩
   |true=>
    rw[q]at E;have h6:b.size=6:=by
     have G:=q;unfold fQ at G;simp only[NH,beq_iff_eq]at G;exact G.1
    have CC:=A λ(W:MV)=>qG b W O;have d:fV L v b=if(bG L v).isSome||decide (L.length<16)then 0 else 6:=by unfold fV;rw[if_neg (by rw[k];decide),if_neg f,if_neg (by rw[q];decide)]
    have CW:aA (∀W,Mb w.heap.size w W->Mo MT 142 #[MQ (N ⟨g,0,S⟩),Q I 16,Q I v,MS b] W λe n=>∃o:Bool,e=MZ (M0 o)/\fV L v b=(if o then 0 else 6)/\it g m L v b w n):=A λW c=>by
     refine(F0 g m L (v,b) 16 W (r.aD c) t (u.aD c) O).mono ?_;rintro e n ⟨o,R,e2,T⟩;have U:fV L v b=if o then 0 else 6:=by
      rw[d,R];have:decide ((L.length:Int)<16)=decide (L.length<16):=by
       by_cases h:L.length<16
       ·have H:(L.length:Int)<16:=by omega
        simp[h,H]
       ·have H:¬(L.length:Int)<16:=by omega
        simp[h,H]
      rw[this]
     refine⟨o,e2,U,?_⟩;unfold it;rw[U];cases o with
     |true=>rw[if_pos (by simp),if_neg f];exact rH.from c T
     |false=>rw[if_neg (by simp)];exact c.trans ((show Mb W.heap.size W n from T).mono c.size)
    have a9:=MO B;clear d r t u k a j f q h6;go_enter Qu,ntmps73;go_wp2_with fail
    refine i.o.mono ?_;rintro e p ⟨rfl,a⟩;have V:=MW a B;have b0:=MO V;have X:=A a;clear i a B;go_wp2_with fail
    refine(E.o _).mono ?_;rintro e W ⟨rfl,y⟩;rw[y];clear y W;go_wp2_with fail
    go_region_with
     (first|(go_at_call 143;refine(CC.o _).mono ?_;rintro e w2 ⟨rfl,j⟩;have a5:=A (X.o.trans ((Below.trans ((MU _ p).drew) (j.mono (MP _))).mono X.o.size));have k2:=MW j V;have b2:=MO k2;clear j)|(go_at_call 142;refine(CW.o _ ?_).mono ?_;(exact a5.o);rintro e w3 ⟨o,rfl,Y,l⟩;have D:=A l;have Z:=A Y;clear l Y))
    all_goals
     cases o with
     |true=>
      go_wp2;go_ret;exact⟨by rw[Z.o];rfl,D.o⟩
     |false=>
      go_wp2;go_ret;exact⟨by rw[Z.o];rfl,D.o⟩
end
def Ia(m:Nat)(a:Ma)(K:List Rt)(p:Rt->Bool)(w c:MV):Prop:=
 ∃d,dx c m d (K.filter p)/\d.ownBlock=a.ownBlock/\aH (λb=>b=m\/a.ownBlock=N b) w c
theorem ID(m g c k i:Nat)(K:List Rt)(p:Rt->Bool)(w h:MV)(s:dx w m (MR (N ⟨g,0,S⟩) K.length c) K)(t:K.length=k+1)(M:i<=k)(hcut:K.take i++K.drop (i+1)=K.filter p)(l:Mb w.heap.size w h):Mo MT 220 #[MR (N ⟨g,0,S⟩) K.length c,Q I i,Q I ((i:Int)+1)] h λe d=>e=MZ (MR (N ⟨g,0,S⟩) k c)/\d.cell? ⟨m,1,S⟩=N (MR (N ⟨g,0,S⟩) K.length c)/\d.frozen? ⟨m,1,S⟩=Md/\Ia m (MR (N ⟨g,0,S⟩) K.length c) K p w (d.setCell ⟨m,1,S⟩ (MR (N ⟨g,0,S⟩) k c)):=by
 obtain⟨-,P,q⟩:=s.fB (g:=g) rfl;obtain⟨⟨u,v,R,T,Y⟩,-⟩:=s;have U:m<w.heap.size:=MO u;have y:h.ownsRow 0 331 4 (MR (N ⟨g,0,S⟩) K.length c) K.length (gG K):=di R λb f=>by
  obtain rfl:g=b:=by simpa[NF]using f
  exact l.block g P
 have Z:=l.size;rw[t]at y;have C:=Dy g k c i (gG K) h y (yI K) M O;rw[<-t]at C;refine C.mono ?_;rintro e d ⟨rfl,z,B,n⟩;have D:d.heap[m]?=w.heap[m]?:=(B.block m O q).trans (l.block m U);have r:∀j,d.cell? ⟨m,j,S⟩=w.cell? ⟨m,j,S⟩:=λj=>Mj (a:=⟨m,j,S⟩) D;have E:∀j,d.frozen? ⟨m,j,S⟩=false:=λj=>(World.frozen?_of_block (a:=⟨m,j,S⟩) D).trans (T j);have V:(gG K).take (i*4)++(gG K).drop ((i+1)*4)=gG (K.filter p):=by rw[ut K i O,uu K (i+1) O,<-kC,hcut]
 have F:(K.filter p).length=k:=by rw[<-hcut];simp only[List.length_append,List.length_take,List.length_drop];omega
 rw[V]at z;have o:∀j,(d.setCell ⟨m,1,S⟩ (MR (N ⟨g,0,S⟩) k c)).cell? ⟨g,j,S⟩=d.cell? ⟨g,j,S⟩:=λj=>Mj (a:=⟨g,j,S⟩) (Nh _ _ _ _ q.symm);refine⟨rfl,(r 1).trans v,E 1,MR (N ⟨g,0,S⟩) k c,⟨⟨?_,?_,?_,λj=>?_,O⟩,λW=>?_⟩,rfl,aH.setCell ((aH.aG l).trans (B.mono λx _ X=>.inr (by rw[X];rfl))) (.inl (.inl rfl)) _⟩
 ·rw[NT _ _ _ _ (by simp)];exact(r 0).trans u
 ·exact World.cell?_setCell_same _ _ _ ((r 1).trans v)
 ·rw[F];refine di z λb f=>?_;obtain rfl:g=b:=by simpa[NF]using f
  exact Nh _ _ _ _ (Ne.symm q)
 ·rw[Ni];exact E j
 ·intro b f;obtain rfl:g=b:=by simpa[NF]using f
  obtain rfl:k=0:=by rw[<-F,W];rfl
  have G:=n 0 _ rfl;have H:=n 1 _ rfl;have J:=n 2 _ rfl;have L:=n 3 _ rfl;simp only[Nat.zero_mul,Nat.zero_add]at G H J L;rw[o,o,o,o];exact⟨_,_,_,_,G,H,J,L⟩
theorem tY{K:List Rt}(c:dA K){j:Nat}(d:i<K.length)(f:j<K.length)(g:j≠i){x b:Int}(h:bE K[i] x b=0):bE K[j] x b≠0:=by
 intro e;unfold bE at h e;rw[ew]at h e;rcases Nat.lt_or_gt_of_ne g with a|a
 ·have:=Mr.1 c j i f d a;unfold bE at this;rw[e.1,e.2,h.1,h.2,im]at this;omega
 ·have:=Mr.1 c i j d f a;unfold bE at this;rw[e.1,e.2,h.1,h.2,im]at this;omega
theorem Ll{K:List Rt}{x b:Int}(c:dA K)(h:i<K.length)(a:bE (nM K i) x b=0):K.take i++K.drop (i+1)=K.filter λe=>!(e.bits==x&&e.len==b):=by
 rw[iK h]at a;refine il _ h (by rw[gk.1 a];rfl) λj d f=>?_;have:=tY c h d f a;rw[Ne,gk,NB]at this;rw[this];rfl
def Cz(p q:Int)(e:Rt):Bool:=!(e.bits==p&&e.len==q)
theorem IE(m:Nat)(o:Ma)(K:List Rt)(p q:Int)(w:MV)(b:dx w m o K)(x:dA K):Mo MT 198 #[MQ (N ⟨m,0,S⟩),M1 #[Q I p,Q I q]] w λe D=>e=MZ (M0 (cM K p q).isSome)/\if(cM K p q).isSome then Ia m o K (Cz p q) w D else Mb w.heap.size w D:=by
 have W:m<w.heap.size:=MO b.1.1;obtain⟨c,y⟩:=UX (w.alloc (MY #[Q I p,Q I q] 205));have z:=UY y;have X:c.heap.size=w.heap.size+1:=by rw[y];exact aZ _ _
 have B:dx c m o K:=b.aD z;have r:=A (oH m o K p q c B.1 x);obtain⟨a,U,g,rfl,E⟩:=gY b.1.2.2.1;have F:=B.1.2.1;have Y:=b.1.2.2.2.2;have G:=A b;have s:=A z;have t:=A y;have H:=A E;have l:=A x;clear b B E z x;cases u:(cM K p q).isSome with
 |false=>
  have v:=A u;clear u;go_enter TN,ntmps198;go_wp2_with fail
  rw[<-t.o];refine r.o.mono ?_;rintro e C ⟨i,V,d,f,rfl,j⟩;rw[lL d f l.o,v.o];have J:=A (s.o.trans (j.mono O));clear r d f j s t;go_wp2;go_ret;exact⟨rfl,by first|exact J.o|(rw[if_neg US];exact J.o)⟩
 |true=>
  have v:=A u;clear u;go_enter TN,ntmps198;go_wp2_with fail
  rw[<-t.o];refine r.o.mono ?_;rintro e C ⟨i,V,d,f,rfl,j⟩;rw[lL d f l.o,v.o];have n:i<K.length/\bE (nM K i) p q=0:=by
   have h:=v.o;rw[<-lL d f l.o,NH,decide_eq_true_eq,beq_iff_eq]at h;exact h
  obtain⟨k,L⟩:∃k,K.length=k+1:=⟨K.length-1,O⟩;obtain⟨rfl,-⟩:=H.o i n.1;have M:aA (Mb w.heap.size w C):=A (s.o.trans (j.mono O));have P:=A (ID m g U k i K (Cz p q) w C G.o L O (show _=K.filter (Cz p q)from Ll l.o n.1 n.2) M.o);have Z:=MW j F;have a0:IntKind.i64.wrap ((i:Int)+1)=(i:Int)+1:=by rw[IntKind.wrap_i64];omega
  have a1:i<K.length:=n.1;clear r d f j F n M L s t H l G;go_wp2_with fail
  refine P.o.mono ?_;rintro e w2 ⟨rfl,m1,mf,R⟩;have T:=A R;clear R P;go_wp2;go_ret;exact⟨rfl,by first|exact T.o|(rw[if_pos rfl];exact T.o)⟩
def nu(K:List Rt)(p q:Int):Int:=if(cM K p q).isSome then 0 else 7
def ec(b:Nat)(c:Ma)(K:List Rt)(p q:Int)(w a:MV):Prop:=if(cM K p q).isSome then Ia b c K (Cz p q) w a else Mb w.heap.size w a
section
attribute [local go_sem] Oper.semAt_some aI
theorem ec.from{c:Nat}{d:Ma}{K:List Rt}{q:Int}{e:MV}(a:Mb w.heap.size w W)(h:ec c d K p q W e):ec c d K p q w e:=by
 unfold ec at*;split at h
 ·rename_i b
  rw[if_pos b];obtain⟨f,g,i,j⟩:=h;exact⟨f,g,i,(aH.aG a).trans j⟩
 ·rename_i b
  rw[if_neg b];exact a.trans (h.mono a.size)
theorem A6(j b:Nat)(c:Ma)(K:List Rt)(p q:Int)(w:MV)(k:w.cell? ⟨j,0,S⟩=N (MQ (N ⟨b,0,S⟩)))(l:dx w b c K)(m:dA K):Mo MT 148 #[MQ (N ⟨j,0,S⟩),M1 #[Q I p,Q I q]] w λe d=>e=MZ (M0 (cM K p q).isSome)/\ec b c K p q w d:=by
 obtain⟨a,f⟩:=UX (w.alloc (MY #[Q I p,Q I q] 205));have g:=UY f;have i:a.heap[w.heap.size]?=N (MY #[Q I p,Q I q] 205 (0,0)):=by rw[f];exact bI _ _
 have s:=A λ(W:MV) (h:Mb w.heap.size w W)=>(IE b c K p q W (l.aD h) m).mono (R':=λe d=>e=MZ (M0 (cM K p q).isSome)/\ec b c K p q w d) λe d n=>⟨n.1,ec.from h n.2⟩;have t:a.cell? ⟨w.heap.size,0,S⟩=N (Q I p):=aM i rfl;have y:a.cell? ⟨w.heap.size,1,S⟩=N (Q I q):=aM i rfl;have u:=MW g k;have z:=MO t;have B:=MO u;have v:=A g;have o:=A f;clear g f i l m k;go_enter func148,ntmps148;go_wp2_with fail
 rw[<-o.o];clear o;go_region_with
  (first|(go_at_call 198;refine(s.o _ ?_).mono ?_;(exact v.o.drew);rintro e C ⟨rfl,r⟩;have x:=A r;clear r))
 all_goals
  go_wp2;go_ret;exact⟨rfl,x.o⟩
theorem xu(s g f:Nat)(h:Ma)(K:List Rt)(p q:Int)(w:MV)(n:w.cell? ⟨s,2,S⟩=N (MQ (N ⟨g,0,S⟩)))(j:w.cell? ⟨g,0,S⟩=N (MQ (N ⟨f,0,S⟩)))(k:dx w f h K)(l:dA K):Mo MT 77 #[MQ (N ⟨s,0,S⟩),Q I p,Q I q] w λe m=>e=MZ (Q I (nu K p q))/\ec f h K p q w m:=by
 have a:=A (A6 g f h K p q w j k l);clear k l j;cases b:(cM K p q).isSome with
 |false=>
  have c:nu K p q=7:=by unfold nu;rw[b];rfl
  rw[c];rw[b]at a;clear c b;go_enter Tj,ntmps77;go_wp2_with fail
  refine a.o.mono ?_;rintro e W ⟨rfl,d⟩;have i:=A d;clear d a;go_wp2;go_ret;exact⟨rfl,i.o⟩
 |true=>
  have c:nu K p q=0:=by unfold nu;rw[b];rfl
  rw[c];rw[b]at a;clear c b;go_enter Tj,ntmps77;go_wp2_with fail
  refine a.o.mono ?_;rintro e W ⟨rfl,d⟩;have i:=A d;clear d a;go_wp2;go_ret;exact⟨rfl,i.o⟩
end
theorem Hs{h:Type}{b B:List h}{q:h->Bool}(e:∀x,x∈b↔x∈B)(k:∀x∈B,∀y∈B,q x=Mk->q y=Mk->x=y):b.find? q=B.find? q:=by
 cases f:b.find? q with
 |none=>
  cases a:B.find? q with
  |none=>rfl
  |some y=>exact absurd (Py a) (OQ.1 f y ((e y).2 (OT a)))
 |some x=>
  have i:=OT f;have j:=Py f;cases a:B.find? q with
  |none=>exact absurd j (OQ.1 a x ((e x).1 i))
  |some y=>rw[k x ((e x).1 i) y (OT a) j (Py a)]
structure dD (d:List Fc) (g:List (Int×ByteArray)):Prop where
 p:Perm d g
 s:bt d
 z:∀f∈d,js f.1=Mk/\fQ f.2=Mk
 n:d.length<=16
theorem bt.one(h:bt L){a b:Fc}(n:a∈L)(p:b∈L)(e:a.1=b.1):a=b:=by
 obtain⟨i,k,rfl⟩:=Mt n;obtain⟨j,l,rfl⟩:=Mt p;have m:=Mr.1 h;rcases Nat.lt_trichotomy i j with f|rfl|f
 ·have:=m i j k l f;omega
 ·rfl
 ·have:=m j i l k f;omega
theorem bt.nodup(h:bt L):L.Nodup:=Q8 (λ{a b} h e=>by rw[e]at h;exact absurd h (Int.lt_irrefl _)) h
section
variable {d:List Fc}{g:List (Int×ByteArray)}
theorem dD.LN(h:dD d g)(v:Int):bG d v=g.find? λf=>f.1==v:=by
 refine Hs (λx=>h.p.mem_iff) λx e y i a b=>?_;rw[beq_iff_eq]at a b;exact h.s.one (h.p.mem_iff.2 e) (h.p.mem_iff.2 i) (a.trans b.symm)
theorem zA(h:fQ b=Mk):b.size=6/\dH b=false:=by
 unfold fQ at h;simp only[NH,beq_iff_eq,Pm]at h;exact h
theorem dD.Ig(h:dD d g)(v:Int):cH g v=jT d v/\((bG d v).isSome=Mk↔(cH g v).size≠0)/\((bG d v).isSome=Mk->(cH g v).size=6):=by
 unfold cH jT;rw[h.LN v];cases e:g.find? λf=>f.1==v with
 |none=>exact⟨rfl,⟨λe=>(by cases e),λe=>absurd rfl e⟩,λe=>(by cases e)⟩
 |some f=>
  have a:=zA (h.z f (h.p.mem_iff.2 (OT e))).2;refine⟨rfl,?_,λ_=>a.1⟩;simp only[Option.isSome_some,true_iff];omega
theorem dD.Ka(h:dD d g)(v:Int)(b:ByteArray):fV d v b=ku g v b:=by
 have l:=h.p.length_eq;obtain⟨-,i,-⟩:=h.Ig v;have j:(bG d v).isSome=Md->(cH g v).size=0:=λa=>Decidable.byContradiction λe=>by rw[i.2 e]at a;cases a
 unfold fV ku;cases m:js v with
 |false=>simp
 |true=>
  by_cases f:b.size=0
  ·cases a:(bG d v).isSome with
   |true=>simp[f,i.1 a]
   |false=>simp[f,j a]
  ·cases n:fQ b with
   |false=>simp[f]
   |true=>
    cases a:(bG d v).isSome with
    |true=>simp[f,i.1 a]
    |false=>
     by_cases k:d.length<16
     ·simp[f,j a,k,show¬16<=g.length by omega]
     ·simp[f,j a,k,show 16<=g.length by omega]
theorem dD.KQ(h:dD d g)(v:Int)(a:b.size=0):dD (d.filter λe=>e.1 !=v) (nX g v b):=by
 refine⟨?_,PE _ h.s,λf i=>h.z f (Nc.1 i).1,Mx (OX _ _) h.n⟩;unfold nX;rw[if_pos a,List.append_nil];exact h.p.filter _
theorem dD.put(h:dD d g){v:Int}{a:List Fc}(l:b.size≠0)(j:bt a)(k:∀x,x∈a↔x=(v,b)\/(x∈d/\x.1≠v))(m:js v=Mk)(n:fQ b=Mk)(p:a.length<=16):dD a (nX g v b):=by
 refine⟨?_,j,λf q=>?_,p⟩
 ·have i:Perm a ((v,b)::d.filter λe=>e.1 !=v):=by
   refine(Q6 j.nodup ?_).2 λx=>?_
   ·refine Sm.2 ⟨λr=>?_,PE _ h.s.nodup⟩;have:=(Nc.1 r).2;simp at this
   ·rw[k,Nk,Nc,bne_iff_ne]
  refine i.trans ?_;unfold nX;rw[if_neg l];exact((h.p.filter _).cons _).trans (Q7 _ _).symm
 ·rcases(k f).1 q with rfl|⟨i,-⟩
  ·exact⟨m,n⟩
  ·exact h.z f i
end
def Rt.x(e:Rt):bq:=⟨e.bits,e.len,e.vlan,e.mac⟩
theorem Rt.KS{a b:Rt}(h:a.x=b.x):a=b:=by
 obtain⟨e,f,i,j⟩:=a;obtain⟨k,l,m,n⟩:=b;unfold Rt.x at h;simp only[bq.mk.injEq]at h;obtain⟨rfl,rfl,rfl,rfl⟩:=h;rfl
structure de (R:List Rt) (c:List bq):Prop where
 p:Perm (R.map Rt.x) c
 s:dA R
 z:∀e∈R,jV e.bits e.len=Mk/\js e.vlan=Mk/\fQ e.mac=Mk
 n:R.length<=100
theorem dA.one{K:List Rt}(h:dA K){a b:Rt}(e:a∈K)(f:b∈K)(k:a.bits=b.bits)(l:a.len=b.len):a=b:=by
 obtain⟨i,m,rfl⟩:=Mt e;obtain⟨j,n,rfl⟩:=Mt f;rcases Decidable.em (j=i)with rfl|p
 ·rfl
 ·refine absurd ?_ (tY h m n p (x:=K[j].bits) (b:=K[j].len) ?_)
  ·exact ew.2 ⟨rfl,rfl⟩
  ·exact ew.2 ⟨k,l⟩
theorem dA.nodup{K:List Rt}(h:dA K):K.Nodup:=Q8 (λ{a b} h e=>by
 rw[e]at h;have:bE b b.bits b.len=0:=ew.2 ⟨rfl,rfl⟩;omega) h
section
variable {R:List Rt}{c:List bq}
theorem de.rg(h:de R c){z:bq}(a:z∈c):∃e∈R,e.x=z:=OD.1 (h.p.mem_iff.2 a)
theorem de.ub(h:de R c){e:Rt}(a:e∈R):e.x∈c:=h.p.mem_iff.1 (OD.2 ⟨e,a,rfl⟩)
theorem de.MF(h:de R c){a b:bq}(e:a∈c)(f:b∈c)(i:a.bits=b.bits)(j:a.len=b.len):a=b:=by
 obtain⟨x,k,rfl⟩:=h.rg e;obtain⟨y,l,rfl⟩:=h.rg f;rw[h.s.one k l i j]
theorem de.len(h:de R c):R.length=c.length:=by rw[<-h.p.length_eq,List.length_map]
theorem de.DV(h:de R c)(p l:Int):(cM R p l).isSome=(Ug c p l).isSome:=by
 rw[Bool.eq_iff_iff];unfold cM Ug;rw[Ue,List.findIdx?_isSome,List.any_eq_true];constructor
 ·rintro⟨e,a,b⟩;exact⟨e.x,h.ub a,b⟩
 ·rintro⟨z,f,b⟩;obtain⟨e,a,rfl⟩:=h.rg f;exact⟨e,a,b⟩
theorem de.Ka(h:de R c)(p l v:Int)(b:ByteArray):gZ R p l v b=gE c p l v b:=by
 have a:=h.DV p l;unfold gZ gE;rw[h.len];rw[<-SB,<-SB,a]
theorem de.KT(h:de R c)(p l:Int):nu R p l=jN c p l:=by
 unfold nu jN;rw[h.DV]
theorem de.Lu(h:de R c){l:Int}(m:Ug c p l=N i):c.take i++c.drop (i+1)=c.filter λe=>!(e.bits==p&&e.len==l):=by
 unfold Ug at m;obtain⟨n,f,-⟩:=QW.1 m;refine il _ n (by rw[f];rfl) λj q r=>?_;rw[Pm,<-NB];intro k;simp only[NH,beq_iff_eq]at f k;have e:=h.MF (Ms q) (Ms n) (k.1.trans f.1.symm) (k.2.trans f.2.symm);have s:c.Nodup:=h.p.nodup (Tk _ (λa b t e=>t (Rt.KS e)) h.s.nodup);exact r (List.getElem_inj s|>.1 e)
theorem de.KQ(h:de R c)(p l:Int)(b:(Ug c p l).isSome=Mk):de (R.filter λe=>!(e.bits==p&&e.len==l)) (Hz c p l):=by
 refine⟨?_,PE _ h.s,λf j=>h.z f (Nc.1 j).1,Mx (OX _ _) h.n⟩;obtain⟨i,a⟩:=Option.isSome_iff_exists.1 b;unfold Hz;rw[a];simp only[];rw[h.Lu a];have:(R.filter λe=>!(e.bits==p&&e.len==l)).map Rt.x=(R.map Rt.x).filter λe=>!(e.bits==p&&e.len==l):=by rw[Sn];rfl
 rw[this];exact h.p.filter _
theorem de.put(h:de R c){e0:Rt}{b:List Rt}(m:dA b)(n:∀q,q∈b↔q=e0\/(q∈R/\bE q e0.bits e0.len≠0))(r:jV e0.bits e0.len=Mk/\js e0.vlan=Mk/\fQ e0.mac=Mk)(s:b.length<=100):de b (A7 c e0.x):=by
 refine⟨?_,m,λf t=>?_,s⟩
 ·have k:Perm b (e0::R.filter λe=>!(e.bits==e0.bits&&e.len==e0.len)):=by
   refine(Q6 m.nodup ?_).2 λx=>?_
   ·refine Sm.2 ⟨λu=>?_,PE _ h.s.nodup⟩;have:=(Nc.1 u).2;simp at this
   ·rw[n,Nk,Nc,Ne,gk,NB,Pm]
  refine(k.map Rt.x).trans ?_;rw[List.map_cons];have v:(R.filter λe=>!(e.bits==e0.bits&&e.len==e0.len)).map Rt.x=(R.map Rt.x).filter λe=>!(e.bits==e0.bits&&e.len==e0.len):=by rw[Sn];rfl
  rw[v];refine((h.p.filter _).cons _).trans ?_;unfold A7;cases j:Ug c e0.x.bits e0.x.len with
  |some i=>
   simp only[];have w:i<c.length:=by unfold Ug at j;exact(QW.1 j).1
   rw[<-h.Lu (p:=e0.bits) (l:=e0.len) j,List.set_eq_take_append_cons_drop,if_pos w];exact List.perm_middle.symm
  |none=>
   simp only[];have y:c.filter (λe=>!(e.bits==e0.bits&&e.len==e0.len))=c:=by
    rw[List.filter_eq_self];intro a z;unfold Ug at j;have:=List.findIdx?_eq_none_iff.1 j a z;have B:(a.bits==e0.bits&&a.len==e0.len)=false:=this;rw[B];rfl
   rw[y];exact(Q7 _ _).symm
 ·rcases(n f).1 t with rfl|⟨k,-⟩
  ·exact r
  ·exact h.z f k
theorem de.Jj(h:de R c):∀e∈R,kO e:=λe a=>by
 have:=(h.z e a).1;unfold jV at this;simp only[NH,decide_eq_true_eq]at this;unfold kO;omega
theorem de.LP(h:de R c){a:Nat}(z:i<c.length)(b:((mG a c[i].len.toNat:Nat):Int)=c[i].bits)(B:∀j (K:j<c.length),((mG a c[j].len.toNat:Nat):Int)=c[j].bits->c[j].len<=c[i].len):∃e,fU R a=N e/\e.x=c[i]:=by
 obtain⟨e,s,l⟩:=h.rg (Ms z);have C:c[i].bits=e.bits:=by rw[<-l];rfl
 have t:c[i].len=e.len:=by rw[<-l];rfl
 rw[C,t]at b;cases f:fU R a with
 |none=>
  unfold fU at f;refine absurd ?_ (OQ.1 f e s);unfold j7 qm;rw[beq_iff_eq];exact b
 |some D=>
  refine⟨D,rfl,?_⟩;unfold fU at f;obtain⟨p,k,q,rfl,E⟩:=List.find?_eq_some_iff_getElem.1 f;have u:((mG a R[k].len.toNat:Nat):Int)=R[k].bits:=by
   unfold j7 qm at p;rw[beq_iff_eq]at p;exact p
  obtain⟨m,F,v⟩:=Mt (h.ub (Ms q));have G:c[m].bits=R[k].bits:=by rw[v];rfl
  have w:c[m].len=R[k].len:=by rw[v];rfl
  have L:R[k].len<=e.len:=by
   have:=B m F (by rw[G,w];exact u);rw[w,t]at this;exact this
  obtain⟨n,x,rfl⟩:=Mt s;have H:k<=n:=by
   rcases N8 n k with r|J
   ·have:=E n r;refine absurd ?_ (by rw[Pm]at this;rw[this];exact Bool.false_ne_true:¬(j7 a R[n]=true));unfold j7 qm;rw[beq_iff_eq];exact b
   ·exact J
  have M:R[n].len<=R[k].len:=by
   rcases Nr H with r|rfl
   ·have:=Mr.1 h.s k n q x r;unfold bE at this;rw[im]at this;omega
   ·exact Int.le_refl _
  have y:R[k].len=R[n].len:=O;rw[<-l,h.s.one (Ms q) (Ms x) (by rw[<-u,<-b,y]) y]
theorem de.none(h:de R c){a:Nat}(f:∀j (n:j<c.length),¬((mG a c[j].len.toNat:Nat):Int)=c[j].bits):fU R a=none:=by
 unfold fU;rw[OQ];intro e i b;unfold j7 qm at b;rw[beq_iff_eq]at b;obtain⟨m,k,l⟩:=Mt (h.ub i);refine f m k ?_;rw[l];exact b
end
section
attribute [local go_sem] Oper.semAt_some aI
def KE(b:ByteArray):ByteArray:=b.extract 0 8++⟨#[NR (b8 b 8-1)]⟩++b.extract 9 10++r9 ((kR (bT b 10) 256:Nat):Int)++b.extract 12 b.size
theorem J4{l:List UInt8}(h:20<=l.length):∃a b c d e f g i j k m n r,l=a::b::c::d::e::f::g::i::j::k::m::n::r:=by
 match l,h with
 |a::b::c::d::e::f::g::i::j::k::m::n::r,_=>exact⟨a,b,c,d,e,f,g,i,j,k,m,n,r,rfl⟩
theorem Hj(h:20<=b.size):KE b=qC b:=by
 have g:kR (bT b 10) 256<=65535:=rW (by have:=eN b 10;omega) O;obtain⟨a,c⟩:=UX (kR (bT b 10) 256);obtain⟨d,i⟩:=UX (b8 b 8-1);unfold KE qC r9;rw[<-c,<-i];rw[<-c]at g;have j:((a:Int)/256%256).toNat=a/256:=O;have k:((a:Int)%256).toNat=a%256:=O;rw[j,k];have l:20<=b.toList.length:=by rw[No,Array.length_toList];exact h
 obtain⟨m,n,o,p,q,s,t,u,v,w,x,y,r,e⟩:=J4 l;have f:b.data=(m::n::o::p::q::s::t::u::v::w::x::y::r).toArray:=by
  rw[<-e,No]
 have z:b.size=r.length+12:=by show b.data.size=_;rw[f];simp
 refine ByteArray.ext ?_;rw[e,z];simp only[ByteArray.data_append,ByteArray.data_extract,f,ce,List.extract_toArray,List.append_toArray,List.extract_eq_take_drop];simp
theorem Kz(W:MV)(g:Nat)(x:Int)(c:0<=x/\x<256)(a:W.cell? ⟨g,0,S⟩=N (Q .u8 x)):(convert 334 9 (MR (N ⟨g,0,S⟩) 1 1)).run MT W=.ok (MS ⟨#[NR x.toNat]⟩) W:=by
 refine run_convert_bytes_back W 334 9 5 ⟨g,0,S⟩ 1 [NR x.toNat] underlying334 underlying5 underlying9 ?_;intro j b;match j,b with
 |0,_=>
  have e:((NR x.toNat).toNat:Int)=x:=by simp;omega
  show W.cell? ⟨g,0,S⟩=N (Q .u8 ((NR x.toNat).toNat:Int));rw[e];exact a
end
section
attribute [local go_sem] Oper.semAt_some aI
attribute [local go_sem ↓ high] oO ml
def AY(H:List bq)(a j:Nat):Prop:=∃h:j<H.length,((mG a H[j].len.toNat:Nat):Int)=H[j].bits
def AF(H:List bq)(a k:Nat)(z:Int):Prop:=(z= -1/\∀j,j<k->¬AY H a j)\/∃i,∃b:i<H.length,i<k/\z=i/\AY H a i/\∀j (c:j<H.length),j<k->AY H a j->H[j].len<=H[i].len
def jh(a:List Fc)(R:List Rt)(p:Pg):Int⊕Pg:=
 if p.right=Md then .inl 5
 else if b8 p.pb 8<=1 then .inl 6
 else match fU R (i7 p.pb 16)with
  |none=>.inl 7
  |some e=>if(bG a e.vlan).isSome=Mk then .inr (o3 p e.vlan e.mac (jT a e.vlan))else .inl 7
def nJ(g:Nat)(o:Int⊕Pg)(w:MV)(e:Ending)(W:MV):Prop:=
 ∃r:Int,e=MZ (Q I r)/\((r≠0/\o=.inl r/\Mb w.heap.size w W)\/(r=0/\∃q,o=.inr q/\W.heap[g]?=N (MY (an q.f) 248 (0,0))/\aH (λb=>b=g) w W))
def pZ:Prop:=∀(b:ByteArray) (W:MV),20<=b.size->b.size<=1000->1<=b8 b 8->Mo MT 189 #[MS b] W λe a=>e=MZ (MS (qC b))/\Mb W.heap.size W a
theorem Hh(b:ByteArray)(i:Nat)(h:i<b.size)(W:MV):(Instr.index 9 (MS b) (Q I i)).run MT W=.ok (Q .u8 (b8 b i:Nat)) W:=by
 have e:b8 b i=(b[i]'h).toNat:=dif_pos h;rw[e];simp[go_sem,h]
theorem iZ(s6:pZ)(y g:Nat)(x:aK)(p:Pg)(u:List Fc)(R:List Rt)(w:MV)(h:aT w y x)(hg:w.heap[g]?=N (MY (an p.f) 248 (0,0)))(hF:dD u x.Fl)(hH:de R x.Hl)(hp:p.right=Mk->p.pb=p.f.rest/\20<=p.f.rest.size/\p.f.rest.size<=1000):Mo MT 138 #[MQ (N ⟨y,0,S⟩),MQ (N ⟨g,0,S⟩),M0 p.right] w (nJ g (jh u R p) w):=by
 cases hr:p.right with
 |false=>
  have G:aA (nJ g (jh u R p) w (MZ (Q I 5)) w):=A ⟨5,rfl,Mf ⟨US,by unfold jh;rw[if_pos hr],MU _ _⟩⟩;clear h hF hH hp hg hr;go_enter Ra,ntmps138;go_wp2;go_ret;exact G.o
 |true=>
  obtain⟨o0,o1,j1⟩:=hp hr;obtain⟨b9,c0,⟨L,M,T,U,V,Y,c⟩,pb,ph,pt,v6,c4⟩:=p;simp only at hr o0 o1 j1 hg;subst hr;obtain rfl:c=pb:=o0.symm;have s8:=aJ hg;simp only[an]at hg;have k6:=aB (j:=6) hg rfl;have j2:∀W:MV,(Instr.index 9 (MS c) (Q I 8)).run MT W=.ok (Q .u8 (b8 c 8:Nat)) W:=λW=>Hh c 8 O W;have l8:=rG c 8;by_cases ht:b8 c 8<=1
  ·have G:aA (nJ g (jh u R ⟨b9,c0,⟨L,M,T,U,V,Y,c⟩,c,ph,pt,Mk,c4⟩) w (MZ (Q I 6)) w):=A ⟨6,rfl,Mf ⟨US,by unfold jh;rw[if_neg (λe=>by cases e),if_pos ht],MU _ _⟩⟩;have o2:((b8 c 8:Nat):Int)<2:=O;clear h hF hH hp hg ht;go_enter Ra,ntmps138;go_wp2;go_ret;exact G.o
  ·have o2:¬((b8 c 8:Nat):Int)<2:=by omega
   obtain⟨a,ha⟩:=UX (i7 c 16);have t0:a<4294967296:=by rw[ha];exact xO c 16
   have j3:=wA c 16 w O j1;rw[<-ha]at j3;have CF:=A j3;clear j3;obtain⟨dk,o6,o7⟩:=qZ;obtain⟨H,f3⟩:=UX x.Hl;obtain⟨ra,v9,Z,j4,a9⟩:=h.oY;rw[<-f3]at a9 j4;have c2:=h.c2;rw[j4]at c2;have w0:H.length<=100:=by rw[f3,<-hH.len];exact hH.n
   have w1:(H.length:Int)<=100:=O;have t1:=h.lt;have o8:∀j (l:j<H.length),∃r:Nat,H[j].len=r/\r<=32:=λj l=>by
    subst f3;obtain⟨e,he,h8⟩:=hH.rg (Ms l);obtain⟨e1,e2⟩:=hH.Jj e he;refine⟨e.len.toNat,?_,e2⟩;rw[<-h8];exact e1
   have HX:=A h;have HG:=A hg;have j6:=A hF;have p0:=A hH;have k0:=A a9;have t4:=A o8;have C:=A f3;have HA:=A ha;have HT:=A ht;clear h hg hF hH hp a9 o8 j4 f3 ha ht;go_enter Ra,ntmps138;go_wp2_with fail
   refine CF.o.mono ?_;rintro e W1 ⟨rfl,k1⟩;have y2:=MW k1 c2;have ly:=MO y2;have h9:=A k1;clear k1 CF c2 k6 j2 o2 t1 s8;go_wp2_with fail
   go_loopw [7,9] (λb i wr=>Mb W1.heap.size W1 wr/\∃(z:Int) (k:Nat),b=Q I z/\i=Q I k/\k<=H.length/\AF H a k z) (λ_ i _=>H.length- (intOf i).toNat)
   case atStart=>exact⟨MU _ _,-1,0,by simp,rfl,Nat.zero_le _,Mf ⟨rfl,λj l=>absurd l (Nat.not_lt_zero j)⟩⟩
   case round=>
    obtain⟨b0,z,k,rfl,rfl,hk,p4⟩:=hrel;have a0:=A p4;clear p4;have yr:=MW b0 y2;have t7:=MO yr;by_cases f5:k<H.length
    ·have t8:(k:Int)<H.length:=by omega
     obtain⟨rfl,J,q1,q2,q3⟩:=k0.o k f5;obtain⟨r,k3,t9⟩:=t4.o k f5;have i1:=A k3;rw[k3]at q1;obtain⟨B,k4⟩:=UX (H[k].bits);obtain⟨zv,p5⟩:=UX (H[k].vlan);obtain⟨zm,p6⟩:=UX (H[k].mac);rw[<-k4]at J;rw[<-p5]at q2;rw[<-p6]at q3;have q4:=A k4;have n:Mb w.heap.size w wr:=h9.o.trans (b0.mono h9.o.size);have f6:wr.rangeAt Z (k*4) [Q I B,Q I r,Q I zv,MS zm]:=λj v o=>by
      match j,o with
      |0,o=>cases o;exact MW n J
      |1,o=>cases o;exact MW n q1
      |2,o=>cases o;exact MW n q2
      |3,o=>cases o;exact MW n q3
     have u0:Z<wr.heap.size:=MO (MW n J);have d3:(zJ (MQ (N ⟨Z,k*4,S⟩))).run MT wr=.ok (M1 #[Q I B,Q I r,Q I zv,MS zm]) wr:=NW wr Z (k*4) 263 [Q I B,Q I r,Q I zv,MS zm] dk f6 o6 o7 fK;obtain⟨d,a3⟩:=UX (wr.alloc (MY #[Q I B,Q I r,Q I zv,MS zm] 263));have d4:(tP (MQ (N ⟨wr.heap.size,0,S⟩)) (M1 #[Q I B,Q I r,Q I zv,MS zm])).run MT (wr.alloc (MY #[Q I 0,Q I 0,Q I 0,MS ⟨#[]⟩] 263))=.ok () d:=by
      rw[a3];exact Rn (P:=MT) wr 263 #[Q I 0,Q I 0,Q I 0,MS ⟨#[]⟩] #[Q I B,Q I r,Q I zv,MS zm] fK rfl oc
     obtain⟨q,a4⟩:=UX wr.heap.size;have b4:=UY a3;have c5:d.heap[q]?=N (MY #[Q I B,Q I r,Q I zv,MS zm] 263 (0,0)):=by rw[a3,a4];exact aU _ _
     have e0:d.cell? ⟨q,0,S⟩=N (Q I B):=aB c5 rfl;have e1:d.cell? ⟨q,1,S⟩=N (Q I r):=aB c5 rfl;have ye:=MW b4 yr;have w3:=MO ye;have q5:=MO e0;have b5:=A (b0.trans (b4.mono b0.size));have k5:=A (n.trans (b4.mono n.size));have CU:aA (∀dd os,Mo MT 147 #[Q I a,Q I r] (grow (NK d dd) os) λe w'=>e=MZ (Q I (mG a r))/\Mb (grow (NK d dd) os).heap.size (grow (NK d dd) os) w'):=A λdd os=>(nd a r (grow (NK d dd) os) t9 t0).mono λe w' D=>⟨D.1,D.2▸MU _ _⟩;have i3:aA (AY H a k↔((mG a r:Nat):Int)=B):=A (by
      unfold AY;constructor
      ·rintro⟨_,e⟩;rw[i1.o]at e;rw[q4.o];exact e
      ·intro e;refine⟨f5,?_⟩;rw[i1.o,<-q4.o];exact e)
     have q7:¬AY H a k->AF H a (k+1) z:=λq8=>by
      rcases a0.o with⟨e,h1⟩|⟨i,hi,k7,e,h1,h2⟩
      ·refine Mf ⟨e,λj l=>?_⟩;rcases Nr (PU.1 l)with h'|rfl
       ·exact h1 j h'
       ·exact q8
      ·refine MX ⟨i,hi,O,e,h1,λj d6 l D=>?_⟩;rcases Nr (PU.1 l)with h'|rfl
       ·exact h2 j d6 h' D
       ·exact absurd D q8
     have k9:=A q7;clear q7 b0 n f6 J q1 q2 q3 k3 k4 p5 p6 b4 c5 a3;have K:=A a4;clear a4;cases h1:(((mG a r:Nat):Int)==B)with
     |false=>
      have c6:=A (k9.o (λe=>by rw[i3.o,<-beq_iff_eq,h1]at e;cases e));clear k9 i3 a0;go_wp2_with fail
      rw[<-K.o];clear d3 d4 K;refine Mg UR UR ?_
      repeat(first|go_big_quiet_skip|quiet_step (exact Ml (CU.o _ _)))
      refine M3 ?_;intro wq f;replace f:=aE f;obtain⟨c7,c8⟩:=aW f;have c9:=f.size;have HQ:=A f;clear f c7 c8 c9 e0 e1 ye;go_wp2_with fail
      go_roundw
      case rel=>exact⟨b5.o.trans (HQ.o.mono b5.o.size),z,k+1,rfl,by go_num,O,c6.o⟩
      case measure=>simp[intOf];omega
     |true=>
      have q9:AY H a k:=i3.o.2 (by rw[<-beq_iff_eq];exact h1);have g1:=A q9;clear q9 k9 i3;rcases a0.o with⟨rfl,hn⟩|⟨i,hi,k7,rfl,e3,d1⟩
      ·have c6:aA (AF H a (k+1) (k:Int)):=A (MX ⟨k,f5,O,rfl,g1.o,λj d6 l D=>by
        rcases Nr (PU.1 l)with h'|rfl
        ·exact absurd D (hn j h')
        ·exact Int.le_refl _⟩)
       clear hn a0 g1;go_wp2_with fail
       rw[<-K.o];clear d3 d4 K;refine Mg UR UR ?_
       repeat(first|go_big_quiet_skip|quiet_step (exact Ml (CU.o _ _)))
       refine M3 ?_;intro wq f;replace f:=aE f;obtain⟨c7,c8⟩:=aW f;have c9:=f.size;have HQ:=A f;clear f c7 c8 c9 e0 e1 ye;go_wp2_with fail
       go_roundw
       case rel=>exact⟨b5.o.trans (HQ.o.mono b5.o.size),k,k+1,rfl,by go_num,O,c6.o⟩
       case measure=>simp[intOf];omega
      ·have u2:¬(i:Int)<0:=by omega
       have u3:(i:Int)<H.length:=O;obtain⟨l2,i5⟩:=UX (H[i].len);have p1:d.cell? ⟨Z,i*4+1,S⟩=N (Q I l2):=by
        rw[i5];exact MW k5.o (k0.o i hi).2.2.1
       have w4:=MO p1;by_cases w5:l2<(r:Int)
       ·have c6:aA (AF H a (k+1) (k:Int)):=A (MX ⟨k,f5,O,rfl,g1.o,λj d6 l D=>by
         rcases Nr (PU.1 l)with h'|rfl
         ·have:=d1 j d6 h' D;rw[i1.o];omega
         ·exact Int.le_refl _⟩)
        clear e3 d1 a0 g1 i5 k7;go_wp2_with fail
        rw[<-K.o];clear d3 d4 K;refine Mg UR UR ?_
        repeat(first|go_big_quiet_skip|quiet_step (exact Ml (CU.o _ _)))
        refine M3 ?_;intro wq f;replace f:=aE f;obtain⟨c7,c8⟩:=aW f;have c9:=f.size;have HQ:=A f;clear f c7 c8 c9 e0 e1 ye p1;go_wp2_with fail
        go_roundw
        case rel=>exact⟨b5.o.trans (HQ.o.mono b5.o.size),k,k+1,rfl,by go_num,O,c6.o⟩
        case measure=>simp[intOf];omega
       ·have c6:aA (AF H a (k+1) (i:Int)):=A (MX ⟨i,hi,O,rfl,e3,λj d6 l D=>by
         rcases Nr (PU.1 l)with h'|rfl
         ·exact d1 j d6 h' D
         ·rw[i1.o,<-i5];omega⟩)
        clear e3 d1 a0 g1 i5 k7;go_wp2_with fail
        rw[<-K.o];clear d3 d4 K;refine Mg UR UR ?_
        repeat(first|go_big_quiet_skip|quiet_step (exact Ml (CU.o _ _)))
        refine M3 ?_;intro wq f;replace f:=aE f;obtain⟨c7,c8⟩:=aW f;have c9:=f.size;have HQ:=A f;clear f c7 c8 c9 e0 e1 ye p1;go_wp2_with fail
        go_roundw
        case rel=>exact⟨b5.o.trans (HQ.o.mono b5.o.size),i,k+1,rfl,by go_num,O,c6.o⟩
        case measure=>simp[intOf];omega
    ·have t8:¬(k:Int)<H.length:=by omega
     obtain rfl:k=H.length:=O;have n:Mb w.heap.size w wr:=h9.o.trans (b0.mono h9.o.size);have k5:=A n;have r0:jh u R ⟨b9,c0,⟨L,M,T,U,V,Y,c⟩,c,ph,pt,Mk,c4⟩=match fU R a with
       |none=>.inl 7
       |some e=>if(bG u e.vlan).isSome=Mk then .inr (o3 ⟨b9,c0,⟨L,M,T,U,V,Y,c⟩,c,ph,pt,Mk,c4⟩ e.vlan e.mac (jT u e.vlan))else .inl 7:=by
      unfold jh;rw[if_neg (λe=>by cases e),if_neg HT.o,<-HA.o]
     have g3:=A r0;clear r0;rcases a0.o with⟨rfl,hn⟩|⟨i,hi,-,rfl,⟨u4,e3⟩,d1⟩
     ·have r1:fU R a=none:=p0.o.none λj l e=>hn j (by rw[C.o];exact l) ⟨by rw[C.o];exact l,by simpa only[C.o]using e⟩;have G:aA (nJ g (jh u R ⟨b9,c0,⟨L,M,T,U,V,Y,c⟩,c,ph,pt,Mk,c4⟩) w (MZ (Q I 7)) wr):=A ⟨7,rfl,Mf ⟨US,by rw[g3.o,r1],k5.o⟩⟩;clear hn r1 a0 g3 n b0;go_wp2;go_ret;exact G.o
     ·have u2:¬(i:Int)<0:=by omega
      have u3:(i:Int)<H.length:=O;obtain⟨e,r2,h8⟩:=p0.o.LP (a:=a) (i:=i) (by rw[<-C.o];exact hi) (by simpa only[C.o]using e3) (λj l hq=>by
       have:=d1 j (by rw[C.o];exact l) (by rw[C.o];exact l) ⟨by rw[C.o];exact l,by simpa only[C.o]using hq⟩;simpa only[C.o]using this)
      have r3:H[i]=e.x:=by simp only[C.o];exact h8.symm
      obtain⟨E,F,m,s⟩:=e;obtain⟨rfl,J,q1,q2,q3⟩:=k0.o i hi;rw[r3]at J q1 q2 q3;simp only[Rt.x]at J q1 q2 q3;have f6:wr.rangeAt Z (i*4) [Q I E,Q I F,Q I m,MS s]:=λj v o=>by
       match j,o with
       |0,o=>cases o;exact MW n J
       |1,o=>cases o;exact MW n q1
       |2,o=>cases o;exact MW n q2
       |3,o=>cases o;exact MW n q3
      have u0:Z<wr.heap.size:=MO (MW n J);have d3:(zJ (MQ (N ⟨Z,i*4,S⟩))).run MT wr=.ok (M1 #[Q I E,Q I F,Q I m,MS s]) wr:=NW wr Z (i*4) 263 [Q I E,Q I F,Q I m,MS s] dk f6 o6 o7 fK;obtain⟨d,a3⟩:=UX (wr.alloc (MY #[Q I E,Q I F,Q I m,MS s] 263));have d4:(tP (MQ (N ⟨wr.heap.size,0,S⟩)) (M1 #[Q I E,Q I F,Q I m,MS s])).run MT (wr.alloc (MY #[Q I 0,Q I 0,Q I 0,MS ⟨#[]⟩] 263))=.ok () d:=by
       rw[a3];exact Rn (P:=MT) wr 263 #[Q I 0,Q I 0,Q I 0,MS ⟨#[]⟩] #[Q I E,Q I F,Q I m,MS s] fK rfl oc
      obtain⟨q,a4⟩:=UX wr.heap.size;have b4:=UY a3;have c5:d.heap[q]?=N (MY #[Q I E,Q I F,Q I m,MS s] 263 (0,0)):=by rw[a3,a4];exact aU _ _
      have l3:Mb w.heap.size w d:=n.trans (b4.mono n.size);have e2:d.cell? ⟨q,2,S⟩=N (Q I m):=aB c5 rfl;have u7:g<w.heap.size:=aJ HG.o;have r4:q≠g:=by rw[a4];have:=n.size;omega
      have l4:=eU y x m d (HX.o.aD l3) (by have:=j6.o.n;have:=j6.o.p.length_eq;omega);obtain⟨FS,l5⟩:=UX (cH x.Fl m);rw[<-l5]at l4;have CF:=A l4;obtain⟨f1,f2,-⟩:=j6.o.Ig m;rw[<-l5]at f1 f2;have r5:=A f1;have m4:=A f2;have m5:=A r2;have u8:=A c5;have K:=A a4;have g4:=A r4;have n0:=A l3;have q5:=MO e2;have r7:d.cell? ⟨wr.heap.size,2,S⟩=N (Q I m):=by rw[<-a4];exact e2
      have u9:wr.heap.size<d.heap.size:=MO r7;have yb:=MW b4 yr;have v0:=MO yb;clear d1 e3 u4 a0 r2 h8 r3 J q1 q2 q3 f6 b4 c5 l4 l5 f1 f2 a3 a4 r4 l3 n b0 hi;go_wp2_with fail
      rw[<-K.o];clear d3 d4 r7 u9;refine CF.o.mono ?_;rintro e W0 ⟨rfl,s1⟩;rw[s1];clear s1 W0 CF yr t7 yb v0 y2 ly;by_cases hz:FS.size=0
      ·obtain rfl:FS=⟨#[]⟩:=(kw FS).2 hz;have G:aA (nJ g (jh u R ⟨b9,c0,⟨L,M,T,U,V,Y,c⟩,c,ph,pt,Mk,c4⟩) w (MZ (Q I 7)) d):=A ⟨7,rfl,Mf ⟨US,by
        rw[g3.o,m5.o];simp only[];rw[if_neg];intro e;exact m4.o.1 e rfl,n0.o⟩⟩
       clear g3 r5 m4 hz m5;go_wp2;go_ret;exact G.o
      ·have w6:(FS.toList==[])=false:=by
        rw[beq_eq_false_iff_ne];intro e;have:=congrArg List.length e;rw[No,Array.length_toList]at this;exact hz this
       have w7:FS.toList.isEmpty=false:=by rw[gj,decide_eq_false hz]
       have a9:d.heap[g]?=N (MY #[MS L,MS M,Q I U,Q I V,M0 T,MS Y,MS c] 248 (0,0)):=(n0.o.block g u7).trans HG.o;have g6:d.cell? ⟨g,6,S⟩=N (MS c):=aB a9 rfl;have lg:g<d.heap.size:=aJ a9;have CH:=A (s6 c d o1 j1 (by have:=HT.o;omega));have s3:(bG u m).isSome=true:=m4.o.2 hz;have v4:=A s3;have v5:=A a9;clear hz s3 a9;go_wp2_with fail
       refine CH.o.mono ?_;rintro e W5 ⟨rfl,i6⟩;have t:W5.heap[g]?=N (MY #[MS L,MS M,Q I U,Q I V,M0 T,MS Y,MS c] 248 (0,0)):=(i6.block g lg).trans v5.o;have g7:W5.heap[q]?=N (MY #[Q I E,Q I F,Q I m,MS s] 263 (0,0)):=(i6.block q q5).trans u8.o;obtain⟨W6,g8⟩:=UX (W5.setCell ⟨g,6,S⟩ (MS (qC c)));have n1:=Mn W5 g 6 _ _ (MS (qC c)) t;rw[<-g8]at n1;have s4:W6.heap[q]?=N (MY #[Q I E,Q I F,Q I m,MS s] 263 (0,0)):=by rw[g8];exact(NE _ _ _ _ g4.o).trans g7
       obtain⟨W7,g9⟩:=UX (W6.setCell ⟨g,0,S⟩ (MS s));have n4:=Mn W6 g 0 _ _ (MS s) n1;rw[<-g9]at n4;have s5:W7.heap[q]?=N (MY #[Q I E,Q I F,Q I m,MS s] 263 (0,0)):=by rw[g9];exact(NE _ _ _ _ g4.o).trans s4
       obtain⟨W8,h0⟩:=UX (W7.setCell ⟨g,1,S⟩ (MS FS));have n6:=Mn W7 g 1 _ _ (MS FS) n4;rw[<-h0]at n6;have j2:W8.heap[q]?=N (MY #[Q I E,Q I F,Q I m,MS s] 263 (0,0)):=by rw[h0];exact(NE _ _ _ _ g4.o).trans s5
       obtain⟨W9,i8⟩:=UX (W8.setCell ⟨g,2,S⟩ (Q I m));have n7:=Mn W8 g 2 _ _ (Q I m) n6;rw[<-i8]at n7;obtain⟨Wc,j0⟩:=UX (W9.setCell ⟨g,3,S⟩ (Q I 0));have n8:=Mn W9 g 3 _ _ (Q I 0) n7;rw[<-j0]at n8;have G:aA (nJ g (jh u R ⟨b9,c0,⟨L,M,T,U,V,Y,c⟩,c,ph,pt,Mk,c4⟩) w (MZ (Q I 0)) Wc):=A ⟨0,rfl,MX ⟨rfl,o3 ⟨b9,c0,⟨L,M,T,U,V,Y,c⟩,c,ph,pt,Mk,c4⟩ m s (jT u m),by rw[g3.o,m5.o];simp only[];rw[if_pos v4.o],by
        rw[n8,<-r5.o];rfl,by
        rw[j0,i8,h0,g9,g8];exact((((((aH.aG (X:=λb=>b=g) n0.o).trans (aH.aG i6)).setCell (p:=⟨g,6,S⟩) (Mf rfl) _).setCell (p:=⟨g,0,S⟩) (Mf rfl) _).setCell (p:=⟨g,1,S⟩) (Mf rfl) _).setCell (p:=⟨g,2,S⟩) (Mf rfl) _).setCell (p:=⟨g,3,S⟩) (Mf rfl) _⟩⟩
       rw[j0,i8,h0,g9,g8]at G;have m6:W5.cell? ⟨g,6,S⟩=N (MS c):=aB t rfl;have m0:=aB (j:=0) t rfl;have m1:=aB (j:=1) t rfl;have m2:=aB (j:=2) t rfl;have m3:=aB (j:=3) t rfl;have x3:=bC t 6;have x4:=bC t 0;have x5:=bC t 1;have x6:=bC t 2;have x7:=bC t 3;have n3:=aB (j:=3) g7 rfl;have n2:=aB (j:=2) g7 rfl;have y1:=aJ g7;have y3:=aJ t;have y4:¬q=g:=g4.o;have y5:¬g=q:=λe=>g4.o e.symm;clear i6 t g7 n1 s4 n4 s5 n6 j2 n7 n8 g8 g9 h0 i8 j0 g6 CH e2 W6 W7 W8 W9 Wc;go_wp2;go_ret;exact G.o
end
end Go.Proofs.YtnjalelblbjfiaaGreatDoor
