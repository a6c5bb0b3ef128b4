import Derived.Test.YtnjalelblbjfiaaGreatDoorP40
namespace Go.Proofs.YtnjalelblbjfiaaGreatDoor
set_option maxRecDepth 100000
set_option maxHeartbeats 16000000
open Go.RowKit
open Go.Proofs.Tryz
open Go.Sort (grow)
open Bool renaming false→Md,true→Mk,false_eq_true→SH
open Go renaming World→MV,Calls→Mo,cell_later→MW,block_lt_of_cell→MO,redrawn→NK,below_regrown→NP,wp_region_quiet_below→Mg,wpQuiet_nil→M3,run_loadAt_mid→NW
open Go.Ending renaming returned→MZ
open Go.IntKind renaming i64→I
open Go.Obj renaming cells→MY
open Go.Proofs.Tryz renaming prog→MT
open Go.RowKit renaming Below→Mb
open Go.RowKit.Below renaming refl→MU
open Go.Value renaming pointer→MQ,int→Q,string→MS,bool→M0,slice→MR,agg→M1
open Int renaming natCast_nonneg→Ns,le_refl→To
open List renaming getElem_mem→Ms,mem_map→OD,length_map→ND
open Nat renaming le_refl→MP,zero_le→NG
open Option renaming some→N,none→S
open Or renaming inl→Mf,inr→MX
open Go.World renaming cell?_of_block→Mj
open And renaming intro→Mp
variable {V:Int->Int×Int}{a:List Fc}{R:List Rt}{L:List af}{p q:Pg}
section
attribute [local go_sem] Oper.semAt_some aI
theorem wC(q2:pZ)(y:Nat)(x:aK)(k:Nat)(d:ByteArray)(c i g a:ByteArray)(fv l:Int)(w:MV)(h:aT w y x)(hk:k<x.Q.length)(hT:∀q∈x.Q,q.T.length<1000000000000)(hQ:x.Q.length<=8)(hK:x.K.length<=64)(hs:bZ x.K)(v1:∀e∈x.K,(0<=e.port/\e.port<x.Q.length)/\dH e.mac=Md)(hN:∀q∈x.Q,0<=q.nat/\q.nat<4096)(hd:d.size<=600)(hf:bd d=N ⟨c,i,Md,fv,l,g,a⟩)(hg:dH i=Md)(L:List af)(V:Int->Int×Int)(Fs:List Fc)(R:List Rt)(hF:dD Fs x.Fl)(hH:de R x.Hl)(hV:fY x.Q.length L x.rs V)(hL:cC L)(v8:∀r∈x.rs,r.ok=Mk)(v9:x.rs.length<=200)(RR:Int->List (Int×ByteArray)->List Mc->Prop)(k7:cG (iD x.P k) ⟨c,i,Md,fv,l,g,a⟩=Mk->RR 3 [] x.K)(h4:cG (iD x.P k) ⟨c,i,Md,fv,l,g,a⟩=Md->∀s,dy x.K ⟨eV (iD x.P k) ⟨c,i,Md,fv,l,g,a⟩,i,k,0⟩ s->IX RR x.P L V Fs R s (gI (ja x.P k d ⟨c,i,Md,fv,l,g,a⟩))):Mo MT 71 #[MQ (N ⟨y,0,S⟩),Q I k,MS d] w (gV y x RR w):=by
 obtain⟨z1,z2,z3,z4,z5,z6⟩:=rU hf hd;simp only at z1 z2 z3 z4 z5 z6;obtain⟨pa,K3,pg,w1,w2⟩:=h.jd;obtain⟨rfl,q0,q1,hn⟩:=w2 k hk;have c0:=h.c0;rw[w1]at c0;have E6:=A c0;have w3:=A q0;have w4:=A q1;have q5:=A hn;obtain⟨a1,w6,b1,q6,-⟩:=hn;have HX:=A h;have q7:=x.vh hk;obtain⟨f,q8⟩:=UX (x.Q[k].nat);obtain⟨T,w7⟩:=UX (x.Q[k].T);have h7:=hN _ (Ms hk);have q9:=hT _ (Ms hk);have w8:ja x.P k d ⟨c,i,Md,fv,l,g,a⟩=⟨k,d,⟨c,i,Md,f,l,g,a⟩,⟨#[]⟩,0,0,Md,Md⟩:=by
  unfold ja;rw[show((k:Int).toNat)=k from rfl,q7];simp only[eV,ee.FQ,if_false,SH];rw[<-q8]
 rw[w8]at h4;rw[q7]at k7 h4;simp only[ee.FQ,cG,eV,if_false,Bool.false_and,Bool.or_false,SH]at k7 h4;rw[<-q8]at k7 h4 h7 w3 q0;rw[<-w7]at q9 q5 q6;rw[q6]at w4 q1 q5;have F1:=A k7;have F2:=A h4;have f5:=A hT;have e3:=A hQ;have f6:=A hK;have g3:=A v1;have F3:=A hs;have Z:=A hF;have h8:=A hH;have w9:=A hV;have G1:=A hL;have G2:=A v8;have G6:=A v9;have HG:=A hg;have H0:=A q9;have g4:(k:Int)<x.Q.length:=O;have L2:¬(k:Int)<0:=O;have L3:¬(x.Q.length:Int)<=k:=O;have L4:(x.Q.length:Int)<=8:=O;have L5:¬(600:Int)<d.size:=O;have L6:(d.size:Int)<=600:=O;have x0:=h.lt;have H1:=A x0;have CC:=ru d w hd;rw[hf]at CC;have x1:=A CC;have HF:=A hf;clear h hT hQ hK hs v1 hN hd hf hg k7 h4 w1 w2 q7 q8 w7 q9 q6 CC w8 hF hH hV hL v8 v9;go_enter func71,ntmps71;go_wp2_with fail
 refine x1.o.mono ?_;rintro e W ⟨⟨cs,rfl,x2⟩,hb⟩;obtain rfl:=x2.2 _ HF.o;simp only[Option.isSome,an];obtain⟨bf,o1⟩:=UX W.heap.size;obtain⟨W1,o2⟩:=UX (W.alloc (MY #[MS c,MS i,Q I fv,Q I l,M0 Md,MS g,MS a] 248));have l0:Mb w.heap.size w W1:=by rw[o2];exact hb.alloc hb.size _
 have f8:W1.heap[bf]?=N (MY #[MS c,MS i,Q I fv,Q I l,M0 Md,MS g,MS a] 248 (0,0)):=by rw[o2,o1];exact aU _ _
 have x3:w.heap.size<=bf:=by rw[o1];exact hb.size
 have x4:=A l0;have x5:=A f8;have e4:=A x3;have x6:=A o2;have x7:=A o1;have CG:=gW i W1 O;rw[HG.o]at CG;have x8:=A CG;have i0:=aB (j:=0) f8 rfl;have i1:=aB (j:=1) f8 rfl;have i2:=aB (j:=2) f8 rfl;have i4:=aB (j:=4) f8 rfl;have r7:=bC f8 2;have o5:=aJ f8;have p0:=MW l0 c0;have p1:=MW l0 q0;have p2:=MW l0 q1;have s1:=MO p0;have s2:=MO p1;clear hb l0 f8 x3 o2 o1 x2 x1 CG c0 q0 q1 x0;go_wp2_with fail
 rw[<-x6.o,<-x7.o];refine x8.o.mono ?_;rintro e W0 ⟨rfl,b4⟩;rw[b4];clear b4 W0 x8;obtain⟨W2,o6⟩:=UX (W1.setCell ⟨bf,2,S⟩ (Q I f));have y0:Mb w.heap.size w W2:=by rw[o6];exact x4.o.setCell e4.o _
 have y1:W2.heap[bf]?=N (MY #[MS c,MS i,Q I f,Q I l,M0 Md,MS g,MS a] 248 (0,0)):=by rw[o6];exact(heap_setCell_same _ _ 2 _ _ _ x5.o).trans (by simp)
 have i3:=A y0;have g5:=A y1;have y2:=A o6;clear y0 y1 o6;go_wp2_with fail
 rw[<-y2.o];clear i0 i1 i2 i4 r7 o5 p0 p1 p2 s1 s2;have i0:=aB (j:=0) g5.o rfl;have i1:=aB (j:=1) g5.o rfl;have i2:=aB (j:=2) g5.o rfl;have i4:=aB (j:=4) g5.o rfl;have r7:=bC g5.o 2;have o5:=aJ g5.o;have p0:=MW i3.o E6.o;have p1:=MW i3.o w3.o;have p2:=MW i3.o w4.o;have s1:=MO p0;have s2:=MO p1;clear y2 x6 x7 x4 x5;have CI:aA (∀dd os,Mo MT 128 #[MR a1 T.length w6,Q I f] (grow (NK W2 dd) os) λe w'=>e=MZ (M0 (gF T f))/\Mb (grow (NK W2 dd) os).heap.size (grow (NK W2 dd) os) w'):=A λdd os=>(vz T (MR a1 T.length w6) f (grow (NK W2 dd) os) ((q5.o.aD i3.o).aD (NP W2 dd os)) H0.o).mono λe w' hh=>⟨hh.1,hh.2▸MU _ _⟩;obtain⟨tw,y5⟩:=UX (gF T f);rw[<-y5]at CI;have s4:=F1;have s5:=F2;clear y5;go_wp2_with fail
 refine Mg UR UR ?_
 repeat(quiet_step (exact Calls.regrown_of (CI.o _ _)))
 refine M3 ?_;intro wq a9;replace a9:=aE a9;obtain⟨s6,s7⟩:=aW a9;have s8:=a9.size;have s9:=i3.o.trans (a9.mono i3.o.size);have i5:=(a9.block bf o5).trans g5.o;have b5:=A s9;have H3:=A i5;have j2:=aB (j:=2) i5 rfl;have j4:=aB (j:=4) i5 rfl;have j1:=aB (j:=1) i5 rfl;have t0:=aJ i5;have t1:aA (RR 3 [] x.K->gV y x RR w (MZ (.tuple #[MR S 0 0,Q I 3])) wq):=A λhR=>gV.none HX.o hR b5.o;have CL:=A (ro y x f k i wq (HX.o.aD s9) F3.o f6.o);clear a9 s6 s7 s8 s9 i5 i0 i1 i2 i4 r7 o5 p0 p1 p2 s1 s2 CI;cases l3:(f==0)with
 |true=>
  have B:=A (t1.o (s4.o (by first|rfl|(rw[l3];rfl)|exact l3)));clear t1 CL s5 s4;go_wp2;go_ret2;exact B.o
 |false=>
  have z0:=A (s5.o (by first|(rw[l3];rfl)|exact l3));clear t1 s5 s4;go_wp2_with fail
  refine CL.o.mono ?_;rintro e W4 ⟨rfl,P,s,hl,t4,t5,z7⟩;have u:=A t4;have c1:=A t5;have a5:=A z7;have a0:=A (z0.o s hl);have C:=A hl;have d4:W4.heap[bf]?=N (MY #[MS c,MS i,Q I f,Q I l,M0 Md,MS g,MS a] 248 (0,0)):=(t5.block bf t0 (by
   rintro(e|e)
   ·have:=H1.o;have:=e4.o;omega
   ·have:=HX.o.rk.lt e;have:=e4.o;omega)).trans H3.o
  have z8:=A d4;have t6:=A t0;have k0:=aB (j:=0) d4 rfl;have k1:=aB (j:=1) d4 rfl;have k2:=aB (j:=2) d4 rfl;have k3:=aB (j:=3) d4 rfl;have k4:=aB (j:=4) d4 rfl;have k5:=aB (j:=5) d4 rfl;have k6:=aB (j:=6) d4 rfl;have t7:=aJ d4;have z9:=t4.lt;clear hl t4 t5 z7 d4 CL z0 j1 j2 j4 t0 l3;have A0:aA (gI ⟨k,d,⟨c,i,Md,f,l,g,a⟩,⟨#[]⟩,0,0,Md,Md⟩=if(g.toList==[8,0])=Mk/\jX a=Mk then⟨k,d,⟨c,i,Md,f,l,g,a⟩,a,cn a,bT a 2,Mk,Md⟩else⟨k,d,⟨c,i,Md,f,l,g,a⟩,⟨#[]⟩,0,0,Md,Md⟩):=A (by
   unfold gI rz;by_cases h1:(g.toList==[8,0])=Mk
   ·rw[if_pos (show(cj g==2)=Mk by rw[beq_iff_eq,kF];exact h1)];cases h2:jX a with
    |true=>rw[if_pos rfl,if_pos ⟨h1,rfl⟩]
    |false=>rw[if_neg US,if_neg (by rintro⟨-,e⟩;cases e)]
   ·rw[if_neg (show¬(cj g==2)=Mk by rw[beq_iff_eq,kF];exact h1),if_neg (λe=>h1 e.1)])
  rw[A0.o]at a0;clear A0;cases o7:(g.toList==[8,0])with
  |false=>
   rw[if_neg (by rw[o7];rintro⟨e,-⟩;cases e)]at a0;have l4:aA ((cj g==2)=Md):=A (by rw[beq_eq_false_iff_ne,Ne,kF,o7];decide);have d5:=A (a0.o.2 (lX rfl));obtain⟨W5,o8⟩:=UX W4;have n:aA (Mb W4.heap.size W4 W5):=A (by rw[o8];exact MU _ _);have m:=z8;rw[<-o8]at m⊢;clear k0 k1 k2 k3 k4 k6 t7 z9 a0;rw[<-o8]at k5;clear o8;have k0:=aB (j:=0) m.o rfl;have k1:=aB (j:=1) m.o rfl;have k2:=aB (j:=2) m.o rfl;have k3:=aB (j:=3) m.o rfl;have k4:=aB (j:=4) m.o rfl;have k5:=aB (j:=5) m.o rfl;have k6:=aB (j:=6) m.o rfl;have i6:=aJ m.o;have t8:=(u.o.aD n.o).lt;have CF:=eU y {x with kv:=P,K:=s} f W5 (u.o.aD n.o) (by show x.Fl.length<=1000;have:=Z.o.n;have:=Z.o.p.length_eq;omega);obtain⟨U,b2⟩:=UX (cH x.Fl f);rw[show cH ({x with kv:=P,K:=s}:aK).Fl f=U from b2.symm]at CF;have c8:=A CF;have d6:aA (dU Fs ⟨k,d,⟨c,i,Md,f,l,g,a⟩,⟨#[]⟩,0,0,Md,Md⟩=(c.toList==U.toList)):=A (by rw[b2];exact fT Z.o z1);clear CF b2;go_wp2_with fail
   refine c8.o.mono ?_;rintro e W0 ⟨rfl,b4⟩;rw[b4];clear b4 W0 c8;have c2:=A (d5.o.2 ⟨k,d,⟨c,i,Md,f,l,g,a⟩,⟨#[]⟩,0,0,Md,Md⟩ (wN l4.o));clear d6;have E:=A (dE y {x with kv:=P,K:=s} ⟨k,d,⟨c,i,Md,f,l,g,a⟩,⟨#[]⟩,0,0,Md,Md⟩ W5 (u.o.aD n.o) f5.o e3.o (C.o.length f6.o) (λe o=>(C.o.ub o).elim (λe1=>by rw[e1];exact⟨⟨Ns k,g4⟩,HG.o⟩) (λh1=>g3.o e h1)) (by show 0<c.size;omega) h7 z5 (by show c.size+i.size+g.size+a.size<=10000;omega));simp only[an]at E;go_wp2_with fail
   refine E.o.mono ?_;rintro e H ⟨lv,o,b3,J⟩;have D:=c2.o;rw[iP]at o b3;obtain⟨X,F⟩:=UX ((if(mJ x.P s ⟨k,d,⟨c,i,Md,f,l,g,a⟩,⟨#[]⟩,0,0,Md,Md⟩).length=0 then 8 else 0):Int);rw[<-F]at o D;subst o;have B:=A (dw b5.o c1.o u.o a5.o n.o J b3 D C.o.ne);clear b3 J F D;go_wp2;go_ret2;exact B.o
  |true=>
   have l4:aA ((cj g==2)=Mk):=A (by rw[beq_iff_eq,kF];exact o7);have CR:=A (oe a W4 O);go_wp2_with fail
   refine CR.o.mono ?_;rintro e W5 ⟨rfl,t9⟩;have n:=A t9;have m:=A ((t9.block bf t7).trans z8.o);clear t9 k0 k1 k2 k3 k4 k5 k6 t7 z9 CR;cases o9:jX a with
   |false=>
    rw[if_neg (by rw[o9];rintro⟨-,e⟩;cases e)]at a0;have d5:=A (a0.o.2 (lX rfl));clear a0;have k0:=aB (j:=0) m.o rfl;have k1:=aB (j:=1) m.o rfl;have k2:=aB (j:=2) m.o rfl;have k3:=aB (j:=3) m.o rfl;have k4:=aB (j:=4) m.o rfl;have k5:=aB (j:=5) m.o rfl;have k6:=aB (j:=6) m.o rfl;have i6:=aJ m.o;have t8:=(u.o.aD n.o).lt;have CF:=eU y {x with kv:=P,K:=s} f W5 (u.o.aD n.o) (by show x.Fl.length<=1000;have:=Z.o.n;have:=Z.o.p.length_eq;omega);obtain⟨U,b2⟩:=UX (cH x.Fl f);rw[show cH ({x with kv:=P,K:=s}:aK).Fl f=U from b2.symm]at CF;have c8:=A CF;have d6:aA (dU Fs ⟨k,d,⟨c,i,Md,f,l,g,a⟩,⟨#[]⟩,0,0,Md,Md⟩=(c.toList==U.toList)):=A (by rw[b2];exact fT Z.o z1);clear CF b2;go_wp2_with fail
    refine c8.o.mono ?_;rintro e W0 ⟨rfl,b4⟩;rw[b4];clear b4 W0 c8;cases f9:(c.toList==U.toList)with
    |false=>
     have c2:=A (d5.o.2 ⟨k,d,⟨c,i,Md,f,l,g,a⟩,⟨#[]⟩,0,0,Md,Md⟩ (ji (d6.o.trans f9)));have E:=A (dE y {x with kv:=P,K:=s} ⟨k,d,⟨c,i,Md,f,l,g,a⟩,⟨#[]⟩,0,0,Md,Md⟩ W5 (u.o.aD n.o) f5.o e3.o (C.o.length f6.o) (λe o=>(C.o.ub o).elim (λe1=>by rw[e1];exact⟨⟨Ns k,g4⟩,HG.o⟩) (λh1=>g3.o e h1)) (by show 0<c.size;omega) h7 z5 (by show c.size+i.size+g.size+a.size<=10000;omega));simp only[an]at E;go_wp2_with fail
     refine E.o.mono ?_;rintro e H ⟨lv,o,b3,J⟩;have D:=c2.o;rw[iP]at o b3;obtain⟨X,F⟩:=UX ((if(mJ x.P s ⟨k,d,⟨c,i,Md,f,l,g,a⟩,⟨#[]⟩,0,0,Md,Md⟩).length=0 then 8 else 0):Int);rw[<-F]at o D;subst o;have B:=A (dw b5.o c1.o u.o a5.o n.o J b3 D C.o.ne);clear b3 J F D;go_wp2;go_ret2;exact B.o
    |true=>
     have g0:iJ Fs R ⟨k,d,⟨c,i,Md,f,l,g,a⟩,⟨#[]⟩,0,0,Md,Md⟩=jh Fs R ⟨k,d,⟨c,i,Md,f,l,g,a⟩,⟨#[]⟩,0,0,Md,Md⟩:=lM l4.o (d6.o.trans f9);have c9:=A d5.o;rw[g0]at c9;have CR:=A (iZ q2 y bf {x with kv:=P,K:=s} ⟨k,d,⟨c,i,Md,f,l,g,a⟩,⟨#[]⟩,0,0,Md,Md⟩ Fs R W5 (u.o.aD n.o) m.o Z.o h8.o (λe=>by cases e));clear g0;go_wp2_with fail
     refine CR.o.mono ?_;rintro e H ⟨r,rfl,F⟩;rcases F with⟨l5,Y,J⟩|⟨rfl,q,Y,G,d0⟩
     ·have A1:(r !=0)=true:=by rw[bne_iff_ne];exact l5
      have B:=A (dl b5.o c1.o u.o a5.o (n.o.trans (J.mono n.o.size)) (c9.o.1 r Y) C.o.ne);clear Y J CR;go_wp2;go_ret2;exact B.o
     ·have v:=sX h8.o Z.o Y;have c2:=A (c9.o.2 q Y);have d1:=aT.DU (u.o.aD n.o) HX.o d0 e4.o (λb hb=>(a5.o b hb).imp id λe=>by have:=t6.o;omega);have E:=A (dE y {x with kv:=P,K:=s} q H d1 f5.o e3.o (C.o.length f6.o) (λe o=>(C.o.ub o).elim (λe1=>by rw[e1];exact⟨⟨Ns k,g4⟩,HG.o⟩) (λh1=>g3.o e h1)) (by rw[v.2.2.1];decide) v.2.2.2.1 (by rw[v.2.2.2.2.1];decide) (by rw[v.2.2.1,v.2.2.2.2.2.1,v.2.2.2.2.2.2.1,v.2.2.2.2.2.2.2];show 6+6+g.size+(⟨#[]⟩:ByteArray).size<=10000;rw[z3];decide));rw[v.1,v.2.1]at E;simp only[an]at E;have l6:=A d1;have l7:=A d0;clear Y v d1 d0 CR k0 k1 k2 k3 k4 k5 k6;have m0:=aB (j:=0) G rfl;have m1:=aB (j:=1) G rfl;have m2:=aB (j:=2) G rfl;have m3:=aB (j:=3) G rfl;have m4:=aB (j:=4) G rfl;have m5:=aB (j:=5) G rfl;have m6:=aB (j:=6) G rfl;clear G;go_wp2_with fail
      refine E.o.mono ?_;rintro e W7 ⟨lv,o,d2,g1⟩;have D:=c2.o;rw[iP]at o d2;obtain⟨X,F⟩:=UX ((if(mJ x.P s q).length=0 then 8 else 0):Int);rw[<-F]at o D;subst o;have B:=A (fA b5.o c1.o l6.o a5.o n.o e4.o l7.o g1 d2 D C.o.ne);clear d2 g1 F D;go_wp2;go_ret2;exact B.o
   |true=>
    obtain⟨u0,B7⟩:=wo o9;rw[if_pos ⟨o7,o9⟩]at a0;have g6:=aB (j:=6) m.o rfl;have gb:=aJ m.o;have gy:=(u.o.aD n.o).lt;have CK:aA (∀dd os,Mo MT 134 #[MS a] (grow (NK W5 dd) os) λe w'=>e=MZ (M1 #[Q I (i7 a 12),Q I (i7 a 16),Q I (b8 a 9),Q I (pB a),Q I (pA a)])/\Mb (grow (NK W5 dd) os).heap.size (grow (NK W5 dd) os) w'):=A λdd os=>xW a _ u0 O B7;obtain⟨z,hz⟩:=pi x.rs (i7 a 12) (i7 a 16) (b8 a 9) (pB a) (pA a);have C2:aA (∀dd os,Mo MT 133 #[MQ (N ⟨y,3,S⟩),M1 #[Q I (i7 a 12),Q I (i7 a 16),Q I (b8 a 9),Q I (pB a),Q I (pA a)]] (grow (NK W5 dd) os) λe w'=>e=MZ (Q I z)/\Mb (grow (NK W5 dd) os).heap.size (grow (NK W5 dd) os) w'):=A λdd os=>by
     have hx:=(u.o.aD n.o).aD (NP W5 dd os);refine(nj 1 y 3 _ _ _ _ _ _ _ _ ⟨hx.c3,hx.frz 3,hx.rt,G6.o,O⟩ G2.o).mono ?_;rintro e w' ⟨⟨z',rfl,H7⟩,hb⟩;rw[rq H7 hz];exact⟨rfl,hb⟩
    have HJ:=A (w9.o.Lr G1.o x.P (p:=⟨k,d,⟨c,i,Md,f,l,g,a⟩,a,cn a,bT a 2,Mk,Md⟩) rfl hz);go_wp2_with fail
    refine Mg UR UR ?_
    repeat(quiet_step (first|exact Calls.regrown_of (CK.o _ _)|exact Calls.regrown_of (C2.o _ _)))
    refine M3 ?_;intro wq a9;replace a9:=aE a9;obtain⟨s6,s7⟩:=aW a9;have s8:=a9.size;have C3:=A (n.o.trans (a9.mono n.o.size));have C4:=A ((a9.block bf gb).trans m.o);clear a9 s6 s7 s8 g6 gb gy CK C2 n m o9 B7;have n:=C3;have m:=C4;clear C3 C4;rcases hz with⟨rfl,-⟩|⟨kz,u2,rfl,-,-⟩
    ·skip
     have d5:=A (a0.o.2 (HJ.o.1 rfl));clear a0 HJ;have k0:=aB (j:=0) m.o rfl;have k1:=aB (j:=1) m.o rfl;have k2:=aB (j:=2) m.o rfl;have k3:=aB (j:=3) m.o rfl;have k4:=aB (j:=4) m.o rfl;have k5:=aB (j:=5) m.o rfl;have k6:=aB (j:=6) m.o rfl;have i6:=aJ m.o;have t8:=(u.o.aD n.o).lt;have CF:=eU y {x with kv:=P,K:=s} f wq (u.o.aD n.o) (by show x.Fl.length<=1000;have:=Z.o.n;have:=Z.o.p.length_eq;omega);obtain⟨U,b2⟩:=UX (cH x.Fl f);rw[show cH ({x with kv:=P,K:=s}:aK).Fl f=U from b2.symm]at CF;have c8:=A CF;have d6:aA (dU Fs ⟨k,d,⟨c,i,Md,f,l,g,a⟩,a,cn a,bT a 2,Mk,Md⟩=(c.toList==U.toList)):=A (by rw[b2];exact fT Z.o z1);clear CF b2;go_wp2_with fail
     refine c8.o.mono ?_;rintro e W0 ⟨rfl,b4⟩;rw[b4];clear b4 W0 c8;cases f9:(c.toList==U.toList)with
     |false=>
      have c2:=A (d5.o.2 ⟨k,d,⟨c,i,Md,f,l,g,a⟩,a,cn a,bT a 2,Mk,Md⟩ (ji (d6.o.trans f9)));have E:=A (dE y {x with kv:=P,K:=s} ⟨k,d,⟨c,i,Md,f,l,g,a⟩,a,cn a,bT a 2,Mk,Md⟩ wq (u.o.aD n.o) f5.o e3.o (C.o.length f6.o) (λe o=>(C.o.ub o).elim (λe1=>by rw[e1];exact⟨⟨Ns k,g4⟩,HG.o⟩) (λh1=>g3.o e h1)) (by show 0<c.size;omega) h7 z5 (by show c.size+i.size+g.size+a.size<=10000;omega));simp only[an]at E;go_wp2_with fail
      refine E.o.mono ?_;rintro e H ⟨lv,o,b3,J⟩;have D:=c2.o;rw[iP]at o b3;obtain⟨X,F⟩:=UX ((if(mJ x.P s ⟨k,d,⟨c,i,Md,f,l,g,a⟩,a,cn a,bT a 2,Mk,Md⟩).length=0 then 8 else 0):Int);rw[<-F]at o D;subst o;have B:=A (dw b5.o c1.o u.o a5.o n.o J b3 D C.o.ne);clear b3 J F D;go_wp2;go_ret2;exact B.o
     |true=>
      have g0:iJ Fs R ⟨k,d,⟨c,i,Md,f,l,g,a⟩,a,cn a,bT a 2,Mk,Md⟩=jh Fs R ⟨k,d,⟨c,i,Md,f,l,g,a⟩,a,cn a,bT a 2,Mk,Md⟩:=lM l4.o (d6.o.trans f9);have c9:=A d5.o;rw[g0]at c9;have CR:=A (iZ q2 y bf {x with kv:=P,K:=s} ⟨k,d,⟨c,i,Md,f,l,g,a⟩,a,cn a,bT a 2,Mk,Md⟩ Fs R wq (u.o.aD n.o) m.o Z.o h8.o (λ_=>⟨rfl,u0,by show a.size<=1000;omega⟩));clear g0;go_wp2_with fail
      refine CR.o.mono ?_;rintro e H ⟨r,rfl,F⟩;rcases F with⟨l5,Y,J⟩|⟨rfl,q,Y,G,d0⟩
      ·have A1:(r !=0)=true:=by rw[bne_iff_ne];exact l5
       have B:=A (dl b5.o c1.o u.o a5.o (n.o.trans (J.mono n.o.size)) (c9.o.1 r Y) C.o.ne);clear Y J CR;go_wp2;go_ret2;exact B.o
      ·have v:=sX h8.o Z.o Y;have c2:=A (c9.o.2 q Y);have d1:=aT.DU (u.o.aD n.o) HX.o d0 e4.o (λb hb=>(a5.o b hb).imp id λe=>by have:=t6.o;omega);have E:=A (dE y {x with kv:=P,K:=s} q H d1 f5.o e3.o (C.o.length f6.o) (λe o=>(C.o.ub o).elim (λe1=>by rw[e1];exact⟨⟨Ns k,g4⟩,HG.o⟩) (λh1=>g3.o e h1)) (by rw[v.2.2.1];decide) v.2.2.2.1 (by rw[v.2.2.2.2.1];decide) (by rw[v.2.2.1,v.2.2.2.2.2.1,v.2.2.2.2.2.2.1,v.2.2.2.2.2.2.2];show 6+6+g.size+a.size<=10000;omega));rw[v.1,v.2.1]at E;simp only[an]at E;have l6:=A d1;have l7:=A d0;clear Y v d1 d0 CR k0 k1 k2 k3 k4 k5 k6;have m0:=aB (j:=0) G rfl;have m1:=aB (j:=1) G rfl;have m2:=aB (j:=2) G rfl;have m3:=aB (j:=3) G rfl;have m4:=aB (j:=4) G rfl;have m5:=aB (j:=5) G rfl;have m6:=aB (j:=6) G rfl;clear G;go_wp2_with fail
       refine E.o.mono ?_;rintro e W7 ⟨lv,o,d2,g1⟩;have D:=c2.o;rw[iP]at o d2;obtain⟨X,F⟩:=UX ((if(mJ x.P s q).length=0 then 8 else 0):Int);rw[<-F]at o D;subst o;have B:=A (fA b5.o c1.o l6.o a5.o n.o e4.o l7.o g1 d2 D C.o.ne);clear d2 g1 F D;go_wp2;go_ret2;exact B.o
    ·skip
     obtain⟨ta,M6,tg,C6,C7⟩:=(u.o.aD n.o).rP;obtain⟨C8,p4,n0⟩:=C7 kz u2;have c3:=(u.o.aD n.o).c3;rw[show({x with kv:=P,K:=s}:aK).tv=x.tv from rfl,C6,C8]at c3;have O0:(kz:Int)<x.rs.length:=O;have O1:(0:Int)<=kz:=O;have H8:=MO c3;have J0:=MO p4;have hj:=HJ.o.2 kz u2 rfl;obtain⟨ac,u3⟩:=UX (x.rs[kz].ac);obtain⟨po,u4⟩:=UX (x.rs[kz].po);have n1:ac=2->0<=po/\po<x.Q.length:=λe=>by
      rw[u3]at e;rw[u4];have:=w9.o.jd (Ms u2) e;exact this
     change wq.cell? ⟨tg,kz*19+17,S⟩=N (Q I x.rs[kz].ac)at p4;change wq.cell? ⟨tg,kz*19+18,S⟩=N (Q I x.rs[kz].po)at n0;rw[<-u3]at hj p4;rw[<-u4]at hj n0;have b9:=A hj;clear hj u3 u4 C7 C8 C6 HJ;by_cases i9:ac=1
     ·rw[if_pos i9]at b9;have B:=A (dl b5.o c1.o u.o a5.o n.o (a0.o.1 4 [] b9.o) C.o.ne);subst i9;clear a0 b9 n0 n1;go_wp2;go_ret2;exact B.o
     ·have O2:(ac==1)=false:=by rw[beq_eq_false_iff_ne];exact i9
      rw[if_neg i9]at b9;by_cases h0:ac=2
      ·rw[if_pos h0]at b9;obtain⟨M,rfl⟩:∃M:Nat,po=M:=⟨po.toNat,by have:=n1 h0;omega⟩;have J1:M<x.Q.length:=by have:=n1 h0;omega
       subst h0;have CO:=A (od y M {x with kv:=P,K:=s} f wq (u.o.aD n.o) J1 f5.o e3.o);rw[show({x with kv:=P,K:=s}:aK).P=x.P from rfl]at CO;have k2:=aB (j:=2) m.o rfl;have i6:=aJ m.o;clear i9 n1;go_wp2_with fail
       refine CO.o.mono ?_;rintro e H ⟨rfl,J⟩;have p6:=A (n.o.trans (J.mono n.o.size));have g2:=A ((J.block bf i6).trans m.o);have y6:=MW J c3;clear J CO c3 p4 n0 k2 i6 H8 J0;cases u7:gH (iD x.P M) f with
       |false=>
        have n2:eG x.P ⟨k,d,⟨c,i,Md,f,l,g,a⟩,a,cn a,bT a 2,Mk,Md⟩ (M:Int)=[]:=by
         unfold eG;rw[if_neg];show¬gH (iD x.P M) f=Mk;rw[u7];decide
        rw[n2]at b9;have B:=A (dl b5.o c1.o u.o a5.o p6.o (a0.o.1 8 [] b9.o) C.o.ne);clear a0 b9 n2;go_wp2;go_ret2;exact B.o
       |true=>
        have n2:eG x.P ⟨k,d,⟨c,i,Md,f,l,g,a⟩,a,cn a,bT a 2,Mk,Md⟩ (M:Int)=jE x.P ⟨c,i,Md,f,l,g,a⟩ [(M:Int)]:=by
         unfold eG;rw[if_pos]
         ·rfl
         ·exact u7
        rw[n2]at b9;have J2:aA (RR 0 (jE x.P ⟨c,i,Md,f,l,g,a⟩ [(M:Int)]) s):=A (a0.o.1 0 _ b9.o);have E:aA (Mo MT 136 #[MQ (N ⟨y,0,S⟩),M1 (an ⟨c,i,Md,f,l,g,a⟩),MR (N ⟨H.heap.size,0,S⟩) 1 1] (H.alloc (MY #[Q I M] 3)) λe w'=>∃lv,e=MZ (.tuple #[lv,Q I 0])/\aX eY (H.alloc (MY #[Q I M] 3)).heap.size w' 66 2 lv (jE x.P ⟨c,i,Md,f,l,g,a⟩ [(M:Int)])/\Mb (H.alloc (MY #[Q I M] 3)).heap.size (H.alloc (MY #[Q I M] 3)) w'):=A (by
         have K0:Mb H.heap.size H (H.alloc (MY #[Q I M] 3)):=(MU _ H).alloc (MP _) _;have hn:ir (H.alloc (MY #[Q I M] 3)) (MR (N ⟨H.heap.size,0,S⟩) 1 1) [(M:Int)]:=⟨_,_,H.heap.size,rfl,λj hj=>by
          have:j=0:=by simp at hj;exact hj
          subst this;exact⟨rfl,aB (aU _ _) rfl⟩⟩
         have hx:=mM y {x with kv:=P,K:=s} ⟨c,i,Md,f,l,g,a⟩ [(M:Int)] (MR (N ⟨H.heap.size,0,S⟩) 1 1) (H.alloc (MY #[Q I M] 3)) ((u.o.aD p6.o).aD K0) hn (λt ht=>by rw[List.mem_singleton]at ht;subst ht;show 0<=(M:Int)/\(M:Int)<x.Q.length;omega) (by simp) e3.o h7 z5 (by show c.size+i.size+g.size+a.size<=10000;omega);exact hx)
        simp only[an]at E;have j0:=aB (j:=0) g2.o rfl;have j1:=aB (j:=1) g2.o rfl;have j2:=aB (j:=2) g2.o rfl;have j3:=aB (j:=3) g2.o rfl;have j4:=aB (j:=4) g2.o rfl;have j5:=aB (j:=5) g2.o rfl;have j6:=aB (j:=6) g2.o rfl;have R0:=aJ g2.o;have K1:aA (Mb W4.heap.size W4 (H.alloc (MY #[Q I M] 3))):=A (p6.o.alloc p6.o.size _);clear a0 b9 n2 u7;go_wp2_with fail
        refine E.o.mono ?_;rintro e W8 ⟨lv,rfl,D2,E0⟩;have B:=A (dw b5.o c1.o u.o a5.o K1.o E0 D2 J2.o C.o.ne);clear D2 E0;go_wp2;go_ret2;exact B.o
      ·have R2:(ac==2)=false:=by rw[beq_eq_false_iff_ne];exact h0
       rw[if_neg h0]at b9;have d5:=A (a0.o.2 b9.o);clear a0 b9 n0 n1 i9 h0;have k0:=aB (j:=0) m.o rfl;have k1:=aB (j:=1) m.o rfl;have k2:=aB (j:=2) m.o rfl;have k3:=aB (j:=3) m.o rfl;have k4:=aB (j:=4) m.o rfl;have k5:=aB (j:=5) m.o rfl;have k6:=aB (j:=6) m.o rfl;have i6:=aJ m.o;have t8:=(u.o.aD n.o).lt;have CF:=eU y {x with kv:=P,K:=s} f wq (u.o.aD n.o) (by show x.Fl.length<=1000;have:=Z.o.n;have:=Z.o.p.length_eq;omega);obtain⟨U,b2⟩:=UX (cH x.Fl f);rw[show cH ({x with kv:=P,K:=s}:aK).Fl f=U from b2.symm]at CF;have c8:=A CF;have d6:aA (dU Fs ⟨k,d,⟨c,i,Md,f,l,g,a⟩,a,cn a,bT a 2,Mk,Md⟩=(c.toList==U.toList)):=A (by rw[b2];exact fT Z.o z1);clear CF b2;go_wp2_with fail
       refine c8.o.mono ?_;rintro e W0 ⟨rfl,b4⟩;rw[b4];clear b4 W0 c8;cases f9:(c.toList==U.toList)with
       |false=>
        have c2:=A (d5.o.2 ⟨k,d,⟨c,i,Md,f,l,g,a⟩,a,cn a,bT a 2,Mk,Md⟩ (ji (d6.o.trans f9)));have E:=A (dE y {x with kv:=P,K:=s} ⟨k,d,⟨c,i,Md,f,l,g,a⟩,a,cn a,bT a 2,Mk,Md⟩ wq (u.o.aD n.o) f5.o e3.o (C.o.length f6.o) (λe o=>(C.o.ub o).elim (λe1=>by rw[e1];exact⟨⟨Ns k,g4⟩,HG.o⟩) (λh1=>g3.o e h1)) (by show 0<c.size;omega) h7 z5 (by show c.size+i.size+g.size+a.size<=10000;omega));simp only[an]at E;go_wp2_with fail
        refine E.o.mono ?_;rintro e H ⟨lv,o,b3,J⟩;have D:=c2.o;rw[iP]at o b3;obtain⟨X,F⟩:=UX ((if(mJ x.P s ⟨k,d,⟨c,i,Md,f,l,g,a⟩,a,cn a,bT a 2,Mk,Md⟩).length=0 then 8 else 0):Int);rw[<-F]at o D;subst o;have B:=A (dw b5.o c1.o u.o a5.o n.o J b3 D C.o.ne);clear b3 J F D;go_wp2;go_ret2;exact B.o
       |true=>
        have g0:iJ Fs R ⟨k,d,⟨c,i,Md,f,l,g,a⟩,a,cn a,bT a 2,Mk,Md⟩=jh Fs R ⟨k,d,⟨c,i,Md,f,l,g,a⟩,a,cn a,bT a 2,Mk,Md⟩:=lM l4.o (d6.o.trans f9);have c9:=A d5.o;rw[g0]at c9;have CR:=A (iZ q2 y bf {x with kv:=P,K:=s} ⟨k,d,⟨c,i,Md,f,l,g,a⟩,a,cn a,bT a 2,Mk,Md⟩ Fs R wq (u.o.aD n.o) m.o Z.o h8.o (λ_=>⟨rfl,u0,by show a.size<=1000;omega⟩));clear g0;go_wp2_with fail
        refine CR.o.mono ?_;rintro e H ⟨r,rfl,F⟩;rcases F with⟨l5,Y,J⟩|⟨rfl,q,Y,G,d0⟩
        ·have A1:(r !=0)=true:=by rw[bne_iff_ne];exact l5
         have B:=A (dl b5.o c1.o u.o a5.o (n.o.trans (J.mono n.o.size)) (c9.o.1 r Y) C.o.ne);clear Y J CR;go_wp2;go_ret2;exact B.o
        ·have v:=sX h8.o Z.o Y;have c2:=A (c9.o.2 q Y);have d1:=aT.DU (u.o.aD n.o) HX.o d0 e4.o (λb hb=>(a5.o b hb).imp id λe=>by have:=t6.o;omega);have E:=A (dE y {x with kv:=P,K:=s} q H d1 f5.o e3.o (C.o.length f6.o) (λe o=>(C.o.ub o).elim (λe1=>by rw[e1];exact⟨⟨Ns k,g4⟩,HG.o⟩) (λh1=>g3.o e h1)) (by rw[v.2.2.1];decide) v.2.2.2.1 (by rw[v.2.2.2.2.1];decide) (by rw[v.2.2.1,v.2.2.2.2.2.1,v.2.2.2.2.2.2.1,v.2.2.2.2.2.2.2];show 6+6+g.size+a.size<=10000;omega));rw[v.1,v.2.1]at E;simp only[an]at E;have l6:=A d1;have l7:=A d0;clear Y v d1 d0 CR k0 k1 k2 k3 k4 k5 k6;have m0:=aB (j:=0) G rfl;have m1:=aB (j:=1) G rfl;have m2:=aB (j:=2) G rfl;have m3:=aB (j:=3) G rfl;have m4:=aB (j:=4) G rfl;have m5:=aB (j:=5) G rfl;have m6:=aB (j:=6) G rfl;clear G;go_wp2_with fail
         refine E.o.mono ?_;rintro e W7 ⟨lv,o,d2,g1⟩;have D:=c2.o;rw[iP]at o d2;obtain⟨X,F⟩:=UX ((if(mJ x.P s q).length=0 then 8 else 0):Int);rw[<-F]at o D;subst o;have B:=A (fA b5.o c1.o l6.o a5.o n.o e4.o l7.o g1 d2 D C.o.ne);clear d2 g1 F D;go_wp2;go_ret2;exact B.o
end
theorem JK(f:cC L)(g:∀e∈L,(Lit.int I e.2.id).wf=Mk)(b:ByteArray):(Lit.int I (ju L b).1).wf=true:=by
 obtain⟨z,c⟩:=pi (n9 L) (i7 b 12) (i7 b 16) (b8 b 9) (pB b) (pA b);obtain⟨h,i⟩:=tU f (DD b) c;unfold ju;rcases c with⟨e,-⟩|⟨k,d,e,-,-⟩
 ·rw[tT (h e)];rfl
 ·rw[tT (i k d e)];obtain⟨a,j,l⟩:=OD.1 (Ms d);show(Lit.int I (n9 L)[k].id).wf=Mk;rw[<-l];exact g a j
theorem D8(h:iJ a R p=.inr q):q=p\/jh a R p=.inr q:=by
 by_cases b:(cj p.f.ty==2)=Md
 ·rw[wN b]at h;cases h;exact Mf rfl
 ·by_cases c:dU a p=Md
  ·rw[ji c]at h;cases h;exact Mf rfl
  ·rw[lM (by simpa using b) (by simpa using c)]at h;exact MX h
theorem Ik(h:(gI p).right=Mk)(b:p.right=Md):(gI p).pb=p.f.rest/\20<=p.f.rest.size:=by
 unfold gI rz at h⊢;split at h
 ·rename_i c
  rw[if_pos c];split at h
  ·rename_i a
   rw[if_pos a];exact⟨rfl,(wo a).1⟩
  ·cases h
 ·rw[b]at h;cases h
theorem Kn(h:jh a R p=.inr q):p.right=true:=by
 unfold jh at h;split at h
 ·cases h
 ·rename_i b;simpa using b
theorem Av(d:aC)(b:Int)(c:ByteArray)(w:MV)(h:d.aP w)(l:0<d.P.length)(m:d.P.length<=8)(n:d.K.length<=64)(o:∀p∈d.P,0<=p.nat/\p.nat<4096)(a:d.cN)(r:d.P.length=d.x.Q.length)(s:w.cell? ⟨d.k,1,S⟩=S):Mo MT 20 #[MQ (N ⟨d.s,0,S⟩),Q I b,MS c] w (iS w d.k d.m d.sv (aR d.P d.K gI (kj d.L d.V d.P) (iJ d.Fs d.R) b c)):=by
 have j:∀p∈d.P,(Lit.int I p.nat).wf=true:=λp t=>WalkArith.wf_i64 (by have:=o p t;omega);have i:=h.kP l s;refine un d.s d.k d.m d.pv d.sv d.P d.K b c w h.p m n j _ _ _ (I8 d.s d.k d.m d.fm d.t d.vb d.rb d.hb d.pv d.sv d.fsv d.hsv d.P d.K d.Fs d.F d.L d.V d.R b c w h.p h.r (λW u=>?_) a.h.Jj j (λv e=>by rw[r];exact a.v.port v e) (JK h.r.hT.jw a.v.w) (λf q k x y e=>?_))
 ·exact h.h.aj u (λe=>(i _ (MX e)).1 rfl) (λe=>(i _ (MX e)).2.2.2.2.2.2.2.1 rfl) (λe=>(i _ (MX e)).2.2.2.2.2.2.2.2.1 rfl) (λg z e=>(i _ (MX e)).2.2.2.2.2.2.2.2.2.1 z)
 ·have B:=lO k;have H:=rU k y;rcases D8 e with rfl|e
  ·unfold Jf;rw[wE];refine⟨pk x j B.1,?_⟩;simp only[ja];omega
  ·obtain⟨-,-,C,J,-,D,E,F⟩:=sX a.h a.f e;obtain⟨G,-⟩:=Ik (Kn e) rfl;refine⟨WalkArith.wf_i64 O,?_⟩;rw[C,D,E,F,G,wE];simp only[ja];omega
theorem Ab(s:pZ)(y:Nat)(x:aK)(b:Int)(d:ByteArray)(w:MV)(h:aT w y x)(t:∀q∈x.Q,q.T.length<1000000000000)(u:x.Q.length<=8)(v:x.K.length<=64)(z:bZ x.K)(B:∀e∈x.K,(0<=e.port/\e.port<x.Q.length)/\dH e.mac=Md)(C:∀q∈x.Q,0<=q.nat/\q.nat<4096)(L:List af)(V:Int->Int×Int)(g:List Fc)(R:List Rt)(D:dD g x.Fl)(E:de R x.Hl)(F:fY x.Q.length L x.rs V)(G:cC L)(H:∀r∈x.rs,r.ok=Mk)(J:x.rs.length<=200):Mo MT 71 #[MQ (N ⟨y,0,S⟩),Q I b,MS d] w (gV y x (aR x.P x.K gI (kj L V x.P) (iJ g R) b d) w):=by
 have hl:x.P.length=x.Q.length:=by unfold aK.P;rw[ND]
 by_cases K:0<=b/\b<x.Q.length
 ·by_cases a:aq d= -1
  ·obtain⟨k,rfl⟩:∃k:Nat,b=k:=⟨b.toNat,O⟩;have M:=gQ a;cases c:bd d with
   |none=>unfold aq at a;rw[if_neg O,c]at a;cases a
   |some f=>
    have l:dH f.fr=false:=by
     unfold aq at a;rw[if_neg O,c]at a;cases l:dH f.fr with
     |false=>rfl
     |true=>simp only[l]at a;cases a
    have m:0<=(k:Int)/\(k:Int)<x.P.length:=⟨O,O⟩;have P:cG (iD x.P k) f=Mk->aR x.P x.K gI (kj L V x.P) (iJ g R) k d 3 [] x.K:=λj=>.barred f m a c j;have T:cG (iD x.P k) f=Md->∀i,dy x.K ⟨eV (iD x.P k) f,f.fr,k,0⟩ i->IX (aR x.P x.K gI (kj L V x.P) (iJ g R) k d) x.P L V g R i (gI (ja x.P k d f)):=λj i o=>by
     refine⟨λr Lo n=>.judged f i r Lo m a c j o n,λn=>⟨λr p=>.stopped f i r m a c j o n p,λq p=>?_⟩⟩;exact aR.out f i q m a c j o n p
    obtain⟨U,W,fg,X,Y,Z,fz⟩:=f;cases fg with
    |true=>exact wD s y x k d U W Z fz X Y w h O t u v z B C M c l L V g R D E F G H J _ P T
    |false=>exact wC s y x k d U W Z fz X Y w h O t u v z B C M c l L V g R D E F G H J _ P T
  ·exact Ac y x b d w h _ K a (.bad O a)
 ·exact ry y x b d w h _ K (.unknown O)
section
attribute [local go_sem] Oper.semAt_some aI
theorem Dv(P:List b7)(p:Pg)(t:Int):(eG P p t).length<=1:=by
 unfold eG;split<;>simp
theorem zN{P:List b7}{K:List Mc}{b:Pg->Pg}{E:List af}{e:Pg->Int⊕Pg}{c:Int}{d:ByteArray}{r:Int}{L:List (Int×ByteArray)}{g:List Mc}(h:aR P K b (kj E V P) e c d r L g):L.length<=P.length:=by
 cases h with
 |unknown _=>exact NG _
 |bad _ _=>exact NG _
 |barred _ _ _ _ _=>exact NG _
 |stopped _ _ _ _ _ _ _ _ _ _=>exact NG _
 |out f _ q _ _ _ _ _ _ _=>exact mn _ _ _ _ _
 |judged f _ _ _ i _ _ _ _ a=>
  unfold kj at a;split at a
  ·split at a
   ·cases a;exact NG _
   ·split at a
    ·cases a;have:=Dv P (b (ja P c d f)) (V (ju E (b (ja P c d f)).pb).1).2;omega
    ·cases a
  ·cases a
theorem BV(o5:pZ)(w:MV)(C i:Nat)(tv G kv:Value)(n:Nat)(Ts:List aL)(g:List aC)(Ks:List au)(l:Nat->Nat)(M:Int)(d4:Int)(d5:ByteArray)(h:LW w C tv G kv n Ts Ks l)(hs:LS w G g l M)(hi:i<g.length)(R:g[i].cN)(hn:n<100000000000)(hK:Ks.length+4<=100000000000):Mo MT 28 #[MQ (N ⟨C,0,S⟩),MQ (N ⟨g[i].p,0,S⟩),Q I d4,MS d5] w λe W=>e=MZ (M0 Mk)/\∃a8 T y d',T.length=Ks.length+4/\LW W C tv G a8 (n+1) Ts T y/\LS W G (g.set i d') y M/\d'.cN/\cz w W l y:=by
 have s:=hs.sw i hi;obtain⟨d,b0⟩:=UX (g[i]);rw[<-b0]at s R⊢;have hP:d.P.length=d.x.Q.length:=by rw[s.eP];unfold aK.P;rw[ND]
 have i0:0<d.P.length:=by rw[hP];exact s.n0
 have hN:∀p∈d.P,0<=p.nat/\p.nat<4096:=λp R=>by
  rw[s.eP]at R;obtain⟨q,hq,rfl⟩:=OD.1 R;exact s.nt q hq
 have q0:=s.c0;have q1:=s.c1;have o6:d.p<w.heap.size:=MO q0;have CR:=A (Av d d4 d5 w s.imp i0 (by rw[hP];exact s.n8) (by rw[s.eK];exact s.k64) hN R hP s.one);have H:=A h;have HS:=A hs;have c:=A s;have E:=A R;have HN:=A hn;have HK:=A hK;have p0:=A b0;clear h hs s R hn hK b0 hN;go_enter func28,ntmps28;go_wp2_with fail
 refine CR.o.mono ?_;rintro e F ⟨r,L,K1,z,J,rfl,P,e5,c3,i5,i6,c4⟩;have mX:∀b,KX d.m d.sv b->d.bV b:=λb u=>by
  rcases u with e|e
  ·exact MX (MX (Mf e))
  ·exact MX (MX (MX (Mf e)))
 have i8:¬KX d.m d.sv d.p:=λe=>by have:=c.o.cI _ (mX _ e);rw[c.o.cp]at this;omega
 have p1:=c4.block.cell i8 q1;have p2:d.p<F.heap.size:=MO p1;have e6:aT F d.y d.x:=c.o.ref.aj λb u a5=>c4.block b a5 λe=>by
  have m:=c.o.cI b (mX b e);rw[c.o.cX b u]at m;omega
 have CX:=A (Ab o5 d.y d.x d4 d5 F e6 (λq hq=>by have:=c.o.tl q hq;omega) c.o.n8 c.o.k64 (by rw[<-c.o.eK];exact c.o.imp.p.hK.2.2.2) c.o.kp c.o.nt d.L d.V d.Fs d.R E.o.f E.o.h E.o.v c.o.imp.r.hT.jw (by rw[E.o.v.r];exact c.o.imp.r.hT.Lq) (by rw[E.o.v.r,ND];exact c.o.imp.r.hT.AL));obtain⟨a1,c1,D,e7,j1⟩:=I1 e5;have j2:=A P;have j3:=A e5;have j4:=A c3;have j5:=A i5;have e8:=A i6;have f4:=A c4;have j6:=A j1;have f5:=A e7;have t1:=A e6;have p4:=A mX;rw[e7];clear P e5 c3 i5 i6 c4 j1 e7 e6 mX i8 CR q0 q1 o6;go_wp2_with fail
 refine CX.o.mono ?_;rintro e U ⟨lv,r2,L2,V,K2,rfl,f6,k0,c6,c7,k1,k2⟩;have P:=j2.o;rw[c.o.eK]at P;rw[<-c.o.eP]at f6;obtain⟨er,eL,eK⟩:=uX P f6;subst er eL eK;obtain⟨a2,c2,g2,k3,c9⟩:=k0.row iy;have t7:L.length<=8:=Nat.le_trans (zN P) (by rw[hP];exact c.o.n8);have t8:(L.length:Int)<=8:=O;have b5:∀x,z.ownBlock=N x->w.heap.size<=x/\x<F.heap.size:=λx f=>j3.o.lt x f;have f7:∀x,z.ownBlock=N x->¬(x=d.y\/d.x.kv.ownBlock=N x):=λx f e=>by
  have Y:=(b5 x f).1;rcases e with e|e
  ·have:=c.o.ref.lt;omega
  ·have:=c.o.ref.rk.lt e;omega
 have k4:U.ownsRow w.heap.size 66 2 z L.length (lK L):=ap j3.o λx f=>c7.block x (b5 x f).2 (f7 x f);have q4:aA (∀k (Z:k<L.length),a1=N ⟨D,0,S⟩/\U.cell? ⟨D,k*2,S⟩=N (Q I L[k].1)/\U.cell? ⟨D,k*2+1,S⟩=N (MS L[k].2)):=A λk Z=>by
  obtain⟨ha,e0,m⟩:=j6.o k Z;have f:z.ownBlock=N D:=by rw[f5.o,ha];rfl
  have u:=c7.block D (b5 D f).2 (f7 D f);exact⟨ha,(Mj (a:=⟨D,k*2,S⟩) u).trans e0,(Mj (a:=⟨D,k*2+1,S⟩) u).trans m⟩
 have q5:aA (∀k (Z:k<L.length),a2=N ⟨g2,0,S⟩/\U.cell? ⟨g2,k*2,S⟩=N (Q I L[k].1)/\U.cell? ⟨g2,k*2+1,S⟩=N (MS L[k].2)):=A λk Z=>⟨(c9 k Z).1,(c9 k Z).2 0 _ rfl,(c9 k Z).2 1 _ rfl⟩;have k6:=A k4;have HR:=A P;have f8:=A c6;have f9:=A c7;have g0:=A k1;have t9:=A k2;have g3:=A b5;rw[k3];clear P f6 k0 c6 c7 k1 k2 k3 c9 CX p1 p2 b5 f7 k4 j2 j6;go_wp2_with fail
 go_loopw [13,14] (λo i wr=>o=M0 Mk/\∃j:Nat,j<=L.length/\i=Q I j/\Mb U.heap.size U wr) (λ_ i _=>L.length- (intOf i).toNat)
 case atStart=>exact⟨by simp,0,O,rfl,MU _ _⟩
 case round=>
  obtain⟨rfl,j,hj,rfl,B⟩:=hrel;by_cases k7:j<L.length
  ·have q7:(j:Int)<L.length:=by omega
   obtain⟨rfl,e0,m⟩:=q4.o j k7;obtain⟨rfl,e2,e3⟩:=q5.o j k7;obtain⟨po,l0⟩:=UX (L[j].1);obtain⟨da,l4⟩:=UX (L[j].2);rw[<-l0]at e0 e2;rw[<-l4]at m e3;have f0:=MW B e0;have f1:=MW B m;have f2:=MW B e2;have f3:=MW B e3;have l1:D<wr.heap.size:=MO f0;have l2:g2<wr.heap.size:=MO f2;have l7:=A B;clear B l0 l4 e0 m e2 e3;go_wp2_with fail
   refine Mg UR UR ?_
   repeat(quiet_step (fail))
   refine M3 ?_;intro wq a6;replace a6:=aE a6;obtain⟨r0,r1⟩:=aW a6;have r3:=a6.size;have HQ:=A a6;clear a6 r0 r1 r3 f0 f1 f2 f3;go_wp2_with fail
   go_roundw
   case rel=>exact⟨by simp,j+1,O,by go_num,l7.o.trans (HQ.o.mono l7.o.size)⟩
   case measure=>simp[intOf];omega
  ·have q7:¬(j:Int)<L.length:=by omega
   have r5:d.m<w.heap.size:=c.o.imp.lt (MX (MX (Mf rfl)));have l8:aH (λb=>(b=d.k\/KX d.m d.sv b)\/(b=d.y\/d.x.kv.ownBlock=N b)) w wr:=((f4.o.mono λx _ f=>Mf (MX f)).trans (f9.o.mono λx _ f=>MX f)).trans (aH.aG B);have g5:∀x,((x=d.k\/KX d.m d.sv x)\/(x=d.y\/d.x.kv.ownBlock=N x))->l x=6*i+10\/l x=6*i+13:=λx f=>by
    rcases f with(e|e)|e|e
    ·exact Mf (c.o.cI x (MX (Mf e)))
    ·exact Mf (c.o.cI x (p4.o x e))
    ·exact MX (c.o.cX x (Mf e))
    ·exact MX (c.o.cX x (MX (MX (MX (MX (MX (Mf e)))))))
   have g6:∀x,x<w.heap.size->dO l w.heap.size i d.m J V x=l x:=λx f=>by unfold dO;rw[if_pos f]
   have ws:WS wr C tv G kv n Ks (dO l w.heap.size i d.m J V):=H.o.ws.aj l8 (λx f _=>by have:=g5 x f;omega) (λx f _=>g6 x f);have s1:=f4.o.size;have s2:=f9.o.size;have s3:=B.size;have m1:KP wr 66 2 z L.length:=mT (ap k6.o λx f=>B.block x (k6.o.lt x f).2);have m2:∀x,z.ownBlock=N x->dO l w.heap.size i d.m J V x=0:=λx f=>by
    obtain⟨b1,b2⟩:=g3.o x f;unfold dO;rw[if_neg O,if_neg,if_neg]
    ·intro e;rcases g0.o x e with t|t
     ·have:=c.o.ref.rk.lt t;omega
     ·omega
    ·rintro(e|e)
     ·exact(e8.o x f).2 e
     ·exact(e8.o x f).1 e
   have CL:=EX wr C tv G kv z n L.length Ks (dO l w.heap.size i d.m J V) ws m1 m2 O HN.o HK.o;rw[f5.o]at CL;have m3:=A CL;have HB:=A B;clear CL ws m1 B m2;go_wp2_with fail
   refine m3.o.mono ?_;rintro e W ⟨rfl,a8,T,y,m4,m5,c0,g9⟩;rw[<-f5.o]at c0;have r7:C<w.heap.size:=MO H.o.c0;have m6:∀x,(x=C\/kv.ownBlock=N x\/z.ownBlock=N x)->(x<w.heap.size/\(l x=1\/l x=3))\/z.ownBlock=N x:=λx f=>by
    rcases f with e|e|e
    ·rw[e];exact Mf ⟨r7,Mf H.o.cw⟩
    ·exact Mf ⟨H.o.rK.lt e,MX (H.o.cK x e)⟩
    ·exact MX e
   have n0:∃a8 T y d',T.length=Ks.length+4/\LW W C tv G a8 (n+1) Ts T y/\LS W G (g.set i d') y M/\d'.cN/\cz w W l y:=by
    have b0:=p0.o;subst b0;have n1:∀b,J.ownBlock=N b->b<F.heap.size:=λb e=>(ae j4.o.2.2.1.1.2.2.1 e).2;have v0:=c.o.imp.kP i0 c.o.one;have h3:g[i].k<w.heap.size:=c.o.imp.lt (MX (Mf rfl));have n2:l g[i].k=6*i+10:=c.o.cI _ (MX (Mf rfl));have s0:l g[i].m=6*i+10:=c.o.cI _ (MX (MX (Mf rfl)));have n3:∀b,b<F.heap.size->(b<w.heap.size->l b=6*i+10)->z.ownBlock≠N b->W.heap[b]?=F.heap[b]?:=λb u n4 s4=>by
     rw[c0.block b O (λe=>by
      rcases m6 b e with⟨Y,h2⟩|Y
      ·rw[n4 Y]at h2;omega
      ·exact s4 Y),HB.o.block b O,f9.o.block b u (λe=>by
      have a5:b<w.heap.size:=by
       rcases e with e|e
       ·rw[e];exact c.o.ref.lt
       ·exact c.o.ref.rk.lt e
      have m:=g5 b (MX e);have e2:l b=6*i+13:=by
       rcases e with e|e
       ·exact c.o.cX b (Mf e)
       ·exact c.o.cX b (MX (MX (MX (MX (MX (Mf e))))))
      rw[n4 a5]at e2;omega)]
    have d0:∀b,b<w.heap.size->z.ownBlock≠N b:=λb u e=>by have:=(g3.o b e).1;omega
    have c3:bB W g[i].k g[i].m J K1:=j4.o.aj λb u e=>by
     refine n3 b u (λa5=>?_) ?_
     ·rcases e with e|e|e
      ·rw[e];exact n2
      ·rw[e];exact s0
      ·rcases j5.o b e with t|t
       ·exact c.o.cI b (MX (MX (MX (Mf t))))
       ·omega
     ·intro t;rcases e with e|e|e
      ·exact d0 b (by rw[e];exact h3) t
      ·exact d0 b (by rw[e];exact r5) t
      ·exact(e8.o b t).1 e
    have nk:¬KX g[i].m g[i].sv g[i].k:=by
     rintro(e|e)
     ·have:=c.o.imp.p.hK.1;rw[e,c.o.imp.p.hK.2.2.1.1.1]at this;cases this
     ·obtain⟨v,hv⟩:=(c.o.imp.p.hK.2.2.1.fB e).1;rw[c.o.imp.p.hK.1]at hv;cases hv
    have s6:W.cell? ⟨g[i].k,1,S⟩=none:=by
     rw[Mj (a:=⟨g[i].k,1,S⟩) ((n3 _ O (λ_=>n2) (d0 _ h3)).trans (f4.o.block _ h3 nk))];exact c.o.one
    have c6:aT W g[i].y {g[i].x with kv:=V,K:=K1}:=(f8.o.aD HB.o).aj λb u a5=>c0.block b a5 λe=>by
     have v1:(b<w.heap.size/\l b=6*i+13)\/F.heap.size<=b:=by
      have a0:g[i].x.cR g[i].y b->(b<w.heap.size/\l b=6*i+13)\/F.heap.size<=b:=λe=>Mf ⟨c.o.ref.AG e,c.o.cX b e⟩;rcases u with e|e|e|e|e|e|e
      ·exact a0 (Mf e)
      ·exact a0 (MX (Mf e))
      ·exact a0 (MX (MX (Mf e)))
      ·exact a0 (MX (MX (MX (Mf e))))
      ·exact a0 (MX (MX (MX (MX (Mf e)))))
      ·rcases g0.o b e with t|t
       ·exact a0 (MX (MX (MX (MX (MX (Mf t))))))
       ·exact MX t
      ·exact a0 (MX (MX (MX (MX (MX (MX e))))))
     rcases m6 b e with⟨Y,h2⟩|Y
     ·omega
     ·have:=g3.o b Y;omega
    have n8:aH (λb=>((b=g[i].k\/KX g[i].m g[i].sv b)\/(b=g[i].y\/g[i].x.kv.ownBlock=N b))\/(b=C\/kv.ownBlock=N b)) w W:=aH.vZ (X:=λb=>((b=g[i].k\/KX g[i].m g[i].sv b)\/(b=g[i].y\/g[i].x.kv.ownBlock=N b))\/(b=C\/kv.ownBlock=N b)) (l8.mono λx _ f=>Mf f) c0 λx f d1=>by
     rcases f with e|e|e
     ·exact MX (Mf e)
     ·exact MX (MX e)
     ·exact absurd e (d0 x d1)
    have kn:K1.length<=64/\(∀e∈K1,(0<=e.port/\e.port<g[i].x.Q.length)/\dH e.mac=Md)/\∀e∈K1,iQ e:=by
     rcases xA HR.o with e|⟨o0,v,v2,hl,hg⟩
     ·rw[e];exact⟨c.o.k64,c.o.kp,c.o.yg⟩
     ·rw[hP]at o0;refine⟨hl.length c.o.k64,λe he=>?_,λe he=>?_⟩
      ·rcases hl.ub he with m|m
       ·rw[m];exact⟨o0,hg⟩
       ·exact c.o.kp e m
      ·rcases hl.ub he with m|m
       ·rw[m];exact⟨To 0,show(0:Int)<=300 by decide⟩
       ·exact c.o.yg e m
    have o1:∀x,x<w.heap.size->l x≠0->y x=l x:=λx f h0=>(g9 x O (by rw[g6 x f];exact h0)).trans (g6 x f);have s8:∀x,w.heap.size<=x->dO l w.heap.size i g[i].m J V x≠0->y x=dO l w.heap.size i g[i].m J V x:=λx f h0=>by
     by_cases d1:x<wr.heap.size
     ·exact g9 x d1 h0
     ·refine absurd ?_ h0;unfold dO;rw[if_neg O,if_neg,if_neg]
      ·intro e;have:=f8.o.rk.lt e;omega
      ·rintro(e|e)
       ·omega
       ·have:=n1 x e;omega
    have o2:=FC H.o HS.o hi c3 (Mf rfl) j5.o s6 c6 (λb e=>(g0.o b e).imp id λt=>⟨O,O,λm=>by have:=n1 b m;omega⟩) n8 m5 o1 s8 kn.1 kn.2.1 kn.2.2 f8.o.rk.2 c.o.now (To _);refine⟨a8,T,y,_,m4,o2.1,o2.2,⟨E.o.f,E.o.h,E.o.v,E.o.q⟩,⟨_,n8,λx f d1=>?_⟩,o1⟩;rcases f with e|e|e
    ·have:=g5 x e;omega
    ·rw[e,H.o.cw];omega
    ·rw[H.o.cK x e];omega
   have HF:=A n0;clear n0 g9 c0 m5 m4 m3 HB;go_wp2;go_ret;exact⟨rfl,HF.o⟩
end
section
attribute [local go_sem] Oper.semAt_some aI
attribute [local go_sem ↓ high] lV
theorem vJ{n:Nat}{t a:Nat}{F:Nat->Prop}{r:Rl}{w W:MV}(h:if ij r n then Mb w.heap.size w W else rJ t a F L V r w W):aH (λb=>F b\/b=a) w W:=by
 split at h
 ·exact aH.aG h
 ·obtain⟨_,_,_,_,h,_⟩:=h;exact h
theorem wk(w:MV)(G i:Nat)(H o J:Value)(n:Nat)(K:List aL)(p:List aC)(L:List au)(y:Nat->Nat)(M:Int)(oa oN oM oK:Int)(oS:ByteArray)(la:Option Addr)(ll lc:Nat)(r:Rl)(x0 x1 x2 x3 x4:Int)(h:LW w G H o J n K L y)(hs:LS w o p y M)(hi:i<p.length)(s:p[i].cN)(hw:(Lit.int I r.id).wf=Mk)(hM:M<=100000000000000000):Mo MT 29 #[MQ (N ⟨p[i].p,0,S⟩),M1 #[Q I 11,Q I oa,Q I oN,Q I oM,Q I oK,MS oS,MR la ll lc,Q I r.id,Q I r.pr,Q I r.k0,Q I r.v0,Q I r.m0,Q I r.k1,Q I r.v1,Q I r.m1,Q I r.k2,Q I r.v2,Q I r.m2,Q I r.k3,Q I r.v3,Q I r.m3,Q I r.k4,Q I r.v4,Q I r.m4,Q I r.ac,Q I r.po,Q I x0,Q I x1,Q I x2,Q I x3,Q I x4]] w λe W=>e=MZ (M0 Mk)/\∃l m,LW W G H o J n K L l/\LS W o (p.set i m) l (M+1000000)/\m.cN/\cz w W y l:=by
 obtain⟨P,R,T⟩:=dJ;obtain⟨a,U⟩:=UX (w.alloc (MY #[Q I 11,Q I oa,Q I oN,Q I oM,Q I oK,MS oS,MR la ll lc,Q I r.id,Q I r.pr,Q I r.k0,Q I r.v0,Q I r.m0,Q I r.k1,Q I r.v1,Q I r.m1,Q I r.k2,Q I r.v2,Q I r.m2,Q I r.k3,Q I r.v3,Q I r.m3,Q I r.k4,Q I r.v4,Q I r.m4,Q I r.ac,Q I r.po,Q I x0,Q I x1,Q I x2,Q I x3,Q I x4] 41));obtain⟨f,V⟩:=UX w.heap.size;have X:=UY U;have hk:a.rangeAt f 0 [Q I 11,Q I oa,Q I oN,Q I oM,Q I oK,MS oS,MR la ll lc,Q I r.id,Q I r.pr,Q I r.k0,Q I r.v0,Q I r.m0,Q I r.k1,Q I r.v1,Q I r.m1,Q I r.k2,Q I r.v2,Q I r.m2,Q I r.k3,Q I r.v3,Q I r.m3,Q I r.k4,Q I r.v4,Q I r.m4,Q I r.ac,Q I r.po,Q I x0,Q I x1,Q I x2,Q I x3,Q I x4]:=by rw[U,V];exact aN _ _ _
 have k0:a.cell? ⟨f,0,S⟩=N (Q I 11):=hk 0 _ rfl;have k7:a.rangeAt f 7 [Q I r.id,Q I r.pr,Q I r.k0,Q I r.v0,Q I r.m0,Q I r.k1,Q I r.v1,Q I r.m1,Q I r.k2,Q I r.v2,Q I r.m2,Q I r.k3,Q I r.v3,Q I r.m3,Q I r.k4,Q I r.v4,Q I r.m4,Q I r.ac,Q I r.po]:=uj hk;have f0:(mC (MQ (N ⟨f,7,S⟩))).run MT a.drew=.ok (M1 #[Q I r.id,Q I r.pr,Q I r.k0,Q I r.v0,Q I r.m0,Q I r.k1,Q I r.v1,Q I r.m1,Q I r.k2,Q I r.v2,Q I r.m2,Q I r.k3,Q I r.v3,Q I r.m3,Q I r.k4,Q I r.v4,Q I r.m4,Q I r.ac,Q I r.po]) a.drew:=NW a.drew f 7 37 [Q I r.id,Q I r.pr,Q I r.k0,Q I r.v0,Q I r.m0,Q I r.k1,Q I r.v1,Q I r.m1,Q I r.k2,Q I r.v2,Q I r.m2,Q I r.k3,Q I r.v3,Q I r.m3,Q I r.k4,Q I r.v4,Q I r.m4,Q I r.ac,Q I r.po] P k7 R T ay;have f5:f<a.heap.size:=MO k0;have Y:=(h.still X).still ((MU _ a).drew);have z:=(hs.still X).still ((MU _ a).drew);have g:=z.sw i hi;have t:=hs.sw i hi;obtain⟨d,B⟩:=UX (p[i]);rw[<-B]at g t s⊢;have q0:a.cell? ⟨d.p,0,S⟩=N (MQ (N ⟨d.s,0,S⟩)):=g.c0;have q1:a.cell? ⟨d.p,1,S⟩=N (MQ (N ⟨d.y,0,S⟩)):=g.c1;have f6:d.p<a.heap.size:=MO q0;have Z:Mb w.heap.size w a.drew:=X.drew;have v:∀b,(d.F b\/b=d.vb)->d.bV b:=λb e=>by
  rcases e with e|e
  ·exact MX (MX (MX (MX (MX (MX (MX (MX (MX (Mf e)))))))))
  ·exact MX (MX (MX (MX (MX (MX (MX (MX (Mf e))))))))
 have a0:¬((λb=>d.F b\/b=d.vb) f):=λe=>by have:=t.imp.lt (v f e);omega
 have C:¬((λb=>d.F b\/b=d.vb) d.p):=λe=>by have:=g.cI _ (v _ e);rw[g.cp]at this;omega
 obtain⟨x,D⟩:=UX (if ij r d.P.length then 1 else ah d.L r:Int);have CT:aA (Mo MT 79 #[MQ (N ⟨d.s,0,S⟩),M1 #[Q I r.id,Q I r.pr,Q I r.k0,Q I r.v0,Q I r.m0,Q I r.k1,Q I r.v1,Q I r.m1,Q I r.k2,Q I r.v2,Q I r.m2,Q I r.k3,Q I r.v3,Q I r.m3,Q I r.k4,Q I r.v4,Q I r.m4,Q I r.ac,Q I r.po]] a.drew λe k=>e=MZ (Q I x)/\(∃hI:(if ij r d.P.length then Mb a.drew.heap.size a.drew k else rJ d.t d.vb d.F d.L d.V r a.drew k),True)/\k.rangeAt f 7 [Q I r.id,Q I r.pr,Q I r.k0,Q I r.v0,Q I r.m0,Q I r.k1,Q I r.v1,Q I r.m1,Q I r.k2,Q I r.v2,Q I r.m2,Q I r.k3,Q I r.v3,Q I r.m3,Q I r.k4,Q I r.v4,Q I r.m4,Q I r.ac,Q I r.po]/\k.cell? ⟨d.p,0,S⟩=N (MQ (N ⟨d.s,0,S⟩))/\k.cell? ⟨d.p,1,S⟩=N (MQ (N ⟨d.y,0,S⟩))):=A ((Au d.s d.t d.vb d.pv d.P d.F d.L d.V r a.drew g.imp.p.h0 g.imp.p.hp g.imp.r.h3 g.imp.r.hT g.imp.r.h4 g.imp.r.hV (by have:=g.vs;unfold maxLen;omega) hw).mono λe k hh=>by
  obtain⟨h1,E⟩:=hh;rw[<-D]at h1;have F:=vJ E;exact⟨h1,⟨E,trivial⟩,λj u hu=>F.block.cell a0 (k7 j u hu),F.block.cell C q0,F.block.cell C q1⟩)
 have d2:=A (Mp Y (Mp z (Mp g (Mp t (Mp s (Mp B (Mp Z (Mp v D))))))));have d3:=A V;have d4:=A hw;clear h hs Y z g t s B Z X hk v a0 C D k7 hw hM;go_enter func29,ntmps29;go_wp2_with fail
 rw[<-U,<-V];clear U V;go_region_held3 (λq=>(mC (MQ (N ⟨f,7,S⟩))).run MT q=.ok (M1 #[Q I r.id,Q I r.pr,Q I r.k0,Q I r.v0,Q I r.m0,Q I r.k1,Q I r.v1,Q I r.m1,Q I r.k2,Q I r.v2,Q I r.m2,Q I r.k3,Q I r.v3,Q I r.m3,Q I r.k4,Q I r.v4,Q I r.m4,Q I r.ac,Q I r.po]) q/\q.cell? ⟨d.p,0,S⟩=N (MQ (N ⟨d.s,0,S⟩))) (go_keep)
  (first|(go_at_call 79;refine CT.o.mono ?_;rintro e k ⟨rfl,⟨hI,-⟩,br,f7,d5⟩;have HI:=A hI;clear hI;have c6:=A br;have bl:(mC (MQ (N ⟨f,7,S⟩))).run MT k=.ok (M1 #[Q I r.id,Q I r.pr,Q I r.k0,Q I r.v0,Q I r.m0,Q I r.k1,Q I r.v1,Q I r.m1,Q I r.k2,Q I r.v2,Q I r.m2,Q I r.k3,Q I r.v3,Q I r.m3,Q I r.k4,Q I r.v4,Q I r.m4,Q I r.ac,Q I r.po]) k:=NW k f 7 37 [Q I r.id,Q I r.pr,Q I r.k0,Q I r.v0,Q I r.m0,Q I r.k1,Q I r.v1,Q I r.m1,Q I r.k2,Q I r.v2,Q I r.m2,Q I r.k3,Q I r.v3,Q I r.m3,Q I r.k4,Q I r.v4,Q I r.m4,Q I r.ac,Q I r.po] P br R T ay;clear br))
 clear q0 q1 k0 f5 f6 f0 bl;have CX:aA (Mo MT 80 #[MQ (N ⟨d.y,0,S⟩),M1 #[Q I r.id,Q I r.pr,Q I r.k0,Q I r.v0,Q I r.m0,Q I r.k1,Q I r.v1,Q I r.m1,Q I r.k2,Q I r.v2,Q I r.m2,Q I r.k3,Q I r.v3,Q I r.m3,Q I r.k4,Q I r.v4,Q I r.m4,Q I r.ac,Q I r.po]] k.drew λe W=>e=MZ (Q I x)/\(∃l m,LW W G H o J n K L l/\LS W o (p.set i m) l (M+1000000)/\m.cN/\cz w W y l)/\W.rangeAt f 7 [Q I r.id,Q I r.pr,Q I r.k0,Q I r.v0,Q I r.m0,Q I r.k1,Q I r.v1,Q I r.m1,Q I r.k2,Q I r.v2,Q I r.m2,Q I r.k3,Q I r.v3,Q I r.m3,Q I r.k4,Q I r.v4,Q I r.m4,Q I r.ac,Q I r.po]/\W.cell? ⟨d.p,1,S⟩=N (MQ (N ⟨d.y,0,S⟩))):=A (by
  obtain⟨Y,z,g,t,s,B,Z,v,D⟩:=d2.o;have E:=HI.o;have F:=vJ E;have f9:aT k.drew d.y d.x:=(g.uF F λb hb _=>v b hb).aD ((MU _ k).drew);have g0:∀b,d.x.cR d.y b->b<w.heap.size:=λb hb=>t.ref.AG hb;refine(vx d.y d.x r k.drew f9 (by rw[s.v.r,ND];exact g.imp.r.hT.AL)).mono λe W hh=>?_;have e1:=DX hh;have mY:∀b,(b=d.y\/d.x.tv.ownBlock=N b)->d.x.cR d.y b:=λb e=>by
   rcases e with e|e
   ·exact Mf e
   ·exact MX (MX (MX (MX (Mf e))))
  have a0:¬((λb=>b=d.y\/d.x.tv.ownBlock=N b) f):=λe=>by have:=g0 _ (mY _ e);have:=d3.o;omega
  have C:¬((λb=>b=d.y\/d.x.tv.ownBlock=N b) d.p):=λe=>by have:=g.cX _ (mY _ e);rw[g.cp]at this;omega
  have e3:e=MZ (Q I x)/\∃l m,LW W G H o J n K L l/\LS W o (p.set i m) l (M+1000000)/\m.cN/\cz w W y l:=by
   subst B;obtain⟨h3,c,m,f1,f2,f3,f4⟩:=JD Y z hi s d4.o E ((MU _ k).drew) hh;exact⟨h3.trans (by rw[D]),c,m,f1,f2,f3,f4.iF Z⟩
  exact⟨e3.1,e3.2,λj u hu=>e1.block.cell a0 (c6.o j u hu),e1.block.cell C d5⟩)
 have g6:(mC (MQ (N ⟨f,7,S⟩))).run MT k.drew=.ok (M1 #[Q I r.id,Q I r.pr,Q I r.k0,Q I r.v0,Q I r.m0,Q I r.k1,Q I r.v1,Q I r.m1,Q I r.k2,Q I r.v2,Q I r.m2,Q I r.k3,Q I r.v3,Q I r.m3,Q I r.k4,Q I r.v4,Q I r.m4,Q I r.ac,Q I r.po]) k.drew:=NW k.drew f 7 37 [Q I r.id,Q I r.pr,Q I r.k0,Q I r.v0,Q I r.m0,Q I r.k1,Q I r.v1,Q I r.m1,Q I r.k2,Q I r.v2,Q I r.m2,Q I r.k3,Q I r.v3,Q I r.m3,Q I r.k4,Q I r.v4,Q I r.m4,Q I r.ac,Q I r.po] P c6.o R T ay;clear HI CT d2 d3 c6 d4;go_wp2_with fail
 go_region_held3 (λq=>(mC (MQ (N ⟨f,7,S⟩))).run MT q=.ok (M1 #[Q I r.id,Q I r.pr,Q I r.k0,Q I r.v0,Q I r.m0,Q I r.k1,Q I r.v1,Q I r.m1,Q I r.k2,Q I r.v2,Q I r.m2,Q I r.k3,Q I r.v3,Q I r.m3,Q I r.k4,Q I r.v4,Q I r.m4,Q I r.ac,Q I r.po]) q/\q.cell? ⟨d.p,1,S⟩=N (MQ (N ⟨d.y,0,S⟩))) (go_keep)
  (first|(go_at_call 80;refine CX.o.mono ?_;rintro e W ⟨rfl,hF,gr,gp⟩;have HF:=A hF;clear hF;have gl:(mC (MQ (N ⟨f,7,S⟩))).run MT W=.ok (M1 #[Q I r.id,Q I r.pr,Q I r.k0,Q I r.v0,Q I r.m0,Q I r.k1,Q I r.v1,Q I r.m1,Q I r.k2,Q I r.v2,Q I r.m2,Q I r.k3,Q I r.v3,Q I r.m3,Q I r.k4,Q I r.v4,Q I r.m4,Q I r.ac,Q I r.po]) W:=NW W f 7 37 [Q I r.id,Q I r.pr,Q I r.k0,Q I r.v0,Q I r.m0,Q I r.k1,Q I r.v1,Q I r.m1,Q I r.k2,Q I r.v2,Q I r.m2,Q I r.k3,Q I r.v3,Q I r.m3,Q I r.k4,Q I r.v4,Q I r.m4,Q I r.ac,Q I r.po] P gr R T ay;clear gr))
 clear CX f7 d5 gp gl g6;have CN:=A (eZ x W);go_wp2_with fail
 refine CN.o.mono ?_;rintro e W' ⟨rfl,e7⟩;rw[e7];clear e7 W' CN;go_wp2;go_ret;exact⟨rfl,HF.o⟩
end
end Go.Proofs.YtnjalelblbjfiaaGreatDoor
