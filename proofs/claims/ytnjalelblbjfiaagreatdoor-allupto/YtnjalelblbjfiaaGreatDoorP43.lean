import Derived.Test.YtnjalelblbjfiaaGreatDoorP14
import Derived.Test.YtnjalelblbjfiaaGreatDoorP42
namespace Go.Proofs.YtnjalelblbjfiaaGreatDoor
set_option maxRecDepth 100000
set_option maxHeartbeats 16000000
open Go.RowKit
open Go.Proofs.Tryz
open Go renaming Value→Ma,DataW→RT,MemPlace→QG
open Go.DataW renaming trod→Nd,trod_struct→Pn,trod_string→Ul
open Go.IntKind renaming i64→I
open Go.Proofs.Tryz renaming prog→MT,underlying9→SY,underlying22→SU
open Go.Value renaming string→MS,int→Q,slice→MR,cells→N5
open Go.World renaming var?_cell→Uq,cell?_spot→Up,cells?_some→Um
open List renaming length_cons→N6,range→PO,length_map→ND,length_range→Pk,mem_map→OD,mem_range→Su
open Option.some renaming inj→Pf
variable {cs:List Ma}
section
open Go.ChangeShapes Go.WideShapes Go.ChangeAt Go.RowKit
theorem Ho:prog.globalNamed "portico/frame.meanings"=some 1:=UR
theorem Bs:(prog.globals[1]?).map (·.type)=some 327:=UR
theorem IM:prog.cellsOf 326=2:=UR
theorem JP:prog.cellsOf 327=4:=UR
theorem JQ:prog.cellsOf 289=1:=UR
section
variable {H:Type}{o:TypeId×Value->H}{w:World}{f:Nat}{B:Nat->Bool}{z:Bool}
theorem Jm{k:Nat}{x:RT H×List QG}(h:Nd o MT w f B z k 326 cs=some x):∃(b:ByteArray) (c:Int),cs=[MS b,Q I c]/\x.1=.agg [.lit (.string b.toList),.lit (.int I c)]:=by
 obtain⟨g,m,rfl,rfl,j,l,i⟩:=Pn underlying326 h;rw[IM]at j;clear h;have a:Nd o MT w f B z m 9 ((cs.drop 0).take (prog.cellsOf 9))=g[0]?:=i 0 _ rfl;have e:Nd o MT w f B z m 289 ((cs.drop 1).take (prog.cellsOf 289))=g[1]?:=i 1 _ rfl;rw[DL]at a;rw[JQ]at e;clear i;match cs,j,g,l,a,e with
 |[t,u],_,[y,C],_,a,e=>
  obtain⟨b,n,q,_⟩:=Ul SY a;obtain⟨c,r,s,_⟩:=DataW.trod_int underlying289 e;cases n;cases r;exact⟨b,c,rfl,by simp[q,s,ByteArray.toList_eq]⟩
theorem Di{i:Nat}{c:List Ma}{p:List QG}(h:Nd o MT w f B z i 327 c=some (Rows.laid_portico_frame_meanings,p)):c=[MS ⟨#[129,0]⟩,Q I 1,MS ⟨#[8,0]⟩,Q I 2]:=by
 obtain⟨j,m,rfl,e,g,k,a⟩:=DataW.trod_array underlying327 h;rw[JP]at g;simp only[IM]at a;have b:=congrArg Prod.fst e;clear h e;match c,g,j,k,a,b with
 |[l,n,q,r],_,[s,t],_,a,b=>
  obtain⟨u,K,y,C⟩:=Jm (cs:=[l,n]) (x:=s) (a 0 O);obtain⟨D,L,E,F⟩:=Jm (cs:=[q,r]) (x:=t) (a 1 O);cases y;cases E;simp only[Rows.laid_portico_frame_meanings,List.map_cons,List.map_nil,C,F,DataW.agg.injEq,List.cons.injEq,DataW.lit.injEq,Lit.int.injEq,Lit.string.injEq,true_and,and_true]at b;obtain⟨⟨G,rfl⟩,J,rfl⟩:=b;obtain rfl:u=⟨#[129,0]⟩:=jo (G.symm.trans (cY [129,0]).symm);obtain rfl:D=⟨#[8,0]⟩:=jo (J.symm.trans (cY [8,0]).symm);rfl
end
theorem Gk{W:World}{e:List (String×RT Unit)}(h:laidMet MT (("portico/frame.meanings",Rows.laid_portico_frame_meanings)::("portico/table.fields",Rows.laid_portico_table_fields)::e) W):fE W/\cP W:=by
 obtain⟨C,⟨D,E,F,G,J,K,g,j,l,m,n,_⟩,_⟩:=h;obtain⟨L,M,P,R,p,q,r,s,t,u,_,_⟩:=n;obtain rfl:=Pf (DG.symm.trans r);obtain rfl:=Pf (zL.symm.trans s);obtain rfl:=Pf (Ho.symm.trans g);obtain rfl:=Pf (Bs.symm.trans j);have x:=Af u;have y:=Di m;have c:=λi=>Uq DG t i;have a:∀i,W.cell? ⟨0,i,none⟩=([Q I 32,Q I 0,Q I 4294967295,Q I 32,Q I 0,Q I 4294967295,Q I 8,Q I 0,Q I 255,Q I 16,Q I 0,Q I 65535,Q I 16,Q I 0,Q I 65535]:List Ma)[i]?:=λi=>by rw[c i,<-x];simp
 have k:=λi=>Uq Ho l i;have b:∀i,W.cell? ⟨1,i,none⟩=([MS ⟨#[129,0]⟩,Q I 1,MS ⟨#[8,0]⟩,Q I 2]:List Ma)[i]?:=λi=>by rw[k i,<-y];simp
 exact⟨⟨b 0,b 1,b 2,b 3⟩,a 0,a 1,a 2,a 3,a 4,a 5,a 6,a 7,a 8,a 9,a 10,a 11,a 12,a 13,a 14⟩
theorem gS{H:Type}(d:RT H):1<=Rows.uptoBulk d:=by
 cases d with
 |lit l=>cases l<;>simp[Rows.uptoBulk]
 |nil=>simp[Rows.uptoBulk]
 |ptr d=>simp[Rows.uptoBulk]
 |slice a B=>simp[Rows.uptoBulk]
 |agg b=>simp[Rows.uptoBulk]
 |iface t d=>simp[Rows.uptoBulk]
 |map c=>simp[Rows.uptoBulk]
 |held h=>simp[Rows.uptoBulk]
theorem ti{H:Type}:∀l:List (RT H),l.length<=Rows.uptoBulkAll l
 |[]=>Nat.zero_le _
 |x::l=>by have:=gS x;have:=ti l;simp only[Rows.uptoBulkAll,N6];omega
theorem zn{H:Type}{x:RT H}:∀{l:List (RT H)},x∈l->Rows.uptoBulk x<=Rows.uptoBulkAll l
 |[],h=>by cases h
 |y::l,h=>by
  simp only[Rows.uptoBulkAll];rcases List.mem_cons.1 h with rfl|h
  ·omega
  ·have:=zn h;omega
section
variable {H:Type}{o:TypeId×Value->H}{w:World}{f:Nat}{B:Nat->Bool}{z:Bool}
def DA(v:Ma):Int:=match v with|.int _ n=>n|_=>0
theorem Fg{K:Nat}{x:RT H×List QG}(h:Nd o MT w f B z K 32 cs=some x):∃C l q,cs=[MR C l q]/\∃T,iY w (MR C l q) T/\l<=q/\(∀t∈T,(Lit.int I t).wf=true)/\T.length<=Rows.uptoBulk x.1:=by
 rcases Deep.open_slice1 underlying32 oT h with⟨r,-⟩|⟨a,c,E,m,n,V,D,Pl,r,_,L,_,M,P,s⟩
 ·exact⟨none,0,0,r,[],⟨none,0,0,0,rfl,λj g=>absurd g (Nat.not_lt_zero j)⟩,Nat.le_refl _,λt u=>(by cases u),Nat.zero_le _⟩
 ·have a1:c<=m:=by rw[M];split<;>omega
  have F:∀i,i<c->∃k,V i=Q I k/\ -9223372036854775808<=k/\k<=9223372036854775807:=λi G=>by
   obtain⟨-,R⟩:=s i O;obtain⟨k,e,-,y⟩:=gJ R;exact⟨k,by simpa using e,y⟩
  obtain⟨b,U,X⟩:=a;refine⟨_,c,E,r,(PO c).map λi=>DA (V i),⟨_,E,b,U,by rw[ND,Pk],λj g=>?_⟩,L,λt u=>?_,?_⟩
  ·rw[ND,Pk]at g;obtain⟨J,-⟩:=s j O;obtain⟨k,e,-⟩:=F j g;have Y:X=none:=by
    obtain⟨Z,-⟩:=s 0 O;simpa[Addr.add]using Up Z
   subst Y;refine⟨rfl,?_⟩;rw[Addr.add_mid]at J;rw[J,e];simp[DA,e]
  ·obtain⟨i,G,rfl⟩:=OD.1 u;obtain⟨k,e,y⟩:=F i (Su.1 G);show(Lit.int I (DA (V i))).wf=true;rw[e];exact WalkArith.wf_i64 (show _ from by simpa[DA]using y)
  ·rw[P,ND,Pk];have:=ti ((PO c).map D);rw[ND,Pk]at this;simp only[Rows.uptoBulk];omega
end
section
variable {H:Type}{o:TypeId×Value->H}{W:World}{f:Nat}{v:Value}{d:DataW H}{p:List MemPlace}
end
theorem zl{H:Type}:∀l:List (RT H),(∀d∈l,10<=Rows.uptoBulk d)->10*l.length<=Rows.uptoBulkAll l
 |[],_=>Nat.zero_le _
 |x::l,h=>by
  have:=h x List.mem_cons_self;have:=zl l λd a=>h d (List.mem_cons_of_mem _ a);simp only[Rows.uptoBulkAll,N6];omega
section
variable {H:Type}{f:TypeId×Value->H}{w:World}{e:Nat}{o:Nat->Bool}{k:Bool}
theorem Iq{u:Nat}{x:RT H×List QG}(h:Nd f MT w e o k u 37 cs=some x):∃r:Rl,cs=[Q I r.id,Q I r.pr,Q I r.k0,Q I r.v0,Q I r.m0,Q I r.k1,Q I r.v1,Q I r.m1,Q I r.k2,Q I r.v2,Q I r.m2,Q I r.k3,Q I r.v3,Q I r.m3,Q I r.k4,Q I r.v4,Q I r.m4,Q I r.ac,Q I r.po]/\(Lit.int I r.id).wf=true:=by
 obtain⟨g,m,rfl,rfl,t,y,i⟩:=Pn underlying37 h;rw[DO]at t;clear h;have j:Nd f MT w e o k m 3 ((cs.drop 0).take (prog.cellsOf 3))=g[0]?:=i 0 _ rfl;have l:Nd f MT w e o k m 3 ((cs.drop 1).take (prog.cellsOf 3))=g[1]?:=i 1 _ rfl;have n:Nd f MT w e o k m 35 ((cs.drop 2).take (prog.cellsOf 35))=g[2]?:=i 2 _ rfl;have q:Nd f MT w e o k m 3 ((cs.drop 17).take (prog.cellsOf 3))=g[3]?:=i 3 _ rfl;have s:Nd f MT w e o k m 3 ((cs.drop 18).take (prog.cellsOf 3))=g[4]?:=i 4 _ rfl;rw[oT]at j l q s;rw[zi]at n;clear i;match cs,t,g,y,j,l,n,q,s with
 |[z,B,C,D,E,F,G,J,K,L,M,P,R,T,U,V,X,Y,Z],_,[x0,x1,x2,x3,x4],_,j,l,n,q,s=>
  obtain⟨a,e0,_,ra⟩:=gJ (cs:=[z]) (x:=x0) j;obtain⟨b,e1,_,_⟩:=gJ (cs:=[B]) (x:=x1) l;obtain⟨a0,b0,c0,a1,b1,c1,a2,b2,c2,a3,b3,c3,a4,b4,c4,e2⟩:=Ir (cs:=[C,D,E,F,G,J,K,L,M,P,R,T,U,V,X]) (x:=x2) n;obtain⟨c,e3,_,_⟩:=gJ (cs:=[Y]) (x:=x3) q;obtain⟨d,e4,_,_⟩:=gJ (cs:=[Z]) (x:=x4) s;cases e0;cases e1;cases e2;cases e3;cases e4;exact⟨⟨a,b,a0,b0,c0,a1,b1,c1,a2,b2,c2,a3,b3,c3,a4,b4,c4,c,d⟩,rfl,WalkArith.wf_i64 ra⟩
theorem pq{P:Nat}{a:List Ma}{x:RT H×List QG}(h:Nd f MT w e o k P 41 a=some x):∃s:jS,a=s.cells/\((-9223372036854775808<=s.oa/\s.oa<=9223372036854775807)/\(Lit.int I s.oN).wf=true/\(Lit.int I s.r.id).wf=true)/\∃T,iY w (MR s.la s.ll s.lc) T/\s.ll<=s.lc/\(∀t∈T,(Lit.int I t).wf=true)/\T.length<=Rows.uptoBulk x.1/\10<=Rows.uptoBulk x.1:=by
 obtain⟨c,m,rfl,rfl,C,R,g⟩:=Pn underlying41 h;rw[DN]at C;clear h;have i:Nd f MT w e o k m 3 ((a.drop 0).take (prog.cellsOf 3))=c[0]?:=g 0 _ rfl;have j:Nd f MT w e o k m 3 ((a.drop 1).take (prog.cellsOf 3))=c[1]?:=g 1 _ rfl;have l:Nd f MT w e o k m 3 ((a.drop 2).take (prog.cellsOf 3))=c[2]?:=g 2 _ rfl;have n:Nd f MT w e o k m 3 ((a.drop 3).take (prog.cellsOf 3))=c[3]?:=g 3 _ rfl;have q:Nd f MT w e o k m 3 ((a.drop 4).take (prog.cellsOf 3))=c[4]?:=g 4 _ rfl;have u:Nd f MT w e o k m 9 ((a.drop 5).take (prog.cellsOf 9))=c[5]?:=g 5 _ rfl;have y:Nd f MT w e o k m 32 ((a.drop 6).take (prog.cellsOf 32))=c[6]?:=g 6 _ rfl;have z:Nd f MT w e o k m 37 ((a.drop 7).take (prog.cellsOf 37))=c[7]?:=g 7 _ rfl;have B:Nd f MT w e o k m 39 ((a.drop 26).take (prog.cellsOf 39))=c[8]?:=g 8 _ rfl;rw[oT]at i j l n q;rw[DL]at u;rw[JO]at y;rw[DO]at z;rw[IN]at B;clear g;match a,C,c,R,i,j,l,n,q,u,y,z,B with
 |[U,V,X,Y,Z,v5,v6,v7,v8,v9,a4,a5,a6,a7,a8,a9,b0,b1,b2,b3,b4,b5,b6,b9,c0,c1,c2,c3,c4,c5,c6],_,[D,E,F,G,J,x5,K,L,M],_,i,j,l,n,q,u,y,z,B=>
  obtain⟨n0,e0,_,_⟩:=gJ (cs:=[U]) (x:=D) i;obtain⟨n1,e1,_,r1⟩:=gJ (cs:=[V]) (x:=E) j;obtain⟨n2,e2,_,r2⟩:=gJ (cs:=[X]) (x:=F) l;obtain⟨n3,e3,_,_⟩:=gJ (cs:=[Y]) (x:=G) n;obtain⟨n4,e4,_,_⟩:=gJ (cs:=[Z]) (x:=J) q;obtain⟨b,e5,_,_⟩:=Ul SY u;obtain⟨la,ll,lc,e6,T,t1,t2,t3,t4⟩:=Fg (cs:=[v6]) (x:=K) y;obtain⟨r,e7,r7⟩:=Iq (cs:=[v7,v8,v9,a4,a5,a6,a7,a8,a9,b0,b1,b2,b3,b4,b5,b6,b9,c0,c1]) (x:=L) z;obtain⟨k0,k1,k2,k3,k4,e8⟩:=Km (cs:=[c2,c3,c4,c5,c6]) (x:=M) B;cases e0;cases e1;cases e2;cases e3;cases e4;cases e5;cases e6;cases e7;cases e8;refine⟨⟨n0,n1,n2,n3,n4,b,la,ll,lc,r,k0,k1,k2,k3,k4⟩,rfl,⟨r1,WalkArith.wf_i64 r2,r7⟩,T,t1,t2,t3,Nat.le_trans t4 ?_,?_⟩<;>simp only[Rows.uptoBulk,List.map,Rows.uptoBulkAll]
  ·omega
  ·have:=gS D.1;have:=gS E.1;have:=gS F.1;have:=gS G.1;have:=gS J.1;have:=gS x5.1;have:=gS K.1;have:=gS L.1;have:=gS M.1;omega
end
section
variable {H:Type}{f:TypeId×Value->H}{W:World}{e:Nat}{v:Value}{d:DataW H}{p:List MemPlace}
theorem xt(J:Value.okWide MT W .any e 22 v)(h:DataW.Trod f MT W 0 (λ_=>true) true 22 v d p)(y:Rows.uptoBulk d<=1048576):∃a n c g E,v=MR a n c/\n<=104858/\K5 W a n g E:=by
 obtain⟨a0,n,c,rfl⟩:=okWide_slice SU J;obtain⟨a6,K⟩:=h;rcases Deep.open_slice SU K with⟨q,_⟩|⟨a,a7,a8,m,fu,D,Pl,q,_,b1,_,L,M,z⟩
 ·simp[N5]at q;obtain⟨rfl,rfl,rfl⟩:=q;exact⟨_,_,_,0,0,rfl,O,λh=>absurd h O,λj l=>absurd l O⟩
 ·simp[N5]at q;obtain⟨rfl,rfl,rfl⟩:=q;simp only[if_true]at L;have B:d=.slice ((PO n).map D) ((PO (m-n)).map λj=>D (n+j)):=congrArg Prod.fst M;rw[DN]at z;have P:n<=104858:=by
   rw[B]at y;simp only[Rows.uptoBulk]at y;have:=zl ((PO n).map D) λd B=>by
    obtain⟨j,l,rfl⟩:=OD.1 B;obtain⟨F,C,x⟩:=z j (by have:=Su.1 l;omega);obtain⟨_,_,_,_,_,_,_,_,t⟩:=pq x;exact t
   rw[ND,Pk]at this;omega
  by_cases R:n=0
  ·subst R;exact⟨_,_,_,0,0,rfl,O,λh=>absurd h O,λj l=>absurd l O⟩
  ·obtain⟨b,E,U⟩:=a;have V:U=none:=by
    obtain⟨F,C,x⟩:=z 0 O;obtain⟨s,rfl,_⟩:=pq x;have:=(Um C).2.2 0 (by show 0<31;omega);simpa[Addr.add]using Up this
   subst V;refine⟨_,_,_,b,E,rfl,P,λ_=>rfl,λj l=>?_⟩;obtain⟨F,C,x⟩:=z j O;obtain⟨s,rfl,r,T,X,Y,Z,t4,-⟩:=pq x;have a2:T.length<=100000000:=by
    have a3:D j∈(PO n).map D:=OD.2 ⟨j,Su.2 l,rfl⟩;have h5:=zn a3;rw[B]at y;simp only[Rows.uptoBulk]at y;have t5:T.length<=Rows.uptoBulk (D j):=t4;omega
   refine⟨s,λi u G=>?_,r,T,X,Y,a2,Z⟩;have hi:i<31:=(List.getElem?_eq_some_iff.1 G).1;have:=(Um C).2.2 i hi;rw[Addr.add_mid,Addr.add_mid]at this;exact this.trans G
end
end
end Go.Proofs.YtnjalelblbjfiaaGreatDoor
