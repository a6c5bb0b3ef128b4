import Derived.Test.YtnjalelblbjfiaaGreatDoorP13
import Derived.Test.YtnjalelblbjfiaaGreatDoorRows
import Derived.ProofKit
import Derived.OpenShut
namespace Go.Proofs.YtnjalelblbjfiaaGreatDoor
set_option maxRecDepth 100000
set_option maxHeartbeats 16000000
open Go.RowKit
open Go.Proofs.Tryz
open Go renaming Value→Ma,DataW→RT,MemPlace→QG
open Go.DataW renaming trod→Nd,lit→T9,trod_struct→Pn,trod_array→Qh
open Go.IntKind renaming i64→I
open Go.Proofs.Tryz renaming prog→MT
open Go.Value renaming int→Q
variable {cs:List Ma}{n:Nat}
section
open Go.ChangeShapes Go.WideShapes Go.ChangeAt Go.RowKit
theorem oT:prog.cellsOf 3=1:=UR
theorem IP:prog.cellsOf 122=2:=UR
theorem Qv:prog.cellsOf 178=3:=UR
theorem JR:prog.cellsOf 179=15:=UR
theorem IN:prog.cellsOf 39=5:=UR
theorem DM:prog.cellsOf 34=3:=UR
theorem zi:prog.cellsOf 35=15:=UR
theorem DO:prog.cellsOf 37=19:=UR
theorem DN:prog.cellsOf 41=31:=UR
theorem DL:prog.cellsOf 9=1:=UR
theorem JO:prog.cellsOf 32=1:=UR
section
variable {H:Type}{k:TypeId×Value->H}{w:World}{e:Nat}{f:Nat->Bool}{o:Bool}
theorem gJ{a:Nat}{x:RT H×List QG}(h:Nd k MT w e f o a 3 cs=some x):∃n,cs=[Q I n]/\x.1=T9 (.int I n)/\ -9223372036854775808<=n/\n<=9223372036854775807:=by
 obtain⟨n,b,c,g⟩:=DataW.trod_int underlying3 h;exact⟨n,b,by rw[c],bounds_i64 g⟩
theorem Kl{x:RT H×List QG}(h:Nd k MT w e f o n 122 cs=some x):∃b c:Int,cs=[Q I b,Q I c]/\x.1=.agg [T9 (.int I b),T9 (.int I c)]:=by
 obtain⟨i,m,rfl,rfl,l,q,j⟩:=Pn underlying122 h;rw[IP]at l;clear h;have a:Nd k MT w e f o m 3 ((cs.drop 0).take (prog.cellsOf 3))=i[0]?:=j 0 _ rfl;have g:Nd k MT w e f o m 3 ((cs.drop 1).take (prog.cellsOf 3))=i[1]?:=j 1 _ rfl;rw[oT]at a g;clear j;match cs,l,i,q,a,g with
 |[r,s],_,[t,u],_,a,g=>
  obtain⟨b,y,z,_⟩:=gJ (cs:=[r]) (x:=t) a;obtain⟨c,B,C,_⟩:=gJ (cs:=[s]) (x:=u) g;cases y;cases B;exact⟨b,c,rfl,by simp[z,C]⟩
theorem xj{q:Nat}{x:RT H×List QG}(h:Nd k MT w e f o q 178 cs=some x):∃a b c:Int,cs=[Q I a,Q I b,Q I c]/\x.1=.agg [T9 (.int I a),.agg [T9 (.int I b),T9 (.int I c)]]:=by
 obtain⟨j,m,rfl,rfl,n,r,l⟩:=Pn underlying178 h;rw[Qv]at n;clear h;have g:Nd k MT w e f o m 3 ((cs.drop 0).take (prog.cellsOf 3))=j[0]?:=l 0 _ rfl;have i:Nd k MT w e f o m 122 ((cs.drop 1).take (prog.cellsOf 122))=j[1]?:=l 1 _ rfl;rw[oT]at g;rw[IP]at i;clear l;match cs,n,j,r,g,i with
 |[s,t,u],_,[y,z],_,g,i=>
  obtain⟨a,B,C,_⟩:=gJ (cs:=[s]) (x:=y) g;obtain⟨b,c,D,E⟩:=Kl (cs:=[t,u]) (x:=z) i;cases B;cases D;exact⟨a,b,c,rfl,by simp[C,E]⟩
theorem Af{j:Nat}{c:List Ma}{p:List QG}(h:Nd k MT w e f o j 179 c=some (Rows.laid_portico_table_fields,p)):c=[Q I 32,Q I 0,Q I 4294967295,Q I 32,Q I 0,Q I 4294967295,Q I 8,Q I 0,Q I 255,Q I 16,Q I 0,Q I 65535,Q I 16,Q I 0,Q I 65535]:=by
 obtain⟨l,m,rfl,g,i,n,a⟩:=Qh underlying179 h;rw[JR]at i;simp only[Qv]at a;have b:=congrArg Prod.fst g;clear h g;match c,i,l,n,a,b with
 |[q,r,s,t,u,y,z,B,C,D,E,F,G,J,K],_,[L,M,P,R,T],_,a,b=>
  obtain⟨a0,b0,c0,U,V⟩:=xj (cs:=[q,r,s]) (x:=L) (a 0 O);obtain⟨a1,b1,c1,X,Y⟩:=xj (cs:=[t,u,y]) (x:=M) (a 1 O);obtain⟨a2,b2,c2,Z,d2⟩:=xj (cs:=[z,B,C]) (x:=P) (a 2 O);obtain⟨a3,b3,c3,e3,d3⟩:=xj (cs:=[D,E,F]) (x:=R) (a 3 O);obtain⟨a4,b4,c4,e4,d4⟩:=xj (cs:=[G,J,K]) (x:=T) (a 4 O);cases U;cases X;cases Z;cases e3;cases e4;simp only[Rows.laid_portico_table_fields,List.map_cons,List.map_nil,V,Y,d2,d3,d4,DataW.agg.injEq,List.cons.injEq,DataW.lit.injEq,Lit.int.injEq,true_and,and_true]at b;obtain⟨⟨rfl,rfl,rfl⟩,⟨rfl,rfl,rfl⟩,⟨rfl,rfl,rfl⟩,⟨rfl,rfl,rfl⟩,rfl,rfl,rfl⟩:=b;rfl
end
section
variable {H:Type}{k:TypeId×Value->H}{w:World}{e:Nat}{f:Nat->Bool}{o:Bool}
theorem sH{r:Nat}{x:RT H×List QG}(h:Nd k MT w e f o r 34 cs=some x):∃a b c:Int,cs=[Q I a,Q I b,Q I c]:=by
 obtain⟨g,m,rfl,rfl,q,s,i⟩:=Pn underlying34 h;rw[DM]at q;clear h;have j:Nd k MT w e f o m 3 ((cs.drop 0).take (prog.cellsOf 3))=g[0]?:=i 0 _ rfl;have l:Nd k MT w e f o m 3 ((cs.drop 1).take (prog.cellsOf 3))=g[1]?:=i 1 _ rfl;have n:Nd k MT w e f o m 3 ((cs.drop 2).take (prog.cellsOf 3))=g[2]?:=i 2 _ rfl;rw[oT]at j l n;clear i;match cs,q,g,s,j,l,n with
 |[t,u,y],_,[z,B,C],_,j,l,n=>
  obtain⟨a,D,_,_⟩:=gJ (cs:=[t]) (x:=z) j;obtain⟨b,E,_,_⟩:=gJ (cs:=[u]) (x:=B) l;obtain⟨c,F,_,_⟩:=gJ (cs:=[y]) (x:=C) n;cases D;cases E;cases F;exact⟨a,b,c,rfl⟩
theorem Ir{D:Nat}{x:RT H×List QG}(h:Nd k MT w e f o D 35 cs=some x):∃b c g i j l n q r s t u y z B:Int,cs=[Q I b,Q I c,Q I g,Q I i,Q I j,Q I l,Q I n,Q I q,Q I r,Q I s,Q I t,Q I u,Q I y,Q I z,Q I B]:=by
 obtain⟨E,m,rfl,F,C,G,a⟩:=Qh underlying35 h;rw[zi]at C;simp only[DM]at a;clear h F;match cs,C,E,G,a with
 |[J,K,L,M,P,R,T,U,V,X,Y,Z,a5,a6,a7],_,[x0,x1,x2,x3,x4],_,a=>
  obtain⟨b,c,g,e0⟩:=sH (cs:=[J,K,L]) (x:=x0) (a 0 O);obtain⟨i,j,l,e1⟩:=sH (cs:=[M,P,R]) (x:=x1) (a 1 O);obtain⟨n,q,r,e2⟩:=sH (cs:=[T,U,V]) (x:=x2) (a 2 O);obtain⟨s,t,u,e3⟩:=sH (cs:=[X,Y,Z]) (x:=x3) (a 3 O);obtain⟨y,z,B,e4⟩:=sH (cs:=[a5,a6,a7]) (x:=x4) (a 4 O);cases e0;cases e1;cases e2;cases e3;cases e4;exact⟨_,_,_,_,_,_,_,_,_,_,_,_,_,_,_,rfl⟩
theorem Km{x:RT H×List QG}(h:Nd k MT w e f o n 39 cs=some x):∃b c g i j:Int,cs=[Q I b,Q I c,Q I g,Q I i,Q I j]:=by
 obtain⟨q,m,rfl,rfl,l,r,a⟩:=Qh underlying39 h;rw[IN]at l;simp only[oT]at a;clear h;match cs,l,q,r,a with
 |[s,t,u,y,z],_,[B,C,D,E,F],_,a=>
  obtain⟨b,G,_,_⟩:=gJ (cs:=[s]) (x:=B) (a 0 O);obtain⟨c,J,_,_⟩:=gJ (cs:=[t]) (x:=C) (a 1 O);obtain⟨g,K,_,_⟩:=gJ (cs:=[u]) (x:=D) (a 2 O);obtain⟨i,L,_,_⟩:=gJ (cs:=[y]) (x:=E) (a 3 O);obtain⟨j,M,_,_⟩:=gJ (cs:=[z]) (x:=F) (a 4 O);cases G;cases J;cases K;cases L;cases M;exact⟨_,_,_,_,_,rfl⟩
end
theorem DG:prog.globalNamed "portico/table.fields"=some 0:=UR
theorem zL:(prog.globals[0]?).map (·.type)=some 179:=UR
section
variable {H:Type}{k:TypeId×Value->H}{W:World}{e:Nat}{v:Value}{d:DataW H}{p:List MemPlace}
end
end
end Go.Proofs.YtnjalelblbjfiaaGreatDoor
