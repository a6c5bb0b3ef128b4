import Derived.Test.YtnjalelblbjfiaaGreatDoorP37
namespace Go.Proofs.YtnjalelblbjfiaaGreatDoor
set_option maxRecDepth 100000
set_option maxHeartbeats 16000000
open Go.RowKit
open Go.Proofs.Tryz
open Go.Sort (grow)
open Go.Value renaming string→MS,int→Q
open _root_.ByteArray renaming size_extract→O9
section
attribute [local go_sem] Oper.semAt_some aI
theorem Fb(b:ByteArray)(w:World)(h:20<=b.size)(K:b.size<=1000)(L:1<=b8 b 8):Calls prog 189 #[MS b] w λe M=>e=.returned (MS (qC b))/\Below w.heap.size w M:=by
 rw[<-Hj h];unfold KE;have l8:=rG b 8;have a4:=eN b 10;have a5:kR (bT b 10) 256<=65535:=rW O O;have a6:∀W:World,(Instr.index 9 (MS b) (Q .i64 8)).run prog W=.ok (Q .u8 (b8 b 8:Nat)) W:=λW=>Hh b 8 O W;have P:=A λ(W:World)=>iH b 10 W O K;have R:=A λ(W:World)=>xY (bT b 10) 256 W O O;have t:=A λ(W:World)=>qS ((kR (bT b 10) 256:Nat):Int) W O;have z1:(8:Int)<=b.size:=O;have z2:(10:Int)<=b.size:=O;have z3:(12:Int)<=b.size:=O;generalize T:b8 b 8=a at*;generalize U:bT b 10=V at*;generalize X:kR V 256=Y at*;have b0:(1:Int)<=a:=O;have e8:IntKind.u8.wrap ((a:Int) -1)=(a:Int) -1:=by rw[IntKind.wrap_u8];omega
 have j:∀(W:World) (g:Nat),W.cell? ⟨g,0,none⟩=some (Q .u8 ((a:Int) -1))->(convert 334 9 (.slice (some ⟨g,0,none⟩) 1 1)).run prog W=.ok (MS ⟨#[UInt8.ofNat (a-1)]⟩) W:=λW g Z=>by
  have:=Kz W g ((a:Int) -1) O Z;rw[show((a:Int) -1).toNat=a-1 by omega]at this;exact this
 obtain⟨o,u⟩:∃o,b.extract 0 8=o:=⟨_,rfl⟩;obtain⟨B,v⟩:∃B,b.extract 9 10=B:=⟨_,rfl⟩;obtain⟨C,x⟩:∃C,b.extract 12 b.size=C:=⟨_,rfl⟩;obtain⟨D,k⟩:∃D,r9 (Y:Int)=D:=⟨_,rfl⟩;obtain⟨E,l⟩:∃E:ByteArray,(⟨#[UInt8.ofNat (a-1)]⟩:ByteArray)=E:=⟨_,rfl⟩;have sA:o.size=8:=by rw[<-u,O9];omega
 have sB:B.size=1:=by rw[<-v,O9];omega
 have sC:C.size<=1000:=by rw[<-x,O9];omega
 have b5:(C.size:Int)<=1000:=O;have sD:D.size=2:=by rw[<-k];rfl
 have sE:E.size=1:=by rw[<-l];rfl
 rw[u,v,x,k,l];rw[l]at j;rw[k]at t;have p:∀W:World,(W.alloc (.cells #[Q .u8 ((a:Int) -1)] 5)).cell? ⟨W.heap.size,0,none⟩=some (Q .u8 ((a:Int) -1)):=λW=>mr (i:=0) rfl;have c0:=j (w.alloc (.cells #[Q .u8 ((a:Int) -1)] 5)).drew w.heap.size (p w);have f:=A j;have m:=A p;clear T U X L j p l k;go_enter func189,ntmps189;go_wp2_with fail
 go_region_with
  (first|(go_at_call 183;refine(P.o _).mono ?_;rintro e c ⟨rfl,q⟩;(try(have y:c.cell? ⟨w.heap.size,0,none⟩=some (Q .u8 ((a:Int) -1)):=cell_later q (show(w.alloc _).drew.cell? _=_ from m.o w);have c1:=f.o c _ y));(try(have c2:=f.o (c.alloc (.cells #[Q .u8 ((a:Int) -1)] 5)) c.heap.size (m.o c)));have z:=A q;clear q)|(go_at_call 185;refine(R.o _).mono ?_;rintro e w2 ⟨rfl,F⟩;rw[F];clear F w2)|(go_at_call 214;refine(t.o _).mono ?_;rintro e d ⟨rfl,n⟩;(try(have a1:d.cell? ⟨w.heap.size,0,none⟩=some (Q .u8 ((a:Int) -1)):=cell_later n y;have c3:=f.o d _ a1));(try(have a2:d.cell? ⟨c.heap.size,0,none⟩=some (Q .u8 ((a:Int) -1)):=cell_later n (m.o c);have c4:=f.o d _ a2));(try(have c5:=f.o (d.alloc (.cells #[Q .u8 ((a:Int) -1)] 5)) d.heap.size (m.o d)));have G:=A n;clear n))
 all_goals
  have r:Below w.heap.size w c:=by
   first
    |exact(Below.refl _ w).drew.trans z.o
    |exact((Below.refl _ w).alloc (Nat.le_refl _) _).drew.trans (z.o.mono (by simp))
  have H:Below c.heap.size c d:=by
   first
    |exact G.o
    |exact((Below.refl _ c).alloc (Nat.le_refl _) _).trans (G.o.mono (by simp))
  have J:=r.trans (H.mono r.size);have s:=A J;clear r H J;go_wp2;go_ret;refine⟨rfl,?_⟩
  first
   |exact s.o
   |exact s.o.alloc s.o.size _
end
end Go.Proofs.YtnjalelblbjfiaaGreatDoor
