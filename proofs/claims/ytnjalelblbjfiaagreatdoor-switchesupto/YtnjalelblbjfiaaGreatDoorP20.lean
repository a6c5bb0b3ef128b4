import Derived.Test.YtnjalelblbjfiaaGreatDoorP17
namespace Go.Proofs.YtnjalelblbjfiaaGreatDoor
set_option maxRecDepth 100000
set_option maxHeartbeats 16000000
open Go.RowKit
open Go.Proofs.Tryz
open Go.Sort (grow)
open Go.IntKind renaming i64→I,wrap_i64→Mm
open Go.Value renaming int→Q,string→MS
section
attribute [local go_sem] aI
def bT(b:ByteArray)(i:Nat):Nat:=if h:i+1<b.size then(b[i]'O).toNat*256+(b[i+1]'h).toNat else 0
theorem eN(b:ByteArray)(i:Nat):bT b i<65536:=by
 unfold bT;split
 ·rename_i h
  have a:=(b[i]'O).toNat_lt;have c:=(b[i+1]'h).toNat_lt;omega
 ·omega
theorem GO(x y:Nat)(a:x<256)(c:y<256):bits BinOp.or I ((x:Int)*256) y=((x*256+y:Nat):Int):=by
 have e:(x:Int)*256=((x*256:Nat):Int):=O;rw[e,ik _ _ O O];congr 1;have:=Nat.shiftLeft_add_eq_or_of_lt (i:=8) (b:=y) O x;rw[Nat.shiftLeft_eq]at this;exact this.symm
theorem lN{k:IntKind}{a b:Int}(h:a=b):Ending.returned (Q k a)=.returned (Q k b):=by rw[h]
theorem gv(b:ByteArray)(g j:Int)(i:Nat)(w:World)(h:i+1<b.size)(o:b.size<=1000):Calls prog 171 #[.agg #[MS b,Q I g,Q I j],Q I i] w λe p=>e=.returned (Q I (bT b i))/\Below w.heap.size w p:=by
 have k:(i:Int)<b.size:=O;have l:(i:Int)+1<b.size:=O;have G:(0:Int)<=i:=O;have m:(0:Int)<=(i:Int)+1:=O;have H:(i:Int)<=1000:=O;have f:i<b.size:=O;have n:bT b i=(b[i]'O).toNat*256+(b[i+1]'h).toNat:=dif_pos h;have q:=(b[i]'O).toNat_lt;have r:=(b[i+1]'h).toNat_lt;have s:aA (bits BinOp.or I (IntKind.i64.wrap (IntKind.i64.wrap ((b[i]'O).toNat:Int)*256)) (IntKind.i64.wrap ((b[i+1]'h).toNat:Int))=((((b[i]'O).toNat*256+(b[i+1]'h).toNat:Nat)):Int)):=A (by
  rw[<-GO _ _ q r];have t:IntKind.i64.wrap ((b[i]'O).toNat:Int)=((b[i]'O).toNat:Int):=by rw[Mm];omega
  have u:IntKind.i64.wrap (((b[i]'O).toNat:Int)*256)=((b[i]'O).toNat:Int)*256:=by rw[Mm];omega
  have v:IntKind.i64.wrap ((b[i+1]'h).toNat:Int)=((b[i+1]'h).toNat:Int):=by rw[Mm];omega
  rw[t,u,v])
 have z:=A n;clear n;go_enter func171,ntmps171;go_wp2;have J:∀W:World,(Instr.index 9 (MS b) (Q I (IntKind.i64.wrap ((i:Int)+1)))).run prog W=.ok (Q .u8 ((b[i+1]'h).toNat:Int)) W:=λW=>by
  rw[show IntKind.i64.wrap ((i:Int)+1)=(i:Int)+1 by rw[Mm];omega];simp[go_sem,l,m]
 have K:∀W:World,(Instr.index 9 (MS b) (Q I (i:Int))).run prog W=.ok (Q .u8 ((b[i]'f).toNat:Int)) W:=λW=>by
  simp[go_sem,k]
 generalize(b[i+1]'h).toNat=y at*;generalize(b[i]'f).toNat=x at*;clear l m k f h o;obtain⟨c,d⟩:=UX (w.alloc (.cells #[MS b,Q I g,Q I j] 148));have L:c.cell? ⟨w.heap.size,0,none⟩=some (MS b):=by rw[d];exact aB (aU _ _) rfl
 have B:w.heap.size<c.heap.size:=by rw[d];simp
 have C:aA (Below w.heap.size w c):=A (by rw[d];exact(Below.refl _ w).alloc (Nat.le_refl _) _);rw[<-d];clear d;refine wp_region_quiet_below UR UR ?_
 repeat(first|go_big_quiet_skip|quiet_step (fail))
 refine wpQuiet_nil ?_;intro M a;replace a:=aE a;obtain⟨D,E⟩:=aW a;have P:=a.size;have F:=A a;clear D E a;go_wp2;go_ret;exact⟨lN (by rw[s.o,z.o]),C.o.trans (F.o.mono (Nat.le_of_lt B))⟩
def kR(x y:Nat):Nat:=(x+y)%65536+(x+y)/65536
theorem rW{x y:Nat}(a:x<=65535)(b:y<=65535):kR x y<=65535:=by unfold kR;omega
theorem IS(n:Nat)(h:n<9223372036854775808):bits BinOp.and I (n:Int) 65535=((n%65536:Nat):Int):=by
 have:=gx n 65535 O O;rw[show((65535:Nat):Int)=65535 from rfl]at this;rw[this];congr 1;exact Nat.and_two_pow_sub_one_eq_mod n 16
theorem yh(x y:Nat)(w:World)(f:x<=65535)(g:y<=65535):Calls prog 208 #[Q I x,Q I y] w λe b=>e=.returned (Q I (kR x y))/\b=w:=by
 have a:=IS (x+y) O;rw[Int.natCast_add]at a;have c:(((x+y)%65536:Nat):Int)+((x:Int)+y)/65536=kR x y:=by unfold kR;omega
 have h:0<=bits BinOp.and I ((x:Int)+y) 65535/\bits BinOp.and I ((x:Int)+y) 65535<=65535:=by rw[a];omega
 have d:=A a;clear a;go_enter func208,ntmps208;go_wp2;go_ret;exact⟨lN (by rw[d.o,c]),rfl⟩
end
end Go.Proofs.YtnjalelblbjfiaaGreatDoor
