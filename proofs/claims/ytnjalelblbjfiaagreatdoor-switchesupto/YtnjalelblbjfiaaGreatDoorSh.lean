import Derived.Shelf.Small.Bits
import Derived.Shelf.Strconv.Itoa0
import Derived.Shelf.LaysM
import Derived.Shelf.Strconv.Clone
import Derived.Shelf.Sort.Plain
import Derived.Ground.Names2Prog
import Derived.Shelf.Slices.SearchI
import Derived.Shelf.Slices.In.SortNone
import Derived.Test.YtnjalelblbjfiaaGreatDoorProg
namespace Go.Proofs
open Go.Shelf
def Tryz.lays129_ren : Go.Shelf.Ren := ⟨fun | 129 => 162 | n => n, fun | 53 => 281 | 3 => 3 | 4 => 4 | 46 => 294 | 5 => 5 | 9 => 9 | n => n, fun | n => n⟩
theorem Tryz.lays129 : Go.Proofs.Lays.n129 Tryz.prog Tryz.lays129_ren := {
 mixed := by kernel_rfl
 f129 := Tryz.func162.trans (congrArg some (by kernel_rfl))
 t3 := Tryz.underlying3
 a3 := Tryz.isAgg3
 z3 := Tryz.sizeOf3
 v3 := Tryz.zeroValue3
 t4 := Tryz.underlying4
 a4 := Tryz.isAgg4
 z4 := Tryz.sizeOf4
 v4 := Tryz.zeroValue4
 t5 := Tryz.underlying5
 a5 := Tryz.isAgg5
 z5 := Tryz.sizeOf5
 v5 := Tryz.zeroValue5
 t9 := Tryz.underlying9
 a9 := Tryz.isAgg9
 z9 := Tryz.sizeOf9
 v9 := Tryz.zeroValue9
 t46 := Tryz.underlying294
 a46 := Tryz.isAgg294
 z46 := Tryz.sizeOf294
 v46 := Tryz.zeroValue294
 t53 := Tryz.underlying281
 a53 := Tryz.isAgg281
 z53 := Tryz.sizeOf281
 v53 := Tryz.zeroValue281 }
theorem Tryz.bits_Len64 (x : Int) (w : World) (h0 : 0 ≤ x) (h1 : x ≤ 18446744073709551615) :
 Calls Tryz.prog 162 #[.int .u64 x] w fun e w' => e = .returned (.int .i64 (Lib.bitLen x.toNat)) ∧ w' = w := Any.bits_Len64 Tryz.lays129 x w h0 h1
def Tryz.laysM316_ren : Go.Shelf.Ren := ⟨fun | 316 => 194 | n => n, fun | 9 => 9 | 3 => 3 | 4 => 4 | 37 => 334 | 0 => 0 | 127 => 337 | 5 => 5 | n => n, fun | n => n⟩
theorem Tryz.laysM316 : Go.Proofs.LaysM.n316 Tryz.prog Tryz.laysM316_ren := {
 mixed := by kernel_rfl
 f316 := Tryz.func194.trans (congrArg some (by kernel_rfl))
 t0 := Tryz.underlying0
 a0 := Tryz.isAgg0
 z0 := Tryz.sizeOf0
 v0 := Tryz.zeroValue0
 t3 := Tryz.underlying3
 a3 := Tryz.isAgg3
 z3 := Tryz.sizeOf3
 v3 := Tryz.zeroValue3
 t4 := Tryz.underlying4
 a4 := Tryz.isAgg4
 z4 := Tryz.sizeOf4
 v4 := Tryz.zeroValue4
 t9 := Tryz.underlying9
 a9 := Tryz.isAgg9
 z9 := Tryz.sizeOf9
 v9 := Tryz.zeroValue9
 t37 := Tryz.underlying334
 a37 := Tryz.isAgg334
 z37 := Tryz.sizeOf334
 v37 := Tryz.zeroValue334
 t127 := Tryz.underlying337
 a127 := Tryz.isAgg337
 z127 := Tryz.sizeOf337
 v127 := Tryz.zeroValue337
 t5 := Tryz.underlying5
 a5 := Tryz.isAgg5
 z5 := Tryz.sizeOf5
 v5 := Tryz.zeroValue5
 i0 := by kernel_rfl
 i3 := by kernel_rfl
 i4 := by kernel_rfl
 i5 := by kernel_rfl
 i9 := by kernel_rfl
 i37 := by kernel_rfl
 i127 := by kernel_rfl }
open Go.RowKit in
theorem Tryz.stringslite_Clone (s : ByteArray) (w : World) (hlim : s.size ≤ 281474976710656) :
 Calls Tryz.prog 194 #[.string s] w fun e w' => e = .returned (.string s) ∧ Below w.heap.size w w' := Any.stringslite_Clone Tryz.laysM316 s w hlim
def Tryz.lays189_ren : Go.Shelf.Ren := ⟨fun | 189 => 235 | 125 => 241 | 257 => 240 | 128 => 254 | 129 => 162 | 294 => 245 | 295 => 246 | 296 => 247 | 297 => 248 | 298 => 249 | 299 => 250 | 216 => 251 | 300 => 252 | 301 => 253 | 328 => 256 | 329 => 257 | 330 => 258 | 331 => 259 | 332 => 260 | 215 => 84 | 343 => 261 | n => n, fun | 28 => 32 | 3 => 3 | 46 => 294 | 0 => 0 | 51 => 370 | 53 => 281 | 4 => 4 | 183 => 364 | 182 => 363 | 131 => 181 | 5 => 5 | 9 => 9 | 218 => 372 | 222 => 376 | 228 => 378 | 229 => 244 | n => n, fun | n => n⟩
theorem Tryz.lays189 : Go.Proofs.Lays.n189 Tryz.prog Tryz.lays189_ren := {
 mixed := by kernel_rfl
 f125 := Tryz.func241.trans (congrArg some (by kernel_rfl))
 f128 := Tryz.func254.trans (congrArg some (by kernel_rfl))
 f129 := Tryz.func162.trans (congrArg some (by kernel_rfl))
 f189 := Tryz.func235.trans (congrArg some (by kernel_rfl))
 f215 := Tryz.func84.trans (congrArg some (by kernel_rfl))
 f216 := Tryz.func251.trans (congrArg some (by kernel_rfl))
 f257 := Tryz.func240.trans (congrArg some (by kernel_rfl))
 f294 := Tryz.func245.trans (congrArg some (by kernel_rfl))
 f295 := Tryz.func246.trans (congrArg some (by kernel_rfl))
 f296 := Tryz.func247.trans (congrArg some (by kernel_rfl))
 f297 := Tryz.func248.trans (congrArg some (by kernel_rfl))
 f298 := Tryz.func249.trans (congrArg some (by kernel_rfl))
 f299 := Tryz.func250.trans (congrArg some (by kernel_rfl))
 f300 := Tryz.func252.trans (congrArg some (by kernel_rfl))
 f301 := Tryz.func253.trans (congrArg some (by kernel_rfl))
 f328 := Tryz.func256.trans (congrArg some (by kernel_rfl))
 f329 := Tryz.func257.trans (congrArg some (by kernel_rfl))
 f330 := Tryz.func258.trans (congrArg some (by kernel_rfl))
 f331 := Tryz.func259.trans (congrArg some (by kernel_rfl))
 f332 := Tryz.func260.trans (congrArg some (by kernel_rfl))
 f343 := Tryz.func261.trans (congrArg some (by kernel_rfl))
 t0 := Tryz.underlying0
 a0 := Tryz.isAgg0
 z0 := Tryz.sizeOf0
 v0 := Tryz.zeroValue0
 t3 := Tryz.underlying3
 a3 := Tryz.isAgg3
 z3 := Tryz.sizeOf3
 v3 := Tryz.zeroValue3
 t4 := Tryz.underlying4
 a4 := Tryz.isAgg4
 z4 := Tryz.sizeOf4
 v4 := Tryz.zeroValue4
 t5 := Tryz.underlying5
 a5 := Tryz.isAgg5
 z5 := Tryz.sizeOf5
 v5 := Tryz.zeroValue5
 t9 := Tryz.underlying9
 a9 := Tryz.isAgg9
 z9 := Tryz.sizeOf9
 v9 := Tryz.zeroValue9
 t28 := Tryz.underlying32
 a28 := Tryz.isAgg32
 z28 := Tryz.sizeOf32
 v28 := Tryz.zeroValue32
 t46 := Tryz.underlying294
 a46 := Tryz.isAgg294
 z46 := Tryz.sizeOf294
 v46 := Tryz.zeroValue294
 t51 := Tryz.underlying370
 a51 := Tryz.isAgg370
 z51 := Tryz.sizeOf370
 v51 := Tryz.zeroValue370
 t53 := Tryz.underlying281
 a53 := Tryz.isAgg281
 z53 := Tryz.sizeOf281
 v53 := Tryz.zeroValue281
 t131 := Tryz.underlying181
 a131 := Tryz.isAgg181
 z131 := Tryz.sizeOf181
 v131 := Tryz.zeroValue181
 t182 := Tryz.underlying363
 a182 := Tryz.isAgg363
 z182 := Tryz.sizeOf363
 v182 := Tryz.zeroValue363
 t183 := Tryz.underlying364
 a183 := Tryz.isAgg364
 z183 := Tryz.sizeOf364
 v183 := Tryz.zeroValue364
 t218 := Tryz.underlying372
 a218 := Tryz.isAgg372
 z218 := Tryz.sizeOf372
 v218 := Tryz.zeroValue372
 t222 := Tryz.underlying376
 a222 := Tryz.isAgg376
 z222 := Tryz.sizeOf376
 v222 := Tryz.zeroValue376
 t228 := Tryz.underlying378
 a228 := Tryz.isAgg378
 z228 := Tryz.sizeOf378
 v228 := Tryz.zeroValue378
 t229 := Tryz.underlying244
 a229 := Tryz.isAgg244
 z229 := Tryz.sizeOf244
 v229 := Tryz.zeroValue244 }
open Go.Sort Go.RowKit in
theorem Tryz.slices_Sort_int (blk off cap : Nat) (zs : List Int) (w : World) (hH : Holds (Value.int .i64) w blk off zs.toArray) (hblk : blk < w.heap.size) (hsz : zs.length < 4611686018427387904) :
 Calls Tryz.prog 235 #[.slice (some ⟨blk, off, none⟩) zs.length cap] w fun e w' =>
 e = .returned (.tuple #[]) ∧ ∃ n os, w' = grow (putRow (Value.int .i64) (Sort.ahead w n) blk off (zs.mergeSort fun x y => decide (x ≤ y)).toArray) os := Any.slices_Sort_int Tryz.lays189 blk off cap zs w hH hblk hsz
end Go.Proofs
