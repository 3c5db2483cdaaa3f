import Derived.Shelf.Small.Bits
import Derived.Shelf.Small.Strs
import Derived.Shelf.Small.Wraps
import Derived.Shelf.Strconv.Itoa0
import Derived.Shelf.LaysM
import Derived.Shelf.Strconv.Clone
import Derived.Shelf.Strings.Search1
import Derived.Shelf.Sort.Plain
import Derived.Shelf.Slices.Turned
import Derived.Shelf.Slices.CompactS
import Derived.Ground.Names2Prog
import Derived.Shelf.Slices.SearchI
import Derived.Shelf.Slices.Cells
import Derived.Shelf.Slices.In.SortNone
import Derived.Test.YthedkdbgfdjlkaaGreatProg
import Derived.Shelf.SlSortCmp.SmallK
import Derived.Ground.SlsfProg
import Derived.Test.YthedkdbgfdjlkaaGreatRows
import Derived.ProofKit
import Derived.OpenShut
import Derived.Carry
import Derived.Deep.Slices
import Derived.Test.YthedkdbgfdjlkaaGreatPack1
namespace Go.Proofs
open Go.Shelf
def Tryz.lays128_ren : Go.Shelf.Ren := ⟨fun | 128 => 127 | n => n, fun | 51 => 85 | 3 => 3 | 4 => 4 | 46 => 131 | 5 => 5 | 9 => 9 | n => n, fun | n => n⟩
theorem Tryz.lays128 : Go.Proofs.Lays.n128 Tryz.prog Tryz.lays128_ren := {
  mixed := by kernel_rfl
  f128 := Tryz.func127.trans (congrArg some (by kernel_rfl))
  t3 := Tryz.underlying3
  a3 := Tryz.isAgg3
  z3 := Tryz.sizeOf3
  v3 := Tryz.zeroValue3
  t4 := Tryz.underlying4
  a4 := Tryz.isAgg4
  z4 := Tryz.sizeOf4
  v4 := Tryz.zeroValue4
  t5 := Tryz.underlying5
  a5 := Tryz.isAgg5
  z5 := Tryz.sizeOf5
  v5 := Tryz.zeroValue5
  t9 := Tryz.underlying9
  a9 := Tryz.isAgg9
  z9 := Tryz.sizeOf9
  v9 := Tryz.zeroValue9
  t46 := Tryz.underlying131
  a46 := Tryz.isAgg131
  z46 := Tryz.sizeOf131
  v46 := Tryz.zeroValue131
  t51 := Tryz.underlying85
  a51 := Tryz.isAgg85
  z51 := Tryz.sizeOf85
  v51 := Tryz.zeroValue85 }

theorem Tryz.bits_Len32 (x : Int) (w : World) (h0 : 0 ≤ x) (h1 : x ≤ 4294967295) :
    Calls Tryz.prog 127 #[.int .u32 x] w fun e w' => e = .returned (.int .i64 (Lib.bitLen x.toNat)) ∧ w' = w := Any.bits_Len32 Tryz.lays128 x w h0 h1
def Tryz.lays125_ren : Go.Shelf.Ren := ⟨fun | 125 => 110 | 128 => 127 | 129 => 128 | n => n, fun | 46 => 131 | 3 => 3 | 51 => 85 | 53 => 202 | 4 => 4 | 5 => 5 | 9 => 9 | n => n, fun | n => n⟩
theorem Tryz.lays125 : Go.Proofs.Lays.n125 Tryz.prog Tryz.lays125_ren := {
  mixed := by kernel_rfl
  f125 := Tryz.func110.trans (congrArg some (by kernel_rfl))
  f128 := Tryz.func127.trans (congrArg some (by kernel_rfl))
  f129 := Tryz.func128.trans (congrArg some (by kernel_rfl))
  t3 := Tryz.underlying3
  a3 := Tryz.isAgg3
  z3 := Tryz.sizeOf3
  v3 := Tryz.zeroValue3
  t4 := Tryz.underlying4
  a4 := Tryz.isAgg4
  z4 := Tryz.sizeOf4
  v4 := Tryz.zeroValue4
  t5 := Tryz.underlying5
  a5 := Tryz.isAgg5
  z5 := Tryz.sizeOf5
  v5 := Tryz.zeroValue5
  t9 := Tryz.underlying9
  a9 := Tryz.isAgg9
  z9 := Tryz.sizeOf9
  v9 := Tryz.zeroValue9
  t46 := Tryz.underlying131
  a46 := Tryz.isAgg131
  z46 := Tryz.sizeOf131
  v46 := Tryz.zeroValue131
  t51 := Tryz.underlying85
  a51 := Tryz.isAgg85
  z51 := Tryz.sizeOf85
  v51 := Tryz.zeroValue85
  t53 := Tryz.underlying202
  a53 := Tryz.isAgg202
  z53 := Tryz.sizeOf202
  v53 := Tryz.zeroValue202 }

theorem Tryz.bits_Len (x : Int) (w : World) (h0 : 0 ≤ x) (h1 : x ≤ 18446744073709551615) :
    Calls Tryz.prog 110 #[.int .u64 x] w fun e w' => e = .returned (.int .i64 (Lib.bitLen x.toNat)) ∧ w' = w := Any.bits_Len Tryz.lays125 x w h0 h1
def Tryz.lays213_ren : Go.Shelf.Ren := ⟨fun | 213 => 115 | 265 => 130 | n => n, fun | 9 => 9 | 3 => 3 | n => n, fun | n => n⟩
theorem Tryz.lays213 : Go.Proofs.Lays.n213 Tryz.prog Tryz.lays213_ren := {
  mixed := by kernel_rfl
  f213 := Tryz.func115.trans (congrArg some (by kernel_rfl))
  f265 := Tryz.func130.trans (congrArg some (by kernel_rfl))
  t3 := Tryz.underlying3
  a3 := Tryz.isAgg3
  z3 := Tryz.sizeOf3
  v3 := Tryz.zeroValue3
  t9 := Tryz.underlying9
  a9 := Tryz.isAgg9
  z9 := Tryz.sizeOf9
  v9 := Tryz.zeroValue9 }
open Go.RowKit in

theorem Tryz.bytealg_CompareString (a b : ByteArray) (w : World) :
    Calls Tryz.prog 115 #[.string a, .string b] w fun e w' => e = .returned (.int .i64 (Lib.compareBytes a.data.toList b.data.toList)) ∧ w' = w := Any.bytealg_CompareString Tryz.lays213 a b w
def Tryz.lays106_ren : Go.Shelf.Ren := ⟨fun | 106 => 104 | 213 => 115 | 265 => 130 | n => n, fun | 9 => 9 | 3 => 3 | n => n, fun | n => n⟩
theorem Tryz.lays106 : Go.Proofs.Lays.n106 Tryz.prog Tryz.lays106_ren := {
  mixed := by kernel_rfl
  f106 := Tryz.func104.trans (congrArg some (by kernel_rfl))
  f213 := Tryz.func115.trans (congrArg some (by kernel_rfl))
  f265 := Tryz.func130.trans (congrArg some (by kernel_rfl))
  t3 := Tryz.underlying3
  a3 := Tryz.isAgg3
  z3 := Tryz.sizeOf3
  v3 := Tryz.zeroValue3
  t9 := Tryz.underlying9
  a9 := Tryz.isAgg9
  z9 := Tryz.sizeOf9
  v9 := Tryz.zeroValue9 }
open Go.RowKit in

theorem Tryz.strings_Compare (a b : ByteArray) (w : World) :
    Calls Tryz.prog 104 #[.string a, .string b] w fun e w' => e = .returned (.int .i64 (Lib.compareBytes a.data.toList b.data.toList)) ∧ w' = w := Any.strings_Compare Tryz.lays106 a b w
def Tryz.lays137_ren : Go.Shelf.Ren := ⟨fun | 137 => 78 | 217 => 103 | 266 => 114 | n => n, fun | 9 => 9 | 5 => 5 | 3 => 3 | n => n, fun | n => n⟩
theorem Tryz.lays137 : Go.Proofs.Lays.n137 Tryz.prog Tryz.lays137_ren := {
  mixed := by kernel_rfl
  f137 := Tryz.func78.trans (congrArg some (by kernel_rfl))
  f217 := Tryz.func103.trans (congrArg some (by kernel_rfl))
  f266 := Tryz.func114.trans (congrArg some (by kernel_rfl))
  t3 := Tryz.underlying3
  a3 := Tryz.isAgg3
  z3 := Tryz.sizeOf3
  v3 := Tryz.zeroValue3
  t5 := Tryz.underlying5
  a5 := Tryz.isAgg5
  z5 := Tryz.sizeOf5
  v5 := Tryz.zeroValue5
  t9 := Tryz.underlying9
  a9 := Tryz.isAgg9
  z9 := Tryz.sizeOf9
  v9 := Tryz.zeroValue9 }
open Go.RowKit in

theorem Tryz.strings_IndexByte (s : ByteArray) (c : Int) (w : World) :
    Calls Tryz.prog 78 #[.string s, .int .u8 c] w fun e w' => e = .returned (.int .i64 (Lib.indexByte s.data.toList c.toNat.toUInt8)) ∧ w' = w := Any.strings_IndexByte Tryz.lays137 s c w
def Tryz.lays215_ren : Go.Shelf.Ren := ⟨fun | 215 => 108 | n => n, fun | 3 => 3 | 4 => 4 | n => n, fun | n => n⟩
theorem Tryz.lays215 : Go.Proofs.Lays.n215 Tryz.prog Tryz.lays215_ren := {
  mixed := by kernel_rfl
  f215 := Tryz.func108.trans (congrArg some (by kernel_rfl))
  t3 := Tryz.underlying3
  a3 := Tryz.isAgg3
  z3 := Tryz.sizeOf3
  v3 := Tryz.zeroValue3
  t4 := Tryz.underlying4
  a4 := Tryz.isAgg4
  z4 := Tryz.sizeOf4
  v4 := Tryz.zeroValue4 }
open Go.RowKit in

theorem Tryz.cmp_isNaN_int (x : Int) (w : World) :
    Calls Tryz.prog 108 #[.int .i64 x] w fun e w' => e = .returned (.bool false) ∧ w' = w := Any.cmp_isNaN_int Tryz.lays215 x w
def Tryz.lays122_ren : Go.Shelf.Ren := ⟨fun | 122 => 84 | 215 => 108 | n => n, fun | 3 => 3 | 4 => 4 | n => n, fun | n => n⟩
theorem Tryz.lays122 : Go.Proofs.Lays.n122 Tryz.prog Tryz.lays122_ren := {
  mixed := by kernel_rfl
  f122 := Tryz.func84.trans (congrArg some (by kernel_rfl))
  f215 := Tryz.func108.trans (congrArg some (by kernel_rfl))
  t3 := Tryz.underlying3
  a3 := Tryz.isAgg3
  z3 := Tryz.sizeOf3
  v3 := Tryz.zeroValue3
  t4 := Tryz.underlying4
  a4 := Tryz.isAgg4
  z4 := Tryz.sizeOf4
  v4 := Tryz.zeroValue4 }
open Go.RowKit in

theorem Tryz.cmp_Compare_int (x y : Int) (w : World) :
    Calls Tryz.prog 84 #[.int .i64 x, .int .i64 y] w fun e w' => e = .returned (.int .i64 (Lib.compareInt x y)) ∧ w' = w := Any.cmp_Compare_int Tryz.lays122 x y w
def Tryz.lays129_ren : Go.Shelf.Ren := ⟨fun | 129 => 128 | n => n, fun | 53 => 202 | 3 => 3 | 4 => 4 | 46 => 131 | 5 => 5 | 9 => 9 | n => n, fun | n => n⟩
theorem Tryz.lays129 : Go.Proofs.Lays.n129 Tryz.prog Tryz.lays129_ren := {
  mixed := by kernel_rfl
  f129 := Tryz.func128.trans (congrArg some (by kernel_rfl))
  t3 := Tryz.underlying3
  a3 := Tryz.isAgg3
  z3 := Tryz.sizeOf3
  v3 := Tryz.zeroValue3
  t4 := Tryz.underlying4
  a4 := Tryz.isAgg4
  z4 := Tryz.sizeOf4
  v4 := Tryz.zeroValue4
  t5 := Tryz.underlying5
  a5 := Tryz.isAgg5
  z5 := Tryz.sizeOf5
  v5 := Tryz.zeroValue5
  t9 := Tryz.underlying9
  a9 := Tryz.isAgg9
  z9 := Tryz.sizeOf9
  v9 := Tryz.zeroValue9
  t46 := Tryz.underlying131
  a46 := Tryz.isAgg131
  z46 := Tryz.sizeOf131
  v46 := Tryz.zeroValue131
  t53 := Tryz.underlying202
  a53 := Tryz.isAgg202
  z53 := Tryz.sizeOf202
  v53 := Tryz.zeroValue202 }

theorem Tryz.bits_Len64 (x : Int) (w : World) (h0 : 0 ≤ x) (h1 : x ≤ 18446744073709551615) :
    Calls Tryz.prog 128 #[.int .u64 x] w fun e w' => e = .returned (.int .i64 (Lib.bitLen x.toNat)) ∧ w' = w := Any.bits_Len64 Tryz.lays129 x w h0 h1
def Tryz.laysM316_ren : Go.Shelf.Ren := ⟨fun | 316 => 73 | n => n, fun | 9 => 9 | 3 => 3 | 4 => 4 | 37 => 72 | 0 => 0 | 127 => 172 | 5 => 5 | n => n, fun | n => n⟩
theorem Tryz.laysM316 : Go.Proofs.LaysM.n316 Tryz.prog Tryz.laysM316_ren := {
  mixed := by kernel_rfl
  f316 := Tryz.func73.trans (congrArg some (by kernel_rfl))
  t0 := Tryz.underlying0
  a0 := Tryz.isAgg0
  z0 := Tryz.sizeOf0
  v0 := Tryz.zeroValue0
  t3 := Tryz.underlying3
  a3 := Tryz.isAgg3
  z3 := Tryz.sizeOf3
  v3 := Tryz.zeroValue3
  t4 := Tryz.underlying4
  a4 := Tryz.isAgg4
  z4 := Tryz.sizeOf4
  v4 := Tryz.zeroValue4
  t9 := Tryz.underlying9
  a9 := Tryz.isAgg9
  z9 := Tryz.sizeOf9
  v9 := Tryz.zeroValue9
  t37 := Tryz.underlying72
  a37 := Tryz.isAgg72
  z37 := Tryz.sizeOf72
  v37 := Tryz.zeroValue72
  t127 := Tryz.underlying172
  a127 := Tryz.isAgg172
  z127 := Tryz.sizeOf172
  v127 := Tryz.zeroValue172
  t5 := Tryz.underlying5
  a5 := Tryz.isAgg5
  z5 := Tryz.sizeOf5
  v5 := Tryz.zeroValue5
  i0 := by kernel_rfl
  i3 := by kernel_rfl
  i4 := by kernel_rfl
  i5 := by kernel_rfl
  i9 := by kernel_rfl
  i37 := by kernel_rfl
  i127 := by kernel_rfl }
open Go.RowKit in

theorem Tryz.stringslite_Clone (s : ByteArray) (w : World) (hlim : s.size ≤ 281474976710656) :
    Calls Tryz.prog 73 #[.string s] w fun e w' => e = .returned (.string s) ∧ Below w.heap.size w w' := Any.stringslite_Clone Tryz.laysM316 s w hlim
def Tryz.lays217_ren : Go.Shelf.Ren := ⟨fun | 217 => 103 | 266 => 114 | n => n, fun | 9 => 9 | 5 => 5 | 3 => 3 | n => n, fun | n => n⟩
theorem Tryz.lays217 : Go.Proofs.Lays.n217 Tryz.prog Tryz.lays217_ren := {
  mixed := by kernel_rfl
  f217 := Tryz.func103.trans (congrArg some (by kernel_rfl))
  f266 := Tryz.func114.trans (congrArg some (by kernel_rfl))
  t3 := Tryz.underlying3
  a3 := Tryz.isAgg3
  z3 := Tryz.sizeOf3
  v3 := Tryz.zeroValue3
  t5 := Tryz.underlying5
  a5 := Tryz.isAgg5
  z5 := Tryz.sizeOf5
  v5 := Tryz.zeroValue5
  t9 := Tryz.underlying9
  a9 := Tryz.isAgg9
  z9 := Tryz.sizeOf9
  v9 := Tryz.zeroValue9 }
open Go.RowKit Go.Lib in

theorem Tryz.stringslite_IndexByte (s : ByteArray) (c : Int) (w : World) :
    Calls Tryz.prog 103 #[.string s, .int .u8 c] w fun e w' => e = .returned (.int .i64 (Lib.indexByte s.data.toList c.toNat.toUInt8)) ∧ w' = w := Any.stringslite_IndexByte Tryz.lays217 s c w
def Tryz.lays190_ren : Go.Shelf.Ren := ⟨fun | 190 => 93 | 125 => 110 | 258 => 109 | 128 => 127 | 129 => 128 | 302 => 118 | 303 => 119 | 304 => 120 | 305 => 121 | 306 => 122 | 307 => 123 | 308 => 124 | 309 => 125 | 310 => 126 | 333 => 139 | 329 => 140 | 330 => 141 | 334 => 142 | 335 => 143 | 336 => 144 | 344 => 149 | n => n, fun | 31 => 112 | 9 => 9 | 3 => 3 | 46 => 131 | 0 => 0 | 51 => 85 | 53 => 202 | 4 => 4 | 183 => 194 | 182 => 193 | 131 => 127 | 5 => 5 | 218 => 208 | 222 => 212 | 228 => 217 | 229 => 218 | n => n, fun | n => n⟩
theorem Tryz.lays190 : Go.Proofs.Lays.n190 Tryz.prog Tryz.lays190_ren := {
  mixed := by kernel_rfl
  f125 := Tryz.func110.trans (congrArg some (by kernel_rfl))
  f128 := Tryz.func127.trans (congrArg some (by kernel_rfl))
  f129 := Tryz.func128.trans (congrArg some (by kernel_rfl))
  f190 := Tryz.func93.trans (congrArg some (by kernel_rfl))
  f258 := Tryz.func109.trans (congrArg some (by kernel_rfl))
  f302 := Tryz.func118.trans (congrArg some (by kernel_rfl))
  f303 := Tryz.func119.trans (congrArg some (by kernel_rfl))
  f304 := Tryz.func120.trans (congrArg some (by kernel_rfl))
  f305 := Tryz.func121.trans (congrArg some (by kernel_rfl))
  f306 := Tryz.func122.trans (congrArg some (by kernel_rfl))
  f307 := Tryz.func123.trans (congrArg some (by kernel_rfl))
  f308 := Tryz.func124.trans (congrArg some (by kernel_rfl))
  f309 := Tryz.func125.trans (congrArg some (by kernel_rfl))
  f310 := Tryz.func126.trans (congrArg some (by kernel_rfl))
  f329 := Tryz.func140.trans (congrArg some (by kernel_rfl))
  f330 := Tryz.func141.trans (congrArg some (by kernel_rfl))
  f333 := Tryz.func139.trans (congrArg some (by kernel_rfl))
  f334 := Tryz.func142.trans (congrArg some (by kernel_rfl))
  f335 := Tryz.func143.trans (congrArg some (by kernel_rfl))
  f336 := Tryz.func144.trans (congrArg some (by kernel_rfl))
  f344 := Tryz.func149.trans (congrArg some (by kernel_rfl))
  t0 := Tryz.underlying0
  a0 := Tryz.isAgg0
  z0 := Tryz.sizeOf0
  v0 := Tryz.zeroValue0
  t3 := Tryz.underlying3
  a3 := Tryz.isAgg3
  z3 := Tryz.sizeOf3
  v3 := Tryz.zeroValue3
  t4 := Tryz.underlying4
  a4 := Tryz.isAgg4
  z4 := Tryz.sizeOf4
  v4 := Tryz.zeroValue4
  t5 := Tryz.underlying5
  a5 := Tryz.isAgg5
  z5 := Tryz.sizeOf5
  v5 := Tryz.zeroValue5
  t9 := Tryz.underlying9
  a9 := Tryz.isAgg9
  z9 := Tryz.sizeOf9
  v9 := Tryz.zeroValue9
  t31 := Tryz.underlying112
  a31 := Tryz.isAgg112
  z31 := Tryz.sizeOf112
  v31 := Tryz.zeroValue112
  t46 := Tryz.underlying131
  a46 := Tryz.isAgg131
  z46 := Tryz.sizeOf131
  v46 := Tryz.zeroValue131
  t51 := Tryz.underlying85
  a51 := Tryz.isAgg85
  z51 := Tryz.sizeOf85
  v51 := Tryz.zeroValue85
  t53 := Tryz.underlying202
  a53 := Tryz.isAgg202
  z53 := Tryz.sizeOf202
  v53 := Tryz.zeroValue202
  t131 := Tryz.underlying127
  a131 := Tryz.isAgg127
  z131 := Tryz.sizeOf127
  v131 := Tryz.zeroValue127
  t182 := Tryz.underlying193
  a182 := Tryz.isAgg193
  z182 := Tryz.sizeOf193
  v182 := Tryz.zeroValue193
  t183 := Tryz.underlying194
  a183 := Tryz.isAgg194
  z183 := Tryz.sizeOf194
  v183 := Tryz.zeroValue194
  t218 := Tryz.underlying208
  a218 := Tryz.isAgg208
  z218 := Tryz.sizeOf208
  v218 := Tryz.zeroValue208
  t222 := Tryz.underlying212
  a222 := Tryz.isAgg212
  z222 := Tryz.sizeOf212
  v222 := Tryz.zeroValue212
  t228 := Tryz.underlying217
  a228 := Tryz.isAgg217
  z228 := Tryz.sizeOf217
  v228 := Tryz.zeroValue217
  t229 := Tryz.underlying218
  a229 := Tryz.isAgg218
  z229 := Tryz.sizeOf218
  v229 := Tryz.zeroValue218 }
open Go.Sort Go.RowKit in
theorem Tryz.slices_Sort_string (blk off cap : Nat) (ss : List (List UInt8)) (w : World) (hH : Holds encStr w blk off ss.toArray) (hblk : blk < w.heap.size) (hsz : ss.length < 4611686018427387904) :
    Calls Tryz.prog 93 #[.slice (some ⟨blk, off, none⟩) ss.length cap] w fun e w' =>
      e = .returned (.tuple #[]) ∧ ∃ n os, w' = grow (putRow encStr (Sort.ahead w n) blk off (ss.mergeSort fun x y => decide (x ≤ y)).toArray) os := Any.slices_Sort_string Tryz.lays190 blk off cap ss w hH hblk hsz
def Tryz.lays109_ren : Go.Shelf.Ren := ⟨fun | 109 => 95 | n => n, fun | 31 => 112 | 9 => 9 | 3 => 3 | 0 => 0 | 4 => 4 | n => n, fun | n => n⟩
theorem Tryz.lays109 : Go.Proofs.Lays.n109 Tryz.prog Tryz.lays109_ren := {
  mixed := by kernel_rfl
  f109 := Tryz.func95.trans (congrArg some (by kernel_rfl))
  t0 := Tryz.underlying0
  a0 := Tryz.isAgg0
  z0 := Tryz.sizeOf0
  v0 := Tryz.zeroValue0
  t3 := Tryz.underlying3
  a3 := Tryz.isAgg3
  z3 := Tryz.sizeOf3
  v3 := Tryz.zeroValue3
  t4 := Tryz.underlying4
  a4 := Tryz.isAgg4
  z4 := Tryz.sizeOf4
  v4 := Tryz.zeroValue4
  t9 := Tryz.underlying9
  a9 := Tryz.isAgg9
  z9 := Tryz.sizeOf9
  v9 := Tryz.zeroValue9
  t31 := Tryz.underlying112
  a31 := Tryz.isAgg112
  z31 := Tryz.sizeOf112
  v31 := Tryz.zeroValue112 }
open Go.Lib in

theorem Tryz.slices_Index_string (b off n c : Nat) (zs : List ByteArray) (x : ByteArray) (w : World) (hz : n ≤ zs.length) (hbig : n ≤ 9223372036854775807) (hc : ∀ j, j < zs.length → w.cell? ⟨b, off + j, none⟩ = some (.string (zs.getD j ByteArray.empty))) :
    Calls Tryz.prog 95 #[.slice (some ⟨b, off, none⟩) n c, .string x] w fun e w' => e = .returned (.int .i64 (Lib.idxOfS (zs.take n) x)) ∧ w' = w := Any.slices_Index_string Tryz.lays109 b off n c zs x w hz hbig hc
open Go.Lib in

theorem Tryz.slices_Index_string_empty (a : Option Addr) (c : Nat) (x : ByteArray) (w : World) :
    Calls Tryz.prog 95 #[.slice a 0 c, .string x] w fun e w' => e = .returned (.int .i64 (Lib.idxOfS [] x)) ∧ w' = w := Any.slices_Index_string_empty Tryz.lays109 a c x w
def Tryz.lays110_ren : Go.Shelf.Ren := ⟨fun | 110 => 70 | 109 => 95 | n => n, fun | 31 => 112 | 9 => 9 | 4 => 4 | 3 => 3 | 0 => 0 | n => n, fun | n => n⟩
theorem Tryz.lays110 : Go.Proofs.Lays.n110 Tryz.prog Tryz.lays110_ren := {
  mixed := by kernel_rfl
  f109 := Tryz.func95.trans (congrArg some (by kernel_rfl))
  f110 := Tryz.func70.trans (congrArg some (by kernel_rfl))
  t0 := Tryz.underlying0
  a0 := Tryz.isAgg0
  z0 := Tryz.sizeOf0
  v0 := Tryz.zeroValue0
  t3 := Tryz.underlying3
  a3 := Tryz.isAgg3
  z3 := Tryz.sizeOf3
  v3 := Tryz.zeroValue3
  t4 := Tryz.underlying4
  a4 := Tryz.isAgg4
  z4 := Tryz.sizeOf4
  v4 := Tryz.zeroValue4
  t9 := Tryz.underlying9
  a9 := Tryz.isAgg9
  z9 := Tryz.sizeOf9
  v9 := Tryz.zeroValue9
  t31 := Tryz.underlying112
  a31 := Tryz.isAgg112
  z31 := Tryz.sizeOf112
  v31 := Tryz.zeroValue112 }
open Go.Lib in

theorem Tryz.slices_Contains_string (b off n c : Nat) (zs : List ByteArray) (x : ByteArray) (w : World) (hz : n ≤ zs.length) (hbig : n ≤ 9223372036854775807) (hc : ∀ j, j < zs.length → w.cell? ⟨b, off + j, none⟩ = some (.string (zs.getD j ByteArray.empty))) :
    Calls Tryz.prog 70 #[.slice (some ⟨b, off, none⟩) n c, .string x] w fun e w' => e = .returned (.bool (Lib.containsS (zs.take n) x)) ∧ w' = w := Any.slices_Contains_string Tryz.lays110 b off n c zs x w hz hbig hc
open Go.Lib in

theorem Tryz.slices_Contains_string_empty (a : Option Addr) (c : Nat) (x : ByteArray) (w : World) :
    Calls Tryz.prog 70 #[.slice a 0 c, .string x] w fun e w' => e = .returned (.bool false) ∧ w' = w := Any.slices_Contains_string_empty Tryz.lays110 a c x w
def Tryz.lays194_ren : Go.Shelf.Ren := ⟨fun | 194 => 94 | n => n, fun | 31 => 112 | 9 => 9 | 3 => 3 | 4 => 4 | 0 => 0 | n => n, fun | n => n⟩
theorem Tryz.lays194 : Go.Proofs.Lays.n194 Tryz.prog Tryz.lays194_ren := {
  mixed := by kernel_rfl
  f194 := Tryz.func94.trans (congrArg some (by kernel_rfl))
  t0 := Tryz.underlying0
  a0 := Tryz.isAgg0
  z0 := Tryz.sizeOf0
  v0 := Tryz.zeroValue0
  t3 := Tryz.underlying3
  a3 := Tryz.isAgg3
  z3 := Tryz.sizeOf3
  v3 := Tryz.zeroValue3
  t4 := Tryz.underlying4
  a4 := Tryz.isAgg4
  z4 := Tryz.sizeOf4
  v4 := Tryz.zeroValue4
  t9 := Tryz.underlying9
  a9 := Tryz.isAgg9
  z9 := Tryz.sizeOf9
  v9 := Tryz.zeroValue9
  t31 := Tryz.underlying112
  a31 := Tryz.isAgg112
  z31 := Tryz.sizeOf112
  v31 := Tryz.zeroValue112 }
open Go.RowKit Go.Lib Go.Sort in

theorem Tryz.slices_Compact_string_arr (blk off cap : Nat) (d : Array (List UInt8)) (w : World) (hH : Holds encStr w blk off d) (hsz : d.size ≤ 9223372036854775807) (hcap : d.size ≤ cap) :
    Calls Tryz.prog 94 #[.slice (some ⟨blk, off, none⟩) d.size cap] w fun e w' => e = .returned (.slice (some ⟨blk, off, none⟩) (compactUpTo d d.size).length cap) ∧ ∃ q, w' = putRow encStr (Sort.ahead w q) blk off (compactUpTo d d.size ++ List.replicate (d.size - (compactUpTo d d.size).length) []).toArray := Any.slices_Compact_string_arr Tryz.lays194 blk off cap d w hH hsz hcap
open Go.RowKit Go.Lib Go.Sort in

theorem Tryz.slices_Compact_string (blk off cap : Nat) (zs : List (List UInt8)) (w : World) (hH : Holds encStr w blk off zs.toArray) (hsz : zs.length ≤ 9223372036854775807) (hcap : zs.length ≤ cap) :
    Calls Tryz.prog 94 #[.slice (some ⟨blk, off, none⟩) zs.length cap] w fun e w' => e = .returned (.slice (some ⟨blk, off, none⟩) (Lib.compact zs).length cap) ∧ ∃ q, w' = putRow encStr (Sort.ahead w q) blk off (Lib.compact zs ++ List.replicate (zs.length - (Lib.compact zs).length) []).toArray := Any.slices_Compact_string Tryz.lays194 blk off cap zs w hH hsz hcap
open Go.RowKit Go.Lib Go.Sort in

theorem Tryz.slices_Compact_string_empty (a : Option Addr) (cap : Nat) (w : World) :
    Calls Tryz.prog 94 #[.slice a 0 cap] w fun e w' => e = .returned (.slice a 0 cap) ∧ w' = w := Any.slices_Compact_string_empty Tryz.lays194 a cap w
def Tryz.laysNm237_ren : Go.Shelf.Ren := ⟨fun | 37 => 108 | n => n, fun | 3 => 3 | 4 => 4 | n => n, fun | n => n⟩
theorem Tryz.laysNm237 : Go.Proofs.Lays2.n37 Tryz.prog Tryz.laysNm237_ren := {
  mixed := by kernel_rfl
  f37 := Tryz.func108.trans (congrArg some (by kernel_rfl))
  t3 := Tryz.underlying3
  a3 := Tryz.isAgg3
  z3 := Tryz.sizeOf3
  v3 := Tryz.zeroValue3
  t4 := Tryz.underlying4
  a4 := Tryz.isAgg4
  z4 := Tryz.sizeOf4
  v4 := Tryz.zeroValue4 }
open Go.RowKit Go.Lib in

theorem Tryz.cmp_isNaN_int2 (x : Int) (w : World) :
    Calls Tryz.prog 108 #[.int .i64 x] w fun e w' => e = .returned (.bool false) ∧ w' = w := Any.cmp_isNaN_int2 Tryz.laysNm237 x w
open Go.RowKit Go.Lib Go.Sort in

theorem Tryz.slices_Compact_string_cells (b off n c : Nat) (Sx : Nat → ByteArray) (w : World) (hbig : n ≤ 9223372036854775807) (hcap : n ≤ c) (hc : ∀ i, i < n → w.cell? ⟨b, off + i, none⟩ = some (.string (Sx i))) (hf : ∀ j, j < n → w.frozen? ⟨b, off + j, none⟩ = false) :
    Calls Tryz.prog 94 #[.slice (some ⟨b, off, none⟩) n c] w fun e w' => e = .returned (.slice (some ⟨b, off, none⟩) (Lib.compact (Lib.strsOf Sx n)).length c) ∧ ∃ q, w' = (w.drewN q).setCells b off ((Lib.compact (Lib.strsOf Sx n) ++ List.replicate (n - (Lib.compact (Lib.strsOf Sx n)).length) []).map encStr) := Any.slices_Compact_string_cells Tryz.lays194 b off n c Sx w hbig hcap hc hf
open Go.RowKit Go.Sort in

theorem Tryz.slices_Sort_string_none (p : Option Addr) (cap : Nat) (w : World) :
    Calls Tryz.prog 93 #[.slice p 0 cap] w fun e w' => e = .returned (.tuple #[]) ∧ w' = w := Any.slices_Sort_string_none Tryz.lays190 p cap w
def Tryz.sortW_ren : Go.Shelf.Ren := ⟨fun | 6 => 106 | 15 => 110 | 14 => 117 | 28 => 127 | 29 => 128 | 20 => 131 | 21 => 132 | 22 => 133 | 23 => 134 | 24 => 135 | 25 => 136 | 26 => 137 | 27 => 138 | 46 => 146 | 47 => 140 | 48 => 141 | 49 => 147 | 50 => 148 | 57 => 150 | n => n, fun | 22 => 75 | 24 => 122 | 25 => 160 | 3 => 3 | 39 => 131 | 0 => 0 | 53 => 85 | 55 => 202 | 4 => 4 | 46 => 194 | 45 => 193 | 50 => 127 | 5 => 5 | 9 => 9 | 66 => 208 | 70 => 212 | 76 => 217 | 77 => 218 | n => n, fun | n => n⟩
theorem Tryz.sortW : Go.Proofs.SlLaysF0.n6 Tryz.prog Tryz.sortW_ren := {
  mixed := by kernel_rfl
  f6 := ⟨Tryz.f106.name, by decide, Tryz.func106.trans (congrArg some (by kernel_rfl))⟩
  f14 := ⟨Tryz.f117.name, by decide, Tryz.func117.trans (congrArg some (by kernel_rfl))⟩
  f15 := Tryz.func110.trans (congrArg some (by kernel_rfl))
  f20 := ⟨Tryz.f131.name, by decide, Tryz.func131.trans (congrArg some (by kernel_rfl))⟩
  f21 := ⟨Tryz.f132.name, by decide, Tryz.func132.trans (congrArg some (by kernel_rfl))⟩
  f22 := ⟨Tryz.f133.name, by decide, Tryz.func133.trans (congrArg some (by kernel_rfl))⟩
  f23 := ⟨Tryz.f134.name, by decide, Tryz.func134.trans (congrArg some (by kernel_rfl))⟩
  f24 := ⟨Tryz.f135.name, by decide, Tryz.func135.trans (congrArg some (by kernel_rfl))⟩
  f25 := ⟨Tryz.f136.name, by decide, Tryz.func136.trans (congrArg some (by kernel_rfl))⟩
  f26 := ⟨Tryz.f137.name, by decide, Tryz.func137.trans (congrArg some (by kernel_rfl))⟩
  f27 := ⟨Tryz.f138.name, by decide, Tryz.func138.trans (congrArg some (by kernel_rfl))⟩
  f28 := Tryz.func127.trans (congrArg some (by kernel_rfl))
  f29 := Tryz.func128.trans (congrArg some (by kernel_rfl))
  f46 := ⟨Tryz.f146.name, by decide, Tryz.func146.trans (congrArg some (by kernel_rfl))⟩
  f47 := Tryz.func140.trans (congrArg some (by kernel_rfl))
  f48 := Tryz.func141.trans (congrArg some (by kernel_rfl))
  f49 := ⟨Tryz.f147.name, by decide, Tryz.func147.trans (congrArg some (by kernel_rfl))⟩
  f50 := ⟨Tryz.f148.name, by decide, Tryz.func148.trans (congrArg some (by kernel_rfl))⟩
  f57 := ⟨Tryz.f150.name, by decide, Tryz.func150.trans (congrArg some (by kernel_rfl))⟩
  t0 := Tryz.underlying0
  a0 := Tryz.isAgg0
  z0 := Tryz.sizeOf0
  v0 := Tryz.zeroValue0
  t3 := Tryz.underlying3
  a3 := Tryz.isAgg3
  z3 := Tryz.sizeOf3
  v3 := Tryz.zeroValue3
  t4 := Tryz.underlying4
  a4 := Tryz.isAgg4
  z4 := Tryz.sizeOf4
  v4 := Tryz.zeroValue4
  t5 := Tryz.underlying5
  a5 := Tryz.isAgg5
  z5 := Tryz.sizeOf5
  v5 := Tryz.zeroValue5
  t9 := Tryz.underlying9
  a9 := Tryz.isAgg9
  z9 := Tryz.sizeOf9
  v9 := Tryz.zeroValue9
  t22 := Tryz.underlying75
  a22 := Tryz.isAgg75
  z22 := Tryz.sizeOf75
  v22 := Tryz.zeroValue75
  t25 := Tryz.underlying160
  a25 := Tryz.isAgg160
  z25 := Tryz.sizeOf160
  v25 := Tryz.zeroValue160
  t39 := Tryz.underlying131
  a39 := Tryz.isAgg131
  z39 := Tryz.sizeOf131
  v39 := Tryz.zeroValue131
  t45 := Tryz.underlying193
  a45 := Tryz.isAgg193
  z45 := Tryz.sizeOf193
  v45 := Tryz.zeroValue193
  t46 := Tryz.underlying194
  a46 := Tryz.isAgg194
  z46 := Tryz.sizeOf194
  v46 := Tryz.zeroValue194
  t50 := Tryz.underlying127
  a50 := Tryz.isAgg127
  z50 := Tryz.sizeOf127
  v50 := Tryz.zeroValue127
  t53 := Tryz.underlying85
  a53 := Tryz.isAgg85
  z53 := Tryz.sizeOf85
  v53 := Tryz.zeroValue85
  t55 := Tryz.underlying202
  a55 := Tryz.isAgg202
  z55 := Tryz.sizeOf202
  v55 := Tryz.zeroValue202
  t66 := Tryz.underlying208
  a66 := Tryz.isAgg208
  z66 := Tryz.sizeOf208
  v66 := Tryz.zeroValue208
  t70 := Tryz.underlying212
  a70 := Tryz.isAgg212
  z70 := Tryz.sizeOf212
  v70 := Tryz.zeroValue212
  t76 := Tryz.underlying217
  a76 := Tryz.isAgg217
  z76 := Tryz.sizeOf217
  v76 := Tryz.zeroValue217
  t77 := Tryz.underlying218
  a77 := Tryz.isAgg218
  z77 := Tryz.sizeOf218
  v77 := Tryz.zeroValue218 }
end Go.Proofs

/- THE LEDGER: compareName, the search, fold, WALKED. -/
namespace Go.Proofs.YthedkdbgfdjlkaaGreat
set_option linter.unusedVariables false
set_option linter.unusedSimpArgs false
open Go.RowKit Go.Lib

theorem cmp_lt : ∀ (a b : List UInt8), (compareBytes a b < 0) ↔ Op.bytesLess a b = true
  | [], [] => by simp [compareBytes, Op.bytesLess]
  | [], _ :: _ => by simp [compareBytes, Op.bytesLess]
  | _ :: _, [] => by simp [compareBytes, Op.bytesLess]
  | a :: x, b :: y => by
    have ih := cmp_lt x y
    simp only [compareBytes, Op.bytesLess]
    by_cases h1 : a < b
    · simp [h1]
    · by_cases h2 : b < a
      · have : ¬ (a == b) = true := by
          intro h; have := eq_of_beq h; subst this; exact absurd h2 h1
        simp [h1, h2, this]
      · have e : a = b := by
          refine Decidable.of_not_not fun h => ?_
          rcases UInt8.lt_or_lt_of_ne h with h | h
          · exact h1 h
          · exact h2 h
        subst e
        simp [h1, ih]

theorem cmp_eq0 : ∀ (a b : List UInt8), (compareBytes a b = 0) ↔ a = b
  | [], [] => by simp [compareBytes]
  | [], _ :: _ => by simp [compareBytes]
  | _ :: _, [] => by simp [compareBytes]
  | a :: x, b :: y => by
    have ih := cmp_eq0 x y
    simp only [compareBytes]
    by_cases h1 : a < b
    · have : a ≠ b := fun e => by subst e; exact absurd h1 (UInt8.lt_irrefl a)
      simp [h1, this]
    · by_cases h2 : b < a
      · have : a ≠ b := fun e => by subst e; exact absurd h2 (UInt8.lt_irrefl a)
        simp [h1, h2, this]
      · have e : a = b := by
          refine Decidable.of_not_not fun h => ?_
          rcases UInt8.lt_or_lt_of_ne h with h | h
          · exact h1 h
          · exact h2 h
        subst e
        simp [h1, ih]

theorem data_inj {a b : ByteArray} (h : a.data.toList = b.data.toList) : a = b := by
  cases a; cases b
  simp at h
  rw [h]

def cmpN (a b : ByteArray) : Int := compareBytes a.data.toList b.data.toList
theorem cmpN_lt (a b : ByteArray) : (cmpN a b < 0) ↔ less a b = true := cmp_lt _ _
theorem cmpN_eq (a b : ByteArray) : (cmpN a b = 0) ↔ a = b := ⟨fun h => data_inj ((cmp_eq0 _ _).1 h), fun h => by subst h; exact (cmp_eq0 _ _).2 rfl⟩

set_option maxRecDepth 100000 in
set_option maxHeartbeats 400000 in
theorem compareName_any (k : Ky) (name : ByteArray) (w : World) :
    Calls Tryz.prog 80 #[k.agg, .string name] w fun e w' => e = .returned (.int .i64 (cmpN k.name name)) ∧ Chg (fun _ => False) w w' := by
  unfold Ky.agg
  go_enter Tryz.func80, Tryz.ntmps80
  go_wp2_with fail
  refine (Tryz.strings_Compare _ _ _).mono ?_
  rintro _ w1 ⟨rfl, rfl⟩
  go_wp2_with fail
  go_ret
  exact ⟨rfl, (Chg.refl _ _).alloc _⟩

/-- How many names are below one. -/
def lowPos (name : ByteArray) : List Ky → Nat
  | [] => 0
  | k :: r => if less k.name name then lowPos name r + 1 else 0

theorem lowPos_le (name : ByteArray) : ∀ l : List Ky, lowPos name l ≤ l.length
  | [] => Nat.le_refl _
  | k :: r => by
    have := lowPos_le name r
    unfold lowPos; split <;> simp <;> omega

def nameAt (l : List Ky) (i : Nat) : ByteArray := match l[i]? with
  | some k => k.name
  | none => ⟨#[]⟩

/-- The names rise: below the place they are less, from it on they are not. -/
structure Rises (l : List Ky) : Prop where
  tail : ∀ (name : ByteArray) (i : Nat), i < l.length → (less (nameAt l i) name = true ↔ i < lowPos name l)

set_option maxRecDepth 100000 in
set_option maxHeartbeats 400000 in
theorem search_any (lo n : Nat) (v : Value) (ks : List Ky) (name : ByteArray) (w : World) (hr : w.ownsRow lo 57 4 v n (keyCells ks)) (hl : ks.length = n) (hn : n ≤ 1000) (hs : Rises ks) :
    Calls Tryz.prog 79 #[v, .string name, .func (.func 80) #[] #[]] w fun e w' =>
      e = .returned (.tuple #[.int .i64 (lowPos name ks), .bool (decide (lowPos name ks < n ∧ nameAt ks (lowPos name ks) = name))]) ∧ Chg (fun _ => False) w w' := by
  obtain ⟨p, cap, rfl⟩ := row_any hr
  have hP := lowPos_le name ks
  obtain ⟨Q, hQ⟩ : ∃ Q, Q = lowPos name ks := ⟨_, rfl⟩
  go_enter Tryz.func79, Tryz.ntmps79
  go_wp2
  go_loopw [9, 10, 11] (fun si sj _ wr => ∃ (i j : Nat), si = .int .i64 i ∧ sj = .int .i64 j ∧ i ≤ Q ∧ Q ≤ j ∧ j ≤ n ∧ Chg (fun _ => False) w wr) (fun si sj _ _ => (intOf sj).toNat - (intOf si).toNat)
  case atStart => exact ⟨0, n, rfl, rfl, by omega, by omega, by omega, Chg.refl _ _⟩
  case round =>
    obtain ⟨i, j, rfl, rfl, hi, hj, hjn, hc⟩ := hrel
    by_cases hij : i < j
    · have hij' : (i : Int) < (j : Int) := by omega
      obtain ⟨m, hm⟩ : ∃ m, m = (i + j) / 2 := ⟨_, rfl⟩
      have hm1 : i ≤ m := by omega
      have hm2 : m < j := by omega
      have e0 : ((i : Int) + (j : Int)) / 2 = (m : Int) := by omega
      have HM : Hid (m = (i + j) / 2) := hm
      clear hm
      obtain ⟨x, hx⟩ : ∃ x, ks[m]? = some x := ⟨_, List.getElem?_eq_getElem (by omega)⟩
      have cx := keyCells_at ks m x hx
      obtain ⟨g, cap', hv, hlg, _, hcell⟩ := row_pos hr (by omega)
      simp only [Value.slice.injEq] at hv
      obtain ⟨rfl, _, rfl⟩ := hv
      have a0 := hc.cellAt (hcell _ _ cx.1) id
      have a1 := hc.cellAt (hcell _ _ cx.2.1) id
      have a2 := hc.cellAt (hcell _ _ cx.2.2.1) id
      have a3 := hc.cellAt (hcell _ _ cx.2.2.2) id
      have hmn : (m : Int) < (n : Int) := by omega
      have hlt := hs.tail name m (by omega)
      have hnm : nameAt ks m = x.name := by simp [nameAt, hx]
      rw [hnm] at hlt
      clear hcell hr cx
      go_wp2_with fail
      refine (compareName_any x name wr).mono ?_
      rintro _ w1 ⟨rfl, hc1⟩
      by_cases hle : less x.name name = true
      · have hd : cmpN x.name name < 0 := (cmpN_lt _ _).2 hle
        have hmQ := hlt.1 hle
        rw [← hQ] at hmQ
        clear hlt hnm e0
        go_wp2_with fail
        go_roundw
        case rel => exact ⟨m + 1, j, by go_num, rfl, by omega, hj, hjn, hc.trans hc1 (fun _ _ h => h)⟩
        case measure => simp [intOf]; omega
      · have hd : ¬ cmpN x.name name < 0 := fun h => hle ((cmpN_lt _ _).1 h)
        have hmQ : ¬ m < lowPos name ks := fun h => hle (hlt.2 h)
        rw [← hQ] at hmQ
        clear hlt hnm e0
        go_wp2_with fail
        go_roundw
        case rel => exact ⟨i, m, rfl, by go_num, hi, by omega, by omega, hc.trans hc1 (fun _ _ h => h)⟩
        case measure => simp [intOf]; omega
    · have hij' : ¬ (i : Int) < (j : Int) := by omega
      have hiQ : i = Q := by omega
      subst hiQ
      by_cases hin : i < n
      · obtain ⟨x, hx⟩ : ∃ x, ks[i]? = some x := ⟨_, List.getElem?_eq_getElem (by omega)⟩
        have cx := keyCells_at ks i x hx
        obtain ⟨g, cap', hv, hlg, _, hcell⟩ := row_pos hr (by omega)
        simp only [Value.slice.injEq] at hv
        obtain ⟨rfl, _, rfl⟩ := hv
        have a0 := hc.cellAt (hcell _ _ cx.1) id
        have a1 := hc.cellAt (hcell _ _ cx.2.1) id
        have a2 := hc.cellAt (hcell _ _ cx.2.2.1) id
        have a3 := hc.cellAt (hcell _ _ cx.2.2.2) id
        have hin' : (i : Int) < (n : Int) := by omega
        have hnm : nameAt ks i = x.name := by simp [nameAt, hx]
        have HQ : Hid (i = lowPos name ks) := hQ
        clear hcell hr cx hQ
        go_wp2_with fail
        refine (compareName_any x name wr).mono ?_
        rintro _ w1 ⟨rfl, hc1⟩
        go_wp2_with fail
        go_ret2
        refine ⟨?_, hc.trans hc1 (fun _ _ h => h)⟩
        have e1 : (cmpN x.name name == 0) = decide (i < n ∧ nameAt ks i = name) := by
          rw [hnm]
          have := cmpN_eq x.name name
          by_cases h : x.name = name
          · simp [h, hin, this.2 h, (cmpN_eq name name).2 rfl]
          · have h0 : ¬ cmpN x.name name = 0 := fun h' => h (this.1 h')
            simp [h, h0]
        rw [← HQ.out, ← e1]
        rfl
      · have hin' : ¬ (i : Int) < (n : Int) := by omega
        have e1 : decide (i < n ∧ nameAt ks i = name) = false := by simp; omega
        have HQ : Hid (i = lowPos name ks) := hQ
        have E1 : Hid (decide (i < n ∧ nameAt ks i = name) = false) := e1
        clear hQ e1
        go_wp2_with fail
        go_ret2
        refine ⟨?_, hc⟩
        rw [← HQ.out]
        have d1 : decide (i < n) = false := by simp; omega
        simp [d1]

end Go.Proofs.YthedkdbgfdjlkaaGreat

/- PLAIN FACTS: the keys rise; what take makes of them. -/
namespace Go.Proofs.YthedkdbgfdjlkaaGreat
set_option linter.unusedVariables false
set_option linter.unusedSimpArgs false
open Go.Lib

theorem cmp_gt : ∀ (a b : List UInt8), (0 < compareBytes a b) ↔ Op.bytesLess b a = true
  | [], [] => by simp [compareBytes, Op.bytesLess]
  | [], _ :: _ => by simp [compareBytes, Op.bytesLess]
  | _ :: _, [] => by simp [compareBytes, Op.bytesLess]
  | a :: x, b :: y => by
    have ih := cmp_gt x y
    simp only [compareBytes, Op.bytesLess]
    by_cases h1 : a < b
    · have h2 : ¬ b < a := UInt8.lt_asymm h1
      have : ¬ (b == a) = true := by
        intro h; have := eq_of_beq h; subst this; exact absurd h1 (UInt8.lt_irrefl _)
      simp [h1, h2, this]
    · by_cases h2 : b < a
      · simp [h1, h2]
      · have e : a = b := by
          refine Decidable.of_not_not fun h => ?_
          rcases UInt8.lt_or_lt_of_ne h with h | h
          · exact h1 h
          · exact h2 h
        subst e
        simp [h1, ih]

theorem less_irrefl (a : ByteArray) : less a a = false := by
  have h := (cmpN_eq a a).2 rfl
  have := cmpN_lt a a
  cases e : less a a with
  | false => rfl
  | true => have := this.2 e; omega

theorem less_tri (a b : ByteArray) : less a b = true ∨ a = b ∨ less b a = true := by
  rcases Int.lt_trichotomy (cmpN a b) 0 with h | h | h
  · exact .inl ((cmpN_lt a b).1 h)
  · exact .inr (.inl ((cmpN_eq a b).1 h))
  · exact .inr (.inr ((cmp_gt _ _).1 h))

theorem bless_trans : ∀ (a b c : List UInt8), Op.bytesLess a b = true → Op.bytesLess b c = true → Op.bytesLess a c = true
  | a, b, [], _, h2 => by simp [Op.bytesLess] at h2
  | [], b, _ :: _, _, _ => by simp [Op.bytesLess]
  | x :: a, [], _ :: _, h1, _ => by simp [Op.bytesLess] at h1
  | x :: a, y :: b, z :: c, h1, h2 => by
    have ih := bless_trans a b c
    simp only [Op.bytesLess, Bool.or_eq_true, Bool.and_eq_true, beq_iff_eq, decide_eq_true_eq] at h1 h2 ⊢
    rcases h1 with h1 | ⟨rfl, h1⟩
    · rcases h2 with h2 | ⟨rfl, h2⟩
      · exact .inl (UInt8.lt_trans h1 h2)
      · exact .inl h1
    · rcases h2 with h2 | ⟨rfl, h2⟩
      · exact .inl h2
      · exact .inr ⟨rfl, ih h1 h2⟩

theorem less_trans {a b c : ByteArray} (h1 : less a b = true) (h2 : less b c = true) : less a c = true := bless_trans _ _ _ h1 h2
theorem less_asymm {a b : ByteArray} (h : less a b = true) : less b a = false := by
  cases e : less b a with
  | false => rfl
  | true => have := less_trans h e; rw [less_irrefl] at this; cases this

/-- The keys stand in order. -/
def Sorted (l : List Ky) : Prop := l.Pairwise fun a b => less a.name b.name = true

theorem Sorted.rises : ∀ {l : List Ky}, Sorted l → Rises l
  | [], _ => ⟨fun name i h => by simp at h⟩
  | k :: r, h => by
    obtain ⟨h1, h2⟩ := List.pairwise_cons.1 h
    have ih := Sorted.rises h2
    refine ⟨fun name i hi => ?_⟩
    by_cases hk : less k.name name = true
    · cases i with
      | zero => simp [nameAt, lowPos, hk]
      | succ i =>
        have := ih.tail name i (by simpa using hi)
        simpa [nameAt, lowPos, hk] using this
    · cases i with
      | zero => simp [nameAt, lowPos, hk]
      | succ i =>
        have hi' : i < r.length := by simpa using hi
        have hx : r[i]? = some r[i] := List.getElem?_eq_getElem hi'
        have hlt := h1 r[i] (List.getElem_mem hi')
        have : ¬ less r[i].name name = true := fun h' => hk (less_trans hlt h')
        simp [nameAt, lowPos, hk, hx, this]

theorem takeKy_found (name : ByteArray) (val : Int) : ∀ {l : List Ky}, Sorted l → ∀ {i : Nat} {k : Ky}, lowPos name l = i → l[i]? = some k → k.name = name → takeKy name val l = l.set i (k.more val)
  | [], _, i, k, _, hk, _ => by simp at hk
  | y :: r, h, i, k, hi, hk, hn => by
    obtain ⟨h1, h2⟩ := List.pairwise_cons.1 h
    by_cases hy : less y.name name = true
    · have hne : ¬ y.name = name := fun e => by rw [e, less_irrefl] at hy; cases hy
      have hna : less name y.name = false := less_asymm hy
      simp only [lowPos, hy] at hi
      subst hi
      have := takeKy_found name val h2 (i := lowPos name r) (k := k) rfl (by simpa using hk) hn
      simp [takeKy, hne, hna, this]
    · simp only [lowPos, hy] at hi
      subst hi
      simp at hk
      subst hk
      simp [takeKy, hn]

theorem takeKy_new (name : ByteArray) (val : Int) : ∀ {l : List Ky}, Sorted l → ∀ {i : Nat}, lowPos name l = i → ¬ (i < l.length ∧ nameAt l i = name) → takeKy name val l = l.take i ++ [(⟨name, 0, 0, 0⟩ : Ky).more val] ++ l.drop i
  | [], _, i, hi, _ => by simp [takeKy]
  | y :: r, h, i, hi, hno => by
    obtain ⟨h1, h2⟩ := List.pairwise_cons.1 h
    by_cases hy : less y.name name = true
    · have hne : ¬ y.name = name := fun e => by rw [e, less_irrefl] at hy; cases hy
      have hna : less name y.name = false := less_asymm hy
      simp only [lowPos, hy] at hi
      subst hi
      have := takeKy_new name val h2 (i := lowPos name r) rfl (by
        intro ⟨a, b⟩
        exact hno ⟨by simp; omega, by simpa [nameAt] using b⟩)
      simp [takeKy, hne, hna, this]
    · simp only [lowPos, hy] at hi
      subst hi
      have hne : ¬ y.name = name := fun e => hno ⟨by simp, by simpa [nameAt] using e⟩
      have hna : less name y.name = true := by
        rcases less_tri y.name name with h' | h' | h'
        · exact absurd h' hy
        · exact absurd h' hne
        · exact h'
      simp [takeKy, hne, hna]

end Go.Proofs.YthedkdbgfdjlkaaGreat

/- THE LEDGER: fold, take, WALKED. -/
namespace Go.Proofs.YthedkdbgfdjlkaaGreat
set_option linter.unusedVariables false
set_option linter.unusedSimpArgs false
open Go.RowKit Go.Lib

theorem toNat_beq (c : UInt8) (n : Nat) (hn : n < 256) : (((c.toNat : Int)) == (n : Int)) = (c == UInt8.ofNat n) := by
  have h : (UInt8.ofNat n).toNat = n := by simp; omega
  by_cases e : c = UInt8.ofNat n
  · subst e; simp [h]
  · have : ¬ c.toNat = n := fun h' => e (UInt8.toNat_inj.1 (h'.trans h.symm))
    have h1 : (c == UInt8.ofNat n) = false := by simpa using e
    rw [h1]
    simp; omega
theorem c99 (c : UInt8) : (((c.toNat : Int)) == 99) = (c == 99) := toNat_beq c 99 (by omega)
theorem c115 (c : UInt8) : (((c.toNat : Int)) == 115) = (c == 115) := toNat_beq c 115 (by omega)
theorem c108 (c : UInt8) : (((c.toNat : Int)) == 108) = (c == 108) := toNat_beq c 108 (by omega)

theorem foldOne_c {k : ByteArray} {n f v : Int} {c : UInt8} {r : List UInt8} (hk : k.data.toList = c :: r) : foldOne k n f v = if c == 99 then n else if c == 115 then (f + v) % 4294967296 else if c == 108 then v else max f v := by
  simp only [foldOne, hk]

set_option maxRecDepth 100000 in
set_option maxHeartbeats 400000 in
theorem fold_any (k : Ky) (val : Int) (w : World) (c : UInt8) (r : List UInt8) (hk : k.name.data.toList = c :: r) (hf : 0 ≤ k.fold ∧ k.fold ≤ 4294967295) (hv : 0 ≤ val ∧ val ≤ 4294967295) (hok : okFirst c = true) :
    Calls Tryz.prog 100 #[k.agg, .int .i64 val] w fun e w' => e = .returned (.int .i64 (foldOne k.name k.count k.fold val)) ∧ Chg (fun _ => False) w w' := by
  obtain ⟨hf0, hf1⟩ := hf
  obtain ⟨hv0, hv1⟩ := hv
  have hlen : 0 < k.name.size := by show 0 < k.name.data.size; rw [← Array.length_toList, hk]; simp
  have h0 : k.name[0] = c := by
    have : k.name.data.toList[0]'(by rw [hk]; simp) = c := by simp [hk]
    exact this
  unfold Ky.agg
  go_enter Tryz.func100, Tryz.ntmps100
  go_wp2
  all_goals
    go_ret
    refine ⟨?_, (Chg.refl _ w).alloc _⟩
    rw [foldOne_c hk, ← c99, ← c115, ← c108]
    simp [*]

end Go.Proofs.YthedkdbgfdjlkaaGreat

/- THE LEDGER: take, WALKED. -/
namespace Go.Proofs.YthedkdbgfdjlkaaGreat
set_option linter.unusedVariables false
set_option linter.unusedSimpArgs false
open Go.RowKit Go.Lib

/-- Insert, whichever way it goes. -/
theorem insert_any (lo n i vb : Nat) (v : Value) (ks : List Ky) (x : Ky) (w : World) (hr : w.ownsRow lo 57 4 v n (keyCells ks)) (hl : ks.length = n) (hn : n ≤ 1000) (hi : i ≤ n) (hlo : lo ≤ w.heap.size) (hvb : v.ownBlock ≠ some vb)
    (hx : w.heap[vb]? = some (.cells #[.string x.name, .int .i64 x.count, .int .i64 x.fold, .int .i64 x.held] 57)) :
    Calls Tryz.prog 99 #[v, .int .i64 i, .slice (some ⟨vb, 0, none⟩) 1 1] w fun e w' => ∃ v', e = .returned v' ∧
      w'.ownsRow lo 57 4 v' (n + 1) (keyCells (ks.take i ++ [x] ++ ks.drop i)) ∧ (v'.ownBlock = v.ownBlock ∨ ∀ k, v'.ownBlock = some k → w.heap.size ≤ k) ∧ Chg (fun k => v.ownBlock = some k) w w' := by
  rcases Nat.lt_or_ge i n with h | h
  · obtain ⟨g, cap, rfl, hg, hcap, _⟩ := row_pos hr (by omega)
    have hm : cap ≤ maxLen := by
      rcases hr.2 with ⟨hv, _⟩ | ⟨g', cap', cur, hv, _, _, _, hm, _⟩
      · simp at hv
      · simp at hv; obtain ⟨_, rfl⟩ := hv; exact hm
    unfold maxLen at hm
    by_cases hroom : n + 1 ≤ cap
    · refine (insert_shift lo n i g cap vb ks x w hr hl hn h hroom (by omega) (fun e => hvb (by rw [e]; rfl)) hx).mono ?_
      rintro e w' ⟨rfl, h1, h2⟩
      exact ⟨_, rfl, h1, .inl rfl, h2.mono (fun k hk => by rw [hk]; rfl)⟩
    · refine (insert_grow lo n i g cap vb ks x w hr hl hn h (by omega) hlo hx).mono ?_
      rintro e w' ⟨v', rfl, h1, h2, h3⟩
      exact ⟨_, rfl, h1, .inr h2, h3.mono (fun k hk => hk.elim)⟩
  · obtain rfl : i = n := by omega
    have hxc : ∀ j u, x.cells[j]? = some u → w.cell? ⟨vb, j, none⟩ = some u := fun j u hj => by
      simp only [World.cell?, hx]
      match j, hj with
      | 0, hj => simpa [Ky.cells] using hj
      | 1, hj => simpa [Ky.cells] using hj
      | 2, hj => simpa [Ky.cells] using hj
      | 3, hj => simpa [Ky.cells] using hj
      | k + 4, hj => simp [Ky.cells] at hj
    refine (insert_end lo i vb v ks x w hr hl hn hlo hxc).mono ?_
    rintro e w' ⟨v', rfl, h1, h2, h3⟩
    refine ⟨v', rfl, ?_, h2, h3⟩
    rw [List.take_of_length_le (by omega), List.drop_eq_nil_of_le (by omega), List.append_nil]
    exact h1

/-- The last three statements of take: the key at a place is counted and folded. -/
def Ky.took (k : Ky) (val : Int) : Ky := k.more val

theorem keyCells_set : ∀ (l : List Ky) (i : Nat) (x : Ky), keyCells (l.set i x) = ((((keyCells l).set (i * 4) (.string x.name)).set (i * 4 + 1) (.int .i64 x.count)).set (i * 4 + 2) (.int .i64 x.fold)).set (i * 4 + 3) (.int .i64 x.held)
  | [], i, x => by simp [keyCells]
  | y :: r, 0, x => by simp [keyCells]
  | y :: r, i + 1, x => by
    have e : (i + 1) * 4 = i * 4 + 4 := by omega
    rw [e]
    simp [keyCells, keyCells_set r i x]

theorem set_same {α : Type} {l : List α} {i : Nat} {x : α} (h : l[i]? = some x) : l.set i x = l := by
  obtain ⟨hi, rfl⟩ := List.getElem?_eq_some_iff.1 h
  exact List.set_getElem_self hi

/-- Count and fold of a place written anew. -/
theorem key2_list {ks : List Ky} {i : Nat} {k : Ky} (hk : ks[i]? = some k) (c f : Int) :
    keyCells (ks.set i ⟨k.name, c, f, k.held⟩) = ((keyCells ks).set (i * 4 + 1) (.int .i64 c)).set (i * 4 + 2) (.int .i64 f) := by
  have cx := keyCells_at ks i k hk
  rw [keyCells_set]
  have e0 : (keyCells ks).set (i * 4) (.string k.name) = keyCells ks := set_same cx.1
  simp only [e0]
  refine set_same ?_
  rw [List.getElem?_set_ne (by omega), List.getElem?_set_ne (by omega)]
  exact cx.2.2.2

structure Ky.ok (k : Ky) : Prop where
  first : ∃ c r, k.name.data.toList = c :: r ∧ okFirst c = true
  fold : 0 ≤ k.fold ∧ k.fold ≤ 4294967295
  count : 0 ≤ k.count ∧ k.count ≤ 1000

set_option maxRecDepth 100000 in
set_option maxHeartbeats 400000 in
/-- find: the search. -/
theorem find_any (lo n : Nat) (v : Value) (ks : List Ky) (name : ByteArray) (w : World) (hr : w.ownsRow lo 57 4 v n (keyCells ks)) (hl : ks.length = n) (hn : n ≤ 1000) (hs : Rises ks) :
    Calls Tryz.prog 56 #[v, .string name] w fun e w' =>
      e = .returned (.tuple #[.int .i64 (lowPos name ks), .bool (decide (lowPos name ks < n ∧ nameAt ks (lowPos name ks) = name))]) ∧ Chg (fun _ => False) w w' := by
  have hse := search_any lo n v ks name w hr hl hn hs
  obtain ⟨p, cap, rfl⟩ := row_any hr
  go_enter Tryz.func56, Tryz.ntmps56
  go_wp2_with fail
  refine hse.mono ?_
  rintro _ w1 ⟨rfl, c1⟩
  clear hse
  go_wp2
  go_ret2
  exact ⟨by rw [Bool.decide_and]; rfl, c1⟩

set_option maxRecDepth 100000 in
set_option maxHeartbeats 1000000 in
/-- take, where the key is there. -/
theorem take_found (lo b o n i g cap : Nat) (ks : List Ky) (k : Ky) (name : ByteArray) (val : Int) (w : World) (hv : w.cell? ⟨b, o, none⟩ = some (.slice (some ⟨g, 0, none⟩) n cap))
    (hr : w.ownsRow lo 57 4 (.slice (some ⟨g, 0, none⟩) n cap) n (keyCells ks)) (hl : ks.length = n) (hn : n ≤ 1000) (hs : Rises ks) (hbg : b ≠ g) (hi : lowPos name ks = i) (hin : i < n) (hk : ks[i]? = some k) (hkn : k.name = name) (hok : k.ok) (hval : 0 ≤ val ∧ val ≤ 4294967295) :
    Calls Tryz.prog 75 #[.pointer (some ⟨b, o, none⟩), .string name, .int .i64 val] w fun e w' => e = .returned (.tuple #[]) ∧
      w'.ownsRow lo 57 4 (.slice (some ⟨g, 0, none⟩) n cap) n (keyCells (ks.set i (k.more val))) ∧ Chg (fun k => k = g) w w' := by
  subst hkn
  obtain ⟨cb, rb, hcb, hob⟩ := hok.first
  have hse := find_any lo n _ ks k.name w hr hl hn hs
  have hnm : nameAt ks i = k.name := by simp [nameAt, hk]
  have hd : decide (i < n ∧ nameAt ks i = k.name) = true := by simp [hin, hnm]
  rw [hi, hd] at hse
  obtain ⟨hc0, hc1⟩ := hok.count
  have hin' : (i : Int) < (n : Int) := by omega
  go_enter Tryz.func75, Tryz.ntmps75
  go_wp2_with fail
  refine hse.mono ?_
  rintro _ w1 ⟨rfl, c1⟩
  have hv1 := c1.cellAt hv id
  have r1 := c1.row' hr (fun _ _ h => h.elim)
  have cx := keyCells_at ks i k hk
  have a0 := row_cell r1 cx.1
  have a1 := row_cell r1 cx.2.1
  have a2 := row_cell r1 cx.2.2.1
  have a3 := row_cell r1 cx.2.2.2
  have f1 := row_frozen r1 (i * 4 + 1)
  have f2 := row_frozen r1 (i * 4 + 2)
  clear hse hd cx hnm
  go_wp2_with fail
  refine (fold_any ⟨k.name, k.count + 1, k.fold, k.held⟩ val _ cb rb hcb hok.fold hval hob).mono ?_
  rintro _ w2 ⟨rfl, c2⟩
  have r2 := c2.row' (r1.stored (i * 4 + 1) (.int .i64 (k.count + 1))).1 (fun _ _ h => h.elim)
  have a2' := c2.cellAt ((World.cell?_setCell_other w1 ⟨g, i * 4 + 1, none⟩ ⟨g, i * 4 + 2, none⟩ (.int .i64 (k.count + 1)) (by simp)).trans a2) id
  have f2' := row_frozen r2 (i * 4 + 2)
  have c12 : Chg (fun k => k = g) w w2 := ((c1.mono (G := fun k => k = g) (fun _ h => h.elim)).setCell (p := ⟨g, i * 4 + 1, none⟩) (fun _ => rfl) _).trans c2 (fun _ _ h => h.elim)
  clear a0 a1 a2 a3 f1 f2 hv1
  go_wp2_with fail
  go_end0
  refine ⟨rfl, ?_, c12.setCell (p := ⟨g, i * 4 + 2, none⟩) (fun _ => rfl) _⟩
  have e := key2_list hk (k.count + 1) (foldOne k.name (k.count + 1) k.fold val)
  show World.ownsRow _ lo _ 4 _ n (keyCells (ks.set i ⟨k.name, k.count + 1, foldOne k.name (k.count + 1) k.fold val, k.held⟩))
  rw [e]
  exact (r2.stored (i * 4 + 2) _).1

set_option maxRecDepth 100000 in
set_option maxHeartbeats 1000000 in
/-- take, where the key is new. -/
theorem take_new (lo b o n i : Nat) (v : Value) (ks : List Ky) (name : ByteArray) (val : Int) (w : World) (hv : w.cell? ⟨b, o, none⟩ = some v) (hz : w.frozen? ⟨b, o, none⟩ = false)
    (hr : w.ownsRow lo 57 4 v n (keyCells ks)) (hl : ks.length = n) (hn : n < 1000) (hs : Rises ks) (hbv : v.ownBlock ≠ some b) (hlo : lo ≤ w.heap.size) (hi : lowPos name ks = i) (hnot : ¬ (i < n ∧ nameAt ks i = name))
    (cb : UInt8) (rb : List UInt8) (hcb : name.data.toList = cb :: rb) (hob : okFirst cb = true) (hval : 0 ≤ val ∧ val ≤ 4294967295) :
    Calls Tryz.prog 75 #[.pointer (some ⟨b, o, none⟩), .string name, .int .i64 val] w fun e w' => ∃ v', e = .returned (.tuple #[]) ∧ w'.cell? ⟨b, o, none⟩ = some v' ∧
      w'.ownsRow lo 57 4 v' (n + 1) (keyCells (ks.take i ++ [(⟨name, 0, 0, 0⟩ : Ky).more val] ++ ks.drop i)) ∧ (v'.ownBlock = v.ownBlock ∨ ∀ k, v'.ownBlock = some k → w.heap.size ≤ k) ∧ Slots b (fun j => j = o) w w' ∧ Chg (fun k => k = b ∨ v.ownBlock = some k) w w' := by
  have hse := find_any lo n v ks name w hr hl (by omega) hs
  have hd : decide (i < n ∧ nameAt ks i = name) = false := by simpa using hnot
  rw [hi, hd] at hse
  have hile : i ≤ n := by have := lowPos_le name ks; omega
  have hbl : b < w.heap.size := World.block_lt_of_cell? w _ hv
  go_enter Tryz.func75, Tryz.ntmps75
  go_wp2_with fail
  refine hse.mono ?_
  rintro _ w1 ⟨rfl, c1⟩
  have hv1 := c1.cellAt hv id
  have r1 := c1.row' hr (fun _ _ h => h.elim)
  have hbl1 : b < w1.heap.size := World.block_lt_of_cell? w1 _ hv1
  clear hse hd
  go_wp2_with fail
  have hrW : (w1.alloc (.cells #[.string name, .int .i64 0, .int .i64 0, .int .i64 0] 57)).ownsRow lo 57 4 v n (keyCells ks) := r1.alloc _
  have hsW : (w1.alloc (.cells #[.string name, .int .i64 0, .int .i64 0, .int .i64 0] 57)).heap.size = w1.heap.size + 1 := World.size_alloc _ _
  have hcW : Chg (fun _ => False) w (w1.alloc (.cells #[.string name, .int .i64 0, .int .i64 0, .int .i64 0] 57)) := c1.alloc _
  refine (insert_any lo n i w1.heap.size v ks ⟨name, 0, 0, 0⟩ _ hrW hl (by omega) hile (by have := c1.size; omega) (fun h => by have := (r1.lt _ h).2; omega) (heap_alloc_new w1 _)).mono ?_
  rintro _ w2 ⟨v2, rfl, r2, hwh, c2⟩
  have hv2 : w2.cell? ⟨b, o, none⟩ = some v := c2.cellAt (hcW.cellAt hv id) hbv
  have hz2 : w2.frozen? ⟨b, o, none⟩ = false := (World.frozen?_of_block (w := w) ((c2.block b (by omega) hbv).trans (hcW.block b hbl id))).trans hz
  have c02 : Chg (fun k => v.ownBlock = some k) w w2 := (hcW.mono (G := fun k => v.ownBlock = some k) (fun _ h => h.elim)).trans c2 (fun _ _ h => h)
  obtain ⟨g2, cap2, rfl, hlg2, _, hcell2⟩ := row_pos r2 (by omega)
  have hwh' : v.ownBlock = some g2 ∨ w.heap.size ≤ g2 := by
    rcases hwh with h | h
    · exact .inl h.symm
    · have := h g2 rfl; have := c1.size; exact .inr (by omega)
  have hbg : b ≠ g2 := by
    rcases hwh' with h | h
    · intro e; exact hbv (by rw [e]; exact h)
    · omega
  have hLi : (ks.take i ++ [(⟨name, 0, 0, 0⟩ : Ky)] ++ ks.drop i)[i]? = some ⟨name, 0, 0, 0⟩ := by
    rw [List.append_assoc, List.getElem?_append_right (by simp [List.length_take]; omega)]
    simp [List.length_take, Nat.min_eq_left (show i ≤ ks.length by omega)]
  have cx := keyCells_at _ i _ hLi
  have a0 := row_cell r2 cx.1
  have a1 := row_cell r2 cx.2.1
  have a2 := row_cell r2 cx.2.2.1
  have a3 := row_cell r2 cx.2.2.2
  have f1 := row_frozen r2 (i * 4 + 1)
  have f2 := row_frozen r2 (i * 4 + 2)
  have hin' : (i : Int) < (n : Int) + 1 := by omega
  have r3 := ownsRow_setCell_other r2 (a := ⟨b, o, none⟩) (by simp [Value.ownBlock]; exact fun h => hbg h.symm) (.slice (some ⟨g2, 0, none⟩) (n + 1) cap2)
  have hc3 : (w2.setCell ⟨b, o, none⟩ (.slice (some ⟨g2, 0, none⟩) (n + 1) cap2)).cell? ⟨b, o, none⟩ = some (.slice (some ⟨g2, 0, none⟩) (n + 1) cap2) := World.cell?_setCell_same _ _ _ hv2
  clear cx hLi hcell2 hrW hv1 r1
  go_wp2_with fail
  refine (fold_any ⟨name, 1, 0, 0⟩ val _ cb rb hcb ⟨Int.le_refl _, by show (0 : Int) ≤ 4294967295; decide⟩ hval hob).mono ?_
  rintro _ w4 ⟨rfl, c4⟩
  have r4 := c4.row' (r3.stored (i * 4 + 1) (.int .i64 1)).1 (fun _ _ h => h.elim)
  have n2 : w4.cell? ⟨g2, i * 4 + 2, none⟩ = some (.int .i64 0) := c4.cellAt ((World.cell?_setCell_other _ ⟨g2, i * 4 + 1, none⟩ ⟨g2, i * 4 + 2, none⟩ (.int .i64 1) (by simp)).trans ((World.cell?_setCell_other w2 ⟨b, o, none⟩ ⟨g2, i * 4 + 2, none⟩ _ (fun e => hbg (congrArg Addr.block e))).trans a2)) id
  have z2 := row_frozen r4 (i * 4 + 2)
  have hv4 : w4.cell? ⟨b, o, none⟩ = some (.slice (some ⟨g2, 0, none⟩) (n + 1) cap2) := c4.cellAt ((World.cell?_setCell_other _ ⟨g2, i * 4 + 1, none⟩ ⟨b, o, none⟩ (.int .i64 1) (fun e => hbg (congrArg Addr.block e).symm)).trans hc3) id
  have c24 : Chg (fun k => k = b ∨ k = g2) w2 w4 := (((Chg.refl (fun k => k = b ∨ k = g2) w2).setCell (p := ⟨b, o, none⟩) (fun _ => Or.inl rfl) _).setCell (p := ⟨g2, i * 4 + 1, none⟩) (fun _ => Or.inr rfl) _).trans c4 (fun _ _ h => h.elim)
  have s24 : Slots b (fun j => j = o) w2 w4 := by
    have hb2 : b < w2.heap.size := World.block_lt_of_cell? w2 _ hv2
    exact (((Slots.refl b (fun j => j = o) w2).setCell (p := ⟨b, o, none⟩) _ (fun _ => rfl)).setCell (p := ⟨g2, i * 4 + 1, none⟩) _ (fun h => absurd h.symm hbg)).trans (Slots.of_chg (fun _ => False) c4 (by simp [World.setCell]; exact hb2) id) (fun _ h => h.elim)
  have s02 : Slots b (fun j => j = o) w w2 := Slots.of_chg _ c02 hbl hbv
  clear a0 a1 a2 a3 f1 f2 hc3 hv2 hz2
  go_wp2_with fail
  go_end0
  refine ⟨.slice (some ⟨g2, 0, none⟩) (n + 1) cap2, rfl, ?_, ?_, ?_, ?_, ?_⟩
  · exact (World.cell?_setCell_other w4 ⟨g2, i * 4 + 2, none⟩ ⟨b, o, none⟩ _ (fun e => hbg (congrArg Addr.block e).symm)).trans hv4
  · have hLi : (ks.take i ++ [(⟨name, 0, 0, 0⟩ : Ky)] ++ ks.drop i)[i]? = some ⟨name, 0, 0, 0⟩ := by
      rw [List.append_assoc, List.getElem?_append_right (by simp [List.length_take]; omega)]
      simp [List.length_take, Nat.min_eq_left (show i ≤ ks.length by omega)]
    have e := key2_list hLi 1 (foldOne name 1 0 val)
    have e2 : (ks.take i ++ [(⟨name, 0, 0, 0⟩ : Ky)] ++ ks.drop i).set i ⟨name, 1, foldOne name 1 0 val, 0⟩ = ks.take i ++ [(⟨name, 0, 0, 0⟩ : Ky).more val] ++ ks.drop i := by
      rw [List.append_assoc, List.set_append_right _ _ (by simp [List.length_take]; omega)]
      have : i - (ks.take i).length = 0 := by simp [List.length_take]; omega
      rw [this]
      simp [Ky.more]
    rw [← e2, e]
    exact (r4.stored (i * 4 + 2) _).1
  · rcases hwh' with h | h
    · exact .inl h.symm
    · exact .inr (fun k hk => by simp [Value.ownBlock] at hk; omega)
  · exact (s02.trans s24 (fun _ h => h)).setCell (p := ⟨g2, i * 4 + 2, none⟩) _ (fun h => absurd h.symm hbg)
  · have hg : g2 < w.heap.size → v.ownBlock = some g2 := fun h => hwh'.elim id (fun h' => by omega)
    refine ((c02.mono (G := fun k => k = b ∨ v.ownBlock = some k) (fun _ h => Or.inr h)).trans c24 (fun k hk h => ?_)).setCell (p := ⟨g2, i * 4 + 2, none⟩) (fun h => Or.inr (hg h)) _
    rcases h with h | h
    · exact Or.inl h
    · subst h; exact Or.inr (hg hk)

end Go.Proofs.YthedkdbgfdjlkaaGreat

/- PLAIN FACTS: what take keeps of a ledger. -/
namespace Go.Proofs.YthedkdbgfdjlkaaGreat
set_option linter.unusedVariables false
set_option linter.unusedSimpArgs false
open Go.Lib

theorem mem_takeKy (name : ByteArray) (val : Int) : ∀ (l : List Ky) (k : Ky), k ∈ takeKy name val l → k ∈ l ∨ (∃ y ∈ l, y.name = name ∧ k = y.more val) ∨ k = (⟨name, 0, 0, 0⟩ : Ky).more val
  | [], k, h => by simp [takeKy] at h; exact .inr (.inr h)
  | y :: r, k, h => by
    unfold takeKy at h
    split at h
    · rename_i hy
      rcases List.mem_cons.1 h with rfl | h
      · exact .inr (.inl ⟨y, by simp, hy, rfl⟩)
      · exact .inl (by simp [h])
    · split at h
      · rcases List.mem_cons.1 h with rfl | h
        · exact .inr (.inr rfl)
        · exact .inl h
      · rcases List.mem_cons.1 h with rfl | h
        · exact .inl (by simp)
        · rcases mem_takeKy name val r k h with h | ⟨z, hz, h⟩ | h
          · exact .inl (by simp [h])
          · exact .inr (.inl ⟨z, by simp [hz], h⟩)
          · exact .inr (.inr h)

theorem takeKy_name_mem (name : ByteArray) (val : Int) (l : List Ky) (k : Ky) (h : k ∈ takeKy name val l) : k.name = name ∨ ∃ y ∈ l, y.name = k.name := by
  rcases mem_takeKy name val l k h with h | ⟨z, hz, hn, h⟩ | h
  · exact .inr ⟨k, h, rfl⟩
  · exact .inl (by rw [h]; exact hn)
  · exact .inl (by rw [h]; rfl)

theorem takeKy_sorted (name : ByteArray) (val : Int) : ∀ {l : List Ky}, Sorted l → Sorted (takeKy name val l)
  | [], _ => by simp [takeKy, Sorted]
  | y :: r, h => by
    obtain ⟨h1, h2⟩ := List.pairwise_cons.1 h
    unfold takeKy
    split
    · rename_i hy
      exact List.pairwise_cons.2 ⟨fun z hz => h1 z hz, h2⟩
    · rename_i hy
      split
      · rename_i hl
        refine List.pairwise_cons.2 ⟨fun z hz => ?_, h⟩
        rcases List.mem_cons.1 hz with rfl | hz
        · exact hl
        · exact less_trans hl (h1 z hz)
      · rename_i hl
        refine List.pairwise_cons.2 ⟨fun z hz => ?_, takeKy_sorted name val h2⟩
        rcases takeKy_name_mem name val r z hz with h' | ⟨u, hu, h'⟩
        · rw [h']
          rcases less_tri y.name name with h'' | h'' | h''
          · exact h''
          · exact absurd h'' hy
          · exact absurd h'' hl
        · rw [← h']; exact h1 u hu

theorem counts_takeKy (name : ByteArray) (val : Int) : ∀ (l : List Ky), counts (takeKy name val l) = counts l + 1
  | [] => by simp [takeKy, counts, Ky.more]
  | y :: r => by
    unfold takeKy
    split
    · simp [counts, Ky.more]; omega
    · split
      · simp [counts, Ky.more]; omega
      · simp [counts, counts_takeKy name val r]; omega

/-- A ledger into which m more may come. -/
structure Led (ks : List Ky) (m : Int) : Prop where
  sorted : Sorted ks
  first : ∀ k ∈ ks, ∃ c r, k.name.data.toList = c :: r ∧ okFirst c = true
  fold : ∀ k ∈ ks, 0 ≤ k.fold ∧ k.fold ≤ 4294967295
  count : ∀ k ∈ ks, 0 ≤ k.count
  total : counts ks + m ≤ 1000

theorem count_le : ∀ {ks : List Ky}, (∀ k ∈ ks, 0 ≤ k.count) → ∀ k ∈ ks, k.count ≤ counts ks ∧ 0 ≤ counts ks
  | [], _, k, h => by simp at h
  | y :: r, hc, k, h => by
    have h0 : 0 ≤ counts r := by
      clear h
      induction r with
      | nil => simp [counts]
      | cons z r ih =>
        have := ih (fun k hk => hc k (by rcases List.mem_cons.1 hk with rfl | hk <;> simp [*]))
        have := hc z (by simp)
        simp [counts]; omega
    have hy := hc y (by simp)
    rcases List.mem_cons.1 h with rfl | h
    · simp [counts]; omega
    · have := count_le (fun k hk => hc k (by simp [hk])) k h
      simp [counts]; omega

theorem counts_nonneg {ks : List Ky} (hc : ∀ k ∈ ks, 0 ≤ k.count) : 0 ≤ counts ks := by
  induction ks with
  | nil => simp [counts]
  | cons z r ih =>
    have := ih (fun k hk => hc k (by simp [hk]))
    have := hc z (by simp)
    simp [counts]; omega

theorem Led.ok {ks : List Ky} {m : Int} (h : Led ks m) (hm : 0 ≤ m) : ∀ k ∈ ks, k.ok := fun k hk =>
  ⟨h.first k hk, h.fold k hk, h.count k hk, by have := (count_le h.count k hk).1; have := h.total; omega⟩

theorem foldOne_range {name : ByteArray} {n f v : Int} {c : UInt8} {r : List UInt8} (hk : name.data.toList = c :: r) (hn : 0 ≤ n ∧ n ≤ 4294967295) (hf : 0 ≤ f ∧ f ≤ 4294967295) (hv : 0 ≤ v ∧ v ≤ 4294967295) : 0 ≤ foldOne name n f v ∧ foldOne name n f v ≤ 4294967295 := by
  rw [foldOne_c hk]
  split
  · exact hn
  · split
    · constructor <;> omega
    · split
      · exact hv
      · constructor <;> omega

theorem Led.take {ks : List Ky} {m : Int} (h : Led ks m) (hm : 1 ≤ m) {name : ByteArray} {val : Int} {c : UInt8} {r : List UInt8} (hk : name.data.toList = c :: r) (hc : okFirst c = true) (hv : 0 ≤ val ∧ val ≤ 4294967295) : Led (takeKy name val ks) (m - 1) := by
  have hcn := counts_nonneg h.count
  have ht := h.total
  refine ⟨takeKy_sorted name val h.sorted, fun k hk' => ?_, fun k hk' => ?_, fun k hk' => ?_, ?_⟩
  · rcases mem_takeKy name val ks k hk' with h' | ⟨z, hz, hn, rfl⟩ | rfl
    · exact h.first k h'
    · exact h.first z hz
    · exact ⟨c, r, hk, hc⟩
  · rcases mem_takeKy name val ks k hk' with h' | ⟨z, hz, hn, rfl⟩ | rfl
    · exact h.fold k h'
    · obtain ⟨c', r', h1, h2⟩ := h.first z hz
      have := (count_le h.count z hz).1
      have := h.count z hz
      exact foldOne_range h1 (by omega) (h.fold z hz) hv
    · exact foldOne_range (name := name) hk (show (0 : Int) ≤ 0 + 1 ∧ (0 : Int) + 1 ≤ 4294967295 by decide) (show (0 : Int) ≤ 0 ∧ (0 : Int) ≤ 4294967295 by decide) hv
  · rcases mem_takeKy name val ks k hk' with h' | ⟨z, hz, hn, rfl⟩ | rfl
    · exact h.count k h'
    · have := h.count z hz; simp [Ky.more]; omega
    · simp [Ky.more]
  · rw [counts_takeKy]; omega

end Go.Proofs.YthedkdbgfdjlkaaGreat

/- What the walks share: pure, and what they ask of Answer and Shrink. -/
namespace Go.Proofs.YthedkdbgfdjlkaaGreat
set_option linter.unusedVariables false
set_option linter.unusedSimpArgs false
open Go.RowKit

variable {R : Nat → World → Addr → Option St → (Nat → Prop) → Prop}

theorem keys_le : ∀ {ks : List Ky}, (∀ k ∈ ks, 1 ≤ k.count) → (ks.length : Int) ≤ counts ks
  | [], _ => by simp [counts]
  | k :: r, h => by
    have := keys_le (ks := r) (fun y hy => h y (by simp [hy]))
    have := h k (by simp)
    simp [counts]; omega

theorem waits_ge : ∀ {ls : List Ln}, 0 ≤ waits ls ∧ ∀ l ∈ ls, (l.ws.length : Int) ≤ waits ls
  | [] => by simp [waits]
  | l :: r => by
    obtain ⟨h1, h2⟩ := waits_ge (ls := r)
    refine ⟨by simp [waits]; omega, fun y hy => ?_⟩
    rcases List.mem_cons.1 hy with rfl | hy
    · simp [waits]; omega
    · have := h2 y hy; simp [waits]; omega

theorem St.fine.small {s : St} (h : s.fine) : 0 ≤ counts s.keys ∧ counts s.keys ≤ 1000 ∧ s.lanes.length ≤ 1000 ∧ s.keys.length ≤ 1000 ∧ ∀ l ∈ s.lanes, l.ws.length ≤ 1000 := by
  have h1 := keys_le (fun k hk => (h.key k hk).1)
  obtain ⟨h2, h3⟩ := waits_ge (ls := s.lanes)
  have h4 := h.total
  unfold St.records at h4
  refine ⟨by omega, by omega, by rw [h.four]; omega, by omega, fun l hl => by have := h3 l hl; omega⟩

theorem counts_upto : ∀ {ks : List Ky}, (∀ k ∈ ks, 1 ≤ k.count) → ∀ (j : Nat), 0 ≤ counts (ks.take j) ∧ counts (ks.take j) ≤ counts ks
  | [], _, j => by simp [counts]
  | k :: r, h, 0 => by
    have := keys_le h
    simp [counts] at this ⊢; omega
  | k :: r, h, j + 1 => by
    have := counts_upto (ks := r) (fun y hy => h y (by simp [hy])) j
    have := h k (by simp)
    simp [counts]; omega

theorem counts_next : ∀ (ks : List Ky) (j : Nat) (x : Ky), ks[j]? = some x → counts (ks.take (j + 1)) = counts (ks.take j) + x.count
  | [], j, x, h => by simp at h
  | k :: r, 0, x, h => by simp at h; subst h; simp [counts]
  | k :: r, j + 1, x, h => by
    have := counts_next r j x (by simpa using h)
    simp [counts] at this ⊢; omega

/-- Calls one behind another, seen from the first. -/
theorem Chg.chain {F G : Nat → Prop} {w w1 w2 : World} (h : Chg F w w1) (hG : ∀ k, G k → F k ∨ w.heap.size ≤ k) (c : Chg G w1 w2) : Chg F w w2 :=
  h.trans c (fun n hn g => (hG n g).resolve_right (by omega))

theorem chain_own {F G G' : Nat → Prop} {w w1 : World} (hs : w.heap.size ≤ w1.heap.size) (hG : ∀ k, G k → F k ∨ w.heap.size ≤ k) (h : ∀ k, G' k → G k ∨ w1.heap.size ≤ k) : ∀ k, G' k → F k ∨ w.heap.size ≤ k :=
  fun k hk => (h k hk).elim (hG k) (fun h1 => .inr (Nat.le_trans hs h1))

/-- What a state keeps to, beside 'fine'. -/
structure St.good (s : St) : Prop where
  few : s.keys.length ≤ 4
  sorted : s.keys.Pairwise fun a b => less a.name b.name = true
  wait : ∀ l ∈ s.lanes, (l.ws.Pairwise fun a b => a.num < b.num) ∧ ∀ y ∈ l.ws, l.base < y.num ∧ y.num < l.base + 4

/-- Nothing but what the sink holds may differ. -/
structure St.butHeld (s t : St) : Prop where
  lanes : t.lanes = s.lanes
  counts : counts t.keys = counts s.keys

/-- The other calls that change a relay. -/
structure ApiB (R : Nat → World → Addr → Option St → (Nat → Prop) → Prop) : Prop where
  good : ∀ {n w a s F}, R n w a (some s) F → s.good
  answer : ∀ {m w a s F} (key : ByteArray) (n : Int), R m w a (some s) F → m ≤ roomy → key.size ≤ maxLen → inInt n → Calls Tryz.prog 21 #[.pointer (some a), .string key, .int .i64 n] w fun e w' =>
    ∃ F' er t, e = .returned (.int .i64 er) ∧ R (m + 32) w' a (some t) F' ∧ s.butHeld t ∧ (er ≠ 0 → t = s) ∧ (∀ k, F' k → F k ∨ w.heap.size ≤ k) ∧ Chg F w w'
  shrink : ∀ {n w a s F}, R n w a (some s) F → Calls Tryz.prog 30 #[.pointer (some a)] w fun e w' =>
    ∃ F' er, e = .returned (.int .i64 er) ∧ R 512 w' a (some s) F' ∧ (∀ k, F' k → F k ∨ w.heap.size ≤ k) ∧ Chg F w w'

theorem St.butHeld.records {s t : St} (h : s.butHeld t) : t.records = s.records := by
  unfold St.records; rw [h.lanes, h.counts]

/-- An error changes nothing. -/
theorem accept_err {s : St} {x : Rec} (h : (accept s x).1.2 ≠ 0) : (accept s x).2 = s := by
  unfold accept at h ⊢
  split
  · rfl
  · split
    · rfl
    · rename_i h1 h2
      rw [if_neg h1, if_neg h2] at h
      split
      · rfl
      · rename_i l hl
        rw [hl] at h
        simp only at h
        unfold acceptIn at h ⊢
        simp only at h ⊢
        split
        · rfl
        · split
          · rfl
          · split
            · rfl
            · split
              · rfl
              · split
                · rfl
                · rename_i g1 g2 g3 g4 g5
                  rw [if_neg g1, if_neg g2, if_neg g3, if_neg g4, if_neg g5] at h
                  exact absurd rfl h

theorem putW_length (x : Wt) : ∀ l : List Wt, (putW x l).length = l.length + 1
  | [] => rfl
  | y :: r => by
    unfold putW
    split
    · simp
    · simp [putW_length x r]

theorem drain_len : ∀ (b : Int) (ws : List Wt) (ks : List Ky), counts (drainW b ws ks).2.2 + (drainW b ws ks).2.1.length = counts ks + ws.length
  | b, [], ks => by simp [drainW]
  | b, x :: r, ks => by
    by_cases hb : x.num = b
    · have := drain_len (b + 1) r (takeKy x.key x.val ks)
      rw [counts_takeKy] at this
      simp only [drainW, if_pos hb]
      simp; omega
    · simp only [drainW, if_neg hb]

theorem waits_set : ∀ (ls : List Ln) (i : Nat) (l l' : Ln), ls[i]? = some l → waits (ls.set i l') = waits ls - l.ws.length + l'.ws.length
  | [], i, l, l', h => by simp at h
  | x :: r, 0, l, l', h => by
    simp at h; subst h
    simp [waits]; omega
  | x :: r, i + 1, l, l', h => by
    have := waits_set r i l l' (by simpa using h)
    simp [waits, this]; omega

/-- An Accept adds one record at most. -/
theorem accept_records (s : St) (x : Rec) : (accept s x).2.records ≤ s.records + 1 := by
  unfold accept
  split
  · simp only; omega
  · split
    · simp only; omega
    · split
      · simp only; omega
      · rename_i l hl
        unfold acceptIn
        simp only
        split
        · simp only; omega
        · split
          · simp only; omega
          · split
            · simp only; omega
            · split
              · simp only; omega
              · split
                · simp only; omega
                · simp only
                  have h1 := drain_len (l.turned x.epoch).base (putW ⟨x.number, x.key, x.value⟩ (l.turned x.epoch).ws) s.keys
                  rw [putW_length] at h1
                  have h2 : ((l.turned x.epoch).ws.length : Int) ≤ l.ws.length := by
                    unfold Ln.turned
                    split
                    · simp
                    · omega
                  unfold St.records
                  simp only
                  rw [waits_set _ _ _ _ hl]
                  simp only
                  omega

end Go.Proofs.YthedkdbgfdjlkaaGreat

/- Anew, WALKED. -/
namespace Go.Proofs.YthedkdbgfdjlkaaGreat
set_option linter.unusedVariables false
set_option linter.unusedSimpArgs false
open Go.RowKit

variable {R : Nat → World → Addr → Option St → (Nat → Prop) → Prop}

/-- A script in memory. -/
structure ScriptAt (w : World) (v : Value) (L : List Stp) : Prop where
  val : ∃ p cap, v = .slice p L.length cap
  len : L.length * 80 ≤ 140737488351232
  cells : ∀ i x, L[i]? = some x → ∃ sb so cap, v = .slice (some ⟨sb, so, none⟩) L.length cap ∧ w.cell? ⟨sb, so + i * 8, none⟩ = some (.int .i64 x.kind) ∧ w.cell? ⟨sb, so + i * 8 + 1, none⟩ = some (.int .i64 x.x.session) ∧
    w.cell? ⟨sb, so + i * 8 + 2, none⟩ = some (.int .i64 x.x.epoch) ∧ w.cell? ⟨sb, so + i * 8 + 3, none⟩ = some (.int .i64 x.x.number) ∧ w.cell? ⟨sb, so + i * 8 + 4, none⟩ = some (.string x.x.key) ∧ w.cell? ⟨sb, so + i * 8 + 5, none⟩ = some (.int .i64 x.x.value) ∧
    w.cell? ⟨sb, so + i * 8 + 6, none⟩ = some (.string x.key) ∧ w.cell? ⟨sb, so + i * 8 + 7, none⟩ = some (.int .i64 x.n)
  fits : ∀ x ∈ L, x.x.fits
  more : ∀ x ∈ L, inInt x.kind ∧ inInt x.n ∧ x.key.size ≤ maxLen

def exC : ByteArray := { data := #[99] }

/-- What an Accept of a new epoch's first record answers. -/
theorem anew_accept {s : St} (hf : s.fine) {k : Nat} (hk : k < 4) {l : Ln} (hl : s.lanes[k]? = some l) {e v : Int} (he : l.epoch < e) (hv : 0 ≤ v ∧ v ≤ 4294967295) :
    accept s ⟨k, e, 0, exC, v⟩ = ((0, 6), s) ∨ accept s ⟨k, e, 0, exC, v⟩ = ((0, 7), s) ∨ accept s ⟨k, e, 0, exC, v⟩ = ((1, 0), ⟨s.lanes.set k ⟨e, 1, []⟩, takeKy exC v s.keys⟩) := by
  have hA : accept s ⟨k, e, 0, exC, v⟩ = acceptIn s k l ⟨k, e, 0, exC, v⟩ := by
    unfold accept
    rw [if_neg (by simp only; omega), if_neg (by simp only; rintro (h | h | h) <;> first | exact absurd h (by decide) | omega)]
    simp only [Int.toNat_natCast, hl]
  rw [hA]
  unfold acceptIn
  rw [if_neg (by simp only; omega)]
  have ht : l.turned e = ⟨e, 0, []⟩ := by unfold Ln.turned; rw [if_pos he]
  simp only [ht]
  rw [if_neg (by omega), if_neg (by simp)]
  by_cases h6 : isIn exC (⟨s.lanes.set k ⟨e, 0, []⟩, s.keys⟩ : St).names = false ∧ 4 ≤ distinct (⟨s.lanes.set k ⟨e, 0, []⟩, s.keys⟩ : St).names
  · rw [if_pos h6]; exact .inl rfl
  · rw [if_neg h6]
    by_cases h7 : 1000 ≤ (⟨s.lanes.set k ⟨e, 0, []⟩, s.keys⟩ : St).records
    · rw [if_pos h7]; exact .inr (.inl rfl)
    · rw [if_neg h7]
      refine .inr (.inr ?_)
      simp [putW, drainW]

theorem old_accept {s : St} {k : Nat} (hk : k < 4) {l : Ln} (hl : s.lanes[k]? = some l) {e v : Int} (he : e < l.epoch) (hv : 0 ≤ v ∧ v ≤ 4294967295) : accept s ⟨k, e, 0, exC, v⟩ = ((0, 4), s) := by
  unfold accept
  rw [if_neg (by simp only; omega), if_neg (by simp only; rintro (h | h | h) <;> first | exact absurd h (by decide) | omega)]
  simp only [Int.toNat_natCast, hl]
  unfold acceptIn
  rw [if_pos he]

set_option maxRecDepth 100000 in
set_option maxHeartbeats 4000000 in
theorem anew_walk (H : ApiN R) (H0 : ∀ w, Calls Tryz.prog 7 #[] w fun e w' => e = .returned (.bool true) ∧ Chg (fun _ => False) w w') (w : World) (v : Value) (L : List Stp) (se by' va : Int) (hS : ScriptAt w v L) (hse : inInt se) (hby : inInt by') (hva : inInt va) :
    Calls Tryz.prog 4 #[v, .int .i64 se, .int .i64 by', .int .i64 va] w fun e w' => e = .returned (.bool true) ∧ Chg (fun _ => False) w w' := by
  obtain ⟨pv, cv, rfl⟩ := hS.val
  have hlen := hS.len
  have hnot : ∀ (x : Bool) (w : World), (Op.unary .not (.bool x)).run Tryz.prog w = .ok (.bool (!x)) w := fun _ _ => rfl
  go_enter Tryz.func4, Tryz.ntmps4
  go_wp2_with fail
  refine (H0 w).mono ?_
  rintro _ w1 ⟨rfl, c1⟩
  go_wp2_with fail
  refine (H.new w1).mono ?_
  rintro _ w2 ⟨a, F2, rfl, hR2, hF2, c2⟩
  have c02 : Chg (fun _ => False) w w2 := c1.trans c2 (fun _ _ h => h)
  have hF02 : ∀ k, F2 k → w.heap.size ≤ k := fun k hk => Nat.le_trans c1.size (hF2 k hk)
  clear c1 c2 hF2
  go_wp2_with fail
  go_loopw [11] (fun si wr => ∃ (k : Nat) (s : St) (F : Nat → Prop), si = .int .i64 k ∧ k ≤ L.length ∧ R (512 + 32 * k) wr a (some s) F ∧ (∀ k, F k → w.heap.size ≤ k) ∧ Chg (fun _ => False) w wr) (fun si _ => L.length - (intOf si).toNat)
  case atStart => exact ⟨0, _, F2, rfl, by omega, hR2, hF02, c02⟩
  case round =>
    obtain ⟨k, s, F, rfl, hk, hR, hFw, hc⟩ := hrel
    clear hR2 hF02 c02
    by_cases hkl : k < L.length
    · obtain ⟨x, hx⟩ : ∃ x, L[k]? = some x := ⟨_, List.getElem?_eq_getElem hkl⟩
      obtain ⟨sb, so, cap, hv, y0, y1, y2, y3, y4, y5, y6, y7⟩ := hS.cells k x hx
      simp only [Value.slice.injEq] at hv
      obtain ⟨rfl, _, rfl⟩ := hv
      replace y0 := hc.cellAt y0 id
      replace y1 := hc.cellAt y1 id
      replace y2 := hc.cellAt y2 id
      replace y3 := hc.cellAt y3 id
      replace y4 := hc.cellAt y4 id
      replace y5 := hc.cellAt y5 id
      replace y6 := hc.cellAt y6 id
      replace y7 := hc.cellAt y7 id
      have hkl' : (k : Int) < (L.length : Int) := by omega
      have hxf := hS.fits x (List.mem_of_getElem? hx)
      by_cases hk0 : x.kind = 0
      · rw [hk0] at y0
        have hdo := does_accept H x hk0 hR (by unfold roomy; omega) hxf
        unfold Stp.value' at hdo
        rw [hk0] at hdo
        go_wp2_with fail
        refine hdo.mono ?_
        rintro _ w3 ⟨F3, rfl, hR3, hF3, c3⟩
        clear hdo y0 y1 y2 y3 y4 y5 y6 y7
        go_wp2_with fail
        go_roundw
        case rel => exact ⟨k + 1, _, F3, by go_num, by omega, H.mono hR3 (by omega), hc.young hFw hF3, hc.step c3 hFw⟩
        case measure => simp [intOf]; omega
      · have hk0' : (x.kind == 0) = false := by simpa using hk0
        go_wp2_with fail
        go_roundw
        case rel => exact ⟨k + 1, s, F, by go_num, by omega, H.mono hR (by omega), hFw, hc⟩
        case measure => simp [intOf]; omega
    · have hkl' : ¬ (k : Int) < (L.length : Int) := by omega
      have hroom : 512 + 32 * k ≤ roomy := by unfold roomy; omega
      have hroom2 : 512 + 32 * k + 32 ≤ roomy := by unfold roomy; omega
      have hroom3 : 512 + 32 * k + 32 + 32 ≤ roomy := by unfold roomy; omega
      have hf := H.fine hR
      have hp4 := pickI_range (c := se) (n := 4) (by omega)
      obtain ⟨kn, ekn⟩ : ∃ kn : Nat, pickI se 4 = kn := ⟨(pickI se 4).toNat, by omega⟩
      have hkn : kn < 4 := by omega
      have hpk := pick_any se 4 wr hse (by omega) (by omega)
      rw [ekn] at hpk
      have hp1000 := pickI_range (c := by') (n := 1000) (by omega)
      have hpv := pickI_range (c := va) (n := 4294967296) (by omega)
      obtain ⟨PB, ePB⟩ : ∃ PB, PB = pickI by' 1000 := ⟨_, rfl⟩
      obtain ⟨PV, ePV⟩ : ∃ PV, PV = pickI va 4294967296 := ⟨_, rfl⟩
      have HB : Hid (∀ W, Calls Tryz.prog 10 #[.int .i64 by', .int .i64 1000] W fun e w' => e = .returned (.int .i64 PB) ∧ w' = W) := fun W => by rw [ePB]; exact pick_any by' 1000 W hby (by omega) (by omega)
      have HV : Hid (∀ W, Calls Tryz.prog 10 #[.int .i64 va, .int .i64 4294967296] W fun e w' => e = .returned (.int .i64 PV) ∧ w' = W) := fun W => by rw [ePV]; exact pick_any va 4294967296 W hva (by omega) (by omega)
      rw [← ePB] at hp1000
      rw [← ePV] at hpv
      obtain ⟨l, hl⟩ : ∃ l, s.lanes[kn]? = some l := ⟨_, List.getElem?_eq_getElem (by rw [hf.four]; exact hkn)⟩
      have hlf := hf.lane l (List.mem_of_getElem? hl)
      clear hp4 ekn ePB ePV
      go_wp2_with fail
      refine hpk.mono ?_
      rintro _ wp ⟨rfl, ewp⟩
      rw [ewp]
      clear hpk ewp wp
      go_wp2_with fail
      refine (H.state hR).mono ?_
      rintro _ w3 ⟨vs, vk, rfl, hs3, hR3, c3⟩
      simp only [errno?, state?] at hs3 ⊢
      obtain ⟨us, hu1, hu2, hu3⟩ := hs3.sess
      have hk3 := hs3.keys
      rw [hf.four] at hu1 hu2
      obtain ⟨g, cap, rfl, hg, hcap, hcell⟩ := row_pos hu2 (by omega)
      obtain ⟨pk, ck, rfl⟩ := row_any hk3
      obtain ⟨u, hu⟩ : ∃ u, us[kn]? = some u := ⟨_, List.getElem?_eq_getElem (by omega)⟩
      have x1 := sessCells_at _ _ _ _ _ hl hu
      have z0 : ∀ ob, (w3.alloc ob).cell? ⟨g, kn * 3, none⟩ = some (.int .i64 l.epoch) := fun ob => ((Chg.refl (fun _ => False) w3).alloc ob).cellAt (hcell _ _ x1.1) id
      have hkn' : (kn : Int) < 4 := by omega
      clear hcell x1 hu1 hu2 hu3
      have hFr : ∀ k, F k → k < wr.heap.size := fun k hk => H.lt hR hk
      have cw3 : Chg (fun _ => False) w w3 := hc.step c3 hFw
      by_cases hmax : l.epoch = 9223372036854775807
      · rw [hmax] at z0
        have hlt : wrap64 (wrap64 9223372036854775808 + PB) < 9223372036854775807 := by unfold wrap64; omega
        go_wp2_with fail
        refine (HB.out _).mono ?_
        rintro _ wp ⟨rfl, ewp⟩
        rw [ewp]
        clear ewp wp
        go_wp2_with fail
        go_ret
        exact ⟨rfl, cw3.alloc _⟩
      by_cases hbig : l.epoch + 1 + PB ≤ 9223372036854775807
      · have hnlt : ¬ l.epoch + 1 + PB < l.epoch := by omega
        go_wp2_with fail
        refine (HB.out _).mono ?_
        rintro _ wp ⟨rfl, ewp⟩
        rw [ewp]
        clear ewp wp HB
        go_wp2_with fail
        refine (HV.out _).mono ?_
        rintro _ wp ⟨rfl, ewp⟩
        rw [ewp]
        clear ewp wp HV
        have hPV : 0 ≤ PV ∧ PV ≤ 4294967295 := by omega
        obtain ⟨NE, hNE⟩ : ∃ NE, NE = l.epoch + 1 + PB := ⟨_, rfl⟩
        rw [← hNE] at hbig hnlt ⊢
        have hNE1 : l.epoch < NE := by omega
        clear hNE hnlt hmax hp1000 hpv
        obtain ⟨W4, hW4⟩ : ∃ W4, W4 = (w3.alloc (Obj.cells #[.slice (some ⟨g, 0, none⟩) 4 cap, .slice pk s.keys.length ck] 49)).alloc (Obj.cells #[.int .i64 kn, .int .i64 NE, .int .i64 0, .string { data := #[99] }, .int .i64 PV] 34) := ⟨_, rfl⟩
        have c34 : Chg (fun _ => False) w3 W4 := by rw [hW4]; exact ((Chg.refl _ w3).alloc _).alloc _
        have hs4 : W4.heap.size = w3.heap.size + 2 := by rw [hW4]; simp
        have s0 : W4.cell? ⟨w3.heap.size, 0, none⟩ = some (.slice (some ⟨g, 0, none⟩) 4 cap) := by rw [hW4]; exact ((Chg.refl (fun _ => False) _).alloc _).cellAt (World.cell?_alloc_at _ _ _ _ rfl) id
        have s1 : W4.cell? ⟨w3.heap.size, 1, none⟩ = some (.slice pk s.keys.length ck) := by rw [hW4]; exact ((Chg.refl (fun _ => False) _).alloc _).cellAt (World.cell?_alloc_at _ _ _ _ rfl) id
        have x0 : W4.cell? ⟨w3.heap.size + 1, 0, none⟩ = some (.int .i64 kn) := by rw [hW4]; exact World.cell?_alloc_at _ _ _ _ (by simp)
        have x1 : W4.cell? ⟨w3.heap.size + 1, 1, none⟩ = some (.int .i64 NE) := by rw [hW4]; exact World.cell?_alloc_at _ _ _ _ (by simp)
        have x2 : W4.cell? ⟨w3.heap.size + 1, 2, none⟩ = some (.int .i64 0) := by rw [hW4]; exact World.cell?_alloc_at _ _ _ _ (by simp)
        have x3 : W4.cell? ⟨w3.heap.size + 1, 3, none⟩ = some (.string { data := #[99] }) := by rw [hW4]; exact World.cell?_alloc_at _ _ _ _ (by simp)
        have x4 : W4.cell? ⟨w3.heap.size + 1, 4, none⟩ = some (.int .i64 PV) := by rw [hW4]; exact World.cell?_alloc_at _ _ _ _ (by simp)
        have xf : W4.frozen? ⟨w3.heap.size + 1, 1, none⟩ = false := by rw [hW4]; exact World.frozen?_alloc_at _ _ _ _ (by simp)
        have HS4 : Hid (W4.heap.size = w3.heap.size + 2) := hs4
        have hw3 : wr.heap.size ≤ w3.heap.size := c3.size
        have hsm := hf.small
        have hacc := H.acc ⟨kn, NE, 0, exC, PV⟩ (H.keep hR3 c34) hroom ⟨by unfold inInt; simp only; omega, by unfold inInt; simp only; omega, by unfold inInt; simp only; omega, by unfold inInt; simp only; omega, (show exC.size ≤ maxLen by decide)⟩
        go_wp2_with fail
        rw [← hW4]
        clear hW4 hs4
        refine hacc.mono ?_
        rintro _ w5 ⟨F5, rfl, hR5, hF5, c45⟩
        clear hacc
        simp only [accept?] at hR5 ⊢
        rcases anew_accept hf hkn hl hNE1 hPV with e | e | e
        · rw [e] at hR5 ⊢
          simp only at hR5 ⊢
          go_wp2_with fail
          refine (H.state hR5).mono ?_
          rintro _ w6 ⟨vs6, vk6, rfl, hs6, hR6, c56⟩
          simp only [errno?, state?] at hs6 ⊢
          have c46 : Chg F W4 w6 := c45.chain hF5 c56
          have c36 : Chg F w3 w6 := (c34.mono (fun _ h => h.elim)).trans c46 (fun _ _ h => h)
          have hs36 := hs3.kept c36 (fun k hk => .inl (by have := hFr k hk; omega))
          obtain ⟨_, _, r6, _⟩ := hs6.sess
          obtain ⟨p6, cp6, rfl⟩ := row_any r6
          obtain ⟨pk6, ck6, rfl⟩ := row_any hs6.keys
          rw [hf.four] at hs6 ⊢
          have d0 : ∀ ob, (w6.alloc ob).cell? ⟨w3.heap.size, 0, none⟩ = some (.slice (some ⟨g, 0, none⟩) 4 cap) := fun ob => ((Chg.refl (fun _ => False) w6).alloc ob).cellAt (c46.cellAt s0 (fun h => by have := hFr _ h; omega)) id
          have d1 : ∀ ob, (w6.alloc ob).cell? ⟨w3.heap.size, 1, none⟩ = some (.slice pk s.keys.length ck) := fun ob => ((Chg.refl (fun _ => False) w6).alloc ob).cellAt (c46.cellAt s1 (fun h => by have := hFr _ h; omega)) id
          have hss := fun ob => sameState_eq (hs36.kept ((Chg.refl (fun _ => False) w6).alloc ob) (fun _ h => h.elim)) (hs6.kept ((Chg.refl (fun _ => False) w6).alloc ob) (fun _ h => h.elim)) hsm.2.2.1 hsm.2.2.2.1 hsm.2.2.2.2
          clear hs36 r6
          go_wp2_with fail
          refine (hss _).mono ?_
          rintro _ w8 ⟨rfl, c78⟩
          clear hss d0 d1
          go_wp2_with fail
          go_ret
          exact ⟨rfl, ((cw3.step c36 hFw).alloc _).trans c78 (fun _ _ h => h)⟩
        · rw [e] at hR5 ⊢
          simp only at hR5 ⊢
          go_wp2_with fail
          refine (H.state hR5).mono ?_
          rintro _ w6 ⟨vs6, vk6, rfl, hs6, hR6, c56⟩
          simp only [errno?, state?] at hs6 ⊢
          have c46 : Chg F W4 w6 := c45.chain hF5 c56
          have c36 : Chg F w3 w6 := (c34.mono (fun _ h => h.elim)).trans c46 (fun _ _ h => h)
          have hs36 := hs3.kept c36 (fun k hk => .inl (by have := hFr k hk; omega))
          obtain ⟨_, _, r6, _⟩ := hs6.sess
          obtain ⟨p6, cp6, rfl⟩ := row_any r6
          obtain ⟨pk6, ck6, rfl⟩ := row_any hs6.keys
          rw [hf.four] at hs6 ⊢
          have d0 : ∀ ob, (w6.alloc ob).cell? ⟨w3.heap.size, 0, none⟩ = some (.slice (some ⟨g, 0, none⟩) 4 cap) := fun ob => ((Chg.refl (fun _ => False) w6).alloc ob).cellAt (c46.cellAt s0 (fun h => by have := hFr _ h; omega)) id
          have d1 : ∀ ob, (w6.alloc ob).cell? ⟨w3.heap.size, 1, none⟩ = some (.slice pk s.keys.length ck) := fun ob => ((Chg.refl (fun _ => False) w6).alloc ob).cellAt (c46.cellAt s1 (fun h => by have := hFr _ h; omega)) id
          have hss := fun ob => sameState_eq (hs36.kept ((Chg.refl (fun _ => False) w6).alloc ob) (fun _ h => h.elim)) (hs6.kept ((Chg.refl (fun _ => False) w6).alloc ob) (fun _ h => h.elim)) hsm.2.2.1 hsm.2.2.2.1 hsm.2.2.2.2
          clear hs36 r6
          go_wp2_with fail
          refine (hss _).mono ?_
          rintro _ w8 ⟨rfl, c78⟩
          clear hss d0 d1
          go_wp2_with fail
          go_ret
          exact ⟨rfl, ((cw3.step c36 hFw).alloc _).trans c78 (fun _ _ h => h)⟩
        · rw [e] at hR5 ⊢
          simp only at hR5 ⊢
          obtain ⟨T, hT⟩ : ∃ T, T = (⟨s.lanes.set kn ⟨NE, 1, []⟩, takeKy exC PV s.keys⟩ : St) := ⟨_, rfl⟩
          have hTl : T.lanes[kn]? = some ⟨NE, 1, []⟩ := by rw [hT]; simp [hf.four, hkn]
          have hTk : counts T.keys = counts s.keys + 1 := by rw [hT]; exact counts_takeKy _ _ _
          rw [← hT] at hR5
          clear hT
          have hfT := H.fine hR5
          have hsmT := hfT.small
          have hF5l : ∀ k, F5 k → k < w5.heap.size := fun k hk => H.lt hR5 hk
          go_wp2_with fail
          refine (H.state hR5).mono ?_
          rintro _ w6 ⟨vs6, vk6, rfl, hs6, hR6, c56⟩
          simp only [errno?, state?] at hs6 ⊢
          have c46 : Chg F W4 w6 := c45.chain hF5 c56
          have h45 := c45.size
          have h56 := c56.size
          obtain ⟨us6, hu6, r6, q6⟩ := hs6.sess
          rw [hfT.four] at r6 hu6
          obtain ⟨g6, cap6, rfl, hg6, hcap6, hcell6⟩ := row_pos r6 (by omega)
          have hk6 := hs6.keys
          obtain ⟨pk6, ck6, rfl⟩ := row_any hk6
          obtain ⟨u6, hu6'⟩ : ∃ u, us6[kn]? = some u := ⟨_, List.getElem?_eq_getElem (by omega)⟩
          have y6 := sessCells_at _ _ _ _ _ hTl hu6'
          have t6 := q6 kn _ u6 hTl hu6'
          obtain ⟨pu6, cu6, rfl⟩ := row_any t6
          have hxF : ¬ F (w3.heap.size + 1) := fun h => by have := hFr _ h; omega
          have e0 : ∀ ob, (w6.alloc ob).cell? ⟨w3.heap.size + 1, 0, none⟩ = some (.int .i64 kn) := fun ob => ((Chg.refl (fun _ => False) w6).alloc ob).cellAt (c46.cellAt x0 hxF) id
          have e1 : ∀ ob, (w6.alloc ob).cell? ⟨w3.heap.size + 1, 1, none⟩ = some (.int .i64 NE) := fun ob => ((Chg.refl (fun _ => False) w6).alloc ob).cellAt (c46.cellAt x1 hxF) id
          have e2 : ∀ ob, (w6.alloc ob).cell? ⟨w3.heap.size + 1, 2, none⟩ = some (.int .i64 0) := fun ob => ((Chg.refl (fun _ => False) w6).alloc ob).cellAt (c46.cellAt x2 hxF) id
          have e3 : ∀ ob, (w6.alloc ob).cell? ⟨w3.heap.size + 1, 3, none⟩ = some (.string { data := #[99] }) := fun ob => ((Chg.refl (fun _ => False) w6).alloc ob).cellAt (c46.cellAt x3 hxF) id
          have e4 : ∀ ob, (w6.alloc ob).cell? ⟨w3.heap.size + 1, 4, none⟩ = some (.int .i64 PV) := fun ob => ((Chg.refl (fun _ => False) w6).alloc ob).cellAt (c46.cellAt x4 hxF) id
          have hb4 : w3.heap.size + 1 < W4.heap.size := by rw [HS4.out]; omega
          have ef : ∀ ob, (w6.alloc ob).frozen? ⟨w3.heap.size + 1, 1, none⟩ = false := fun ob => (World.frozen?_of_block (w := W4) ((c46.mono (fun _ h => h) : Chg F W4 w6).trans ((Chg.refl (fun _ => False) w6).alloc ob) (fun _ _ h => h.elim) |>.block (w3.heap.size + 1) hb4 hxF)).trans xf
          obtain ⟨W7, hW7⟩ : ∃ W7, W7 = (w6.alloc (Obj.cells #[.slice (some ⟨g6, 0, none⟩) 4 cap6, .slice pk6 T.keys.length ck6] 49)).setCell ⟨w3.heap.size + 1, 1, none⟩ (.int .i64 l.epoch) := ⟨_, rfl⟩
          have c67 : Chg (fun k => k = w3.heap.size + 1) w6 W7 := by rw [hW7]; exact ((Chg.refl (fun k => k = w3.heap.size + 1) w6).alloc _).setCell (p := ⟨w3.heap.size + 1, 1, none⟩) (fun _ => rfl) _
          have hs7 : W7.heap.size = w6.heap.size + 1 := by rw [hW7]; simp
          have hF5x : ∀ k, F5 k → k ≠ w3.heap.size + 1 := fun k hk e => by
            rcases hF5 k hk with h | h
            · have := hFr k h; omega
            · rw [HS4.out] at h; omega
          have hR7 : R (512 + 32 * k + 32) W7 a (some T) F5 := H.stable hR6 (fun k hk => c67.block k (H.lt hR6 hk) (hF5x k hk))
          have hne6 : ¬ w6.heap.size = w3.heap.size + 1 := by rw [HS4.out] at h45; omega
          have tv0 : W7.cell? ⟨w6.heap.size, 0, none⟩ = some (.slice (some ⟨g6, 0, none⟩) 4 cap6) := by
            rw [hW7]; exact (World.cell?_setCell_other _ _ _ _ (fun e => hne6 (congrArg Addr.block e).symm)).trans (World.cell?_alloc_at _ _ _ _ rfl)
          have tv1 : W7.cell? ⟨w6.heap.size, 1, none⟩ = some (.slice pk6 T.keys.length ck6) := by
            rw [hW7]; exact (World.cell?_setCell_other _ _ _ _ (fun e => hne6 (congrArg Addr.block e).symm)).trans (World.cell?_alloc_at _ _ _ _ rfl)
          have xx0 : W7.cell? ⟨w3.heap.size + 1, 0, none⟩ = some (.int .i64 kn) := by rw [hW7]; exact (World.cell?_setCell_other _ _ _ _ (by simp)).trans (e0 _)
          have xx1 : W7.cell? ⟨w3.heap.size + 1, 1, none⟩ = some (.int .i64 l.epoch) := by rw [hW7]; exact World.cell?_setCell_same _ _ _ (e1 _)
          have xx2 : W7.cell? ⟨w3.heap.size + 1, 2, none⟩ = some (.int .i64 0) := by rw [hW7]; exact (World.cell?_setCell_other _ _ _ _ (by simp)).trans (e2 _)
          have xx3 : W7.cell? ⟨w3.heap.size + 1, 3, none⟩ = some (.string { data := #[99] }) := by rw [hW7]; exact (World.cell?_setCell_other _ _ _ _ (by simp)).trans (e3 _)
          have xx4 : W7.cell? ⟨w3.heap.size + 1, 4, none⟩ = some (.int .i64 PV) := by rw [hW7]; exact (World.cell?_setCell_other _ _ _ _ (by simp)).trans (e4 _)
          have HS7 : Hid (W7.heap.size = w6.heap.size + 1) := hs7
          have hacc := H.acc ⟨kn, l.epoch, 0, exC, PV⟩ hR7 hroom2 ⟨by unfold inInt; simp only; omega, by unfold inInt; simp only; omega, by unfold inInt; simp only; omega, by unfold inInt; simp only; omega, (show exC.size ≤ maxLen by decide)⟩
          simp only [accept?] at hacc
          rw [old_accept hkn hTl hNE1 hPV] at hacc
          simp only at hacc
          clear x0 x1 x2 x3 x4 xf hs7
          go_wp2_with fail
          rw [← hW7]
          clear hW7 e0 e1 e2 e3 e4 ef
          refine hacc.mono ?_
          rintro _ w8 ⟨F8, rfl, hR8, hF8, c78⟩
          clear hacc
          have z78 := c78.size
          go_wp2_with fail
          refine (H.close hR8).mono ?_
          rintro _ w9 ⟨rfl, hR9, c89⟩
          simp only [errno?]
          have z89 := c89.size
          go_wp2_with fail
          refine (H.close hR9).mono ?_
          rintro _ w10 ⟨rfl, hR10, c910⟩
          simp only [errno?]
          have z910 := c910.size
          have c7_10 : Chg F5 W7 w10 := (c78.chain hF8 c89).chain hF8 c910
          replace xx0 := c7_10.cellAt xx0 (fun h => hF5x _ h rfl)
          replace xx1 := c7_10.cellAt xx1 (fun h => hF5x _ h rfl)
          replace xx2 := c7_10.cellAt xx2 (fun h => hF5x _ h rfl)
          replace xx3 := c7_10.cellAt xx3 (fun h => hF5x _ h rfl)
          replace xx4 := c7_10.cellAt xx4 (fun h => hF5x _ h rfl)
          have hacc := H.acc ⟨kn, l.epoch, 0, exC, PV⟩ hR10 hroom3 ⟨by unfold inInt; simp only; omega, by unfold inInt; simp only; omega, by unfold inInt; simp only; omega, by unfold inInt; simp only; omega, (show exC.size ≤ maxLen by decide)⟩
          simp only [accept?] at hacc
          go_wp2_with fail
          refine hacc.mono ?_
          rintro _ w11 ⟨F11, rfl, hR11, hF11, c1011⟩
          clear hacc xx0 xx1 xx2 xx3 xx4
          have c7 : Chg F5 W7 w11 := c7_10.chain hF8 c1011
          have hlw5 : ∀ k, w5.heap.size ≤ k → ¬ F5 k := fun k h hk => by have := hF5l k hk; omega
          replace tv0 := c7.cellAt tv0 (hlw5 _ h56)
          replace tv1 := c7.cellAt tv1 (hlw5 _ h56)
          have hgx : ∀ k, w5.heap.size ≤ k → ¬ k = w3.heap.size + 1 := fun k h e => by rw [HS4.out] at h45; omega
          have m0 := c7.cellAt (c67.cellAt (hcell6 _ _ y6.1) (hgx _ hg6)) (hlw5 _ hg6)
          have m1 := c7.cellAt (c67.cellAt (hcell6 _ _ y6.2.1) (hgx _ hg6)) (hlw5 _ hg6)
          have m2 := c7.cellAt (c67.cellAt (hcell6 _ _ y6.2.2) (hgx _ hg6)) (hlw5 _ hg6)
          simp only [List.length_nil] at m2
          -- the first state, as it was told
          have c411 : Chg (fun k => F k ∨ k = w3.heap.size + 1) W4 w11 := (((c46.mono (fun _ h => .inl h)).trans c67 (fun _ _ h => .inr h)).trans c7 (fun n hn h => (hF5 n h).elim .inl (fun h => by omega)))
          have hsF : ¬ (F w3.heap.size ∨ w3.heap.size = w3.heap.size + 1) := by
            rintro (h | h)
            · have := hFr _ h; omega
            · omega
          have sv0 := c411.cellAt s0 hsF
          have sv1 := c411.cellAt s1 hsF
          have hkS : w11.ownsRow wr.heap.size 57 4 (.slice pk s.keys.length ck) s.keys.length (keyCells s.keys) := by
            refine c411.row' (c34.row' hk3 (fun _ _ h => h)) (fun k hk hf => ?_)
            have hb := hk3.lt k hk
            rcases hf with h | h
            · have := hFr _ h; omega
            · omega
          have hkT : w11.ownsRow w5.heap.size 57 4 (.slice pk6 T.keys.length ck6) T.keys.length (keyCells T.keys) := by
            refine c7.row' (c67.row' hk6 (fun k hk e => ?_)) (fun k hk => hlw5 k (hk6.lt k hk).1)
            exact hgx k (hk6.lt k hk).1 e
          have call : Chg (fun _ => False) w w11 := by
            refine (cw3.trans c34 (fun _ _ h => h)).trans c411 (fun n hn h => ?_)
            have := cw3.size
            rcases h with h | h
            · have := hFw n h; omega
            · omega
          clear hcell6 y6 t6 q6 r6 s0 s1 z0 hs3 hs6 hk3 hk6 hR hR3 hR5 hR6 hR7 hR8 hR9 hR10 hR11 c34 c45 c56 c46 c67 c78 c89 c910 c1011 c7_10 c7 c411 hF5 hF8 hF11 hF5x hF5l hlw5 hgx hsF c3 cw3 hc
          have hup := counts_upto (ks := s.keys) (fun k hk => (hf.key k hk).1)
          have hupT := counts_upto (ks := T.keys) (fun k hk => (hfT.key k hk).1)
          have HTK : Hid (counts T.keys = counts s.keys + 1) := hTk
          clear hTk
          go_wp2_with fail
          go_loopw [29, 31] (fun sn si wq => ∃ (j : Nat) (n : Int), si = .int .i64 j ∧ j ≤ s.keys.length ∧ sn = .int .i64 n ∧ Hid (n = counts (s.keys.take j)) ∧ Chg (fun _ => False) w11 wq) (fun _ si _ => s.keys.length - (intOf si).toNat)
          case atStart => exact ⟨0, 0, rfl, by omega, rfl, (show _ = _ by simp [counts]), Chg.refl _ _⟩
          case round =>
            obtain ⟨j, n, rfl, hj, rfl, HN, hcj⟩ := hrel
            have sw1 := hcj.cellAt sv1 id
            by_cases hjl : j < s.keys.length
            · obtain ⟨x, hx⟩ : ∃ x, s.keys[j]? = some x := ⟨_, List.getElem?_eq_getElem hjl⟩
              have cx := keyCells_at s.keys j x hx
              obtain ⟨gk, capk, hvk, _, _, hck⟩ := row_pos hkS (by omega)
              simp only [Value.slice.injEq] at hvk
              obtain ⟨rfl, _, rfl⟩ := hvk
              have p1 := hcj.cellAt (hck _ _ cx.2.1) id
              have hjl' : (j : Int) < (s.keys.length : Int) := by omega
              have hn := counts_next s.keys j x hx
              have hn1 := hup j
              have hn2 := hup (j + 1)
              have hnx : 0 ≤ n ∧ n ≤ 1000 ∧ 0 ≤ n + x.count ∧ n + x.count ≤ 1000 := by rw [HN.out]; omega
              clear hck cx hn1 hn2 hup hupT
              have HNX : Hid (counts (s.keys.take (j + 1)) = counts (s.keys.take j) + x.count) := hn
              clear hn
              go_wp2_with fail
              go_roundw
              case rel => exact ⟨j + 1, n + x.count, by go_num, by omega, by go_num, (show _ = _ by rw [HNX.out, HN.out]), hcj⟩
              case measure => simp [intOf]; omega
            · have hjl' : ¬ (j : Int) < (s.keys.length : Int) := by omega
              obtain rfl : j = s.keys.length := by omega
              have HN' : Hid (n = counts s.keys) := by show _ = _; rw [HN.out, List.take_length]
              have hn0 : 0 ≤ n ∧ n ≤ 1000 := by rw [HN'.out]; omega
              clear HN hup
              go_wp2_with fail
              go_loopw [30, 32] (fun sn si wq => ∃ (j : Nat) (m : Int), si = .int .i64 j ∧ j ≤ T.keys.length ∧ sn = .int .i64 m ∧ Hid (m = counts (T.keys.take j)) ∧ Chg (fun _ => False) w11 wq) (fun _ si _ => T.keys.length - (intOf si).toNat)
              case atStart => exact ⟨0, 0, rfl, by omega, rfl, (show _ = _ by simp [counts]), hcj⟩
              case round =>
                obtain ⟨j, m, rfl, hj, rfl, HM, hcm⟩ := hrel
                have tw1 := hcm.cellAt tv1 id
                by_cases hjl : j < T.keys.length
                · obtain ⟨x, hx⟩ : ∃ x, T.keys[j]? = some x := ⟨_, List.getElem?_eq_getElem hjl⟩
                  have cx := keyCells_at T.keys j x hx
                  obtain ⟨gk, capk, hvk, _, _, hck⟩ := row_pos hkT (by omega)
                  simp only [Value.slice.injEq] at hvk
                  obtain ⟨rfl, _, rfl⟩ := hvk
                  have p1 := hcm.cellAt (hck _ _ cx.2.1) id
                  have hjl' : (j : Int) < (T.keys.length : Int) := by omega
                  have hn := counts_next T.keys j x hx
                  have hn1 := hupT j
                  have hn2 := hupT (j + 1)
                  have hnx : 0 ≤ m ∧ m ≤ 1000 ∧ 0 ≤ m + x.count ∧ m + x.count ≤ 1000 := by rw [HM.out]; omega
                  clear hck cx hn1 hn2 hupT
                  have HNX : Hid (counts (T.keys.take (j + 1)) = counts (T.keys.take j) + x.count) := hn
                  clear hn
                  go_wp2_with fail
                  go_roundw
                  case rel => exact ⟨j + 1, m + x.count, by go_num, by omega, by go_num, (show _ = _ by rw [HNX.out, HM.out]), hcm⟩
                  case measure => simp [intOf]; omega
                · have hjl' : ¬ (j : Int) < (T.keys.length : Int) := by omega
                  obtain rfl : j = T.keys.length := by omega
                  have hm : m = n + 1 := by rw [HM.out, List.take_length, HTK.out, HN'.out]
                  subst hm
                  go_wp2_with fail
                  go_ret
                  exact ⟨rfl, call.trans hcm (fun _ _ h => h)⟩
      · have hlt : wrap64 (l.epoch + 1 + PB) < l.epoch := by unfold wrap64; omega
        go_wp2_with fail
        refine (HB.out _).mono ?_
        rintro _ wp ⟨rfl, ewp⟩
        rw [ewp]
        clear ewp wp
        go_wp2_with fail
        go_ret
        exact ⟨rfl, cw3.alloc _⟩

end Go.Proofs.YthedkdbgfdjlkaaGreat

/- A SCRIPT AS AN ARGUMENT, OPENED. -/
namespace Go.Proofs.YthedkdbgfdjlkaaGreat
set_option linter.unusedVariables false
set_option linter.unusedSimpArgs false
open Go.ChangeShapes Go.WideShapes Go.ChangeAt Go.RowKit Go.Deep

theorem Tryz.ownKnob : ownKnob Tryz.prog.godebug = none := by kernel_rfl
theorem Tryz.laidOut : laidOutB Tryz.prog = true := by kernel_rfl
theorem Tryz.bytesStep : Tryz.prog.bytesOf 44 = 80 := by kernel_rfl
theorem Tryz.cellsStep : Tryz.prog.cellsOf 44 = 8 := by kernel_rfl
theorem Tryz.cellsRec : Tryz.prog.cellsOf 34 = 5 := by kernel_rfl
theorem Tryz.cellsInt : Tryz.prog.cellsOf 3 = 1 := by kernel_rfl
theorem Tryz.cellsStr : Tryz.prog.cellsOf 9 = 1 := by kernel_rfl

theorem wf_inInt {n : Int} (h : (Lit.int .i64 n).wf = true) : inInt n := by
  simpa [Lit.wf, IntKind.min, IntKind.max, IntKind.signed, IntKind.bits, inInt] using h

theorem len4 {α : Type} {l : List α} (h : l.length = 4) : ∃ a b c d, l = [a, b, c, d] := by
  match l, h with
  | [a, b, c, d], _ => exact ⟨a, b, c, d, rfl⟩
theorem len5 {α : Type} {l : List α} (h : l.length = 5) : ∃ a b c d e, l = [a, b, c, d, e] := by
  match l, h with
  | [a, b, c, d, e], _ => exact ⟨a, b, c, d, e, rfl⟩
theorem len8 {α : Type} {l : List α} (h : l.length = 8) : ∃ a b c d e f g i, l = [a, b, c, d, e, f, g, i] := by
  match l, h with
  | [a, b, c, d, e, f, g, i], _ => exact ⟨a, b, c, d, e, f, g, i, rfl⟩

section
variable {H : Type} {enc : TypeId × Value → H} {W : World} {sp : Nat → Bool} {held : Bool} {base : Nat}

theorem open_rec {n : Nat} {cs : List Value} {y : DataW H × List MemPlace} (h : DataW.trod enc Tryz.prog W base sp held n 34 cs = some y) :
    ∃ x : Rec, cs = [.int .i64 x.session, .int .i64 x.epoch, .int .i64 x.number, .string x.key, .int .i64 x.value] ∧ x.fits := by
  obtain ⟨xs, k, _, _, hlen, hxl, hf⟩ := DataW.trod_struct Tryz.underlying34 h
  rw [Tryz.cellsRec] at hlen
  obtain ⟨y0, y1, y2, y3, y4, rfl⟩ := len5 hxl
  obtain ⟨c0, c1, c2, c3, c4, rfl⟩ := len5 hlen
  · clear hxl hlen h
    have g0 := hf 0 _ rfl
    have g1 := hf 1 _ rfl
    have g2 := hf 2 _ rfl
    have g3 := hf 3 _ rfl
    have g4 := hf 4 _ rfl
    simp [Tryz.cellsInt, Tryz.cellsStr] at g0 g1 g2 g3 g4
    obtain ⟨n0, e0, _, w0⟩ := DataW.trod_int Tryz.underlying3 g0
    obtain ⟨n1, e1, _, w1⟩ := DataW.trod_int Tryz.underlying3 g1
    obtain ⟨n2, e2, _, w2⟩ := DataW.trod_int Tryz.underlying3 g2
    obtain ⟨s3, e3, _, w3⟩ := DataW.trod_string Tryz.underlying9 g3
    obtain ⟨n4, e4, _, w4⟩ := DataW.trod_int Tryz.underlying3 g4
    simp at e0 e1 e2 e3 e4
    exact ⟨⟨n0, n1, n2, s3, n4⟩, by simp [e0, e1, e2, e3, e4], ⟨wf_inInt w0, wf_inInt w1, wf_inInt w2, wf_inInt w4, w3⟩⟩

theorem open_step {n : Nat} {cs : List Value} {y : DataW H × List MemPlace} (h : DataW.trod enc Tryz.prog W base sp held n 44 cs = some y) :
    ∃ x : Stp, cs = [.int .i64 x.kind, .int .i64 x.x.session, .int .i64 x.x.epoch, .int .i64 x.x.number, .string x.x.key, .int .i64 x.x.value, .string x.key, .int .i64 x.n] ∧ x.x.fits ∧ inInt x.kind ∧ inInt x.n ∧ x.key.size ≤ maxLen := by
  obtain ⟨xs, k, _, _, hlen, hxl, hf⟩ := DataW.trod_struct Tryz.underlying44 h
  rw [Tryz.cellsStep] at hlen
  obtain ⟨y0, y1, y2, y3, rfl⟩ := len4 hxl
  obtain ⟨c0, c1, c2, c3, c4, c5, c6, c7, rfl⟩ := len8 hlen
  · clear hxl hlen h
    have g0 := hf 0 _ rfl
    have g1 := hf 1 _ rfl
    have g2 := hf 2 _ rfl
    have g3 := hf 3 _ rfl
    simp [Tryz.cellsInt, Tryz.cellsStr, Tryz.cellsRec] at g0 g1 g2 g3
    obtain ⟨n0, e0, _, w0⟩ := DataW.trod_int Tryz.underlying3 g0
    obtain ⟨x, e1, hx⟩ := open_rec g1
    obtain ⟨s2, e2, _, w2⟩ := DataW.trod_string Tryz.underlying9 g2
    obtain ⟨n3, e3, _, w3⟩ := DataW.trod_int Tryz.underlying3 g3
    simp at e0 e1 e2 e3
    exact ⟨⟨n0, x, s2, n3⟩, by simp [e0, e1, e2, e3], hx, wf_inInt w0, wf_inInt w3, w2⟩

set_option maxRecDepth 100000 in
theorem open_script {v : Value} {d : DataW H} {p : List MemPlace} (hv : Value.okWide Tryz.prog W .any base 42 v) (h : DataW.Trod enc Tryz.prog W 0 (fun _ => true) true 42 v d p) (hw : ∀ n ∈ DataW.weights Tryz.prog 42 d, n ≤ reachBytes) : ∃ L, ScriptAt W v L := by
  obtain ⟨a0, len0, cap0, rfl⟩ := okWide_slice Tryz.underlying42 hv
  obtain ⟨fuel, hf⟩ := h
  rcases open_slice Tryz.underlying42 hf with ⟨hc, _⟩ | ⟨a, len, cap, m, n, D, Pl, hcs, _, hl, hm, hmm, hdp, hall⟩
  · simp [Value.cells] at hc
    obtain ⟨rfl, rfl, rfl⟩ := hc
    exact ⟨[], ⟨none, 0, rfl⟩, by simp, fun i x hx => by simp at hx, by simp, by simp⟩
  · simp [Value.cells] at hcs
    obtain ⟨rfl, rfl, rfl⟩ := hcs
    simp only [if_true] at hmm
    subst hmm
    have hlen80 : len0 * 80 ≤ 140737488351232 := by
      have hd := (Prod.mk.inj hdp).1
      rw [hd] at hw
      have := hw ((((List.range len0).map D).length + ((List.range (m - len0)).map fun j => D (len0 + j)).length) * Tryz.prog.bytesOf 44) (by simp [DataW.weights, Tryz.underlying42])
      rw [Tryz.bytesStep] at this
      simp only [List.length_map, List.length_range] at this
      unfold reachBytes at this
      omega
    rw [Tryz.cellsStep] at hall
    have each : ∀ i, i < m → ∃ x : Stp, (∀ j u, [.int .i64 x.kind, .int .i64 x.x.session, .int .i64 x.x.epoch, .int .i64 x.x.number, .string x.x.key, .int .i64 x.x.value, .string x.key, .int .i64 x.n][j]? = some u → W.cell? (a.add (i * 8 + j)) = some u) ∧ x.x.fits ∧ inInt x.kind ∧ inInt x.n ∧ x.key.size ≤ maxLen := fun i hi => by
      obtain ⟨cs', h1, h2⟩ := hall i hi
      obtain ⟨x, rfl, hx⟩ := open_step h2
      obtain ⟨_, _, hcell⟩ := World.cells?_some h1
      refine ⟨x, fun j u hu => ?_, hx⟩
      have hj : j < 8 := by
        have := (List.getElem?_eq_some_iff.1 hu).1
        simpa using this
      have := hcell j hj
      rw [add_add] at this
      rw [this]; exact hu
    obtain ⟨f, hfx⟩ := @choose_lt Stp ⟨⟨0, ⟨0, 0, 0, ⟨#[]⟩, 0⟩, ⟨#[]⟩, 0⟩⟩ _ _ each
    refine ⟨(List.range len0).map f, ⟨some a, m, by simp⟩, by simp only [List.length_map, List.length_range]; exact hlen80, fun i x hx => ?_, fun x hx => ?_, fun x hx => ?_⟩
    · have hi : i < len0 := by
        have := (List.getElem?_eq_some_iff.1 hx).1
        simpa using this
      have hxe : f i = x := by
        rw [List.getElem?_map, List.getElem?_range hi] at hx
        simpa using hx
      subst hxe
      obtain ⟨sb, so, spot⟩ := a
      have hc := (hfx i (by omega)).1
      have hspot : spot = none := by
        have := World.cell?_spot ((hfx 0 (by omega)).1 0 _ rfl)
        simpa [Addr.add] using this
      subst hspot
      have hq : ∀ j u, [.int .i64 (f i).kind, .int .i64 (f i).x.session, .int .i64 (f i).x.epoch, .int .i64 (f i).x.number, .string (f i).x.key, .int .i64 (f i).x.value, .string (f i).key, .int .i64 (f i).n][j]? = some u → W.cell? ⟨sb, so + i * 8 + j, none⟩ = some u := fun j u hu => by
        have := hc j u hu
        rw [add_lit'] at this
        rw [show so + i * 8 + j = so + (i * 8 + j) by omega]
        exact this
      exact ⟨sb, so, m, by simp, hq 0 _ rfl, hq 1 _ rfl, hq 2 _ rfl, hq 3 _ rfl, hq 4 _ rfl, hq 5 _ rfl, hq 6 _ rfl, hq 7 _ rfl⟩
    · obtain ⟨i, hi, rfl⟩ := List.mem_map.1 hx
      exact (hfx i (by have := List.mem_range.1 hi; omega)).2.1
    · obtain ⟨i, hi, rfl⟩ := List.mem_map.1 hx
      exact (hfx i (by have := List.mem_range.1 hi; omega)).2.2

end
end Go.Proofs.YthedkdbgfdjlkaaGreat
