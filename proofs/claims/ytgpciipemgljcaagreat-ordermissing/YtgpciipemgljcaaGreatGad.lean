/-
  The contracts of slices.Sort, slices.SortFunc (at lists, at numbers, at nodes) and slices.Delete at this translation, laid by the library's own command in plain words: no walk. No conditions of ours.
-/
import Derived.Shelf.Sort.Plain
import Derived.Shelf.SlicesE.Delete
import Derived.Shelf.SlSortCmp.Whole1
import Derived.Shelf.SlSortCmp.WholeK
import Derived.Test.YtgpciipemgljcaaGreatProg
import Derived.Test.YtgpciipemgljcaaGreatGac
namespace Go.Proofs.YtgpciipemgljcaaGreat.Gp
open Go.Shelf
def lays189_ren : Go.Shelf.Ren := ⟨fun | 189 => 70 | 125 => 56 | 257 => 97 | 128 => 92 | 129 => 93 | 294 => 107 | 295 => 108 | 296 => 109 | 297 => 110 | 298 => 111 | 299 => 112 | 216 => 113 | 300 => 114 | 301 => 115 | 328 => 133 | 329 => 103 | 330 => 104 | 331 => 134 | 332 => 135 | 215 => 94 | 343 => 142 | n => n, fun | 28 => 26 | 3 => 3 | 46 => 89 | 0 => 0 | 51 => 122 | 53 => 124 | 4 => 4 | 183 => 115 | 182 => 114 | 131 => 119 | 5 => 5 | 9 => 9 | 218 => 131 | 222 => 135 | 228 => 152 | 229 => 153 | n => n, fun | n => n⟩
theorem lays189 : Go.Proofs.Lays.n189 Tryz.prog lays189_ren := {
  mixed := by kernel_rfl
  f125 := Tryz.func56.trans (congrArg some (by kernel_rfl))
  f128 := Tryz.func92.trans (congrArg some (by kernel_rfl))
  f129 := Tryz.func93.trans (congrArg some (by kernel_rfl))
  f189 := Tryz.func70.trans (congrArg some (by kernel_rfl))
  f215 := Tryz.func94.trans (congrArg some (by kernel_rfl))
  f216 := Tryz.func113.trans (congrArg some (by kernel_rfl))
  f257 := Tryz.func97.trans (congrArg some (by kernel_rfl))
  f294 := Tryz.func107.trans (congrArg some (by kernel_rfl))
  f295 := Tryz.func108.trans (congrArg some (by kernel_rfl))
  f296 := Tryz.func109.trans (congrArg some (by kernel_rfl))
  f297 := Tryz.func110.trans (congrArg some (by kernel_rfl))
  f298 := Tryz.func111.trans (congrArg some (by kernel_rfl))
  f299 := Tryz.func112.trans (congrArg some (by kernel_rfl))
  f300 := Tryz.func114.trans (congrArg some (by kernel_rfl))
  f301 := Tryz.func115.trans (congrArg some (by kernel_rfl))
  f328 := Tryz.func133.trans (congrArg some (by kernel_rfl))
  f329 := Tryz.func103.trans (congrArg some (by kernel_rfl))
  f330 := Tryz.func104.trans (congrArg some (by kernel_rfl))
  f331 := Tryz.func134.trans (congrArg some (by kernel_rfl))
  f332 := Tryz.func135.trans (congrArg some (by kernel_rfl))
  f343 := Tryz.func142.trans (congrArg some (by kernel_rfl))
  t0 := Tryz.underlying0
  a0 := Tryz.isAgg0
  z0 := Tryz.sizeOf0
  v0 := Tryz.zeroValue0
  t3 := Tryz.underlying3
  a3 := Tryz.isAgg3
  z3 := Tryz.sizeOf3
  v3 := Tryz.zeroValue3
  t4 := Tryz.underlying4
  a4 := Tryz.isAgg4
  z4 := Tryz.sizeOf4
  v4 := Tryz.zeroValue4
  t5 := Tryz.underlying5
  a5 := Tryz.isAgg5
  z5 := Tryz.sizeOf5
  v5 := Tryz.zeroValue5
  t9 := Tryz.underlying9
  a9 := Tryz.isAgg9
  z9 := Tryz.sizeOf9
  v9 := Tryz.zeroValue9
  t28 := Tryz.underlying26
  a28 := Tryz.isAgg26
  z28 := Tryz.sizeOf26
  v28 := Tryz.zeroValue26
  t46 := Tryz.underlying89
  a46 := Tryz.isAgg89
  z46 := Tryz.sizeOf89
  v46 := Tryz.zeroValue89
  t51 := Tryz.underlying122
  a51 := Tryz.isAgg122
  z51 := Tryz.sizeOf122
  v51 := Tryz.zeroValue122
  t53 := Tryz.underlying124
  a53 := Tryz.isAgg124
  z53 := Tryz.sizeOf124
  v53 := Tryz.zeroValue124
  t131 := Tryz.underlying119
  a131 := Tryz.isAgg119
  z131 := Tryz.sizeOf119
  v131 := Tryz.zeroValue119
  t182 := Tryz.underlying114
  a182 := Tryz.isAgg114
  z182 := Tryz.sizeOf114
  v182 := Tryz.zeroValue114
  t183 := Tryz.underlying115
  a183 := Tryz.isAgg115
  z183 := Tryz.sizeOf115
  v183 := Tryz.zeroValue115
  t218 := Tryz.underlying131
  a218 := Tryz.isAgg131
  z218 := Tryz.sizeOf131
  v218 := Tryz.zeroValue131
  t222 := Tryz.underlying135
  a222 := Tryz.isAgg135
  z222 := Tryz.sizeOf135
  v222 := Tryz.zeroValue135
  t228 := Tryz.underlying152
  a228 := Tryz.isAgg152
  z228 := Tryz.sizeOf152
  v228 := Tryz.zeroValue152
  t229 := Tryz.underlying153
  a229 := Tryz.isAgg153
  z229 := Tryz.sizeOf153
  v229 := Tryz.zeroValue153 }
open Go.Sort Go.RowKit in
theorem slices_Sort_int (blk off cap : Nat) (zs : List Int) (w : World) (hH : Holds (Value.int .i64) w blk off zs.toArray) (hblk : blk < w.heap.size) (hsz : zs.length < 4611686018427387904) :
    Calls Tryz.prog 70 #[.slice (some ⟨blk, off, none⟩) zs.length cap] w fun e w' =>
      e = .returned (.tuple #[]) ∧ ∃ n os, w' = grow (putRow (Value.int .i64) (Sort.ahead w n) blk off (zs.mergeSort fun x y => decide (x ≤ y)).toArray) os := Any.slices_Sort_int lays189 blk off cap zs w hH hblk hsz
def laysSlE45_f79_ren : Go.Shelf.Ren := ⟨fun | 45 => 79 | n => n, fun | 22 => 54 | 23 => 26 | 3 => 3 | 4 => 4 | 0 => 0 | n => n, fun | n => n⟩
theorem laysSlE45_f79 : Go.Proofs.SlLaysE.n45 Tryz.prog laysSlE45_f79_ren := {
  mixed := by kernel_rfl
  f45 := ⟨Tryz.f79.name, by decide, Tryz.func79.trans (congrArg some (by kernel_rfl))⟩
  t0 := Tryz.underlying0
  a0 := Tryz.isAgg0
  z0 := Tryz.sizeOf0
  v0 := Tryz.zeroValue0
  t3 := Tryz.underlying3
  a3 := Tryz.isAgg3
  z3 := Tryz.sizeOf3
  v3 := Tryz.zeroValue3
  t4 := Tryz.underlying4
  a4 := Tryz.isAgg4
  z4 := Tryz.sizeOf4
  v4 := Tryz.zeroValue4
  t22 := Tryz.underlying54
  a22 := Tryz.isAgg54
  z22 := Tryz.sizeOf54
  v22 := Tryz.zeroValue54
  a23 := Tryz.isAgg26
  z23 := Tryz.sizeOf26 }
open Go.RowKit Go.Lib Go.Sort in
theorem slices_Delete {α : Type} [Inhabited α] (enc : α → Value) (h1 : OneCell enc) (zr : α) (v23 : ∀ w, (zeroValue 26).run Tryz.prog w = .ok (enc zr) w) (i0 : TypeInfo) (hi0 : Tryz.prog.info? 26 = some i0) (hz1 : i0.size = 1) (blk off cap i j : Nat) (d : Array α) (w : World) (hH : Holds enc w blk off d) (hcap : d.size ≤ cap) (hm : cap ≤ 9223372036854775807) (hij : i ≤ j) (hj : j ≤ d.size) :
    Calls Tryz.prog 79 #[.slice (some ⟨blk, off, none⟩) d.size cap, .int .i64 i, .int .i64 j] w fun e w' => e = .returned (.slice (some ⟨blk, off, none⟩) (d.size - (j - i)) cap) ∧ ∃ q, w' = putRow enc (Sort.ahead w q) blk off (d.toList.take i ++ d.toList.drop j ++ List.replicate (j - i) zr).toArray := AnyE.slices_Delete laysSlE45_f79 enc h1 zr v23 i0 hi0 hz1 blk off cap i j d w hH hcap hm hij hj
def laysSlF6_f27_ren : Go.Shelf.Ren := ⟨fun | 6 => 27 | 15 => 56 | 14 => 55 | 28 => 92 | 29 => 93 | 20 => 84 | 21 => 85 | 22 => 86 | 23 => 87 | 24 => 88 | 25 => 89 | 26 => 90 | 27 => 91 | 46 => 102 | 47 => 103 | 48 => 104 | 49 => 105 | 50 => 106 | 57 => 132 | n => n, fun | 22 => 26 | 24 => 3 | 25 => 59 | 3 => 3 | 39 => 89 | 0 => 0 | 53 => 122 | 55 => 124 | 4 => 4 | 46 => 115 | 45 => 114 | 50 => 119 | 5 => 5 | 9 => 9 | 66 => 131 | 70 => 135 | 76 => 152 | 77 => 153 | n => n, fun | n => n⟩
theorem laysSlF6_f27 : Go.Proofs.SlLaysF.n6 Tryz.prog laysSlF6_f27_ren := {
  mixed := by kernel_rfl
  f6 := ⟨Tryz.f27.name, by decide, Tryz.func27.trans (congrArg some (by kernel_rfl))⟩
  f14 := ⟨Tryz.f55.name, by decide, Tryz.func55.trans (congrArg some (by kernel_rfl))⟩
  f15 := Tryz.func56.trans (congrArg some (by kernel_rfl))
  f20 := ⟨Tryz.f84.name, by decide, Tryz.func84.trans (congrArg some (by kernel_rfl))⟩
  f21 := ⟨Tryz.f85.name, by decide, Tryz.func85.trans (congrArg some (by kernel_rfl))⟩
  f22 := ⟨Tryz.f86.name, by decide, Tryz.func86.trans (congrArg some (by kernel_rfl))⟩
  f23 := ⟨Tryz.f87.name, by decide, Tryz.func87.trans (congrArg some (by kernel_rfl))⟩
  f24 := ⟨Tryz.f88.name, by decide, Tryz.func88.trans (congrArg some (by kernel_rfl))⟩
  f25 := ⟨Tryz.f89.name, by decide, Tryz.func89.trans (congrArg some (by kernel_rfl))⟩
  f26 := ⟨Tryz.f90.name, by decide, Tryz.func90.trans (congrArg some (by kernel_rfl))⟩
  f27 := ⟨Tryz.f91.name, by decide, Tryz.func91.trans (congrArg some (by kernel_rfl))⟩
  f28 := Tryz.func92.trans (congrArg some (by kernel_rfl))
  f29 := Tryz.func93.trans (congrArg some (by kernel_rfl))
  f46 := ⟨Tryz.f102.name, by decide, Tryz.func102.trans (congrArg some (by kernel_rfl))⟩
  f47 := Tryz.func103.trans (congrArg some (by kernel_rfl))
  f48 := Tryz.func104.trans (congrArg some (by kernel_rfl))
  f49 := ⟨Tryz.f105.name, by decide, Tryz.func105.trans (congrArg some (by kernel_rfl))⟩
  f50 := ⟨Tryz.f106.name, by decide, Tryz.func106.trans (congrArg some (by kernel_rfl))⟩
  f57 := ⟨Tryz.f132.name, by decide, Tryz.func132.trans (congrArg some (by kernel_rfl))⟩
  t0 := Tryz.underlying0
  a0 := Tryz.isAgg0
  z0 := Tryz.sizeOf0
  v0 := Tryz.zeroValue0
  t3 := Tryz.underlying3
  a3 := Tryz.isAgg3
  z3 := Tryz.sizeOf3
  v3 := Tryz.zeroValue3
  t4 := Tryz.underlying4
  a4 := Tryz.isAgg4
  z4 := Tryz.sizeOf4
  v4 := Tryz.zeroValue4
  t5 := Tryz.underlying5
  a5 := Tryz.isAgg5
  z5 := Tryz.sizeOf5
  v5 := Tryz.zeroValue5
  t9 := Tryz.underlying9
  a9 := Tryz.isAgg9
  z9 := Tryz.sizeOf9
  v9 := Tryz.zeroValue9
  t22 := Tryz.underlying26
  a22 := Tryz.isAgg26
  z22 := Tryz.sizeOf26
  v22 := Tryz.zeroValue26
  a24 := Tryz.isAgg3
  z24 := Tryz.sizeOf3
  t25 := Tryz.underlying59
  a25 := Tryz.isAgg59
  z25 := Tryz.sizeOf59
  v25 := Tryz.zeroValue59
  t39 := Tryz.underlying89
  a39 := Tryz.isAgg89
  z39 := Tryz.sizeOf89
  v39 := Tryz.zeroValue89
  t45 := Tryz.underlying114
  a45 := Tryz.isAgg114
  z45 := Tryz.sizeOf114
  v45 := Tryz.zeroValue114
  t46 := Tryz.underlying115
  a46 := Tryz.isAgg115
  z46 := Tryz.sizeOf115
  v46 := Tryz.zeroValue115
  t50 := Tryz.underlying119
  a50 := Tryz.isAgg119
  z50 := Tryz.sizeOf119
  v50 := Tryz.zeroValue119
  t53 := Tryz.underlying122
  a53 := Tryz.isAgg122
  z53 := Tryz.sizeOf122
  v53 := Tryz.zeroValue122
  t55 := Tryz.underlying124
  a55 := Tryz.isAgg124
  z55 := Tryz.sizeOf124
  v55 := Tryz.zeroValue124
  t66 := Tryz.underlying131
  a66 := Tryz.isAgg131
  z66 := Tryz.sizeOf131
  v66 := Tryz.zeroValue131
  t70 := Tryz.underlying135
  a70 := Tryz.isAgg135
  z70 := Tryz.sizeOf135
  v70 := Tryz.zeroValue135
  t76 := Tryz.underlying152
  a76 := Tryz.isAgg152
  z76 := Tryz.sizeOf152
  v76 := Tryz.zeroValue152
  t77 := Tryz.underlying153
  a77 := Tryz.isAgg153
  z77 := Tryz.sizeOf153
  v77 := Tryz.zeroValue153 }
open Go.RowKit Go.Lib Go.Sort in
theorem slices_SortFunc_f27 {α : Type} [Inhabited α] (enc : α → Value) (h1 : OneCell enc) (cf : α → α → Int) (hO : SWO (ltOf cf)) (g : Nat) (cb : Array Value) (blk off cap : Nat) (d : Array α) (w : World) (eg : ∀ args w, (callFunc g args).run Tryz.prog w = .ok (.enter g args) w) (hcmp : CmpLays1 Tryz.prog g cb enc cf blk off d.size w) (hH : Holds enc w blk off d) (hblk : blk < w.heap.size) (hsz : d.size < 4611686018427387904) :
    Calls Tryz.prog 27 #[.slice (some ⟨blk, off, none⟩) d.size cap, .func (.func g) #[] cb] w fun e w' =>
      e = .returned (.tuple #[]) ∧ ∃ d' n os, PermIn 0 d.size d d' ∧ SortedIn (ltOf cf) 0 d.size d' ∧ w' = sortWorld enc w blk off n d' os := Any.slices_SortFunc laysSlF6_f27 enc h1 cf hO g cb blk off cap d w eg hcmp hH hblk hsz
def laysSlF6_f82_ren : Go.Shelf.Ren := ⟨fun | 6 => 82 | 15 => 56 | 14 => 101 | 28 => 92 | 29 => 93 | 20 => 124 | 21 => 125 | 22 => 126 | 23 => 127 | 24 => 128 | 25 => 129 | 26 => 130 | 27 => 131 | 46 => 139 | 47 => 103 | 48 => 104 | 49 => 140 | 50 => 141 | 57 => 144 | n => n, fun | 22 => 54 | 24 => 26 | 25 => 112 | 3 => 3 | 39 => 89 | 0 => 0 | 53 => 122 | 55 => 124 | 4 => 4 | 46 => 115 | 45 => 114 | 50 => 119 | 5 => 5 | 9 => 9 | 66 => 131 | 70 => 135 | 76 => 152 | 77 => 153 | n => n, fun | n => n⟩
theorem laysSlF6_f82 : Go.Proofs.SlLaysF.n6 Tryz.prog laysSlF6_f82_ren := {
  mixed := by kernel_rfl
  f6 := ⟨Tryz.f82.name, by decide, Tryz.func82.trans (congrArg some (by kernel_rfl))⟩
  f14 := ⟨Tryz.f101.name, by decide, Tryz.func101.trans (congrArg some (by kernel_rfl))⟩
  f15 := Tryz.func56.trans (congrArg some (by kernel_rfl))
  f20 := ⟨Tryz.f124.name, by decide, Tryz.func124.trans (congrArg some (by kernel_rfl))⟩
  f21 := ⟨Tryz.f125.name, by decide, Tryz.func125.trans (congrArg some (by kernel_rfl))⟩
  f22 := ⟨Tryz.f126.name, by decide, Tryz.func126.trans (congrArg some (by kernel_rfl))⟩
  f23 := ⟨Tryz.f127.name, by decide, Tryz.func127.trans (congrArg some (by kernel_rfl))⟩
  f24 := ⟨Tryz.f128.name, by decide, Tryz.func128.trans (congrArg some (by kernel_rfl))⟩
  f25 := ⟨Tryz.f129.name, by decide, Tryz.func129.trans (congrArg some (by kernel_rfl))⟩
  f26 := ⟨Tryz.f130.name, by decide, Tryz.func130.trans (congrArg some (by kernel_rfl))⟩
  f27 := ⟨Tryz.f131.name, by decide, Tryz.func131.trans (congrArg some (by kernel_rfl))⟩
  f28 := Tryz.func92.trans (congrArg some (by kernel_rfl))
  f29 := Tryz.func93.trans (congrArg some (by kernel_rfl))
  f46 := ⟨Tryz.f139.name, by decide, Tryz.func139.trans (congrArg some (by kernel_rfl))⟩
  f47 := Tryz.func103.trans (congrArg some (by kernel_rfl))
  f48 := Tryz.func104.trans (congrArg some (by kernel_rfl))
  f49 := ⟨Tryz.f140.name, by decide, Tryz.func140.trans (congrArg some (by kernel_rfl))⟩
  f50 := ⟨Tryz.f141.name, by decide, Tryz.func141.trans (congrArg some (by kernel_rfl))⟩
  f57 := ⟨Tryz.f144.name, by decide, Tryz.func144.trans (congrArg some (by kernel_rfl))⟩
  t0 := Tryz.underlying0
  a0 := Tryz.isAgg0
  z0 := Tryz.sizeOf0
  v0 := Tryz.zeroValue0
  t3 := Tryz.underlying3
  a3 := Tryz.isAgg3
  z3 := Tryz.sizeOf3
  v3 := Tryz.zeroValue3
  t4 := Tryz.underlying4
  a4 := Tryz.isAgg4
  z4 := Tryz.sizeOf4
  v4 := Tryz.zeroValue4
  t5 := Tryz.underlying5
  a5 := Tryz.isAgg5
  z5 := Tryz.sizeOf5
  v5 := Tryz.zeroValue5
  t9 := Tryz.underlying9
  a9 := Tryz.isAgg9
  z9 := Tryz.sizeOf9
  v9 := Tryz.zeroValue9
  t22 := Tryz.underlying54
  a22 := Tryz.isAgg54
  z22 := Tryz.sizeOf54
  v22 := Tryz.zeroValue54
  a24 := Tryz.isAgg26
  z24 := Tryz.sizeOf26
  t25 := Tryz.underlying112
  a25 := Tryz.isAgg112
  z25 := Tryz.sizeOf112
  v25 := Tryz.zeroValue112
  t39 := Tryz.underlying89
  a39 := Tryz.isAgg89
  z39 := Tryz.sizeOf89
  v39 := Tryz.zeroValue89
  t45 := Tryz.underlying114
  a45 := Tryz.isAgg114
  z45 := Tryz.sizeOf114
  v45 := Tryz.zeroValue114
  t46 := Tryz.underlying115
  a46 := Tryz.isAgg115
  z46 := Tryz.sizeOf115
  v46 := Tryz.zeroValue115
  t50 := Tryz.underlying119
  a50 := Tryz.isAgg119
  z50 := Tryz.sizeOf119
  v50 := Tryz.zeroValue119
  t53 := Tryz.underlying122
  a53 := Tryz.isAgg122
  z53 := Tryz.sizeOf122
  v53 := Tryz.zeroValue122
  t55 := Tryz.underlying124
  a55 := Tryz.isAgg124
  z55 := Tryz.sizeOf124
  v55 := Tryz.zeroValue124
  t66 := Tryz.underlying131
  a66 := Tryz.isAgg131
  z66 := Tryz.sizeOf131
  v66 := Tryz.zeroValue131
  t70 := Tryz.underlying135
  a70 := Tryz.isAgg135
  z70 := Tryz.sizeOf135
  v70 := Tryz.zeroValue135
  t76 := Tryz.underlying152
  a76 := Tryz.isAgg152
  z76 := Tryz.sizeOf152
  v76 := Tryz.zeroValue152
  t77 := Tryz.underlying153
  a77 := Tryz.isAgg153
  z77 := Tryz.sizeOf153
  v77 := Tryz.zeroValue153 }
open Go.RowKit Go.Lib Go.Sort in
theorem slices_SortFunc {α : Type} [Inhabited α] (enc : α → Value) (h1 : OneCell enc) (cf : α → α → Int) (hO : SWO (ltOf cf)) (g : Nat) (cb : Array Value) (blk off cap : Nat) (d : Array α) (w : World) (eg : ∀ args w, (callFunc g args).run Tryz.prog w = .ok (.enter g args) w) (hcmp : CmpLays1 Tryz.prog g cb enc cf blk off d.size w) (hH : Holds enc w blk off d) (hblk : blk < w.heap.size) (hsz : d.size < 4611686018427387904) :
    Calls Tryz.prog 82 #[.slice (some ⟨blk, off, none⟩) d.size cap, .func (.func g) #[] cb] w fun e w' =>
      e = .returned (.tuple #[]) ∧ ∃ d' n os, PermIn 0 d.size d d' ∧ SortedIn (ltOf cf) 0 d.size d' ∧ w' = sortWorld enc w blk off n d' os := Any.slices_SortFunc laysSlF6_f82 enc h1 cf hO g cb blk off cap d w eg hcmp hH hblk hsz
def laysSlF0_f73_ren : Go.Shelf.Ren := ⟨fun | 6 => 73 | 15 => 56 | 14 => 99 | 28 => 92 | 29 => 93 | 20 => 116 | 21 => 117 | 22 => 118 | 23 => 119 | 24 => 120 | 25 => 121 | 26 => 122 | 27 => 123 | 46 => 136 | 47 => 103 | 48 => 104 | 49 => 137 | 50 => 138 | 57 => 143 | n => n, fun | 22 => 22 | 24 => 30 | 25 => 58 | 3 => 3 | 39 => 89 | 0 => 0 | 53 => 122 | 55 => 124 | 4 => 4 | 46 => 115 | 45 => 114 | 50 => 119 | 5 => 5 | 9 => 9 | 66 => 131 | 70 => 135 | 76 => 152 | 77 => 153 | n => n, fun | n => n⟩
theorem laysSlF0_f73 : Go.Proofs.SlLaysF0.n6 Tryz.prog laysSlF0_f73_ren := {
  mixed := by kernel_rfl
  f6 := ⟨Tryz.f73.name, by decide, Tryz.func73.trans (congrArg some (by kernel_rfl))⟩
  f14 := ⟨Tryz.f99.name, by decide, Tryz.func99.trans (congrArg some (by kernel_rfl))⟩
  f15 := Tryz.func56.trans (congrArg some (by kernel_rfl))
  f20 := ⟨Tryz.f116.name, by decide, Tryz.func116.trans (congrArg some (by kernel_rfl))⟩
  f21 := ⟨Tryz.f117.name, by decide, Tryz.func117.trans (congrArg some (by kernel_rfl))⟩
  f22 := ⟨Tryz.f118.name, by decide, Tryz.func118.trans (congrArg some (by kernel_rfl))⟩
  f23 := ⟨Tryz.f119.name, by decide, Tryz.func119.trans (congrArg some (by kernel_rfl))⟩
  f24 := ⟨Tryz.f120.name, by decide, Tryz.func120.trans (congrArg some (by kernel_rfl))⟩
  f25 := ⟨Tryz.f121.name, by decide, Tryz.func121.trans (congrArg some (by kernel_rfl))⟩
  f26 := ⟨Tryz.f122.name, by decide, Tryz.func122.trans (congrArg some (by kernel_rfl))⟩
  f27 := ⟨Tryz.f123.name, by decide, Tryz.func123.trans (congrArg some (by kernel_rfl))⟩
  f28 := Tryz.func92.trans (congrArg some (by kernel_rfl))
  f29 := Tryz.func93.trans (congrArg some (by kernel_rfl))
  f46 := ⟨Tryz.f136.name, by decide, Tryz.func136.trans (congrArg some (by kernel_rfl))⟩
  f47 := Tryz.func103.trans (congrArg some (by kernel_rfl))
  f48 := Tryz.func104.trans (congrArg some (by kernel_rfl))
  f49 := ⟨Tryz.f137.name, by decide, Tryz.func137.trans (congrArg some (by kernel_rfl))⟩
  f50 := ⟨Tryz.f138.name, by decide, Tryz.func138.trans (congrArg some (by kernel_rfl))⟩
  f57 := ⟨Tryz.f143.name, by decide, Tryz.func143.trans (congrArg some (by kernel_rfl))⟩
  t0 := Tryz.underlying0
  a0 := Tryz.isAgg0
  z0 := Tryz.sizeOf0
  v0 := Tryz.zeroValue0
  t3 := Tryz.underlying3
  a3 := Tryz.isAgg3
  z3 := Tryz.sizeOf3
  v3 := Tryz.zeroValue3
  t4 := Tryz.underlying4
  a4 := Tryz.isAgg4
  z4 := Tryz.sizeOf4
  v4 := Tryz.zeroValue4
  t5 := Tryz.underlying5
  a5 := Tryz.isAgg5
  z5 := Tryz.sizeOf5
  v5 := Tryz.zeroValue5
  t9 := Tryz.underlying9
  a9 := Tryz.isAgg9
  z9 := Tryz.sizeOf9
  v9 := Tryz.zeroValue9
  t22 := Tryz.underlying22
  a22 := Tryz.isAgg22
  z22 := Tryz.sizeOf22
  v22 := Tryz.zeroValue22
  t25 := Tryz.underlying58
  a25 := Tryz.isAgg58
  z25 := Tryz.sizeOf58
  v25 := Tryz.zeroValue58
  t39 := Tryz.underlying89
  a39 := Tryz.isAgg89
  z39 := Tryz.sizeOf89
  v39 := Tryz.zeroValue89
  t45 := Tryz.underlying114
  a45 := Tryz.isAgg114
  z45 := Tryz.sizeOf114
  v45 := Tryz.zeroValue114
  t46 := Tryz.underlying115
  a46 := Tryz.isAgg115
  z46 := Tryz.sizeOf115
  v46 := Tryz.zeroValue115
  t50 := Tryz.underlying119
  a50 := Tryz.isAgg119
  z50 := Tryz.sizeOf119
  v50 := Tryz.zeroValue119
  t53 := Tryz.underlying122
  a53 := Tryz.isAgg122
  z53 := Tryz.sizeOf122
  v53 := Tryz.zeroValue122
  t55 := Tryz.underlying124
  a55 := Tryz.isAgg124
  z55 := Tryz.sizeOf124
  v55 := Tryz.zeroValue124
  t66 := Tryz.underlying131
  a66 := Tryz.isAgg131
  z66 := Tryz.sizeOf131
  v66 := Tryz.zeroValue131
  t70 := Tryz.underlying135
  a70 := Tryz.isAgg135
  z70 := Tryz.sizeOf135
  v70 := Tryz.zeroValue135
  t76 := Tryz.underlying152
  a76 := Tryz.isAgg152
  z76 := Tryz.sizeOf152
  v76 := Tryz.zeroValue152
  t77 := Tryz.underlying153
  a77 := Tryz.isAgg153
  z77 := Tryz.sizeOf153
  v77 := Tryz.zeroValue153 }
open Go.RowKit Go.Lib Go.Sort in
theorem slices_SortFunc_f73 {α : Type} [Inhabited α] (k : Nat) (aE : ∀ w, (isAgg 30).run Tryz.prog w = .ok true w) (zE : ∀ w, (Go.sizeOf 30).run Tryz.prog w = .ok k w) (enc : α → List Value) (hk : ∀ x, (enc x).length = k) (h1 : ∀ x, ∀ v ∈ enc x, v.oneCell' = true) (cf : α → α → Int) (hO : SWO (ltOf cf)) (g : Nat) (cb : Array Value) (blk off cap : Nat) (d : Array α) (w : World)
    (eg : ∀ args w, (callFunc g args).run Tryz.prog w = .ok (.enter g args) w) (hcmp : CmpLays Tryz.prog g cb enc k cf blk off d.size w) (hH : HoldsK enc k w blk off d) (hblk : blk < w.heap.size) (hsz : d.size < 4611686018427387904) :
    Calls Tryz.prog 73 #[.slice (some ⟨blk, off, none⟩) d.size cap, .func (.func g) #[] cb] w fun e w' =>
      e = .returned (.tuple #[]) ∧ ∃ d' n os, PermIn 0 d.size d d' ∧ SortedIn (ltOf cf) 0 d.size d' ∧ w' = sortWorldK enc k w blk off n d' os := AnyQ.slices_SortFunc laysSlF0_f73 k aE zE enc hk h1 cf hO g cb blk off cap d w eg hcmp hH hblk hsz
end Go.Proofs.YtgpciipemgljcaaGreat.Gp

/-
  What a sort leaves, in the words of this seat's memory: of a row of integers, and of a row of whatever one cell holds. Conditions: each thing is told once.
-/
namespace Go.Proofs.YtgpciipemgljcaaGreat.Gp
open Go.RowKit Go.Sort
set_option linter.unusedVariables false

section
variable {α : Type} [Inhabited α] {enc : α → Value}
theorem holds_own {w : World} {base : Nat} {e : TypeId} {g c n : Nat} {l : List α} (h : w.ownsRow base e 1 (.slice (some ⟨g, 0, none⟩) n c) n (l.map enc)) : Holds enc w g 0 l.toArray := by
  intro j hj
  have hj' : j < l.length := by simpa using hj
  refine ⟨?_, ?_⟩
  · rw [Nat.zero_add, own_cell h (j := j) (u := enc l[j]) (by simp [hj'])]
    simp [hj']
  · rcases h.2 with ⟨h0, _⟩ | ⟨g', cap, cur, hv, _, hh, _⟩
    · cases h0
    · simp only [Value.slice.injEq, Option.some.injEq, Addr.mk.injEq] at hv
      obtain ⟨⟨rfl, _⟩, _⟩ := hv
      exact Lib.frozen_of_heap hh _
theorem put_heap {w : World} {g k : Nat} {os : Array Obj} {cur : Array Value} {e : TypeId} {fr : Nat × Nat} (d : Array α) (hb : w.heap[g]? = some (.cells cur e fr)) :
    (grow (putRow enc (Sort.ahead w k) g 0 d) os).heap[g]? = some (.cells (putCells enc 0 d cur) e fr) := by
  have hg : g < w.heap.size := (Array.getElem?_eq_some_iff.1 hb).1
  rw [heap_grow_old _ _ (by simpa using hg)]
  simp [putRow, mapBlock, Sort.ahead, Array.getElem?_modify, hb, onCells]
theorem put_off {w : World} {g k : Nat} {os : Array Obj} (d : Array α) : Off (· = g) w (grow (putRow enc (Sort.ahead w k) g 0 d) os) := by
  refine ⟨rfl, rfl, rfl, by simp, fun i hi hne => ?_⟩
  rw [heap_grow_old _ _ (by simpa using hi)]
  have : g ≠ i := fun e => hne e.symm
  simp [putRow, mapBlock, Sort.ahead, Array.getElem?_modify, this]
theorem put_own {w : World} {base : Nat} {e : TypeId} {g c n k : Nat} {os : Array Obj} {l : List Value} (h : w.ownsRow base e 1 (.slice (some ⟨g, 0, none⟩) n c) n l) (d : Array α) (hd : d.size = n) :
    (grow (putRow enc (Sort.ahead w k) g 0 d) os).ownsRow base e 1 (.slice (some ⟨g, 0, none⟩) n c) n (d.toList.map enc) := by
  rcases h.2 with ⟨h0, _⟩ | ⟨g', cap, cur, hv, hb, hh, h1, h2, h3, h4⟩
  · cases h0
  · simp only [Value.slice.injEq, Option.some.injEq, Addr.mk.injEq] at hv
    obtain ⟨⟨rfl, _⟩, _, rfl⟩ := hv
    refine ⟨by simp [hd], .inr ⟨g, c, _, rfl, hb, put_heap d hh, h1, h2, by simp [putCells, h3], ?_⟩⟩
    apply List.ext_getElem?
    intro j
    by_cases hj : j < n
    · rw [List.getElem?_take_of_lt (by omega), Array.getElem?_toList]
      simp [putCells, hd, hj, show j < cur.size by omega]
    · rw [List.getElem?_take_eq_none (by omega), List.getElem?_eq_none (by simp; omega)]
end

theorem iv_zs (l : List Nat) : iv l = (zs l).map (Value.int .i64) := by simp [iv, zs]

theorem sort_any (base g c : Nat) (l cs : List Nat) (hl : l.length ≤ 1000) (hn : l.Nodup) (hc : cs.Pairwise (· < ·)) (hm : ∀ x, x ∈ l ↔ x ∈ cs) (w : World) (h : w.ownsRow base 3 1 (.slice (some ⟨g, 0, none⟩) l.length c) l.length (iv l)) :
    Calls Tryz.prog 70 #[.slice (some ⟨g, 0, none⟩) l.length c] w (fun e w' => e = .returned (.tuple #[]) ∧ w'.ownsRow base 3 1 (.slice (some ⟨g, 0, none⟩) cs.length c) cs.length (iv cs) ∧ Off (· = g) w w') := by
  have hlen := len_same hn (rises_nodup hc) hm
  rw [iv_zs] at h
  have hlt := (h.lt g rfl).2
  have := slices_Sort_int g 0 c (zs l) w (holds_own h) hlt (by rw [zs_len]; omega)
  rw [zs_len, sorted_zs hn hc hm] at this
  refine this.mono ?_
  rintro e w' ⟨rfl, n, os, rfl⟩
  refine ⟨rfl, ?_, put_off _⟩
  have := put_own (enc := Value.int .i64) (k := n) (os := os) h (zs cs).toArray (by simp [zs_len, hlen])
  rw [← hlen, iv_zs]
  simpa using this

/-- The first place at which x stands, or -1. -/
def Fnd (l : List Int) (x z : Int) : Prop := (z = -1 ∧ x ∉ l) ∨ ∃ k : Nat, z = (k : Int) ∧ k < l.length ∧ l[k]? = some x

set_option maxHeartbeats 1000000 in
theorem index_any (A : Option Addr) (c : Nat) (l : List Int) (x : Int) (hl : l.length ≤ 1000) (w : World) (hs : Sl w w.heap.size A l) :
    Calls Tryz.prog 67 #[.slice A l.length c, .int .i64 x] w (fun e w' => ∃ z, e = .returned (.int .i64 z) ∧ Fnd l x z ∧ w' = w) := by
  have HS := Lib.hid hs
  clear hs
  go_enter Tryz.func67, Tryz.ntmps67
  go_wp2
  go_loopw [8] (fun t wr => ∃ k : Nat, k ≤ l.length ∧ t = .int .i64 (k : Int) ∧ wr = w ∧ Hid (∀ j, j < k → l[j]? ≠ some x)) (fun t _ => 1001 - (intOf t).toNat)
  case atStart => exact ⟨0, Nat.zero_le _, rfl, rfl, fun j h => by omega⟩
  case round =>
    obtain ⟨k, hk, rfl, rfl, hno⟩ := hrel
    by_cases hlt : k < l.length
    · have hlti : (k : Int) < (l.length : Int) := by omega
      have hk0 : (0 : Int) ≤ (k : Int) := by omega
      obtain ⟨b, off, rfl, hb, hq⟩ := HS.out.at_ hlt
      have HT : Hid (l[k] ≠ x → ∀ j, j < k + 1 → l[j]? ≠ some x) := fun hne j hjk => by
        rcases Nat.lt_or_ge j k with h | h
        · exact hno.out j h
        · obtain rfl : j = k := by omega
          rw [List.getElem?_eq_getElem hlt]
          simpa using hne
      have HL : Hid (l[k] = x → Fnd l x (k : Int)) := fun he => .inr ⟨k, rfl, hlt, by rw [List.getElem?_eq_getElem hlt, he]⟩
      generalize l[k] = y at *
      by_cases hr : x = y
      · have HR := Lib.hid (HL.out hr.symm)
        subst hr
        clear HT HL hno
        go_wp2
        go_ret
        exact ⟨(k : Int), rfl, HR.out, rfl⟩
      · have HR := Lib.hid (HT.out (fun e => hr e.symm))
        have hr2 : (x == y) = false := by simpa using hr
        clear HT HL hno
        go_wp2
        go_roundw
        case rel => exact ⟨k + 1, by omega, by go_num, by first | rfl | trivial, HR.out⟩
        case measure => simp [intOf]; omega
    · obtain rfl : k = l.length := by omega
      have HR : Hid (Fnd l x (-1)) := .inl ⟨rfl, fun hx => by
        obtain ⟨j, hj⟩ := List.getElem?_of_mem hx
        exact hno.out j (List.getElem?_eq_some_iff.1 hj).1 hj⟩
      go_wp2
      go_ret
      exact ⟨-1, rfl, HR.out, rfl⟩

theorem contains_any (A : Option Addr) (c : Nat) (l : List Int) (x : Int) (r : Bool) (hr : r = decide (x ∈ l)) (hl : l.length ≤ 1000) (w : World) (hs : Sl w w.heap.size A l) :
    Calls Tryz.prog 41 #[.slice A l.length c, .int .i64 x] w (fun e w' => e = .returned (.bool r) ∧ w' = w) := by
  have HI := Lib.hid (index_any A c l x hl w hs)
  have HR := Lib.hid hr
  clear hs hr
  go_enter Tryz.func41, Tryz.ntmps41
  go_wp2_with fail
  refine HI.out.mono ?_
  rintro e w1 ⟨z, rfl, hz, rfl⟩
  rcases hz with ⟨rfl, hz⟩ | ⟨k, rfl, hk, he⟩
  · obtain rfl : r = false := by rw [HR.out]; simpa using hz
    go_wp2
    go_ret
    exact ⟨rfl, rfl⟩
  · obtain rfl : r = true := by rw [HR.out]; simpa using List.mem_of_getElem? he
    have h0 : (0 : Int) ≤ (k : Int) := by omega
    have h1 : ¬ (k : Int) < 0 := by omega
    go_wp2
    go_ret
    exact ⟨rfl, rfl⟩

end Go.Proofs.YtgpciipemgljcaaGreat.Gp

/-
  The walks of Closure and Reaches. Conditions: at most 1000 edges.
-/
namespace Go.Proofs.YtgpciipemgljcaaGreat.Gp
open Go.RowKit
set_option linter.unusedVariables false

/-- What a thing reaches, rising. -/
noncomputable def clo (E : Nat → Nat → Prop) (m f : Nat) : List Nat := (List.range m).filter (rb E f)
theorem mem_clo {E : Nat → Nat → Prop} {m f x : Nat} : x ∈ clo E m f ↔ x < m ∧ Rt E f x := by simp [clo, rb_iff]
theorem clo_rises (E : Nat → Nat → Prop) (m f : Nat) : (clo E m f).Pairwise (· < ·) := (range_lt m).filter _
theorem clo_len (E : Nat → Nat → Prop) (m f : Nat) : (clo E m f).length ≤ m := by
  have := List.length_filter_le (rb E f) (List.range m)
  simpa [clo] using this
/-- .. and nothing, if it is none. -/
noncomputable def cz (n : Int) (l : List (Int × Int)) (f : Int) : List Nat := if 0 ≤ f ∧ f < (am n : Int) then clo (Ed (am n) l) (am n) f.toNat else []
theorem cz_len (n : Int) (l : List (Int × Int)) (f : Int) : (cz n l f).length ≤ 100 := by
  unfold cz
  split
  · have := clo_len (Ed (am n) l) (am n) f.toNat; have := am_le n; omega
  · simp
/-- The call gave a list of integers; nothing that was there has turned. -/
def IntsPost (w : World) (xs : List Int) (e : Ending) (w' : World) : Prop := ∃ A c, e = .returned (.slice A xs.length c) ∧ Sl w' w'.heap.size A xs ∧ Below w.heap.size w w'

theorem own_sl {w : World} {base : Nat} {g c : Nat} {l : List Nat} (h : w.ownsRow base 3 1 (.slice (some ⟨g, 0, none⟩) l.length c) l.length (iv l)) : Sl w w.heap.size (some ⟨g, 0, none⟩) (zs l) :=
  .inr ⟨g, 0, rfl, (h.lt g rfl).2, fun j x hx => by
    rw [Nat.zero_add]
    refine own_cell h ?_
    rw [iv_zs, List.getElem?_map, hx]
    rfl⟩

set_option maxHeartbeats 1000000 in
theorem Closure_any (n : Int) (A : Option Addr) (c : Nat) (l : List (Int × Int)) (f : Int) (hl : l.length ≤ 1000) (w : World) (hs : Es w w.heap.size A l) : Calls Tryz.prog 42 #[.int .i64 n, .slice A l.length c, .int .i64 f] w (IntsPost w (zs (cz n l f))) := by
  have HR := Lib.hid (read_any n A c l hl w hs)
  have hle := am_le n
  by_cases hf : 0 ≤ f ∧ f < (am n : Int)
  · obtain ⟨a, rfl⟩ := Int.eq_ofNat_of_zero_le hf.1
    have hE : Hid (cz n l (a : Int) = clo (Ed (am n) l) (am n) a) := by
      show _ = _
      unfold cz
      rw [if_pos hf]
      rfl
    generalize cz n l (a : Int) = cs at *
    obtain rfl := hE.out
    clear hE
    generalize am n = m at *
    have ha : a < m := by omega
    have HH := fun W => Lib.hid (has_any (some ⟨0, 0, none⟩) m m (a : Int) true (by rw [decide_eq_true hf]) W)
    obtain ⟨j0, hj, hy0, hy1, hy2⟩ := info_parts info4
    have HI := Lib.hid hf
    clear hf HH
    go_enter Tryz.func42, Tryz.ntmps42
    go_wp2_with fail
    refine HR.out.mono ?_
    rintro e w1 ⟨b, R, rfl, hG, hb, hRb, B1⟩
    clear HR
    have HH := Lib.hid (has_any (some ⟨b, 0, none⟩) m m (a : Int) true (by rw [decide_eq_true HI.out]) w1)
    go_wp2_with fail
    refine HH.out.mono ?_
    rintro e w2 ⟨rfl, rfl⟩
    clear HH
    have hwk : Hid (∀ w3 : World, w3.ownsRow w2.heap.size 4 1 (.slice (some ⟨w2.heap.size, 0, none⟩) m m) m (madeCells (Value.bool false).cells (m * 1)).toList → w2.grownBy w3 none → Calls Tryz.prog 69 #[.slice (some ⟨b, 0, none⟩) m m, .int .i64 (a : Int), .slice (some ⟨w2.heap.size, 0, none⟩) m m] w3 (WkPost w3 m (ge l) w2.heap.size (fun _ => false) a)) := fun w3 ho hg =>
      walk_any b R m (ge l) (by omega) w2.heap.size (fun _ => false) a ha rfl (fun x y h => by cases h) w3 (hG.same (hg.block b hG.lt (by simp)) fun i hi => hg.block (R i) (hG.rlt hi) (by simp)) (tb_made ho rfl) (fun i hi => by have := hG.rlt hi; omega)
    go_wp2_with (at_make; refine wpList_make_full _ rfl _ _ 41 rfl w2.heap.size 4 j0 (.bool false) 1 (by kernel_rfl) hj hy0 hy1 _ _ _ _ m rfl rfl rfl rfl (by rw [hy2]; omega) (by unfold maxLen; omega) (Nat.le_refl _) ?_; intro w3 hown3 hgrow3; have HW := hwk.out w3 hown3 hgrow3)
    refine HW.mono ?_
    rintro e w4 ⟨q, g, c4, rfl, hL, hown4, hS4, hO4⟩
    have B4 : Below w.heap.size w w4 := (B1.grown hgrow3 B1.size (by simp)).trans (hO4.below (by rintro r rfl; exact B1.size) (Nat.le_trans B1.size hgrow3.size))
    have hg4 := hown4.lt g rfl
    have hql : q.length ≤ m := by
      have := hL.nd.length_le_of_subset (l₂ := List.range m) (fun x hx => List.mem_range.2 (hL.inn x hx).2.1)
      simpa using this
    have hm : ∀ x, x ∈ q ↔ x ∈ clo (Ed m l) m a := fun x => by
      rw [mem_clo, ← eg_ge]
      refine ⟨fun h => ⟨(hL.inn x h).2.1, (hL.inn x h).2.2⟩, fun h => ?_⟩
      rcases hL.all x h.2 with h | h
      · exact h
      · cases h
    have HSo := Lib.hid (sort_any _ g c4 q (clo (Ed m l) m a) (by omega) hL.nd (clo_rises _ _ _) hm w4 hown4)
    have hq5 : Hid (q.length = (zs (clo (Ed m l) m a)).length) := by
      show _ = _
      rw [zs_len]
      exact len_same hL.nd (rises_nodup (clo_rises _ _ _)) hm
    have hb4 : w.heap.size ≤ g := Nat.le_trans (Nat.le_trans B1.size hgrow3.size) hg4.1
    clear hown3 hgrow3 HW hL hown4 hS4 hO4 hm hwk hG
    go_wp2_with fail
    refine HSo.out.mono ?_
    rintro e w5 ⟨rfl, hown5, hO5⟩
    have B5 := B4.trans (hO5.below (by rintro r rfl; exact hb4) B4.size)
    have hS5 := own_sl hown5
    go_wp2
    go_ret
    exact ⟨some ⟨g, 0, none⟩, c4, by rw [hq5.out]; rfl, hS5, B5⟩
  · have hE : Hid (cz n l f = []) := if_neg hf
    generalize cz n l f = cs at *
    obtain rfl := hE.out
    clear hE
    generalize am n = m at *
    have HI := Lib.hid hf
    clear hf
    go_enter Tryz.func42, Tryz.ntmps42
    go_wp2_with fail
    refine HR.out.mono ?_
    rintro e w1 ⟨b, R, rfl, hG, hb, hRb, B1⟩
    clear HR
    have HH := Lib.hid (has_any (some ⟨b, 0, none⟩) m m f false (by rw [decide_eq_false HI.out]) w1)
    go_wp2_with fail
    refine HH.out.mono ?_
    rintro e w2 ⟨rfl, rfl⟩
    go_wp2
    go_ret
    exact ⟨none, 0, rfl, .inl rfl, B1⟩

/-- Whether one reaches the other one. -/
noncomputable def rz (n : Int) (l : List (Int × Int)) (f t : Int) : Bool := decide (t ∈ zs (cz n l f))

theorem Reaches_any (n : Int) (A : Option Addr) (c : Nat) (l : List (Int × Int)) (f t : Int) (hl : l.length ≤ 1000) (w : World) (hs : Es w w.heap.size A l) : Calls Tryz.prog 22 #[.int .i64 n, .slice A l.length c, .int .i64 f, .int .i64 t] w (BoolPost w (rz n l f t)) := by
  have HC := Lib.hid (Closure_any n A c l f hl w hs)
  have hlen := cz_len n l f
  have hr : Hid (rz n l f t = decide (t ∈ zs (cz n l f))) := rfl
  rw [← zs_len] at hlen
  generalize zs (cz n l f) = cs at *
  generalize rz n l f t = r at *
  go_enter Tryz.func22, Tryz.ntmps22
  go_wp2_with fail
  refine HC.out.mono ?_
  rintro e w1 ⟨A1, c1, rfl, hS, B1⟩
  have HD := Lib.hid (contains_any A1 c1 cs t r hr.out (by omega) w1 hS)
  go_wp2_with fail
  refine HD.out.mono ?_
  rintro e w2 ⟨rfl, rfl⟩
  go_wp2
  go_ret
  exact ⟨rfl, B1⟩

end Go.Proofs.YtgpciipemgljcaaGreat.Gp

/-
  The walks of the document's own Bound, thing, From, Reaches, Closure. Conditions: at most 1000 edges.
-/
namespace Go.Proofs.YtgpciipemgljcaaGreat.Gp
open Go.RowKit
set_option linter.unusedVariables false

theorem bound_any (n : Int) (w : World) : Calls Tryz.prog 62 #[.int .i64 n] w (fun e w' => e = .returned (.int .i64 (am n : Int)) ∧ w' = w) := by
  have H : Hid ((n < 0 → (am n : Int) = 0) ∧ (100 < n → (am n : Int) = 100) ∧ (0 ≤ n → n ≤ 100 → (am n : Int) = n)) := by
    refine ⟨fun h => ?_, fun h => ?_, fun h k => ?_⟩ <;> unfold am <;> omega
  generalize (am n : Int) = r at *
  by_cases h0 : n < 0
  · obtain rfl := H.out.1 h0
    clear H
    go_enter Tryz.func62, Tryz.ntmps62
    go_wp2
    go_ret
    exact ⟨rfl, rfl⟩
  · by_cases h1 : 100 < n
    · obtain rfl := H.out.2.1 h1
      clear H
      go_enter Tryz.func62, Tryz.ntmps62
      go_wp2
      go_ret
      exact ⟨rfl, rfl⟩
    · obtain rfl := H.out.2.2 (by omega) (by omega)
      clear H
      go_enter Tryz.func62, Tryz.ntmps62
      go_wp2
      go_ret
      exact ⟨rfl, rfl⟩

theorem thing_any (n i : Int) (r : Bool) (hr : r = decide (0 ≤ i ∧ i < (am n : Int))) (w : World) : Calls Tryz.prog 96 #[.int .i64 n, .int .i64 i] w (fun e w' => e = .returned (.bool r) ∧ w' = w) := by
  have HB := Lib.hid (bound_any n w)
  generalize (am n : Int) = m at *
  by_cases h0 : 0 ≤ i
  · by_cases h1 : i < m
    · obtain rfl : r = true := by rw [hr]; simp [h0, h1]
      clear hr
      go_enter Tryz.func96, Tryz.ntmps96
      go_wp2_with fail
      refine HB.out.mono ?_
      rintro e w1 ⟨rfl, rfl⟩
      go_wp2
      go_ret
      exact ⟨rfl, rfl⟩
    · have h3 : decide (i < m) = false := decide_eq_false h1
      obtain rfl : r = false := by rw [hr]; simp [h1]
      clear hr
      go_enter Tryz.func96, Tryz.ntmps96
      go_wp2_with fail
      refine HB.out.mono ?_
      rintro e w1 ⟨rfl, rfl⟩
      go_wp2
      go_ret
      exact ⟨rfl, rfl⟩
  · obtain rfl : r = false := by rw [hr]; simp [h0]
    clear hr
    go_enter Tryz.func96, Tryz.ntmps96
    go_wp2
    go_ret
    exact ⟨rfl, rfl⟩

/-- What From marks, edge by edge: itself, and what an edge leads to from what is marked. -/
structure Mk (m : Nat) (l : List (Int × Int)) (f : Nat) (o : Nat → Bool) : Prop where
  has : o f = true
  rt : ∀ x, o x = true → Rt (Ed m l) f x
/-- No edge of the first k leads out. -/
def Ct (m : Nat) (l : List (Int × Int)) (k : Nat) (o : Nat → Bool) : Prop := ∀ a b, a < m → b < m → ((a : Int), (b : Int)) ∈ l.take k → o a = true → o b = true
theorem Mk.add {m : Nat} {l : List (Int × Int)} {f a b : Nat} {o : Nat → Bool} (h : Mk m l f o) (e : Ed m l a b) (ha : o a = true) : Mk m l f (upd o b) :=
  ⟨by simp [upd, h.has], fun x hx => by
    rcases upd_iff.1 hx with hx | rfl
    · exact h.rt x hx
    · exact (h.rt a ha).step e⟩
theorem Mk.end_ {m : Nat} {l : List (Int × Int)} {f : Nat} {o : Nat → Bool} (h : Mk m l f o) (hc : Ct m l l.length o) (x : Nat) : o x = rb (Ed m l) f x := by
  rw [Bool.eq_iff_iff, rb_iff]
  refine ⟨h.rt x, fun hr => hr.stays (fun x => o x = true) h.has fun a b ha e => ?_⟩
  exact hc a b e.1 e.2.1 (by rw [List.take_length]; exact e.2.2) ha
theorem Ct.zero {m : Nat} {l : List (Int × Int)} {o : Nat → Bool} : Ct m l 0 o := fun a b _ _ h => by simp at h
theorem Ct.next {m : Nat} {l : List (Int × Int)} {k : Nat} {o : Nat → Bool} (h : Ct m l k o) (hk : k < l.length) (hn : ∀ a b, a < m → b < m → l[k] = ((a : Int), (b : Int)) → o a = true → o b = true) : Ct m l (k + 1) o := fun a b ha hb he ho => by
  rw [List.take_succ_eq_append_getElem hk, List.mem_append, List.mem_singleton] at he
  rcases he with he | he
  · exact h a b ha hb he ho
  · exact hn a b ha hb he.symm ho

/-- The call gave a row of bools of its own. -/
def RowPost (w : World) (o : Nat → Bool) (m : Nat) (e : Ending) (w' : World) : Prop := ∃ s, e = .returned (.slice (some ⟨s, 0, none⟩) m m) ∧ Br w' s o m ∧ w.heap.size ≤ s ∧ Below w.heap.size w w'

/-- What From marks, of a number that may be no thing's. -/
noncomputable def fr (n : Int) (l : List (Int × Int)) (f : Int) : Nat → Bool := fun x => decide (0 ≤ f ∧ f < (am n : Int)) && rb (Ed (am n) l) f.toNat x

set_option maxRecDepth 100000 in
set_option maxHeartbeats 4000000 in
theorem From_any (n : Int) (A : Option Addr) (c : Nat) (l : List (Int × Int)) (f : Int) (hl : l.length ≤ 1000) (w : World) (hs : Es w w.heap.size A l) : Calls Tryz.prog 63 #[.int .i64 n, .slice A l.length c, .int .i64 f] w (RowPost w (fr n l f) (am n)) := by
  obtain ⟨j0, hj, hy0, hy1, hy2⟩ := info_parts info4
  have HB := Lib.hid (bound_any n w)
  have hle := am_le n
  have HT := Lib.hid (fun (i : Int) (r : Bool) (h : r = decide (0 ≤ i ∧ i < (am n : Int))) W => thing_any n i r h W)
  by_cases hf : 0 ≤ f ∧ f < (am n : Int)
  · obtain ⟨a, rfl⟩ := Int.eq_ofNat_of_zero_le hf.1
    have hE : Hid (∀ x, fr n l (a : Int) x = rb (Ed (am n) l) a x) := fun x => by
      show (decide _ && _) = _
      rw [decide_eq_true hf, Bool.true_and]
      rfl
    generalize fr n l (a : Int) = oo at *
    generalize am n = m at *
    have ha : a < m := by omega
    have HF := Lib.hid (HT.out (a : Int) true (by rw [decide_eq_true hf]))
    have hai : (a : Int) < (m : Int) := by omega
    have ha0 : (0 : Int) ≤ (a : Int) := by omega
    clear hf
    go_enter Tryz.func63, Tryz.ntmps63
    go_wp2_with (first | (go_at_call 62; refine HB.out.mono ?_; rintro e w1 ⟨rfl, rfl⟩) | (at_make; refine wpList_make_full _ rfl _ _ 41 rfl w1.heap.size 4 j0 (.bool false) 1 (by kernel_rfl) hj hy0 hy1 _ _ _ _ m rfl rfl rfl rfl (by rw [hy2]; omega) (by unfold maxLen; omega) (Nat.le_refl _) ?_; intro w3 hown3 hgrow3) | (go_at_call 96; refine (HF.out _).mono ?_; rintro e w4 ⟨rfl, rfl⟩; have S0 : Br w4 w1.heap.size (fun _ => false) m := tb_made hown3 rfl; have c0 := S0.cell ha; have f0 := Tb.free S0 a))
    have S1 := S0.set a true
    have M1 : Mk m l a (upd (fun _ => false) a) := ⟨by simp [upd], fun x hx => by
      simp [upd] at hx
      rw [hx]; exact .refl⟩
    have S1 := S0.upd a
    have B1 : Below w1.heap.size w1 (w4.setCell ⟨w1.heap.size, a, none⟩ (.bool true)) := ((Below.refl _ w1).grown hgrow3 (Nat.le_refl _) (by simp)).setCell (Nat.le_refl _) _
    have M1 := Lib.hid M1
    clear S0 c0 f0 HF hown3 hgrow3 hj hy0 hy1 hy2
    revert S1 B1
    generalize w4.setCell ⟨w1.heap.size, a, none⟩ (.bool true) = W5
    intro S1 B1
    go_loopg [9] (uns m (upd (fun _ => false) a) + 1) (fun g v wr => ∃ (o : Nat → Bool) (mb : Bool), v = .bool mb ∧ Hid (uns m o + (if mb then 1 else 0) ≤ g) ∧ Hid (Mk m l a o) ∧ Hid (mb = false → Ct m l l.length o) ∧ Br wr w1.heap.size o m ∧ Below w1.heap.size w1 wr)
    case atStart => exact ⟨_, true, rfl, by show _ ≤ _; simp, M1.out, fun h => (by cases h), S1, B1⟩
    case round =>
      obtain ⟨o, mb, rfl, hm, hM, hC, hS, hbel⟩ := hrel
      clear S1 B1 M1
      cases mb with
      | false =>
        have hx := Lib.hid fun x => (hM.out.end_ (hC.out rfl) x).trans (hE.out x).symm
        go_wp2
        go_ret
        exact ⟨w1.heap.size, rfl, hS.congr fun x _ => hx.out x, Nat.le_refl _, hbel⟩
      | true =>
        go_wp2
        go_loopg [9, 10] l.length (fun g v t W => ∃ (k : Nat) (o' : Nat → Bool) (mb : Bool), k + g = l.length ∧ v = .bool mb ∧ t = .int .i64 (k : Int) ∧ Hid (uns m o' + (if mb then 1 else 0) ≤ uns m o) ∧ Hid (Mk m l a o') ∧ Hid (mb = false → Ct m l k o') ∧ Br W w1.heap.size o' m ∧ Below w1.heap.size w1 W)
        case atStart => exact ⟨0, o, false, by omega, rfl, rfl, by show _ ≤ _; simp, hM.out, fun _ => Ct.zero, hS, hbel⟩
        case round =>
          obtain ⟨k, o', mb, hk, rfl, rfl, hm', hM', hC', hS', hbel'⟩ := hrel
          by_cases hlt : k < l.length
          · have hki : (k : Int) < (l.length : Int) := by omega
            have hk0 : (0 : Int) ≤ (k : Int) := by omega
            obtain ⟨q, off, rfl, hq, q0, q1⟩ := (hs.below hbel').at_ hlt
            have NX := Lib.hid (fun (h : mb = false) (hn : ∀ a b, a < m → b < m → l[k] = ((a : Int), (b : Int)) → o' a = true → o' b = true) => (hC'.out h).next hlt hn)
            have EX := Lib.hid (fun (a b : Nat) (ha : a < m) (hb : b < m) (h : l[k] = ((a : Int), (b : Int))) => (⟨ha, hb, h ▸ List.getElem_mem hlt⟩ : Ed m l a b))
            generalize l[k] = r at *
            obtain ⟨x, y⟩ := r
            simp only at q0 q1
            clear hS hbel hC' hM hC
            by_cases hx : 0 ≤ x ∧ x < (m : Int)
            · have K1 := Lib.hid (HT.out x true (by rw [decide_eq_true hx]))
              by_cases hy : 0 ≤ y ∧ y < (m : Int)
              · have K2 := Lib.hid (HT.out y true (by rw [decide_eq_true hy]))
                obtain ⟨d, rfl⟩ := Int.eq_ofNat_of_zero_le hx.1
                obtain ⟨t, rfl⟩ := Int.eq_ofNat_of_zero_le hy.1
                have hd : d < m := by omega
                have ht : t < m := by omega
                have hdi : (d : Int) < (m : Int) := by omega
                have hti : (t : Int) < (m : Int) := by omega
                have hd0 : (0 : Int) ≤ (d : Int) := by omega
                have ht0 : (0 : Int) ≤ (t : Int) := by omega
                have EE := Lib.hid (EX.out d t hd ht rfl)
                have cd := hS'.cell hd
                have ct := hS'.cell ht
                have ft := Tb.free hS' t
                clear EX hx hy
                rcases hod : o' d with _ | _
                · rw [hod] at cd
                  have NN : Hid (mb = false → Ct m l (k + 1) o') := fun h => NX.out h fun a b _ _ e ho => by
                    simp only [Prod.mk.injEq] at e
                    obtain rfl : d = a := by omega
                    rw [hod] at ho; cases ho
                  clear hod NX
                  go_wp2_with fail
                  refine (K1.out _).mono ?_
                  rintro e w6 ⟨rfl, rfl⟩
                  go_wp2_with fail
                  refine (K2.out _).mono ?_
                  rintro e w7 ⟨rfl, rfl⟩
                  go_wp2
                  go_roundg (l.length - (k + 1))
                  case measure => omega
                  case rel => exact ⟨k + 1, o', mb, by omega, rfl, by go_num, hm'.out, hM'.out, NN.out, hS', hbel'⟩
                · rw [hod] at cd
                  rcases hot : o' t with _ | _
                  · rw [hot] at ct
                    have M2 := Lib.hid (hM'.out.add EE.out hod)
                    have U2 := Lib.hid (uns_upd ht hot)
                    have S2 := hS'.upd t
                    have B2 := hbel'.setCell (p := ⟨w1.heap.size, t, none⟩) (Nat.le_refl _) (.bool true)
                    clear hod NX hot
                    go_wp2_with fail
                    refine (K1.out _).mono ?_
                    rintro e w6 ⟨rfl, rfl⟩
                    go_wp2_with fail
                    refine (K2.out _).mono ?_
                    rintro e w7 ⟨rfl, rfl⟩
                    go_wp2
                    go_roundg (l.length - (k + 1))
                    case measure => omega
                    case rel => exact ⟨k + 1, upd o' t, true, by omega, rfl, by go_num, by have := U2.out; have := hm'.out; show _ ≤ _; simp; omega, M2.out, fun h => (by cases h), S2, B2⟩
                  · rw [hot] at ct
                    have NN : Hid (mb = false → Ct m l (k + 1) o') := fun h => NX.out h fun a b _ _ e ho => by
                      simp only [Prod.mk.injEq] at e
                      obtain rfl : t = b := by omega
                      exact hot
                    clear hod NX hot
                    go_wp2_with fail
                    refine (K1.out _).mono ?_
                    rintro e w6 ⟨rfl, rfl⟩
                    go_wp2_with fail
                    refine (K2.out _).mono ?_
                    rintro e w7 ⟨rfl, rfl⟩
                    go_wp2
                    go_roundg (l.length - (k + 1))
                    case measure => omega
                    case rel => exact ⟨k + 1, o', mb, by omega, rfl, by go_num, hm'.out, hM'.out, NN.out, hS', hbel'⟩
              · have K2 := Lib.hid (HT.out y false (by rw [decide_eq_false hy]))
                have NN : Hid (mb = false → Ct m l (k + 1) o') := fun h => NX.out h fun a b _ hb e ho => by
                  simp only [Prod.mk.injEq] at e
                  omega
                clear EX NX hx hy
                go_wp2_with fail
                refine (K1.out _).mono ?_
                rintro e w6 ⟨rfl, rfl⟩
                go_wp2_with fail
                refine (K2.out _).mono ?_
                rintro e w7 ⟨rfl, rfl⟩
                go_wp2
                go_roundg (l.length - (k + 1))
                case measure => omega
                case rel => exact ⟨k + 1, o', mb, by omega, rfl, by go_num, hm'.out, hM'.out, NN.out, hS', hbel'⟩
            · have K1 := Lib.hid (HT.out x false (by rw [decide_eq_false hx]))
              have NN : Hid (mb = false → Ct m l (k + 1) o') := fun h => NX.out h fun a b ha _ e ho => by
                simp only [Prod.mk.injEq] at e
                omega
              obtain ⟨ry, hry⟩ : ∃ ry, ry = decide (0 ≤ y ∧ y < (m : Int)) := ⟨_, rfl⟩
              have K2 := Lib.hid (HT.out y ry hry)
              clear EX NX hx hry
              go_wp2_with fail
              refine (K1.out _).mono ?_
              rintro e w6 ⟨rfl, rfl⟩
              go_wp2_with fail
              refine (K2.out _).mono ?_
              rintro e w7 ⟨rfl, rfl⟩
              go_wp2
              go_roundg (l.length - (k + 1))
              case measure => omega
              case rel => exact ⟨k + 1, o', mb, by omega, rfl, by go_num, hm'.out, hM'.out, NN.out, hS', hbel'⟩
          · obtain rfl : k = l.length := by omega
            go_wp2
            go_roundg (uns m o' + (if mb then 1 else 0))
            case measure => have := hm.out; have := hm'.out; simp at *; omega
            case rel => exact ⟨o', mb, rfl, Nat.le_refl _, hM'.out, hC'.out, hS', hbel'⟩
  · have hE : Hid (∀ x, fr n l f x = false) := fun x => by
      show (decide _ && _) = _
      rw [decide_eq_false hf, Bool.false_and]
    generalize fr n l f = oo at *
    generalize am n = m at *
    have HF := Lib.hid (HT.out f false (by rw [decide_eq_false hf]))
    clear hf
    go_enter Tryz.func63, Tryz.ntmps63
    go_wp2_with (first | (go_at_call 62; refine HB.out.mono ?_; rintro e w1 ⟨rfl, rfl⟩) | (at_make; refine wpList_make_full _ rfl _ _ 41 rfl w1.heap.size 4 j0 (.bool false) 1 (by kernel_rfl) hj hy0 hy1 _ _ _ _ m rfl rfl rfl rfl (by rw [hy2]; omega) (by unfold maxLen; omega) (Nat.le_refl _) ?_; intro w3 hown3 hgrow3) | (go_at_call 96; refine (HF.out _).mono ?_; rintro e w4 ⟨rfl, rfl⟩))
    go_ret
    have S0 : Br w4 w1.heap.size (fun _ => false) m := tb_made hown3 rfl
    exact ⟨w1.heap.size, rfl, S0.congr fun x _ => (hE.out x).symm, Nat.le_refl _, (Below.refl _ w1).grown hgrow3 (Nat.le_refl _) (by simp)⟩

end Go.Proofs.YtgpciipemgljcaaGreat.Gp

/-
  The walks of the document's own Reaches and Closure. Conditions: at most 1000 edges.
-/
namespace Go.Proofs.YtgpciipemgljcaaGreat.Gp
open Go.RowKit
set_option linter.unusedVariables false

theorem mem_zs {x : Nat} {l : List Nat} : ((x : Nat) : Int) ∈ zs l ↔ x ∈ l := by
  unfold zs
  rw [List.mem_map]
  exact ⟨fun ⟨y, hy, e⟩ => by obtain rfl : y = x := (by omega); exact hy, fun h => ⟨x, h, rfl⟩⟩
theorem fr_rz (n : Int) (l : List (Int × Int)) (f : Int) (t : Nat) (ht : t < am n) : fr n l f t = rz n l f (t : Int) := by
  unfold fr rz cz
  rw [Bool.eq_iff_iff]
  by_cases hf : 0 ≤ f ∧ f < (am n : Int)
  · rw [if_pos hf, decide_eq_true hf, Bool.true_and, decide_eq_true_iff, mem_zs, rb_iff, mem_clo]
    exact ⟨fun h => ⟨ht, h⟩, fun h => h.2⟩
  · rw [if_neg hf, decide_eq_false hf, Bool.false_and, decide_eq_true_iff]
    simp [zs]
theorem rz_out {n : Int} {l : List (Int × Int)} {f t : Int} (h : ¬ ((0 ≤ f ∧ f < (am n : Int)) ∧ (0 ≤ t ∧ t < (am n : Int)))) : rz n l f t = false := by
  unfold rz cz
  split
  · rename_i hf
    simp only [decide_eq_false_iff_not, zs, List.mem_map, not_exists, not_and]
    rintro x hx rfl
    have := (mem_clo.1 hx).1
    exact h ⟨hf, by omega, by omega⟩
  · simp [zs]

/-- The things of a row of marks, the first k of them. -/
def mkd (o : Nat → Bool) (k : Nat) : List Nat := (List.range k).filter o
theorem mkd_succ (o : Nat → Bool) (k : Nat) : mkd o (k + 1) = mkd o k ++ (if o k = true then [k] else []) := by
  unfold mkd
  rw [List.range_succ, List.filter_append]
  rcases h : o k with _ | _ <;> simp [h]
theorem mkd_len (o : Nat → Bool) (k : Nat) : (mkd o k).length ≤ k := by
  have := List.length_filter_le o (List.range k)
  simpa [mkd] using this
theorem mkd_fr (n : Int) (l : List (Int × Int)) (f : Int) : mkd (fr n l f) (am n) = cz n l f := by
  unfold mkd cz
  by_cases hf : 0 ≤ f ∧ f < (am n : Int)
  · rw [if_pos hf]
    refine List.filter_congr fun x _ => ?_
    unfold fr
    rw [decide_eq_true hf, Bool.true_and]
  · rw [if_neg hf, List.filter_eq_nil_iff]
    intro x _
    unfold fr
    rw [decide_eq_false hf, Bool.false_and]
    simp

set_option maxHeartbeats 2000000 in
theorem rClosure_any (n : Int) (A : Option Addr) (c : Nat) (l : List (Int × Int)) (f : Int) (hl : l.length ≤ 1000) (w : World) (hs : Es w w.heap.size A l) : Calls Tryz.prog 59 #[.int .i64 n, .slice A l.length c, .int .i64 f] w (IntsPost w (zs (cz n l f))) := by
  obtain ⟨i0, hi, hz0, hz1, hz2⟩ := info_parts info3
  have HF := Lib.hid (From_any n A c l f hl w hs)
  have HM := Lib.hid (mkd_fr n l f)
  have hle := am_le n
  generalize cz n l f = xs at *
  generalize fr n l f = o at *
  generalize am n = m at *
  go_enter Tryz.func59, Tryz.ntmps59
  go_wp2_with fail
  refine HF.out.mono ?_
  rintro e w1 ⟨s, rfl, hS, hs0, B1⟩
  clear HF
  go_wp2
  go_loopg [8, 9] m (fun g v t W => ∃ k : Nat, k + g = m ∧ t = .int .i64 (k : Int) ∧ Hid (W.ownsRow w1.heap.size 3 1 v (mkd o k).length (iv (mkd o k))) ∧ Below w1.heap.size w1 W)
  case atStart => exact ⟨0, by omega, rfl, World.ownsRow_nil _ _ _ _, Below.refl _ _⟩
  case round =>
    obtain ⟨k, hk, rfl, hown, hbel⟩ := hrel
    have hml := mkd_len o k
    by_cases hlt : k < m
    · have hki : (k : Int) < (m : Int) := by omega
      have hk0 : (0 : Int) ≤ (k : Int) := by omega
      have S2 : Br wr s o m := Tb.on hS hbel (Tb.lt hS)
      have ck := S2.cell hlt
      have HS := Lib.hid (mkd_succ o k)
      have hsz := hbel.size
      rcases hok : o k with _ | _
      · rw [hok] at ck HS
        have HS2 : Hid (mkd o (k + 1) = mkd o k) := HS.out.trans (by simp)
        clear HS hok
        go_wp2
        go_roundg (m - (k + 1))
        case measure => omega
        case rel => exact ⟨k + 1, by omega, by go_num, by rw [HS2.out]; exact hown.out, hbel⟩
      · rw [hok] at ck HS
        have HS2 : Hid (mkd o (k + 1) = mkd o k ++ [k]) := HS.out.trans (by simp)
        have HN := Lib.hid (heap_alloc_new wr (.cells #[.int .i64 (k : Int)] 3))
        have H7 := Lib.hid (own_same (w' := wr.alloc (.cells #[.int .i64 (k : Int)] 3)) hown.out fun g hg => heap_alloc_old _ _ (hown.out.lt g hg).2)
        have HL := Lib.hid hown.out.lt
        have B2 := hbel.alloc hsz (.cells #[.int .i64 (k : Int)] 3)
        clear HS hok
        go_wp2_with (at_builtin; refine wpList_append_lies _ rfl _ _ 26 rfl w1.heap.size 3 i0 (.int .i64 0) 1 8 Tryz.underlying26 hi hz0 hz1 hz2 rfl (by decide) u8 (mkd o k).length (iv (mkd o k)) rfl H7.out ⟨wr.heap.size, 0, none⟩ 1 1 [.int .i64 (k : Int)] rfl rfl (World.news_of_block HN.out) (by intro u hu; simp at hu; subst hu; rfl) (by decide) (by unfold maxLen; omega) (by omega) (by simp; omega) (wr.heap.size + 1) (by simp) ?_; intro g' c' w5 hown5 hgrow hat hlt5)
        have B3 := B2.grown hgrow (by simp; omega) (fun r hr => (HL.out r hr).1)
        have H8 : Hid (w5.ownsRow w1.heap.size 3 1 (.slice (some ⟨g', 0, none⟩) ((mkd o k).length + 1) c') (mkd o (k + 1)).length (iv (mkd o (k + 1)))) := by
          show World.ownsRow _ _ _ _ _ _ _
          rw [HS2.out, iv_snoc, List.length_append]; exact hown5
        go_wp2
        go_roundg (m - (k + 1))
        case measure => omega
        case rel => exact ⟨k + 1, by omega, by go_num, H8.out, B3⟩
    · obtain rfl : k = m := by omega
      have HX : Hid (wr.ownsRow w1.heap.size 3 1 u8 xs.length (iv xs)) := by rw [← HM.out]; exact hown.out
      have hB := B1.trans (hbel.mono B1.size)
      have HP : Hid (∃ A c, u8 = .slice A (zs xs).length c ∧ Sl wr wr.heap.size A (zs xs)) := by
        rw [zs_len]
        rcases Nat.eq_zero_or_pos xs.length with h0 | h0
        · obtain rfl := List.length_eq_zero_iff.1 h0
          rcases HX.out.2 with ⟨rfl, _⟩ | ⟨g, cap, cur, rfl, _⟩
          · exact ⟨none, 0, rfl, .inl rfl⟩
          · exact ⟨_, cap, rfl, .inl rfl⟩
        · obtain ⟨g, c7, rfl, _, _⟩ := HX.out.form h0
          exact ⟨_, c7, rfl, own_sl HX.out⟩
      go_wp2
      go_ret
      obtain ⟨A7, c7, h1, h2⟩ := HP.out
      exact ⟨A7, c7, by rw [← h1]; rfl, h2, hB⟩

end Go.Proofs.YtgpciipemgljcaaGreat.Gp

/-
  Slices of lists that read as lists of lists; the walks of the document's two Same. Conditions: at most 1000 lists of at most 1000 integers.
-/
namespace Go.Proofs.YtgpciipemgljcaaGreat.Gp
open Go.RowKit
set_option linter.unusedVariables false

theorem below_drewN {B : Nat} {a w : World} (h : Below B a w) (n : Nat) : Below B a (w.drewN n) := h.trans ⟨rfl, rfl, rfl, Nat.le_refl _, fun _ _ => rfl⟩

/-- A slice of lists that reads as l, all of it below block B. -/
def Ll (w : World) (B : Nat) (A : Option Addr) (l : List (List Int)) : Prop :=
  l = [] ∨ ∃ b off, A = some ⟨b, off, none⟩ ∧ b < B ∧ ∀ i r, l[i]? = some r → ∃ A' c', w.cell? ⟨b, off + i, none⟩ = some (.slice A' r.length c') ∧ Sl w B A' r
theorem Ll.at_ {w : World} {B : Nat} {A : Option Addr} {l : List (List Int)} (h : Ll w B A l) {i : Nat} (hi : i < l.length) : ∃ b off A' c', A = some ⟨b, off, none⟩ ∧ b < B ∧ w.cell? ⟨b, off + i, none⟩ = some (.slice A' (l[i]).length c') ∧ Sl w B A' l[i] := by
  rcases h with rfl | ⟨b, off, hA, hb, hc⟩
  · simp at hi
  · obtain ⟨A', c', h1, h2⟩ := hc i l[i] (List.getElem?_eq_getElem hi)
    exact ⟨b, off, A', c', hA, hb, h1, h2⟩
theorem Ll.below {w w' : World} {B : Nat} {A : Option Addr} {l : List (List Int)} (h : Ll w B A l) (hb : Below B w w') : Ll w' B A l := by
  rcases h with rfl | ⟨b, off, hA, hlt, hc⟩
  · exact .inl rfl
  · refine .inr ⟨b, off, hA, hlt, fun i r hr => ?_⟩
    obtain ⟨A', c', h1, h2⟩ := hc i r hr
    exact ⟨A', c', (hb.cell (p := ⟨b, off + i, none⟩) hlt).trans h1, h2.below hb⟩
theorem Ll.mono {w : World} {B B' : Nat} {A : Option Addr} {l : List (List Int)} (h : Ll w B A l) (hB : B ≤ B') : Ll w B' A l := by
  rcases h with rfl | ⟨b, off, hA, hlt, hc⟩
  · exact .inl rfl
  · refine .inr ⟨b, off, hA, by omega, fun i r hr => ?_⟩
    obtain ⟨A', c', h1, h2⟩ := hc i r hr
    exact ⟨A', c', h1, h2.mono hB⟩
theorem Ll.to {w w' : World} {B : Nat} {A : Option Addr} {l : List (List Int)} (h : Ll w B A l) (hb : Below B w w') (hB : B ≤ w'.heap.size) : Ll w' w'.heap.size A l := (h.below hb).mono hB

end Go.Proofs.YtgpciipemgljcaaGreat.Gp
