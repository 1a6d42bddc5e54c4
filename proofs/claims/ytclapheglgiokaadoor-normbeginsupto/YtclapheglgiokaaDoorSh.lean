/-
  The library's writers of bytes, at this seat's numbers: each field is a fact of the program's own or the kernel's comparison.
-/
import Derived.Shelf.Bytes.WriteStringAt
import Derived.Shelf.Bytes.WriteAt
import Derived.Test.YtclapheglgiokaaDoorProg
namespace Go.Proofs.YtclapheglgiokaaDoor
set_option linter.unusedVariables false
open Go.Shelf
def lays178_ren : Go.Shelf.Ren := ⟨fun | 178 => 59 | 251 => 65 | 252 => 66 | 181 => 79 | 184 => 80 | 290 => 81 | 324 => 92 | n => n, fun | 130 => 105 | 9 => 9 | 3 => 3 | 75 => 92 | 0 => 0 | 93 => 75 | 91 => 73 | 131 => 109 | 4 => 4 | 37 => 28 | 20 => 20 | 80 => 127 | 5 => 5 | n => n, fun | 14 => 1 | n => n⟩
theorem lays178 : Go.Proofs.LaysM.n178 Tryd.prog lays178_ren := {
  mixed := by kernel_rfl
  f178 := Tryd.func59.trans (congrArg some (by kernel_rfl))
  f181 := Tryd.func79.trans (congrArg some (by kernel_rfl))
  f184 := Tryd.func80.trans (congrArg some (by kernel_rfl))
  f251 := Tryd.func65.trans (congrArg some (by kernel_rfl))
  f252 := Tryd.func66.trans (congrArg some (by kernel_rfl))
  f290 := Tryd.func81.trans (congrArg some (by kernel_rfl))
  f324 := Tryd.func92.trans (congrArg some (by kernel_rfl))
  t0 := Tryd.underlying0
  a0 := Tryd.isAgg0
  z0 := Tryd.sizeOf0
  v0 := Tryd.zeroValue0
  t3 := Tryd.underlying3
  a3 := Tryd.isAgg3
  z3 := Tryd.sizeOf3
  v3 := Tryd.zeroValue3
  t4 := Tryd.underlying4
  a4 := Tryd.isAgg4
  z4 := Tryd.sizeOf4
  v4 := Tryd.zeroValue4
  t9 := Tryd.underlying9
  a9 := Tryd.isAgg9
  z9 := Tryd.sizeOf9
  v9 := Tryd.zeroValue9
  t20 := Tryd.underlying20
  a20 := Tryd.isAgg20
  z20 := Tryd.sizeOf20
  v20 := Tryd.zeroValue20
  t37 := Tryd.underlying28
  a37 := Tryd.isAgg28
  z37 := Tryd.sizeOf28
  v37 := Tryd.zeroValue28
  t75 := Tryd.underlying92
  a75 := Tryd.isAgg92
  z75 := Tryd.sizeOf92
  v75 := Tryd.zeroValue92
  t91 := Tryd.underlying73
  a91 := Tryd.isAgg73
  z91 := Tryd.sizeOf73
  v91 := Tryd.zeroValue73
  t93 := Tryd.underlying75
  a93 := Tryd.isAgg75
  z93 := Tryd.sizeOf75
  v93 := Tryd.zeroValue75
  t130 := Tryd.underlying105
  a130 := Tryd.isAgg105
  z130 := Tryd.sizeOf105
  v130 := Tryd.zeroValue105
  t131 := Tryd.underlying109
  a131 := Tryd.isAgg109
  z131 := Tryd.sizeOf109
  v131 := Tryd.zeroValue109
  g14 := by kernel_rfl
  t5 := Tryd.underlying5
  a5 := Tryd.isAgg5
  z5 := Tryd.sizeOf5
  v5 := Tryd.zeroValue5
  t80 := Tryd.underlying127
  a80 := Tryd.isAgg127
  z80 := Tryd.sizeOf127
  v80 := Tryd.zeroValue127
  i0 := by kernel_rfl
  i3 := by kernel_rfl
  i4 := by kernel_rfl
  i5 := by kernel_rfl
  i9 := by kernel_rfl
  i20 := by kernel_rfl
  i37 := by kernel_rfl
  i75 := by kernel_rfl
  i80 := by kernel_rfl
  i91 := by kernel_rfl
  i93 := by kernel_rfl
  i130 := by kernel_rfl
  i131 := by kernel_rfl
  m14 := by kernel_rfl }
def lays180_ren : Go.Shelf.Ren := ⟨fun | 180 => 48 | 251 => 65 | 252 => 66 | 181 => 79 | 184 => 80 | 290 => 81 | 324 => 92 | n => n, fun | 130 => 105 | 37 => 28 | 3 => 3 | 75 => 92 | 0 => 0 | 93 => 75 | 91 => 73 | 131 => 109 | 4 => 4 | 20 => 20 | 5 => 5 | 80 => 127 | 9 => 9 | n => n, fun | 14 => 1 | n => n⟩
theorem lays180 : Go.Proofs.LaysM.n180 Tryd.prog lays180_ren := {
  mixed := by kernel_rfl
  f180 := Tryd.func48.trans (congrArg some (by kernel_rfl))
  f181 := Tryd.func79.trans (congrArg some (by kernel_rfl))
  f184 := Tryd.func80.trans (congrArg some (by kernel_rfl))
  f251 := Tryd.func65.trans (congrArg some (by kernel_rfl))
  f252 := Tryd.func66.trans (congrArg some (by kernel_rfl))
  f290 := Tryd.func81.trans (congrArg some (by kernel_rfl))
  f324 := Tryd.func92.trans (congrArg some (by kernel_rfl))
  t0 := Tryd.underlying0
  a0 := Tryd.isAgg0
  z0 := Tryd.sizeOf0
  v0 := Tryd.zeroValue0
  t3 := Tryd.underlying3
  a3 := Tryd.isAgg3
  z3 := Tryd.sizeOf3
  v3 := Tryd.zeroValue3
  t4 := Tryd.underlying4
  a4 := Tryd.isAgg4
  z4 := Tryd.sizeOf4
  v4 := Tryd.zeroValue4
  t20 := Tryd.underlying20
  a20 := Tryd.isAgg20
  z20 := Tryd.sizeOf20
  v20 := Tryd.zeroValue20
  t37 := Tryd.underlying28
  a37 := Tryd.isAgg28
  z37 := Tryd.sizeOf28
  v37 := Tryd.zeroValue28
  t75 := Tryd.underlying92
  a75 := Tryd.isAgg92
  z75 := Tryd.sizeOf92
  v75 := Tryd.zeroValue92
  t91 := Tryd.underlying73
  a91 := Tryd.isAgg73
  z91 := Tryd.sizeOf73
  v91 := Tryd.zeroValue73
  t93 := Tryd.underlying75
  a93 := Tryd.isAgg75
  z93 := Tryd.sizeOf75
  v93 := Tryd.zeroValue75
  t130 := Tryd.underlying105
  a130 := Tryd.isAgg105
  z130 := Tryd.sizeOf105
  v130 := Tryd.zeroValue105
  t131 := Tryd.underlying109
  a131 := Tryd.isAgg109
  z131 := Tryd.sizeOf109
  v131 := Tryd.zeroValue109
  g14 := by kernel_rfl
  t5 := Tryd.underlying5
  a5 := Tryd.isAgg5
  z5 := Tryd.sizeOf5
  v5 := Tryd.zeroValue5
  t9 := Tryd.underlying9
  a9 := Tryd.isAgg9
  z9 := Tryd.sizeOf9
  v9 := Tryd.zeroValue9
  t80 := Tryd.underlying127
  a80 := Tryd.isAgg127
  z80 := Tryd.sizeOf127
  v80 := Tryd.zeroValue127
  i0 := by kernel_rfl
  i3 := by kernel_rfl
  i4 := by kernel_rfl
  i5 := by kernel_rfl
  i9 := by kernel_rfl
  i20 := by kernel_rfl
  i37 := by kernel_rfl
  i75 := by kernel_rfl
  i80 := by kernel_rfl
  i91 := by kernel_rfl
  i93 := by kernel_rfl
  i130 := by kernel_rfl
  i131 := by kernel_rfl
  m14 := by kernel_rfl }

theorem wstr_any (B b : Nat) (bs : List Value) (s : ByteArray) (w : World) (h : LibA.IsBuffer 77 (fun _ => none) 5 B b 0 bs w) (hBw : B ≤ w.heap.size) (h1 : ∀ v ∈ bs, v.oneCell' = true) (hlim : bs.length + s.size ≤ 140737488355328) :
    Calls Tryd.prog 59 #[.pointer (some ⟨b, 0, none⟩), .string s] w fun e w' => e = .returned (.tuple #[.int .i64 s.size, .nilIface]) ∧ LibA.IsBuffer 77 (fun _ => none) 5 B b 0 (bs ++ Lib.byteCells s.data.toList) w' ∧ RowKit.Below B w w' ∧ Lib.OthersKept 5 (some b) w w' :=
  Any.Buffer_WriteString_at lays178 77 (fun _ => none) B b 0 bs s w h hBw h1 hlim
theorem wbytes_any (B b : Nat) (bs cs : List Value) (a : Addr) (n c : Nat) (w : World) (h : LibA.IsBuffer 77 (fun _ => none) 5 B b 0 bs w) (hBw : B ≤ w.heap.size) (h1 : ∀ v ∈ bs, v.oneCell' = true)
    (hn : cs.length = n) (hab : a.block ≠ b) (hsrc : ∀ j v, cs[j]? = some v → w.cell? (a.add j) = some v) (h1c : ∀ v ∈ cs, v.oneCell' = true) (hlim : bs.length + n ≤ 140737488355328) :
    Calls Tryd.prog 48 #[.pointer (some ⟨b, 0, none⟩), .slice (some a) n c] w fun e w' => e = .returned (.tuple #[.int .i64 n, .nilIface]) ∧ LibA.IsBuffer 77 (fun _ => none) 5 B b 0 (bs ++ cs) w' ∧ RowKit.Below B w w' ∧ Lib.OthersKept 5 (some b) w w' :=
  Any.Buffer_Write_at lays180 77 (fun _ => none) B b 0 bs cs a n c w h hBw h1 hn hab hsrc h1c hlim
end Go.Proofs.YtclapheglgiokaaDoor
