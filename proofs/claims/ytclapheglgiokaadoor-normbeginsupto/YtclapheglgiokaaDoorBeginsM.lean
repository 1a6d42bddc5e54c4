/-
  Whatever fields of bulk at most 1048576 there are, with whatever number: where they say a request whose head Head writes, and the number is at least 1 and below the head's length, the grammar reads that many bytes of it as a beginning: no request, no fault, all of it left; the fields stay as they were; the tables of the library that the row lists lie as the text lays them.
-/
import Derived.Test.YtclapheglgiokaaDoorRows
import Derived.Test.YtclapheglgiokaaDoorWrG
import Derived.Lib.Join
import Derived.Lib.ItoaNum
import Derived.Test.YtclapheglgiokaaDoorDoE
import Derived.Shelf.Strings.OnBuilder
import Derived.Shelf.LaysM
import Derived.Shelf.Strconv.Itoa3
import Derived.Test.YtclapheglgiokaaDoorProg
import Derived.Test.YtclapheglgiokaaDoorWrC
import Derived.Lib.AppendIntMem
import Derived.Lib.MinMax
import Derived.Deep.Cut
import Derived.Test.YtclapheglgiokaaDoorWrJ
import Derived.Test.YtclapheglgiokaaDoorWrH
import Derived.Test.YtclapheglgiokaaDoorBase
import Derived.OrdersHeld
import Derived.Test.YtclapheglgiokaaDoorDoI
import Derived.Test.YtclapheglgiokaaDoorDoD
import Derived.Test.YtclapheglgiokaaDoorSmF
import Derived.Deep.RegionHeld
import Derived.Test.YtclapheglgiokaaDoorWrI
import Derived.Test.YtclapheglgiokaaDoorOpu
import Derived.Test.YtclapheglgiokaaDoorDoB
import Derived.Deep.RegionLaw
import Derived.BigQuiet
import Derived.JoinedCond
import Derived.LaidLaws
import Derived.Test.YtclapheglgiokaaDoorWrE
import Derived.Lib.LaidTab
import Derived.Stop.LaidErr
import Derived.MakeChecks
import Derived.Test.YtclapheglgiokaaDoorCards
import Derived.Test.YtclapheglgiokaaDoorTie
import Derived.WalkKit
import Derived.ProofKit
import Derived.OpenShut
import Derived.ShutString
import Derived.ChangeOld
import Derived.Below
import Derived.SizedLaws
import Derived.LaidMore
import Derived.Lay
import Derived.SevenTiedAt
import Derived.Stop.Joined

/-
  The head of a request, and decimal digits, as plain functions on lists.
-/
namespace Go.Proofs.YtclapheglgiokaaDoor
open Go.RowKit
set_option linter.unusedVariables false

def kExp : ByteArray := ⟨#[101, 120, 112, 101, 99, 116]⟩
def kCoo : ByteArray := ⟨#[99, 111, 111, 107, 105, 101]⟩
def sSem : ByteArray := ⟨#[59, 32]⟩
def sChk : ByteArray := ⟨#[99, 104, 117, 110, 107, 101, 100]⟩
/-- The cookies' values; joined. -/
def ckL (l : List Fd) : List ByteArray := (l.filter fun f => eqS f.1 kCoo).map (·.2)
theorem ckL_snoc (l : List Fd) (p : Fd) : ckL (l ++ [p]) = if eqS p.1 kCoo then ckL l ++ [p.2] else ckL l := by
  unfold ckL
  rw [List.filter_append]
  cases h : eqS p.1 kCoo <;> simp [h]
theorem ckL_len (l : List Fd) : (ckL l).length ≤ l.length := by
  unfold ckL
  rw [List.length_map]
  exact List.length_filter_le _ _
def joinC (c : List ByteArray) : List UInt8 := Lib.join (c.map (·.data.toList)) [59, 32]
theorem joinC_nil : joinC [] = [] := rfl
theorem joinC_snoc (c : List ByteArray) (v : ByteArray) : joinC (c ++ [v]) = if c = [] then v.data.toList else joinC c ++ [59, 32] ++ v.data.toList := by
  unfold joinC
  cases c with
  | nil => simp [Lib.join_one]
  | cons x r =>
    rw [if_neg (by simp), List.cons_append, List.map_cons, Lib.join_cons, List.map_cons, Lib.join_cons, List.map_append]
    simp [Lib.joinTail, List.append_assoc]
theorem joinC_len (c : List ByteArray) : (joinC c).length ≤ lenB c + 2 * c.length := by
  unfold joinC
  cases c with
  | nil => simp [Lib.join_nil]
  | cons x r =>
    rw [List.map_cons, Lib.join_cons, List.length_append, Lib.joinTail_length]
    have e : lenB (x :: r) = x.size + lenB r := by simp [lenB]
    have e2 : Lib.lens (r.map (·.data.toList)) = lenB r := by
      unfold Lib.lens lenB
      rw [List.map_map]
      rfl
    have e3 : x.data.toList.length = x.size := rfl
    rw [e, e2, e3, List.length_map]
    simp
    omega
theorem ckL_size (l : List Fd) : lenB (ckL l) ≤ totF l := by
  induction l with
  | nil => exact Nat.le_refl _
  | cons p r ih =>
    have e : totF (p :: r) = (p.1.size + p.2.size) + totF r := by simp [totF]
    have e2 : ckL (p :: r) = if eqS p.1 kCoo then p.2 :: ckL r else ckL r := by
      unfold ckL
      cases h : eqS p.1 kCoo <;> simp [h]
    rw [e, e2]
    cases h : eqS p.1 kCoo with
    | true =>
      rw [if_pos rfl]
      have e3 : lenB (p.2 :: ckL r) = p.2.size + lenB (ckL r) := by simp [lenB]
      rw [e3]; omega
    | false =>
      rw [if_neg (by decide)]; omega
def ckJ (l : List Fd) : ByteArray := ⟨(joinC (ckL l)).toArray⟩
theorem ckJ_size (l : List Fd) : (ckJ l).size ≤ totF l + 4 * l.length := by
  have h1 := joinC_len (ckL l)
  have h2 := ckL_size l
  have h3 := ckL_len l
  have e : (ckJ l).size = (joinC (ckL l)).length := rfl
  rw [e]; omega
/-- A field that is not told. -/
def goneS (f : Fd) : Bool := eqS f.1 kLen || eqS f.1 kTe || eqS f.1 kExp
/-- One field on: whether the cookies have been told; the bytes. -/
def hdN (J : ByteArray) (st : Bool × List UInt8) (f : Fd) : Bool × List UInt8 :=
  if goneS f then st else if eqS f.1 kCoo then (if st.1 then st else (true, st.2 ++ fldB f.1 J)) else (st.1, st.2 ++ fldB f.1 f.2)
def hdS (J : ByteArray) (l : List Fd) : Bool × List UInt8 := l.foldl (hdN J) (false, [])
theorem hdS_snoc {l : List Fd} {k : Nat} {p : Fd} (J : ByteArray) (h : l[k]? = some p) : hdS J (l.take (k + 1)) = hdN J (hdS J (l.take k)) p := by
  unfold hdS
  rw [take_snoc h, List.foldl_append]
  rfl
def hdB (l : List Fd) : List UInt8 := (hdS (ckJ l) l).2
theorem hdS_len (J : ByteArray) (l : List Fd) (k : Nat) (hk : k ≤ l.length) : (hdS J (l.take k)).2.length ≤ (fdsB (l.take k)).length + (if (hdS J (l.take k)).1 then J.size else 0) := by
  induction k with
  | zero => simp [hdS, fdsB]
  | succ k ih =>
    have hk' : k < l.length := by omega
    have hp : l[k]? = some l[k] := List.getElem?_eq_getElem hk'
    generalize l[k] = p at hp
    have ih := ih (by omega)
    rw [hdS_snoc J hp, fdsB_snoc hp, List.length_append]
    generalize hdS J (l.take k) = st at *
    obtain ⟨b, B⟩ := st
    have hf := fldB_len p.1 p.2
    have hj := fldB_len p.1 J
    unfold hdN
    by_cases h1 : goneS p = true
    · rw [if_pos h1]; dsimp only at ih ⊢; omega
    · rw [if_neg h1]
      by_cases h2 : eqS p.1 kCoo = true
      · rw [if_pos h2]
        cases b with
        | true => rw [if_pos rfl]; dsimp only at ih ⊢; omega
        | false =>
          dsimp only at ih ⊢
          simp only [Bool.false_eq_true, if_false, if_true, List.length_append, hj] at ih ⊢
          omega
      · rw [if_neg h2]
        dsimp only at ih ⊢
        rw [List.length_append, hf]
        omega
theorem hdS_bound (l : List Fd) (k : Nat) (hk : k ≤ l.length) (hb : totF l + 4 * l.length ≤ 17592186044416) : (hdS (ckJ l) (l.take k)).2.length ≤ 35184372088832 := by
  have h1 := hdS_len (ckJ l) l k hk
  have h2 := fdsB_take l k
  have h4 := fdsB_len l
  have h3 := ckJ_size l
  by_cases h : (hdS (ckJ l) (l.take k)).1 = true
  · rw [if_pos h] at h1; omega
  · rw [if_neg h] at h1; omega
/-- The line that says how the body is framed. -/
def frmB (m : ByteArray) (n : Int) (b : Bool) : List UInt8 := if frm m n b = 1 then fldB kLen ⟨(Lib.decDigits n.toNat).toArray⟩ else if frm m n b = 2 then fldB kTra sChk else []
/-- The head. -/
def headB (m p a : ByteArray) (l : List Fd) (n : Int) (b : Bool) : List UInt8 := topB m p a ++ hdB l ++ frmB m n b ++ endB
end Go.Proofs.YtclapheglgiokaaDoor

/-
  The values of all fields of a name: a contract that the statements' walks use.
-/
namespace Go.Proofs.YtclapheglgiokaaDoor
open Go.RowKit
set_option linter.unusedVariables false
set_option maxRecDepth 20000

def RowS (w : World) (x : Sv) (c : List ByteArray) : Prop := Sub w 9 1 x.a x.n x.c (c.map Value.string)
theorem info9s : (Tryd.prog.info? 9).map (fun i => (i.zero, i.size, i.bytes)) = some (some (.string ⟨#[]⟩), 1, 16) := by kernel_rfl
theorem RowS.q {w w' : World} {x : Sv} {l : List ByteArray} (h : RowS w x l) (k : Q w w') : RowS w' x l := Sub.q' h k
theorem RowS.len {w : World} {x : Sv} {l : List ByteArray} (h : RowS w x l) : l.length = x.n := by
  have := Sub.len h
  rw [List.length_map] at this
  omega
theorem rowS_one {w : World} {d : Sv} {l : List ByteArray} (s : ByteArray) (h : RowS w d l) (hn : d.n ≤ 4398046511104) :
    ∃ d' w', (Builtin.append_ #[95, 95] 95 #[.slice d.a d.n d.c, .slice (some ⟨w.heap.size, 0, none⟩) 1 1]).run Tryd.prog (w.alloc (.cells #[.string s] 9)) = .ok (.slice d'.a d'.n d'.c) w' ∧ RowS w' d' (l ++ [s]) ∧ Keep (fun b => blk d.a = some b) w w' ∧ (∀ b, blk d'.a = some b → blk d.a = some b ∨ w.heap.size ≤ b) := by
  obtain ⟨i0, hi, hz0, hz1, hz2⟩ := info_parts info9s
  obtain ⟨a', c', w', h1, h2, h3, h4⟩ := app_st (cs := #[.string s]) Tryd.underlying95 hi hz0 hz1 hz2 (by omega) rfl rfl (by intro v hv; simp at hv; subst hv; rfl) h hn
  exact ⟨⟨a', d.n + 1, c'⟩, w', h1, by show Sub _ _ _ _ _ _ (List.map _ _); rw [List.map_append]; exact h2, h3, h4⟩
/-- The values of the fields of a name. -/
def vlL (n : ByteArray) (l : List Fd) : List ByteArray := (l.filter fun f => eqS f.1 n).map (·.2)
theorem vlL_snoc (n : ByteArray) (l : List Fd) (p : Fd) : vlL n (l ++ [p]) = if eqS p.1 n then vlL n l ++ [p.2] else vlL n l := by
  unfold vlL
  rw [List.filter_append]
  cases h : eqS p.1 n <;> simp [h]
theorem vlL_len (n : ByteArray) (l : List Fd) : (vlL n l).length ≤ l.length := by
  unfold vlL
  rw [List.length_map]
  exact List.length_filter_le _ _
set_option maxHeartbeats 4000000 in
theorem vals_any (x : Sv) (n : ByteArray) (l : List Fd) (w : World) (h : Fin w x l) : Calls Tryd.prog 60 #[.slice x.a x.n x.c, .string n] w fun e w' => ∃ y : Sv, e = .returned (.slice y.a y.n y.c) ∧ Q w w' ∧ RowS w' y (vlL n l) ∧ New w.heap.size y := by
  obtain ⟨xa, xn, xc⟩ := x
  have hl := h.len
  dsimp only at hl
  subst hl
  have HX := hid h
  clear h
  go_enter Tryd.func60, Tryd.ntmps60
  go_wp2_with fail
  go_loopw [5, 10] (fun r i wr => ∃ (k : Nat) (y : Sv), k ≤ l.length ∧ i = .int .i64 (k : Int) ∧ r = .slice y.a y.n y.c ∧ Q w wr ∧ RowS wr y (vlL n (l.take k)) ∧ New w.heap.size y) (fun _ i _ => l.length - (intOf i).toNat)
  case atStart => exact ⟨0, ⟨none, 0, 0⟩, by omega, rfl, rfl, Q.refl w, sub_nil _ _ _, (fun b e => by cases e)⟩
  case round =>
    obtain ⟨k, ⟨ya, yn, yc⟩, hk, rfl, rfl, hq, hr, hn⟩ := hrel
    have HQ := hid hq
    by_cases hlt : k < l.length
    · obtain ⟨g, off, ⟨p1, p2⟩, ha, hp, c0, c1⟩ := (HX.out.q hq).s.at hlt
      dsimp only at ha
      subst ha
      dsimp only at c0 c1
      have hki : (k : Int) < (l.length : Int) := by omega
      have hk0 : (0 : Int) ≤ (k : Int) := by omega
      have hkb : (k : Int) < 8796093022208 := by have := HX.out.b; omega
      have hh := beq_eqS p1 n
      have HS := hid (vlL_snoc n (l.take k) (p1, p2))
      rw [← take_snoc hp] at HS
      have hyn : yn ≤ 4398046511104 := by
        have h1 := hr.len
        have h2 := vlL_len n (l.take k)
        have h3 : (l.take k).length ≤ l.length := by rw [List.length_take]; omega
        have h4 := HX.out.b
        dsimp only at h1
        omega
      have HA := hid (hq.alloc (.cells #[.string p1, .string p2] 57))
      have HRA := hid (hr.q ((Q.refl wr).alloc (.cells #[.string p1, .string p2] 57)))
      obtain ⟨⟨za, zn, zc⟩, w5, hrun, hrow, hkp, hbb⟩ := rowS_one (w := wr.alloc (.cells #[.string p1, .string p2] 57)) p2 HRA.out hyn
      dsimp only at hrun
      rw [World.size_alloc] at hrun
      have X5 := hid (new_step' rfl HA.out hn hkp hbb)
      have R5 := hid hrow
      have HN := hid hn
      clear hrow hkp hbb hq hr hn hp hyn
      dsimp only at HS
      cases hb : eqS p1 n with
      | true =>
        rw [hb] at hh HS
        clear hb
        go_wp2_with (at_builtin; refine Lib.wpList_append_run _ rfl _ _ _ _ rfl _ _ rfl rfl _ _ hrun ?_)
        go_roundw
        case rel => exact ⟨k + 1, ⟨za, zn, zc⟩, by omega, by go_num, rfl, X5.out.1, by rw [HS.out]; exact R5.out, X5.out.2⟩
        case measure => simp [intOf]; omega
      | false =>
        rw [hb] at hh HS
        clear hb hrun X5 R5
        go_wp2_with fail
        go_roundw
        case rel => exact ⟨k + 1, ⟨ya, yn, yc⟩, by omega, by go_num, rfl, HA.out, by rw [HS.out]; exact HRA.out, HN.out⟩
        case measure => simp [intOf]; omega
    · have hki : ¬ (k : Int) < (l.length : Int) := by omega
      have HR := hid (show RowS wr ⟨ya, yn, yc⟩ (vlL n l) from by rw [List.take_of_length_le (by omega)] at hr; exact hr)
      have HN := hid hn
      clear hq hr hn
      go_wp2
      go_ret
      exact ⟨⟨ya, yn, yc⟩, rfl, HQ.out, HR.out, HN.out⟩
end Go.Proofs.YtclapheglgiokaaDoor

/-
  The library's Join and Itoa, at this seat's numbers: each field is a fact of the program's own or the kernel's comparison.
-/
namespace Go.Proofs.YtclapheglgiokaaDoor
set_option linter.unusedVariables false
open Go.Shelf
def lays156_ren : Go.Shelf.Ren := ⟨fun | 156 => 61 | 165 => 75 | 166 => 76 | 169 => 77 | 240 => 86 | 241 => 87 | 276 => 96 | 277 => 97 | n => n, fun | 31 => 95 | 9 => 9 | 3 => 3 | 4 => 4 | 0 => 0 | 20 => 20 | 72 => 125 | 76 => 93 | 70 => 123 | 37 => 28 | 75 => 92 | 127 => 135 | 164 => 144 | 5 => 5 | 80 => 127 | n => n, fun | n => n⟩
theorem lays156 : Go.Proofs.Lays.n156 Tryd.prog lays156_ren := {
  mixed := by kernel_rfl
  f156 := Tryd.func61.trans (congrArg some (by kernel_rfl))
  f165 := Tryd.func75.trans (congrArg some (by kernel_rfl))
  f166 := Tryd.func76.trans (congrArg some (by kernel_rfl))
  f169 := Tryd.func77.trans (congrArg some (by kernel_rfl))
  f240 := Tryd.func86.trans (congrArg some (by kernel_rfl))
  f241 := Tryd.func87.trans (congrArg some (by kernel_rfl))
  f276 := Tryd.func96.trans (congrArg some (by kernel_rfl))
  f277 := Tryd.func97.trans (congrArg some (by kernel_rfl))
  t0 := Tryd.underlying0
  a0 := Tryd.isAgg0
  z0 := Tryd.sizeOf0
  v0 := Tryd.zeroValue0
  t3 := Tryd.underlying3
  a3 := Tryd.isAgg3
  z3 := Tryd.sizeOf3
  v3 := Tryd.zeroValue3
  t4 := Tryd.underlying4
  a4 := Tryd.isAgg4
  z4 := Tryd.sizeOf4
  v4 := Tryd.zeroValue4
  t9 := Tryd.underlying9
  a9 := Tryd.isAgg9
  z9 := Tryd.sizeOf9
  v9 := Tryd.zeroValue9
  t20 := Tryd.underlying20
  a20 := Tryd.isAgg20
  z20 := Tryd.sizeOf20
  v20 := Tryd.zeroValue20
  t31 := Tryd.underlying95
  a31 := Tryd.isAgg95
  z31 := Tryd.sizeOf95
  v31 := Tryd.zeroValue95
  t37 := Tryd.underlying28
  a37 := Tryd.isAgg28
  z37 := Tryd.sizeOf28
  v37 := Tryd.zeroValue28
  t70 := Tryd.underlying123
  a70 := Tryd.isAgg123
  z70 := Tryd.sizeOf123
  v70 := Tryd.zeroValue123
  t72 := Tryd.underlying125
  a72 := Tryd.isAgg125
  z72 := Tryd.sizeOf125
  v72 := Tryd.zeroValue125
  t75 := Tryd.underlying92
  a75 := Tryd.isAgg92
  z75 := Tryd.sizeOf92
  v75 := Tryd.zeroValue92
  t76 := Tryd.underlying93
  a76 := Tryd.isAgg93
  z76 := Tryd.sizeOf93
  v76 := Tryd.zeroValue93
  t127 := Tryd.underlying135
  a127 := Tryd.isAgg135
  z127 := Tryd.sizeOf135
  v127 := Tryd.zeroValue135
  t164 := Tryd.underlying144
  a164 := Tryd.isAgg144
  z164 := Tryd.sizeOf144
  v164 := Tryd.zeroValue144 }
theorem Builder_Extra_156 : Builder.Extra Tryd.prog lays156_ren := {
  sizeBuilder := by kernel_rfl
  liesBuilder := by kernel_rfl
  t5 := Tryd.underlying5
  a5 := Tryd.isAgg5
  z5 := Tryd.sizeOf5
  v5 := Tryd.zeroValue5
  infoByte := by kernel_rfl
  cellsByte := by kernel_rfl
  sizeByte := by kernel_rfl
  neB5 := by decide }
open Go.RowKit in
theorem sh_strings_Join_none (a : Option Addr) (c : Nat) (sep : ByteArray) (w : World) :
    Calls Tryd.prog 61 #[.slice a 0 c, .string sep] w fun e w' => e = .returned (.string ⟨#[]⟩) ∧ w' = w := Any.strings_Join_none lays156 Builder_Extra_156 a c sep w
open Go.RowKit in
theorem sh_strings_Join (bk o c : Nat) (xs : List ByteArray) (sep : ByteArray) (w : World) (hcells : ∀ (j : Nat) x, xs[j]? = some x → w.cell? ⟨bk, o + j, none⟩ = some (.string x)) (hbk : bk < w.heap.size) (hN : xs.length ≤ 140737488355328) (hcap : xs.length ≤ c) (hlen : (Lib.join (xs.map (·.data.toList)) sep.data.toList).length ≤ 140737488355328) :
    Calls Tryd.prog 61 #[.slice (some ⟨bk, o, none⟩) xs.length c, .string sep] w fun e w' => e = .returned (.string ⟨(Lib.join (xs.map (·.data.toList)) sep.data.toList).toArray⟩) ∧ Below w.heap.size w w' := Any.strings_Join lays156 Builder_Extra_156 bk o c xs sep w hcells hbk hN hcap hlen
def laysM171_ren : Go.Shelf.Ren := ⟨fun | 171 => 67 | 243 => 82 | 246 => 78 | 283 => 88 | 284 => 89 | 285 => 90 | 286 => 91 | 129 => 99 | 317 => 98 | 318 => 100 | 319 => 101 | 320 => 102 | 337 => 111 | 338 => 112 | n => n, fun | 3 => 3 | 9 => 9 | 2 => 2 | 4 => 4 | 171 => 136 | 0 => 0 | 53 => 137 | 37 => 28 | 5 => 5 | 173 => 140 | 212 => 148 | 51 => 149 | 20 => 20 | 213 => 150 | 46 => 152 | 232 => 167 | 233 => 168 | n => n, fun | 17 => 2 | 18 => 4 | 19 => 5 | n => n⟩
theorem laysM171 : Go.Proofs.LaysM.n171 Tryd.prog laysM171_ren := {
  mixed := by kernel_rfl
  f129 := Tryd.func99.trans (congrArg some (by kernel_rfl))
  f171 := Tryd.func67.trans (congrArg some (by kernel_rfl))
  f243 := Tryd.func82.trans (congrArg some (by kernel_rfl))
  f246 := Tryd.func78.trans (congrArg some (by kernel_rfl))
  f283 := Tryd.func88.trans (congrArg some (by kernel_rfl))
  f284 := Tryd.func89.trans (congrArg some (by kernel_rfl))
  f285 := Tryd.func90.trans (congrArg some (by kernel_rfl))
  f286 := Tryd.func91.trans (congrArg some (by kernel_rfl))
  f317 := Tryd.func98.trans (congrArg some (by kernel_rfl))
  f318 := Tryd.func100.trans (congrArg some (by kernel_rfl))
  f319 := Tryd.func101.trans (congrArg some (by kernel_rfl))
  f320 := Tryd.func102.trans (congrArg some (by kernel_rfl))
  f337 := Tryd.func111.trans (congrArg some (by kernel_rfl))
  f338 := Tryd.func112.trans (congrArg some (by kernel_rfl))
  t0 := Tryd.underlying0
  a0 := Tryd.isAgg0
  z0 := Tryd.sizeOf0
  v0 := Tryd.zeroValue0
  t2 := Tryd.underlying2
  a2 := Tryd.isAgg2
  z2 := Tryd.sizeOf2
  v2 := Tryd.zeroValue2
  t3 := Tryd.underlying3
  a3 := Tryd.isAgg3
  z3 := Tryd.sizeOf3
  v3 := Tryd.zeroValue3
  t4 := Tryd.underlying4
  a4 := Tryd.isAgg4
  z4 := Tryd.sizeOf4
  v4 := Tryd.zeroValue4
  t5 := Tryd.underlying5
  a5 := Tryd.isAgg5
  z5 := Tryd.sizeOf5
  v5 := Tryd.zeroValue5
  t9 := Tryd.underlying9
  a9 := Tryd.isAgg9
  z9 := Tryd.sizeOf9
  v9 := Tryd.zeroValue9
  t20 := Tryd.underlying20
  a20 := Tryd.isAgg20
  z20 := Tryd.sizeOf20
  v20 := Tryd.zeroValue20
  t37 := Tryd.underlying28
  a37 := Tryd.isAgg28
  z37 := Tryd.sizeOf28
  v37 := Tryd.zeroValue28
  t46 := Tryd.underlying152
  a46 := Tryd.isAgg152
  z46 := Tryd.sizeOf152
  v46 := Tryd.zeroValue152
  t51 := Tryd.underlying149
  a51 := Tryd.isAgg149
  z51 := Tryd.sizeOf149
  v51 := Tryd.zeroValue149
  t53 := Tryd.underlying137
  a53 := Tryd.isAgg137
  z53 := Tryd.sizeOf137
  v53 := Tryd.zeroValue137
  t171 := Tryd.underlying136
  a171 := Tryd.isAgg136
  z171 := Tryd.sizeOf136
  v171 := Tryd.zeroValue136
  t173 := Tryd.underlying140
  a173 := Tryd.isAgg140
  z173 := Tryd.sizeOf140
  v173 := Tryd.zeroValue140
  t212 := Tryd.underlying148
  a212 := Tryd.isAgg148
  z212 := Tryd.sizeOf148
  v212 := Tryd.zeroValue148
  t213 := Tryd.underlying150
  a213 := Tryd.isAgg150
  z213 := Tryd.sizeOf150
  t232 := Tryd.underlying167
  a232 := Tryd.isAgg167
  z232 := Tryd.sizeOf167
  v232 := Tryd.zeroValue167
  t233 := Tryd.underlying168
  a233 := Tryd.isAgg168
  z233 := Tryd.sizeOf168
  v233 := Tryd.zeroValue168
  g17 := by kernel_rfl
  g18 := by kernel_rfl
  g19 := by kernel_rfl
  i0 := by kernel_rfl
  i2 := by kernel_rfl
  i3 := by kernel_rfl
  i4 := by kernel_rfl
  i5 := by kernel_rfl
  i9 := by kernel_rfl
  i20 := by kernel_rfl
  i37 := by kernel_rfl
  i46 := by kernel_rfl
  i51 := by kernel_rfl
  i53 := by kernel_rfl
  i171 := by kernel_rfl
  i173 := by kernel_rfl
  i212 := by kernel_rfl
  i232 := by kernel_rfl
  i233 := by kernel_rfl
  m17 := by kernel_rfl
  m18 := by kernel_rfl
  m19 := by kernel_rfl }
open Go.RowKit Go.Sort Go.Lib in
theorem sh_strconv_Itoa (n : Int) (h0 : -9223372036854775808 ≤ n) (h1 : n ≤ 9223372036854775807) (w : World) (htab : Lib.TabIs Tryd.prog w "internal/strconv.uint64pow10" .u64 Lib.pow10Tab) :
    Calls Tryd.prog 67 #[.int .i64 n] w fun e w' => e = .returned (.string ⟨(Lib.itoa n).toArray⟩) ∧ ∃ k os, w' = grow (w.drewN k) os := Any.strconv_Itoa laysM171 n h0 h1 w htab


end Go.Proofs.YtclapheglgiokaaDoor

/-
  What the writer writes of a request's fields, and of how its body is framed: contracts that the statements' walks use.
-/
namespace Go.Proofs.YtclapheglgiokaaDoor
open Go.RowKit
set_option linter.unusedVariables false
set_option maxRecDepth 20000

/-- The library's table of powers of ten lies as its text lays it. -/
def Tp (w : World) : Prop := Lib.TabIs Tryd.prog w "internal/strconv.uint64pow10" .u64 Lib.pow10Tab
theorem Tp.q {w w' : World} (h : Tp w) (q : Q w w') : Tp w' := Lib.tabBelow_of_tabIs h w' q
theorem RowS.cap {w : World} {y : Sv} {c : List ByteArray} (h : RowS w y c) : c.length ≤ y.c := by
  have hl := h.len
  rcases h.2 with ⟨_, h2, _⟩ | ⟨g, off, cur, _, _, h1, _⟩
  · omega
  · omega
theorem RowS.get {w : World} {y : Sv} {c : List ByteArray} (h : RowS w y c) (hne : c ≠ []) : ∃ g off, y.a = some ⟨g, off, none⟩ ∧ g < w.heap.size ∧ ∀ j s, c[j]? = some s → w.cell? ⟨g, off + j, none⟩ = some (.string s) := by
  have hl := h.len
  rcases h.2 with ⟨_, h2, _⟩ | ⟨g, off, cur, ha, hg, h1, h2, h3, h4⟩
  · exact absurd (List.eq_nil_of_length_eq_zero (by omega)) hne
  · refine ⟨g, off, ha, lt_of_block hg, fun j s hj => ?_⟩
    have hjl := (List.getElem?_eq_some_iff.1 hj).1
    rw [cell_of_row w g _ cur 9 (0, 0) hg, h4 j (by omega), List.getElem?_map, hj]
    rfl
theorem join_any (y : Sv) (c : List ByteArray) (w : World) (h : RowS w y c) (hn : c.length ≤ 4398046511104) (hs : (joinC c).length ≤ 140737488355328) : Calls Tryd.prog 61 #[.slice y.a y.n y.c, .string sSem] w fun e w' => e = .returned (.string ⟨(joinC c).toArray⟩) ∧ Q w w' := by
  have hl := h.len
  by_cases hne : c = []
  · subst hne
    have h0 : y.n = 0 := by simpa using hl.symm
    rw [h0]
    refine (sh_strings_Join_none y.a y.c sSem w).mono ?_
    rintro e w' ⟨rfl, rfl⟩
    exact ⟨rfl, Q.refl _⟩
  · obtain ⟨g, off, ha, hlt, hc⟩ := h.get hne
    rw [ha, ← hl]
    exact sh_strings_Join g off y.c c sSem w hc hlt (by omega) h.cap hs
theorem decimal_any (n : Int) (w : World) (h0 : 0 ≤ n) (h1 : n ≤ 9223372036854775807) (ht : Tp w) : Calls Tryd.prog 50 #[.int .i64 n] w fun e w' => e = .returned (.string ⟨(Lib.decDigits n.toNat).toArray⟩) ∧ Q w w' := by
  have HI := hid (sh_strconv_Itoa n (by omega) h1 w ht)
  have HE := hid (show Lib.itoa n = Lib.decDigits n.toNat from by unfold Lib.itoa; rw [if_neg (by omega)])
  clear ht h0 h1
  go_enter Tryd.func50, Tryd.ntmps50
  go_wp2_with (go_at_call 67; refine HI.out.mono ?_; rintro e w' ⟨rfl, k, os, rfl⟩)
  go_ret
  exact ⟨by rw [HE.out]; rfl, Lib.below_grow _ w (Nat.le_refl _) k os⟩
end Go.Proofs.YtclapheglgiokaaDoor

/-
  How the writer says how a body is framed: a contract that the statements' walks use.
-/
namespace Go.Proofs.YtclapheglgiokaaDoor
open Go.RowKit
set_option linter.unusedVariables false
set_option maxRecDepth 20000

theorem frm_one {m : ByteArray} {n : Int} {b : Bool} : frm m n b = 0 ∨ frm m n b = 1 ∨ frm m n b = 2 := by
  unfold frm
  split
  · exact .inr (.inl rfl)
  · split
    · exact .inr (.inr rfl)
    · split
      · exact .inr (.inl rfl)
      · exact .inl rfl
theorem nDigits_le (u : Nat) (h : u < 10000000000000000000) : (Lib.decDigits u).length ≤ 20 := by
  have key : ∀ k u : Nat, u < 10 ^ k → (Lib.decDigits u).length ≤ k + 1 := by
    intro k
    induction k with
    | zero =>
      intro u hu
      have hu0 : u = 0 := by simpa using hu
      subst hu0
      rw [Lib.decDigits, dif_pos (by decide)]
      simp
    | succ k ih =>
      intro u hu
      rw [Lib.decDigits]
      by_cases h : u < 10
      · rw [dif_pos h]; simp
      · rw [dif_neg h, List.length_append]
        have := ih (u / 10) (by rw [Nat.pow_succ] at hu; omega)
        simp; omega
  have := key 19 u (by simpa using h)
  omega
set_option maxHeartbeats 8000000 in
theorem wframing_any (B bw : Nat) (bs : List UInt8) (m s a p : ByteArray) (x : Sv) (n : Int) (b : Bool) (w : World) (h : WB B bw bs w) (hB : B ≤ w.heap.size) (hl : bs.length ≤ 70368744177664) (hn0 : -9223372036854775808 ≤ n) (hn : n ≤ 9223372036854775807) (ht : Tp w) :
    Calls Tryd.prog 36 #[.pointer (some ⟨bw, 0, none⟩), .agg (rqC m s a p x n), .bool b] w fun e w' => e = .returned (.tuple #[]) ∧ WB B bw (bs ++ frmB m n b) w' ∧ Below B w w' := by
  have HQ := hid ((Q.refl w).alloc (.cells (rqC m s a p x n) 24))
  have HB := hid (blk_new w (rqC m s a p x n) 24)
  have HL := hid (framing_any m s a p x n b)
  have HT := hid ht
  have HBB := hid hB
  have HLL := hid hl
  have HWB := hid (h.old ((Q.refl w).alloc (.cells (rqC m s a p x n) 24)))
  have HFB := hid (show frmB m n b = if frm m n b = 1 then fldB kLen ⟨(Lib.decDigits n.toNat).toArray⟩ else if frm m n b = 2 then fldB kTra sChk else [] from rfl)
  have h3 := frm_one (m := m) (n := n) (b := b)
  generalize frmB m n b = FB at *
  generalize frm m n b = f at *
  have HNN := hid (show 0 ≤ max n 0 ∧ max n 0 ≤ 9223372036854775807 ∧ (max n 0).toNat = n.toNat from by omega)
  clear h ht hB hl
  go_enter Tryd.func36, Tryd.ntmps36
  go_upto_region 1 with fail
  generalize hW : World.alloc w _ = W0 at *
  clear hW
  have HLT := hid HB.out.lt
  generalize hb0 : w.heap.size = b0 at HB HLT ⊢
  have HBE := hid hb0
  clear hb0
  go_wp2_with (refine wpList_load_row rfl 24 _ rfl b0 rfl 24 _ (0, 0) _ HB.out Tryd.underlying24 rfl (info24 m s a p x n) ?_)
  refine (HL.out _).mono ?_
  rintro e w1 ⟨rfl, q1⟩
  have Q1 := hid (HQ.out.trans q1)
  have WB1 := hid (HWB.out.old q1)
  have c5 : w1.cell? ⟨b0, 5, none⟩ = some (.int .i64 n) := (HB.out.q q1).cell 5
  clear q1 HB HQ HL HWB
  rcases h3 with rfl | rfl | rfl
  · have HE := hid (HFB.out.trans (by rw [if_neg (by decide), if_neg (by decide)]))
    clear HFB
    go_wp2
    go_end0
    exact ⟨rfl, by rw [HE.out, List.append_nil]; exact WB1.out, Below.mono Q1.out HBB.out⟩
  · have HE := hid (HFB.out.trans (by rw [if_pos rfl]))
    clear HFB
    have HD := hid (fun v => decimal_any v w1)
    have HDL := hid (show (⟨(Lib.decDigits n.toNat).toArray⟩ : ByteArray).size ≤ 20 from nDigits_le _ (by omega))
    go_wp2_with fail
    refine (HD.out _ HNN.out.1 HNN.out.2.1 (HT.out.q Q1.out)).mono ?_
    rintro e w2 ⟨rfl, q2⟩
    rw [HNN.out.2.2]
    have Q2 := hid (Q1.out.trans q2)
    have WB2 := hid (WB1.out.old q2)
    clear q2 WB1 HD
    generalize hDG : (⟨(Lib.decDigits n.toNat).toArray⟩ : ByteArray) = DG at *
    clear hDG
    go_wp2_with fail
    refine (field_any B bw bs kLen DG _ WB2.out (by have h1 := Q2.out.size; have h2 := HBB.out; omega) (by have := HLL.out; have := HDL.out; have e1 : kLen.size = 14 := rfl; omega)).mono ?_
    rintro e w3 ⟨rfl, h3, f3⟩
    have W3 := hid h3
    have F3 := hid ((Below.mono Q2.out HBB.out).trans f3.k)
    clear h3 f3
    go_wp2_with fail
    go_end0
    exact ⟨rfl, by rw [HE.out]; exact W3.out, F3.out⟩
  · have HE := hid (HFB.out.trans (by rw [if_neg (by decide), if_pos rfl]))
    clear HFB
    go_wp2_with (go_at_call 34; refine (field_any B bw bs kTra sChk _ WB1.out (by have h1 := Q1.out.size; have h2 := HBB.out; omega) (by have := HLL.out; have e1 : kTra.size = 17 := rfl; have e2 : sChk.size = 7 := rfl; omega)).mono ?_; rintro e w2 ⟨rfl, h2, f2⟩; have W2 := hid h2; have F2 := hid ((Below.mono Q1.out HBB.out).trans f2.k); clear h2 f2)
    go_end0
    exact ⟨rfl, by rw [HE.out]; exact W2.out, F2.out⟩
end Go.Proofs.YtclapheglgiokaaDoor

/-
  How the writer writes a request's fields: a contract that the statements' walks use.
-/
namespace Go.Proofs.YtclapheglgiokaaDoor
open Go.RowKit
set_option linter.unusedVariables false
set_option maxRecDepth 100000

theorem RowS.fr {B b : Nat} {u v : World} {y : Sv} {c : List ByteArray} (h : RowS u y c) (f : Fr B b u v) (hb : ∀ g, blk y.a = some g → g ≠ b) : RowS v y c := by
  refine ⟨h.1, ?_⟩
  rcases h.2 with hh | ⟨g, off, cur, ha, hg, h1, h2, h3, h4⟩
  · exact .inl hh
  · exact .inr ⟨g, off, cur, ha, f.at hg (by decide) (hb g (by rw [ha]; rfl)), h1, h2, h3, h4⟩
theorem Fr.q {B b : Nat} {u v v' : World} (h : Fr B b u v) (q : Q v v') (hB : B ≤ v.heap.size) : Fr B b u v' := ⟨h.k.trans (Below.mono q hB), h.o.below q⟩
theorem hdN_gone {J : ByteArray} {st : Bool × List UInt8} {p : Fd} (h : goneS p = true) : hdN J st p = st := by unfold hdN; rw [if_pos h]
theorem hdN_coo1 {J : ByteArray} {B : List UInt8} {p : Fd} (h : goneS p = false) (hc : eqS p.1 kCoo = true) : hdN J (true, B) p = (true, B) := by unfold hdN; rw [if_neg (by rw [h]; decide), if_pos hc, if_pos rfl]
theorem hdN_coo0 {J : ByteArray} {B : List UInt8} {p : Fd} (h : goneS p = false) (hc : eqS p.1 kCoo = true) : hdN J (false, B) p = (true, B ++ fldB p.1 J) := by unfold hdN; rw [if_neg (by rw [h]; decide), if_pos hc]; rfl
theorem hdN_any {J : ByteArray} {st : Bool × List UInt8} {p : Fd} (h : goneS p = false) (hc : eqS p.1 kCoo = false) : hdN J st p = (st.1, st.2 ++ fldB p.1 p.2) := by unfold hdN; rw [if_neg (by rw [h]; decide), if_neg (by rw [hc]; decide)]
set_option maxHeartbeats 16000000 in
theorem reqf_any (B b : Nat) (bs : List UInt8) (x : Sv) (l : List Fd) (w : World) (h : WB B b bs w) (hB : B ≤ w.heap.size) (hx : ∀ W, Below B w W → Fin W x l) (hl : bs.length ≤ 35184372088832) (hb : totF l + 4 * l.length ≤ 17592186044416) :
    Calls Tryd.prog 35 #[.pointer (some ⟨b, 0, none⟩), .slice x.a x.n x.c] w fun e w' => e = .returned (.tuple #[]) ∧ WB B b (bs ++ hdB l) w' ∧ Below B w w' := by
  obtain ⟨xa, xn, xc⟩ := x
  have hf0 := hx w (Below.refl _ _)
  have hln := hf0.len
  dsimp only at hln
  subst hln
  have HX := hid hx
  have HLB := hid hf0.b
  have HWB := hid h
  have HBB := hid hB
  have HLL := hid hl
  have HB := hid hb
  have HV := hid (vals_any ⟨xa, l.length, xc⟩ kCoo l w hf0)
  have HVL := hid (show vlL kCoo l = ckL l from rfl)
  have HCN := hid (show (ckL l).length ≤ 4398046511104 from by have h1 := ckL_len l; have h2 := hf0.b; omega)
  have HJS := hid (show (joinC (ckL l)).length ≤ 140737488355328 from by have h1 : (joinC (ckL l)).length = (ckJ l).size := rfl; have h2 := ckJ_size l; omega)
  have HJ := hid (fun (W : World) (y : Sv) (r : RowS W y (ckL l)) => show Calls Tryd.prog 61 #[.slice y.a y.n y.c, .string sSem] W fun e w' => e = .returned (.string (ckJ l)) ∧ Q W w' from join_any y (ckL l) W r HCN.out HJS.out)
  unfold sSem at HJ
  have HJZ := hid (ckJ_size l)
  have HHB := hid (show hdB l = (hdS (ckJ l) l).2 from rfl)
  clear hx h hB hl hb hf0
  unfold kCoo at HV
  dsimp only at HV
  go_enter Tryd.func35, Tryd.ntmps35
  go_step3
  go_wp2_with fail
  refine HV.out.mono ?_
  rintro e w1 ⟨⟨ya, yn, yc⟩, rfl, q1, r1, n1⟩
  replace r1 := show RowS w1 ⟨ya, yn, yc⟩ (ckL l) from r1
  have Q1 := hid (Below.mono q1 HBB.out)
  have S1 := hid q1.size
  have R1 := hid r1
  have NB := hid (show ∀ g, blk ya = some g → g ≠ b from fun g e => by
    have h1 := n1 g e
    have h2 := HWB.out.lt
    omega)
  have W1 := hid (HWB.out.old q1)
  clear q1 r1 n1 HV HWB
  go_wp2_with fail
  go_step3
  go_wp2_with fail
  go_loopw [5, 12] (fun j i wr => ∃ (k : Nat) (jb : Bool) (BS : List UInt8), k ≤ l.length ∧ i = .int .i64 (k : Int) ∧ j = .bool jb ∧ hdS (ckJ l) (l.take k) = (jb, BS) ∧ WB B b (bs ++ BS) wr ∧ Fr B b w1 wr) (fun _ i _ => l.length - (intOf i).toNat)
  case atStart => exact ⟨0, false, [], by omega, rfl, rfl, rfl, by rw [List.append_nil]; exact W1.out, Fr.refl _ _ _⟩
  case round =>
    obtain ⟨k, jb, BS, hk, rfl, rfl, hst, hw, hf⟩ := hrel
    have HST := hid hst
    have HWR := hid hw
    have HF := hid hf
    have HSZ := hid (show B ≤ wr.heap.size from by have h1 := hw.low; have h2 := hw.lt; omega)
    have HFX := hid (HX.out wr (Q1.out.trans hf.k))
    have HBL := hid (show BS.length ≤ 35184372088832 from by
      have h1 := hdS_bound l k hk HB.out
      rw [hst] at h1
      exact h1)
    by_cases hlt : k < l.length
    · obtain ⟨g, off, ⟨p1, p2⟩, ha, hp, c0, c1⟩ := HFX.out.s.at hlt
      dsimp only at ha
      subst ha
      dsimp only at c0 c1
      have hki : (k : Int) < (l.length : Int) := by omega
      have hk0 : (0 : Int) ≤ (k : Int) := by omega
      have hkb : (k : Int) < 8796093022208 := by have := HLB.out; omega
      have e1 : (p1.toList == [99, 111, 110, 116, 101, 110, 116, 45, 108, 101, 110, 103, 116, 104]) = eqS p1 kLen := beq_lit p1 _
      have e2 : (p1.toList == [116, 101]) = eqS p1 kTe := beq_lit p1 _
      have e3 : (p1.toList == [101, 120, 112, 101, 99, 116]) = eqS p1 kExp := beq_lit p1 _
      have e4 : (p1.toList == [99, 111, 111, 107, 105, 101]) = eqS p1 kCoo := beq_lit p1 _
      have HSN := hid (hdS_snoc (ckJ l) hp)
      have HPS := hid (show p1.size + p2.size ≤ 17592186044416 from by
        have h1 := fdsB_take l (k + 1)
        rw [fdsB_snoc hp, List.length_append, fldB_len] at h1
        have h2 := fdsB_len l
        have h3 := HB.out
        dsimp only at h1
        omega)
      have HG := hid (show goneS (p1, p2) = (eqS p1 kLen || eqS p1 kTe || eqS p1 kExp) from rfl)
      have HC := hid (show eqS (p1, p2).1 kCoo = eqS p1 kCoo from rfl)
      have HWA := hid (hw.old ((Below.refl wr.heap.size wr).alloc (Nat.le_refl _) (.cells #[.string p1, .string p2] 57)))
      have HFA := hid (hf.alloc (.cells #[.string p1, .string p2] 57) HSZ.out)
      clear hw hf hp hst
      generalize eqS p1 kLen = b1 at *
      generalize eqS p1 kTe = b2 at *
      generalize eqS p1 kExp = b3 at *
      generalize hb4 : eqS p1 kCoo = b4 at *
      cases b1 with
      | true =>
        have HH := hid (HG.out.trans rfl)
        clear HG
        go_wp2_with fail
        go_roundw
        case rel => exact ⟨k + 1, jb, BS, by omega, by go_num, rfl, by rw [HSN.out, HST.out]; exact hdN_gone HH.out, HWA.out, HFA.out⟩
        case measure => simp [intOf]; omega
      | false =>
        cases b2 with
        | true =>
          have HH := hid (HG.out.trans rfl)
          clear HG
          go_wp2_with fail
          go_roundw
          case rel => exact ⟨k + 1, jb, BS, by omega, by go_num, rfl, by rw [HSN.out, HST.out]; exact hdN_gone HH.out, HWA.out, HFA.out⟩
          case measure => simp [intOf]; omega
        | false =>
          cases b3 with
          | true =>
            have HH := hid (HG.out.trans rfl)
            clear HG
            go_wp2_with fail
            go_roundw
            case rel => exact ⟨k + 1, jb, BS, by omega, by go_num, rfl, by rw [HSN.out, HST.out]; exact hdN_gone HH.out, HWA.out, HFA.out⟩
            case measure => simp [intOf]; omega
          | false =>
            have HH := hid (HG.out.trans rfl)
            clear HG
            have HHC := hid hb4
            clear hb4
            cases b4 with
            | true =>
              cases jb with
              | true =>
                go_wp2_with fail
                go_roundw
                case rel => exact ⟨k + 1, true, BS, by omega, by go_num, rfl, by rw [HSN.out, HST.out]; exact hdN_coo1 HH.out HHC.out, HWA.out, HFA.out⟩
                case measure => simp [intOf]; omega
              | false =>
                have HJR := hid (HJ.out (wr.alloc (.cells #[.string p1, .string p2] 57)) ⟨ya, yn, yc⟩ ((R1.out.fr HF.out NB.out).q ((Q.refl wr).alloc _)))
                have HNB := hid (blk_new wr #[.string p1, .string p2] 57)
                have HWQ := hid ((Q.refl wr).alloc (.cells #[.string p1, .string p2] 57))
                dsimp only at HJR
                clear HWA HFA HFX
                go_wp2_with (first
                  | (go_at_call 61; refine HJR.out.mono ?_; rintro e w5 ⟨rfl, q5⟩; have hb5 := HNB.out.q q5; have c51 : w5.cell? ⟨wr.heap.size, 1, none⟩ = some (.string p2) := hb5.cell 1; have f51 : w5.frozen? ⟨wr.heap.size, 1, none⟩ = false := hb5.frozen 1; have c60 : (w5.setCell ⟨wr.heap.size, 1, none⟩ (.string (ckJ l))).cell? ⟨wr.heap.size, 0, none⟩ = some (.string p1) := (hb5.set 1 (.string (ckJ l))).cell 0; have c61 : (w5.setCell ⟨wr.heap.size, 1, none⟩ (.string (ckJ l))).cell? ⟨wr.heap.size, 1, none⟩ = some (.string (ckJ l)) := (hb5.set 1 (.string (ckJ l))).cell 1; have Q6 := hid (show Q wr (w5.setCell ⟨wr.heap.size, 1, none⟩ (.string (ckJ l))) from ((Keep.refl (fun i => i = wr.heap.size) w5).setCell wr.heap.size 1 _ (.inl rfl)).below (HWQ.out.trans q5) (HWQ.out.trans q5).size (fun i e => by omega)); clear q5 hb5)
                  | (go_at_call 34; refine (field_any B b _ p1 (ckJ l) _ (HWR.out.old Q6.out) (by have h1 := Q6.out.size; have h2 := HSZ.out; omega) (by rw [List.length_append]; have h1 := HLL.out; have h2 := HBL.out; have h3 := HPS.out; have h4 := HJZ.out; have h5 := HB.out; omega)).mono ?_; rintro e w7 ⟨rfl, h7, f7⟩; have W7 := hid h7; have F7 := hid ((HF.out.q Q6.out HSZ.out).trans f7); clear h7 f7))
                go_roundw
                case rel => exact ⟨k + 1, true, BS ++ fldB p1 (ckJ l), by omega, by go_num, rfl, by rw [HSN.out, HST.out]; exact hdN_coo0 HH.out HHC.out, by rw [← List.append_assoc]; exact W7.out, F7.out⟩
                case measure => simp [intOf]; omega
            | false =>
              clear HJ
              go_wp2_with (go_at_call 34; refine (field_any B b _ p1 p2 _ HWA.out (by have h1 := HWA.out.low; have h2 := HWA.out.lt; omega) (by rw [List.length_append]; have h1 := HLL.out; have h2 := HBL.out; have h3 := HPS.out; omega)).mono ?_; rintro e w7 ⟨rfl, h7, f7⟩; have W7 := hid h7; have F7 := hid (HFA.out.trans f7); clear h7 f7)
              go_roundw
              case rel => exact ⟨k + 1, jb, BS ++ fldB p1 p2, by omega, by go_num, rfl, by rw [HSN.out, HST.out]; exact hdN_any HH.out HHC.out, by rw [← List.append_assoc]; exact W7.out, F7.out⟩
              case measure => simp [intOf]; omega
    · have hki : ¬ (k : Int) < (l.length : Int) := by omega
      have e0 : l.take k = l := List.take_of_length_le (by omega)
      have HE := hid (show BS = hdB l from by
        have h1 := HST.out
        rw [e0] at h1
        rw [HHB.out, h1])
      clear hw hf e0 hst
      go_wp2
      go_end0
      exact ⟨rfl, by rw [← HE.out]; exact HWR.out, Q1.out.trans HF.out.k⟩
end Go.Proofs.YtclapheglgiokaaDoor

/-
  The head of a request: a contract that the statements' walks use.
-/
namespace Go.Proofs.YtclapheglgiokaaDoor
open Go.RowKit
set_option linter.unusedVariables false
set_option maxRecDepth 20000

theorem Q.trans' {a b c : World} (h : Q a b) (k : Below a.heap.size b c) : Q a c := Below.trans h k
theorem hdB_len (l : List Fd) (hb : totF l + 4 * l.length ≤ 17592186044416) : (hdB l).length ≤ 35184372088832 := by
  have h1 := hdS_bound l l.length (Nat.le_refl _) hb
  rw [List.take_length] at h1
  exact h1
theorem frmB_len (m : ByteArray) (n : Int) (b : Bool) (h1 : n ≤ 9223372036854775807) : (frmB m n b).length ≤ 60 := by
  unfold frmB
  split
  · rw [fldB_len]
    have h2 := nDigits_le n.toNat (by omega)
    have e : (⟨(Lib.decDigits n.toNat).toArray⟩ : ByteArray).size = (Lib.decDigits n.toNat).length := rfl
    have e2 : kLen.size = 14 := rfl
    omega
  · split
    · decide
    · decide
theorem head_con (m sc a p : ByteArray) (x : Sv) (n : Int) (bd : Bool) (w : World) (hc : eqS m kCNT = true) : Calls Tryd.prog 11 #[.agg (rqC m sc a p x n), .bool bd] w fun e w' => e = .returned (.tuple #[.slice none 0 0, .int .i64 50]) ∧ Q w w' := by
  obtain ⟨xa, xn, xc⟩ := x
  have hmc : (m.toList == [67, 79, 78, 78, 69, 67, 84]) = true := (beq_lit m _).trans hc
  have HQ1 := hid ((Q.refl w).alloc (.cells (rqC m sc a p ⟨xa, xn, xc⟩ n) 24))
  have HB1 := hid (blk_new w (rqC m sc a p ⟨xa, xn, xc⟩ n) 24)
  clear hc
  go_enter Tryd.func11, Tryd.ntmps11
  go_upto_region 1 with fail
  generalize hW : World.alloc w _ = W1 at *
  clear hW
  generalize hbq : w.heap.size = bq at HB1 ⊢
  have c10 : W1.cell? ⟨bq, 0, none⟩ = some (.string m) := HB1.out.cell 0
  clear hbq
  go_wp2
  go_ret2
  exact ⟨rfl, HQ1.out⟩
set_option maxHeartbeats 8000000 in
theorem head_any (m sc a p : ByteArray) (x : Sv) (l : List Fd) (n : Int) (bd : Bool) (w : World) (hc : eqS m kCNT = false) (hx : Fin w x l) (hb : totF l + 4 * l.length ≤ 17592186044416) (hs : m.size + p.size + a.size ≤ 8796093022208) (hn0 : -9223372036854775808 ≤ n) (hn1 : n ≤ 9223372036854775807) (ht : Tp w) :
    Calls Tryd.prog 11 #[.agg (rqC m sc a p x n), .bool bd] w fun e w' => ∃ y : Sv, e = .returned (.tuple #[.slice y.a y.n y.c, .int .i64 0]) ∧ Q w w' ∧ BR w' y (headB m p a l n bd) ∧ New w.heap.size y := by
  obtain ⟨xa, xn, xc⟩ := x
  have HX := hid hx
  have HBF := hid hb
  have HTP := hid ht
  have HHL := hid (hdB_len l hb)
  have HFL := hid (frmB_len m n bd hn1)
  have HS := hid hs
  have hmc : (m.toList == [67, 79, 78, 78, 69, 67, 84]) = false := (beq_lit m _).trans hc
  have HQ1 := hid ((Q.refl w).alloc (.cells (rqC m sc a p ⟨xa, xn, xc⟩ n) 24))
  have HB1 := hid (blk_new w (rqC m sc a p ⟨xa, xn, xc⟩ n) 24)
  clear hc hs hx hb ht
  go_enter Tryd.func11, Tryd.ntmps11
  go_upto_region 1 with fail
  generalize hW : World.alloc w _ = W1 at *
  clear hW
  have HLQ := hid HB1.out.lt
  generalize hbq : w.heap.size = bq at HB1 HLQ ⊢
  have HBQ := hid (Nat.le_of_eq hbq)
  clear hbq
  have c10 : W1.cell? ⟨bq, 0, none⟩ = some (.string m) := HB1.out.cell 0
  go_upto_region 4 with fail
  clear c10
  have HW2 := hid (wB_new W1)
  have HLW := hid (show W1.heap.size < (W1.alloc (.cells #[.slice none 0 0, .int .i64 0, .int .i8 0] 77)).heap.size from HW2.out.lt)
  have HQ2 := hid (HQ1.out.alloc (.cells #[.slice none 0 0, .int .i64 0, .int .i8 0] 77))
  have HB2 := hid (HB1.out.q ((Q.refl W1).alloc (.cells #[.slice none 0 0, .int .i64 0, .int .i8 0] 77)))
  have HSB := hid (show w.heap.size ≤ W1.heap.size from Below.size HQ1.out)
  clear HB1 HQ1
  generalize hW : World.alloc W1 _ = W2 at *
  clear hW
  generalize W1.heap.size = b at *
  have c20 : W2.cell? ⟨bq, 0, none⟩ = some (.string m) := HB2.out.cell 0
  have c23 : W2.cell? ⟨bq, 3, none⟩ = some (.string p) := HB2.out.cell 3
  have HL1 := hid (show Calls Tryd.prog 33 #[.pointer (some ⟨b, 0, none⟩), .slice (some ⟨W2.heap.size, 0, none⟩) 4 4] (W2.alloc (.cells #[.string m, .string ⟨#[32]⟩, .string p, .string sHTTP] 9)) fun e w' => e = .returned (.tuple #[]) ∧ WB b b ([] ++ catB [m, ⟨#[32]⟩, p, sHTTP] ++ [13, 10]) w' ∧ Fr b b (W2.alloc (.cells #[.string m, .string ⟨#[32]⟩, .string p, .string sHTTP] 9)) w' from
    line_any b b [] ⟨some ⟨W2.heap.size, 0, none⟩, 4, 4⟩ [m, ⟨#[32]⟩, p, sHTTP] _ (HW2.out.old ((Below.refl W2.heap.size W2).alloc (Nat.le_refl _) _)) (by rw [World.size_alloc]; have := HLW.out; omega) (txs_new W2 [m, ⟨#[32]⟩, p, sHTTP] 4 rfl) (by show 4 ≤ 1000; omega) (by
      have e : lenB [m, ⟨#[32]⟩, p, sHTTP] = m.size + (1 + (p.size + (9 + 0))) := rfl
      have := HS.out
      rw [e]; show 0 + _ + 2 ≤ _; omega))
  have HF1 := hid ((Fr.refl b b W2).alloc (.cells #[.string m, .string ⟨#[32]⟩, .string p, .string sHTTP] 9) (by have := HLW.out; omega))
  clear HW2
  go_wp2_with fail
  refine HL1.out.mono ?_
  rintro e w3 ⟨rfl, h3, f3⟩
  have H3 := hid h3
  have F3 := hid (HF1.out.trans f3)
  have LQB := hid (show bq < b from HLQ.out)
  have c32 : w3.cell? ⟨bq, 2, none⟩ = some (.string a) := (show Blk w3 bq 24 (rqC m sc a p ⟨xa, xn, xc⟩ n) from (F3.out.k.block bq LQB.out).trans HB2.out).cell 2
  clear h3 f3 c20 c23 HL1 HF1
  go_wp2_with fail
  refine (field_any b b _ sHost a w3 H3.out (by have h1 := H3.out.low; have h2 := H3.out.lt; omega) (by
    rw [List.nil_append, List.length_append, catB_len]
    have e : lenB [m, ⟨#[32]⟩, p, sHTTP] = m.size + (1 + (p.size + (9 + 0))) := rfl
    have e2 : sHost.size = 4 := rfl
    have := HS.out
    rw [e, e2]; show _ + 2 + _ + _ + _ ≤ _; omega)).mono ?_
  rintro e w4 ⟨rfl, h4, f4⟩
  have H4 := hid (show WB b b (topB m p a) w4 from h4)
  have F4 := hid (F3.out.trans f4)
  have c44 : w4.cell? ⟨bq, 4, none⟩ = some (.slice xa xn xc) := (show Blk w4 bq 24 (rqC m sc a p ⟨xa, xn, xc⟩ n) from (F4.out.k.block bq LQB.out).trans HB2.out).cell 4
  clear h4 f4 c32 H3 F3
  have HX4 := hid (fun W (k : Below b w4 W) => HX.out.q (show Q w W from (show Q w W2 from HQ2.out).trans' (Below.mono (F4.out.k.trans k) HSB.out)))
  go_wp2_with fail
  refine (reqf_any b b _ ⟨xa, xn, xc⟩ l w4 H4.out (by have h1 := H4.out.low; have h2 := H4.out.lt; omega) HX4.out (by rw [topB_len]; have := HS.out; omega) HBF.out).mono ?_
  rintro e w5 ⟨rfl, h5, k5⟩
  have H5 := hid h5
  have F5 := hid (show Below b W2 w5 from F4.out.k.trans k5)
  have B5 := hid (show Blk w5 bq 24 (rqC m sc a p ⟨xa, xn, xc⟩ n) from (F5.out.block bq LQB.out).trans HB2.out)
  have HT5 := hid (HTP.out.q (show Q w w5 from HQ2.out.trans' (Below.mono F5.out HSB.out)))
  clear c44 h5 k5 H4 F4 HX4
  go_wp2_with (refine wpList_load_row rfl 24 _ rfl bq rfl 24 _ (0, 0) _ B5.out Tryd.underlying24 rfl (info24 m sc a p ⟨xa, xn, xc⟩ n) ?_)
  refine (wframing_any b b _ m sc a p ⟨xa, xn, xc⟩ n bd w5 H5.out (by have h1 := H5.out.low; have h2 := H5.out.lt; omega) (by rw [List.length_append, topB_len]; have := HS.out; have := HHL.out; omega) hn0 hn1 HT5.out).mono ?_
  rintro e w6 ⟨rfl, h6, k6⟩
  have H6 := hid h6
  have F6 := hid (show Below b W2 w6 from F5.out.trans k6)
  clear h6 k6 H5 F5 B5 HT5
  go_wp2_with fail
  refine (field_any b b _ sVia sTurn w6 H6.out (by have h1 := H6.out.low; have h2 := H6.out.lt; omega) (by
    rw [List.length_append, List.length_append, topB_len]
    have e2 : sVia.size = 3 := rfl
    have e3 : sTurn.size = 10 := rfl
    have := HS.out
    have := HHL.out
    have := HFL.out
    rw [e2, e3]; omega)).mono ?_
  rintro e w7 ⟨rfl, h7, f7⟩
  have H7 := hid h7
  have F7 := hid (F6.out.trans f7.k)
  clear h7 f7 H6 F6
  go_wp2_with fail
  refine (line_any b b _ ⟨none, 0, 0⟩ [] w7 H7.out (by have h1 := H7.out.low; have h2 := H7.out.lt; omega) ⟨rfl, fun h => absurd rfl h⟩ (by decide) (by
    rw [List.length_append, List.length_append, List.length_append, topB_len]
    have e2 : sVia.data.toList.length = 3 := rfl
    have e3 : sTurn.data.toList.length = 10 := rfl
    have := HS.out
    have := HHL.out
    have := HFL.out
    simp only [List.length_append, e2, e3]
    show _ + (3 + 2 + 10 + 2) + 0 + 2 ≤ _
    omega)).mono ?_
  rintro e w8 ⟨rfl, h8, f8⟩
  have H8 := hid (show WB b b (headB m p a l n bd) w8 from by
    have e : headB m p a l n bd = topB m p a ++ hdB l ++ frmB m n bd ++ (sVia.data.toList ++ [58, 32] ++ sTurn.data.toList ++ [13, 10]) ++ catB [] ++ [13, 10] := by
      unfold headB endB fldB catB
      simp
    rw [e]; exact h8)
  have F8 := hid (F7.out.trans f8.k)
  clear h8 f8 H7 F7
  go_wp2_with fail
  refine (bytes_any b b _ w8 H8.out).mono ?_
  rintro e w9 ⟨⟨ya, yn, yc⟩, rfl, q9, ry, ny⟩
  have Q9 := hid (show Q w w9 from by
    have h1 := HSB.out
    have h2 := H8.out.lt
    exact (Below.mono (HQ2.out) (Nat.le_refl _)).trans ((Below.mono F8.out h1).trans (Below.mono q9 (by omega))))
  have RY := hid ry
  have NY := hid (show New w.heap.size ⟨ya, yn, yc⟩ from fun g e => by have h1 := (ny g e).1; have h2 := HSB.out; omega)
  clear q9 ry ny
  go_wp2_with fail
  go_ret2
  exact ⟨⟨ya, yn, yc⟩, rfl, Q9.out, RY.out, NY.out⟩
end Go.Proofs.YtclapheglgiokaaDoor

/-
  The document's decimal digits: a contract that the statements' walks use.
-/
namespace Go.Proofs.YtclapheglgiokaaDoor
open Go.RowKit
set_option linter.unusedVariables false
set_option maxRecDepth 20000

theorem one_str (W : World) (z : Int) (h0 : 0 ≤ z) (h1 : z < 256) : (convert 28 9 (.slice (some ⟨W.heap.size, 0, none⟩) 1 1)).run Tryd.prog (W.alloc (.cells #[.int .u8 z] 5)) = .ok (.string ⟨#[UInt8.ofNat z.toNat]⟩) (W.alloc (.cells #[.int .u8 z] 5)) := by
  have e : (#[UInt8.ofNat z.toNat] : Array UInt8) = [UInt8.ofNat z.toNat].toArray := rfl
  rw [e]
  refine run_convert_bytes_back (P := Tryd.prog) _ 28 9 5 ⟨W.heap.size, 0, none⟩ 1 [UInt8.ofNat z.toNat] Tryd.underlying28 Tryd.underlying5 Tryd.underlying9 (fun j hj => ?_)
  have hj0 : j = 0 := by simpa using hj
  subst hj0
  have hb := (blk_new W #[.int .u8 z] 5).cell 0
  rw [addr_add]
  refine hb.trans ?_
  simp
  omega
set_option maxHeartbeats 4000000 in
theorem rdig_any (n : Nat) (w : World) (hn : n ≤ 9223372036854775807) : Calls Tryd.prog 28 #[.int .i64 (n : Int)] w fun e w' => e = .returned (.string ⟨(Lib.decDigits n).toArray⟩) ∧ Q w w' := by
  have hnn : ¬ (n : Int) < 0 := by omega
  go_enter Tryd.func28, Tryd.ntmps28
  go_wp2_with fail
  go_loopw [0, 3] (fun u s wr => ∃ (m : Nat) (ds : List UInt8), m ≤ 9223372036854775807 ∧ u = .int .i64 (m : Int) ∧ s = .string ⟨ds.toArray⟩ ∧ Lib.decDigits m ++ ds = Lib.decDigits n ∧ Q w wr) (fun u _ _ => (intOf u).toNat)
  case atStart => exact ⟨n, [], hn, rfl, rfl, by simp, Q.refl w⟩
  case round =>
    obtain ⟨m, ds, hm, rfl, rfl, hx, hq⟩ := hrel
    have HX0 := hid hx
    have HQ := hid hq
    have hdl : ds.length ≤ 20 := by
      have h1 := congrArg List.length hx
      rw [List.length_append] at h1
      have h2 := nDigits_le n (by omega)
      omega
    have hds : (⟨ds.toArray⟩ : ByteArray).size ≤ 20 := hdl
    obtain ⟨d, hdd⟩ : ∃ d, d = m % 10 := ⟨_, rfl⟩
    have hd10 : d < 10 := by omega
    have hrem : (m : Int) % 10 = (d : Int) := by omega
    have hd0 : (0 : Int) ≤ (d : Int) := by omega
    have hd1 : (d : Int) < 10 := by omega
    have hm0 : (0 : Int) ≤ (m : Int) := by omega
    have hmb : (m : Int) ≤ 9223372036854775807 := by omega
    have HD := hid hdd
    clear hx hq hdl hdd
    by_cases h10 : m < 10
    · have hlt : ¬ (10 : Int) ≤ (m : Int) := by omega
      have hm10 : (m : Int) < 10 := by omega
      have hcv := one_str wr (48 + (m : Int)) (by omega) (by omega)
      have HZ := hid (show (⟨#[UInt8.ofNat (48 + (m : Int)).toNat]⟩ : ByteArray) ++ ⟨ds.toArray⟩ = ⟨(Lib.decDigits n).toArray⟩ from by
        rw [← HX0.out, Lib.decDigits, dif_pos h10]
        have e : (48 + (m : Int)).toNat = 48 + m := by omega
        rw [e]
        exact bcat [UInt8.ofNat (48 + m)] ds)
      have HZS := hid (show (⟨#[UInt8.ofNat (48 + (m : Int)).toNat]⟩ : ByteArray).size = 1 from rfl)
      generalize (⟨#[UInt8.ofNat (48 + (m : Int)).toNat]⟩ : ByteArray) = Z at *
      generalize (⟨ds.toArray⟩ : ByteArray) = DS at *
      have hzs := HZS.out
      go_wp2
      go_ret
      exact ⟨by rw [← HZ.out]; rfl, HQ.out.alloc _⟩
    · have hlt : (10 : Int) ≤ (m : Int) := by omega
      have hcv := one_str wr (48 + (d : Int)) (by omega) (by omega)
      have HZ := hid (show (⟨#[UInt8.ofNat (48 + (d : Int)).toNat]⟩ : ByteArray) ++ ⟨ds.toArray⟩ = ⟨(UInt8.ofNat (48 + d) :: ds).toArray⟩ from by
        have e : (48 + (d : Int)).toNat = 48 + d := by omega
        rw [e]
        exact bcat [UInt8.ofNat (48 + d)] ds)
      have HZS := hid (show (⟨#[UInt8.ofNat (48 + (d : Int)).toNat]⟩ : ByteArray).size = 1 from rfl)
      have HX := hid (show Lib.decDigits (m / 10) ++ (UInt8.ofNat (48 + d) :: ds) = Lib.decDigits n from by
        rw [← HX0.out]
        conv => rhs; rw [Lib.decDigits, dif_neg h10]
        rw [HD.out]; simp)
      generalize (⟨#[UInt8.ofNat (48 + (d : Int)).toNat]⟩ : ByteArray) = Z at *
      generalize hDS : (⟨ds.toArray⟩ : ByteArray) = DS at *
      have hzs := HZS.out
      clear hDS
      go_wp2
      go_roundw
      case rel => exact ⟨m / 10, UInt8.ofNat (48 + d) :: ds, by omega, by first | rfl | simp, by rw [← HZ.out], HX.out, HQ.out.alloc _⟩
      case measure => simp [intOf]; omega
end Go.Proofs.YtclapheglgiokaaDoor

/-
  The document's Head: a contract that the statements' walks use.
-/
namespace Go.Proofs.YtclapheglgiokaaDoor
open Go.RowKit
set_option linter.unusedVariables false
set_option maxRecDepth 20000

/-- The cookies joined, one by one: the text so far, whether none has come. -/
def ckF (l : List Fd) : ByteArray × Bool := (⟨(joinC (ckL l)).toArray⟩, decide (ckL l = []))
theorem ckF_no {l : List Fd} {k : Nat} {p : Fd} (h : l[k]? = some p) (hc : eqS p.1 kCoo = false) : ckF (l.take (k + 1)) = ckF (l.take k) := by
  unfold ckF
  rw [take_snoc h, ckL_snoc, hc, if_neg (by decide)]
theorem ckF_first {l : List Fd} {k : Nat} {p : Fd} (h : l[k]? = some p) (hc : eqS p.1 kCoo = true) (hf : (ckF (l.take k)).2 = true) : ckF (l.take (k + 1)) = ((ckF (l.take k)).1 ++ p.2, false) := by
  have h0 : ckL (l.take k) = [] := by simpa [ckF] using hf
  unfold ckF
  rw [take_snoc h, ckL_snoc, hc, if_pos rfl, h0, joinC_snoc, if_pos rfl]
  refine Prod.ext ?_ (by simp)
  apply ByteArray.ext
  simp [joinC_nil]
theorem ckF_next {l : List Fd} {k : Nat} {p : Fd} (h : l[k]? = some p) (hc : eqS p.1 kCoo = true) (hf : (ckF (l.take k)).2 = false) : ckF (l.take (k + 1)) = (((ckF (l.take k)).1 ++ ⟨#[59, 32]⟩) ++ p.2, false) := by
  have h0 : ¬ ckL (l.take k) = [] := by simpa [ckF] using hf
  unfold ckF
  rw [take_snoc h, ckL_snoc, hc, if_pos rfl, joinC_snoc, if_neg h0]
  refine Prod.ext ?_ (by simp)
  apply ByteArray.ext
  simp
theorem ckF_size (l : List Fd) (k : Nat) (hk : k ≤ l.length) : (ckF (l.take k)).1.size ≤ totF l + 4 * l.length := by
  have h1 := joinC_len (ckL (l.take k))
  have h2 := ckL_size (l.take k)
  have h3 := ckL_len (l.take k)
  have e : (ckF (l.take k)).1.size = (joinC (ckL (l.take k))).length := rfl
  have h4 := fdsB_take l k
  have h5 := fdsB_len (l.take k)
  have h6 := fdsB_len l
  have h7 : (l.take k).length = k := by rw [List.length_take]; omega
  omega
theorem top_cat (m p a : ByteArray) : ((((m ++ ⟨#[32]⟩) ++ p) ++ ⟨#[32, 72, 84, 84, 80, 47, 49, 46, 49, 13, 10, 104, 111, 115, 116, 58, 32]⟩) ++ a) ++ ⟨#[13, 10]⟩ = ⟨(topB m p a).toArray⟩ := by
  apply ByteArray.ext
  simp [topB, catB, fldB, sHTTP, sHost]
theorem coo_ne {l : List Fd} {k : Nat} {p : Fd} (h : l[k]? = some p) (hc : eqS p.1 kCoo = true) : ckL l ≠ [] := by
  intro e
  have hm : p.2 ∈ ckL l := by
    unfold ckL
    exact List.mem_map.2 ⟨p, List.mem_filter.2 ⟨List.mem_of_getElem? h, hc⟩, rfl⟩
  rw [e] at hm
  cases hm
theorem len_cat (S D : ByteArray) (X : List UInt8) (h : S = ⟨X.toArray⟩) : S ++ (((⟨#[99, 111, 110, 116, 101, 110, 116, 45, 108, 101, 110, 103, 116, 104, 58, 32]⟩ : ByteArray) ++ D) ++ ⟨#[13, 10]⟩) = ⟨(X ++ fldB kLen D).toArray⟩ := by
  subst h
  apply ByteArray.ext
  simp [fldB, kLen]
theorem chk_cat' (S : ByteArray) (X : List UInt8) (h : S = ⟨X.toArray⟩) : S ++ (⟨#[116, 114, 97, 110, 115, 102, 101, 114, 45, 101, 110, 99, 111, 100, 105, 110, 103, 58, 32, 99, 104, 117, 110, 107, 101, 100, 13, 10]⟩ : ByteArray) = ⟨(X ++ fldB kTra sChk).toArray⟩ := by
  subst h
  apply ByteArray.ext
  simp [fldB, kTra, sChk]
theorem end_cat (S : ByteArray) (X : List UInt8) (h : S = ⟨X.toArray⟩) : S ++ (⟨#[118, 105, 97, 58, 32, 51, 32, 116, 117, 114, 110, 112, 105, 107, 101, 13, 10, 13, 10]⟩ : ByteArray) = ⟨(X ++ endB).toArray⟩ := by
  subst h
  apply ByteArray.ext
  simp [fldB, endB, sVia, sTurn]
set_option maxHeartbeats 16000000 in
theorem rhead_any (m sc a p : ByteArray) (x : Sv) (l : List Fd) (n : Int) (bd : Bool) (w : World) (hc : eqS m kCNT = false) (hx : Fin w x l) (hb : totF l + 4 * l.length ≤ 17592186044416) (hs : m.size + p.size + a.size ≤ 8796093022208) (hn1 : n ≤ 9223372036854775807) :
    Calls Tryd.prog 12 #[.agg (rqC m sc a p x n), .bool bd] w fun e w' => e = .returned (.tuple #[.string ⟨(headB m p a l n bd).toArray⟩, .int .i64 0]) ∧ Q w w' := by
  obtain ⟨xa, xn, xc⟩ := x
  have hln := hx.len
  dsimp only at hln
  subst hln
  have HX := hid hx
  have HBF := hid hb
  have HFR := hid (fun W => rframing_any m sc a p ⟨xa, l.length, xc⟩ n bd W)
  have HTC := hid (top_cat m p a)
  have HTL := hid (topB_len m p a)
  have hms : m.size + p.size + a.size ≤ 8796093022208 := hs
  have hmc : (m.toList == [67, 79, 78, 78, 69, 67, 84]) = false := (beq_lit m _).trans hc
  have HQ1 := hid ((Q.refl w).alloc (.cells (rqC m sc a p ⟨xa, l.length, xc⟩ n) 34))
  have HB1 := hid (blk_new w (rqC m sc a p ⟨xa, l.length, xc⟩ n) 34)
  clear hc hs hx hb
  go_enter Tryd.func12, Tryd.ntmps12
  go_upto_region 1 with fail
  generalize hW : World.alloc w _ = W1 at *
  clear hW
  generalize w.heap.size = bq at HB1 ⊢
  have c10 : W1.cell? ⟨bq, 0, none⟩ = some (.string m) := HB1.out.cell 0
  have c12 : W1.cell? ⟨bq, 2, none⟩ = some (.string a) := HB1.out.cell 2
  have c13 : W1.cell? ⟨bq, 3, none⟩ = some (.string p) := HB1.out.cell 3
  have c14 : W1.cell? ⟨bq, 4, none⟩ = some (.slice xa l.length xc) := HB1.out.cell 4
  go_wp2_with fail
  go_loopw [7, 8, 9] (fun c f i wr => ∃ (k : Nat) (C : ByteArray) (fb : Bool), k ≤ l.length ∧ i = .int .i64 (k : Int) ∧ c = .string C ∧ f = .bool fb ∧ ckF (l.take k) = (C, fb) ∧ wr = W1) (fun _ _ i _ => l.length - (intOf i).toNat)
  case atStart => exact ⟨0, _, _, by omega, rfl, rfl, rfl, rfl, rfl⟩
  case round =>
    obtain ⟨k, C, fb, hk, rfl, rfl, rfl, hck, hw⟩ := hrel
    replace hw := hw.symm
    subst hw
    have HCK := hid hck
    have hcs : C.size ≤ 17592186044416 := by
      have h1 := ckF_size l k hk
      rw [hck] at h1
      have h2 := HBF.out
      dsimp only at h1
      omega
    clear hck
    by_cases hlt : k < l.length
    · obtain ⟨g, off, ⟨p1, p2⟩, ha, hp, c0, c1⟩ := (HX.out.q HQ1.out).s.at hlt
      dsimp only at ha
      subst ha
      dsimp only at c0 c1
      have hki : (k : Int) < (l.length : Int) := by omega
      have hk0 : (0 : Int) ≤ (k : Int) := by omega
      have hkb : (k : Int) < 8796093022208 := by have := HX.out.b; omega
      have e4 : (p1.toList == [99, 111, 111, 107, 105, 101]) = eqS p1 kCoo := beq_lit p1 _
      have hps : p2.size ≤ 17592186044416 := by
        have h1 := fdsB_take l (k + 1)
        rw [fdsB_snoc hp, List.length_append, fldB_len] at h1
        have h2 := fdsB_len l
        have h3 := HBF.out
        dsimp only at h1
        omega
      cases hb4 : eqS p1 kCoo with
      | false =>
        have HN := hid ((ckF_no hp hb4).trans HCK.out)
        rw [hb4] at e4
        clear hb4 hp
        go_wp2_with fail
        go_roundw
        case rel => exact ⟨k + 1, C, fb, by omega, by go_num, rfl, rfl, HN.out, trivial⟩
        case measure => simp [intOf]; omega
      | true =>
        rw [hb4] at e4
        cases fb with
        | true =>
          have HN := hid (show ckF (l.take (k + 1)) = (C ++ p2, false) from by
            have h1 := ckF_first hp hb4 (by rw [HCK.out])
            rw [HCK.out] at h1
            exact h1)
          clear hb4 hp
          go_wp2_with fail
          go_roundw
          case rel => exact ⟨k + 1, C ++ p2, false, by omega, by go_num, rfl, rfl, HN.out, trivial⟩
          case measure => simp [intOf]; omega
        | false =>
          have HN := hid (show ckF (l.take (k + 1)) = ((C ++ ⟨#[59, 32]⟩) ++ p2, false) from by
            have h1 := ckF_next hp hb4 (by rw [HCK.out])
            rw [HCK.out] at h1
            exact h1)
          have hsz : (C ++ (⟨#[59, 32]⟩ : ByteArray)).size ≤ 17592186044500 := by
            rw [ByteArray.size_append]
            show C.size + 2 ≤ _
            omega
          clear hb4 hp
          go_wp2_with fail
          go_roundw
          case rel => exact ⟨k + 1, _, false, by omega, by go_num, rfl, rfl, HN.out, trivial⟩
          case measure => simp [intOf]; omega
    · have hki : ¬ (k : Int) < (l.length : Int) := by omega
      have e0 : l.take k = l := List.take_of_length_le (by omega)
      have HCF := hid (show ckF l = (C, fb) from by have h1 := HCK.out; rw [e0] at h1; exact h1)
      clear HCK e0
      go_wp2_with fail
      obtain rfl : C = ckJ l := congrArg Prod.fst HCF.out.symm
      have HFB := hid (show fb = decide (ckL l = []) from congrArg Prod.snd HCF.out.symm)
      have HW := hid HTC.out
      generalize hTS : ((((m ++ (⟨#[32]⟩ : ByteArray)) ++ p) ++ ⟨#[32, 72, 84, 84, 80, 47, 49, 46, 49, 13, 10, 104, 111, 115, 116, 58, 32]⟩) ++ a) ++ ⟨#[13, 10]⟩ = TS at *
      clear hTS hki hlt hk HCF
      go_loopw [6, 8, 10] (fun s f i wr => ∃ (k : Nat) (S : ByteArray) (fb2 jb : Bool) (BS : List UInt8), k ≤ l.length ∧ i = .int .i64 (k : Int) ∧ s = .string S ∧ f = .bool fb2 ∧ hdS (ckJ l) (l.take k) = (jb, BS) ∧ S = ⟨(topB m p a ++ BS).toArray⟩ ∧ (fb2 = jb ∨ ckL l = []) ∧ Q w wr ∧ Blk wr bq 34 (rqC m sc a p ⟨xa, l.length, xc⟩ n)) (fun _ _ i _ => l.length - (intOf i).toNat)
      case atStart => exact ⟨0, TS, fb, false, [], by omega, rfl, rfl, rfl, rfl, by rw [HW.out, List.append_nil], by
        by_cases h : ckL l = []
        · exact .inr h
        · exact .inl (by rw [HFB.out]; simp [h]), HQ1.out, HB1.out⟩
      case round =>
        obtain ⟨k, S, fb2, jb, BS, hk, rfl, rfl, rfl, hst, hS, hfj, hq, hblk⟩ := hrel
        have HST := hid hst
        have HS := hid hS
        have HFJ := hid hfj
        have HQ := hid hq
        have HBK := hid hblk
        have c4 : wr.cell? ⟨bq, 4, none⟩ = some (.slice xa l.length xc) := hblk.cell 4
        have hbl : BS.length ≤ 35184372088832 := by
          have h1 := hdS_bound l k hk HBF.out
          rw [hst] at h1
          exact h1
        have hSs : S.size ≤ 43980465111072 := by
          rw [hS]
          show (topB m p a ++ BS).length ≤ _
          rw [List.length_append, topB_len]
          omega
        clear hst hS hfj hblk hbl
        by_cases hlt : k < l.length
        · obtain ⟨g, off, ⟨p1, p2⟩, ha, hp, c0, c1⟩ := (HX.out.q hq).s.at hlt
          dsimp only at ha
          subst ha
          dsimp only at c0 c1
          have hki : (k : Int) < (l.length : Int) := by omega
          have hk0 : (0 : Int) ≤ (k : Int) := by omega
          have hkb : (k : Int) < 8796093022208 := by have := HX.out.b; omega
          have e1 : (p1.toList == [99, 111, 110, 116, 101, 110, 116, 45, 108, 101, 110, 103, 116, 104]) = eqS p1 kLen := beq_lit p1 _
          have e2 : (p1.toList == [116, 101]) = eqS p1 kTe := beq_lit p1 _
          have e3 : (p1.toList == [101, 120, 112, 101, 99, 116]) = eqS p1 kExp := beq_lit p1 _
          have e4 : (p1.toList == [99, 111, 111, 107, 105, 101]) = eqS p1 kCoo := beq_lit p1 _
          have HSN := hid (hdS_snoc (ckJ l) hp)
          have hps : p1.size + p2.size ≤ 17592186044416 := by
            have h1 := fdsB_take l (k + 1)
            rw [fdsB_snoc hp, List.length_append, fldB_len] at h1
            have h2 := fdsB_len l
            have h3 := HBF.out
            dsimp only at h1
            omega
          have HG := hid (show goneS (p1, p2) = (eqS p1 kLen || eqS p1 kTe || eqS p1 kExp) from rfl)
          have HC0 := hid (show eqS (p1, p2).1 kCoo = eqS p1 kCoo from rfl)
          have HNE := hid (show eqS p1 kCoo = true → ckL l ≠ [] from fun h => coo_ne hp h)
          have HQA := hid (hq.alloc (.cells #[.string p1, .string p2] 57))
          have HBA := hid (HBK.out.q ((Q.refl wr).alloc (.cells #[.string p1, .string p2] 57)))
          have HNB := hid (blk_new wr #[.string p1, .string p2] 57)
          have HK1 := hid (fld_cat S p1 p2 _ HS.out)
          have HK2 := hid (fld_cat S p1 (ckJ l) _ HS.out)
          clear hq hp
          generalize eqS p1 kLen = b1 at *
          generalize eqS p1 kTe = b2 at *
          generalize eqS p1 kExp = b3 at *
          generalize hb4 : eqS p1 kCoo = b4 at *
          cases b1 with
          | true =>
            have HH := hid (HG.out.trans rfl)
            clear HG
            go_wp2_with fail
            go_roundw
            case rel => exact ⟨k + 1, S, fb2, jb, BS, by omega, by go_num, rfl, rfl, by rw [HSN.out, HST.out]; exact hdN_gone HH.out, HS.out, HFJ.out, HQA.out, HBA.out⟩
            case measure => simp [intOf]; omega
          | false =>
            cases b2 with
            | true =>
              have HH := hid (HG.out.trans rfl)
              clear HG
              go_wp2_with fail
              go_roundw
              case rel => exact ⟨k + 1, S, fb2, jb, BS, by omega, by go_num, rfl, rfl, by rw [HSN.out, HST.out]; exact hdN_gone HH.out, HS.out, HFJ.out, HQA.out, HBA.out⟩
              case measure => simp [intOf]; omega
            | false =>
              cases b3 with
              | true =>
                have HH := hid (HG.out.trans rfl)
                clear HG
                go_wp2_with fail
                go_roundw
                case rel => exact ⟨k + 1, S, fb2, jb, BS, by omega, by go_num, rfl, rfl, by rw [HSN.out, HST.out]; exact hdN_gone HH.out, HS.out, HFJ.out, HQA.out, HBA.out⟩
                case measure => simp [intOf]; omega
              | false =>
                have HH := hid (HG.out.trans rfl)
                clear HG
                have HHC := hid hb4
                clear hb4
                cases b4 with
                | true =>
                  obtain rfl : fb2 = jb := by
                    rcases HFJ.out with h | h
                    · exact h
                    · exact absurd h (HNE.out rfl)
                  cases fb2 with
                  | true =>
                    go_wp2_with fail
                    go_roundw
                    case rel => exact ⟨k + 1, S, true, true, BS, by omega, by go_num, rfl, rfl, by rw [HSN.out, HST.out]; exact hdN_coo1 HH.out HHC.out, HS.out, .inl rfl, HQA.out, HBA.out⟩
                    case measure => simp [intOf]; omega
                  | false =>
                    go_wp2_with fail
                    go_roundw
                    case rel => exact ⟨k + 1, _, true, true, BS ++ fldB p1 (ckJ l), by omega, by go_num, rfl, rfl, by rw [HSN.out, HST.out]; exact hdN_coo0 HH.out HHC.out, by rw [← List.append_assoc]; exact HK2.out, .inl rfl, HQ.out.alloc _, HBK.out.q ((Q.refl wr).alloc _)⟩
                    case measure => simp [intOf]; omega
                | false =>
                  go_wp2_with fail
                  go_roundw
                  case rel => exact ⟨k + 1, _, fb2, jb, BS ++ fldB p1 p2, by omega, by go_num, rfl, rfl, by rw [HSN.out, HST.out]; exact hdN_any HH.out HHC.out, by rw [← List.append_assoc]; exact HK1.out, HFJ.out, HQA.out, HBA.out⟩
                  case measure => simp [intOf]; omega
        · have hki : ¬ (k : Int) < (l.length : Int) := by omega
          have e0 : l.take k = l := List.take_of_length_le (by omega)
          have HE := hid (show BS = hdB l from by
            have h1 := HST.out
            rw [e0] at h1
            unfold hdB
            rw [h1])
          have HFE := hid (show headB m p a l n bd = topB m p a ++ hdB l ++ frmB m n bd ++ endB from rfl)
          have HFM := hid (show frmB m n bd = if frm m n bd = 1 then fldB kLen ⟨(Lib.decDigits n.toNat).toArray⟩ else if frm m n bd = 2 then fldB kTra sChk else [] from rfl)
          have h3 := frm_one (m := m) (n := n) (b := bd)
          clear hq e0
          go_wp2_with (refine wpList_load_row rfl 34 _ rfl bq rfl 34 _ (0, 0) _ HBK.out Tryd.underlying34 rfl (info34 m sc a p ⟨xa, l.length, xc⟩ n) ?_)
          refine (HFR.out _).mono ?_
          rintro e w5 ⟨rfl, q5⟩
          have Q5 := hid (HQ.out.trans q5)
          have c55 : w5.cell? ⟨bq, 5, none⟩ = some (.int .i64 n) := (HBK.out.q q5).cell 5
          clear q5 HBK c4
          generalize frm m n bd = f at *
          rcases h3 with rfl | rfl | rfl
          · have HM := hid (HFM.out.trans (by rw [if_neg (by decide), if_neg (by decide)]))
            have HC := hid (end_cat S _ HS.out)
            clear HFM
            go_wp2
            go_ret2
            exact ⟨by rw [HFE.out, HM.out, List.append_nil, ← HE.out, ← HC.out]; rfl, Q5.out⟩
          · have HM := hid (HFM.out.trans (by rw [if_pos rfl]))
            have HC := hid (fun D : ByteArray => end_cat _ _ (len_cat S D _ HS.out))
            clear HFM
            have hdg := nDigits_le n.toNat (by omega)
            have hds : (⟨(Lib.decDigits n.toNat).toArray⟩ : ByteArray).size ≤ 20 := hdg
            clear hdg
            by_cases hneg : n < 0
            · have e0 : n.toNat = 0 := by omega
              rw [e0] at HM hds
              have HD := hid (rdig_any 0 w5 (by omega))
              have HD' := hid (show Calls Tryd.prog 28 #[.int .i64 0] w5 fun e w' => e = .returned (.string ⟨(Lib.decDigits 0).toArray⟩) ∧ Q w5 w' from HD.out)
              have HCC := hid (HC.out ⟨(Lib.decDigits 0).toArray⟩)
              clear HD HC
              generalize (⟨(Lib.decDigits 0).toArray⟩ : ByteArray) = DG at *
              go_wp2_with fail
              refine HD'.out.mono ?_
              rintro e w6 ⟨rfl, q6⟩
              have Q6 := hid (Q5.out.trans q6)
              clear q6
              go_wp2
              go_ret2
              exact ⟨by rw [HFE.out, HM.out, ← HE.out, ← HCC.out]; rfl, Q6.out⟩
            · obtain ⟨N, rfl⟩ := Int.eq_ofNat_of_zero_le (show 0 ≤ n by omega)
              have e0 : (N : Int).toNat = N := by omega
              rw [e0] at HM hds
              have HD := hid (rdig_any N w5 (by omega))
              have HCC := hid (HC.out ⟨(Lib.decDigits N).toArray⟩)
              clear HC e0
              generalize (⟨(Lib.decDigits N).toArray⟩ : ByteArray) = DG at *
              go_wp2_with fail
              refine HD.out.mono ?_
              rintro e w6 ⟨rfl, q6⟩
              have Q6 := hid (Q5.out.trans q6)
              clear q6
              go_wp2
              go_ret2
              exact ⟨by rw [HFE.out, HM.out, ← HE.out, ← HCC.out]; rfl, Q6.out⟩
          · have HM := hid (HFM.out.trans (by rw [if_neg (by decide), if_pos rfl]))
            have HC := hid (end_cat _ _ (chk_cat' S _ HS.out))
            clear HFM
            go_wp2
            go_ret2
            exact ⟨by rw [HFE.out, HM.out, ← HE.out, ← HC.out]; rfl, Q5.out⟩
end Go.Proofs.YtclapheglgiokaaDoor

/-
  A region that draws its order, gone through by hand: operations that only reckon or read what nobody writes are taken first, in a given order; then the others, one by one.
-/
namespace Go.Proofs.YtclapheglgiokaaDoor
open Go.RowKit
set_option linter.unusedVariables false
set_option maxRecDepth 20000

def opsOf : Code → Nat → Option (Array Oper)
  | .region id ops _, k => if id == k then some ops else none
  | .seq a b, k => (opsOf a k).orElse fun _ => opsOf b k
  | .cond _ a b, k => (opsOf a k).orElse fun _ => opsOf b k
  | .block _ b, k => opsOf b k
  | .loop b, k => opsOf b k
  | .scope b, k => opsOf b k
  | _, _ => none
abbrev RofN (f : Func) (k : Nat) : Array Oper := ((f.body).bind (opsOf · k)).getD #[]
def putL (ops : Array Oper) : List (Nat × Value) → Act → Act
  | [], a => a
  | x :: l, a => putL ops l (a.put ((ops[x.1]?).bind (·.dst)) x.2)
def setL : List (Nat × Value) → Array Bool → Array Bool
  | [], L => L
  | x :: l, L => setL l (L.setIfInBounds x.1 true)
def Chn (P : Program) (ops : Array Oper) (S : World → Prop) : List (Nat × Value) → Array Bool → Act → Prop
  | [], _, _ => True
  | x :: l, L, a => (Region.free .any ops L x.1 = true ∧ (Region.ready .any ops L).contains x.1 = true ∧ (ops[x.1]?).isSome = true ∧ Region.wanted ((ops[x.1]?).getD default) (yielded ops a.tmps) = true ∧
      ∀ w, S w → (execOp a.eval ((ops[x.1]?).getD default)).run P w = .ok (.value x.2) w) ∧ Chn P ops S l (L.setIfInBounds x.1 true) (a.put ((ops[x.1]?).bind (·.dst)) x.2)
theorem chn_take {P : Program} {ops : Array Oper} {Q : Exit → Act → World → Prop} {S : World → Prop} {w : World} (hs : Region.noSelect ops = true) (hQ : ∀ c a d v w, Q (.panic c) (a.put d v) w → Q (.panic c) a w) (hS : S w) (fuel : Nat) :
    ∀ (l : List (Nat × Value)) (L : Array Bool) (a : Act), Chn P ops S l L a → wpAnyH P .any ops Q S fuel (setL l L) (putL ops l a) w → wpAnyH P .any ops Q S (fuel + l.length) L a w
  | [], _, _, _, h => h
  | x :: l, L, a, ⟨⟨y1, y2, y3, y4, y5⟩, hc⟩, h => by
    obtain ⟨o, ho⟩ := Option.isSome_iff_exists.1 y3
    have ih := chn_take hs hQ hS fuel l _ _ hc h
    rw [ho] at y4 y5 ih
    exact wpAnyH_take (v := x.2) ho hs y1 y2 (fun c a w => hQ c a _ _ w) (.inl ⟨y4, y5⟩) hS ih
theorem wpOp_skip {ops : Array Oper} {i : Nat} {a : Act} {w w' : World} {K : Act → World → Prop} {R : Exit → Act → World → Prop} (d : Option Tmp) (hi : (ops[i]?).isSome = true) (hd : (ops[i]?).bind (·.dst) = d) (hw : Region.wanted ((ops[i]?).getD default) (yielded ops a.tmps) = true)
    (hr : (execOp a.eval ((ops[i]?).getD default)).run Tryd.prog w = .ok .skip w') (h : K (a.put d undef) w') : wpOp Tryd.prog ops R i K a w := by
  obtain ⟨o, ho⟩ := Option.isSome_iff_exists.1 hi
  rw [ho] at hd hw hr
  unfold wpOp
  simp only [ho]
  have hw' : Region.wanted o (yielded ops a.tmps) = true := hw
  rw [if_pos hw']
  refine .inl ?_
  unfold Oper.wp
  have hr' : (execOp a.eval o).run Tryd.prog w = .ok .skip w' := hr
  rw [hr']
  have hd' : o.dst = d := hd
  rw [← hd'] at h
  exact h
theorem wpOp_val {ops : Array Oper} {i : Nat} {a : Act} {w w' : World} {K : Act → World → Prop} {R : Exit → Act → World → Prop} {v : Value} (d : Option Tmp) (hi : (ops[i]?).isSome = true) (hd : (ops[i]?).bind (·.dst) = d) (hw : Region.wanted ((ops[i]?).getD default) (yielded ops a.tmps) = true)
    (hr : (execOp a.eval ((ops[i]?).getD default)).run Tryd.prog w = .ok (.value v) w') (h : K (a.put d v) w') : wpOp Tryd.prog ops R i K a w := by
  obtain ⟨o, ho⟩ := Option.isSome_iff_exists.1 hi
  rw [ho] at hd hw hr
  unfold wpOp
  simp only [ho]
  have hw' : Region.wanted o (yielded ops a.tmps) = true := hw
  rw [if_pos hw']
  refine .inl ?_
  unfold Oper.wp
  have hr' : (execOp a.eval o).run Tryd.prog w = .ok (.value v) w' := hr
  rw [hr']
  have hd' : o.dst = d := hd
  rw [← hd'] at h
  exact h
theorem wpOp_call {ops : Array Oper} {i : Nat} {a : Act} {w : World} {K : Act → World → Prop} {R : Exit → Act → World → Prop} (d : Option Tmp) (hi : (ops[i]?).isSome = true) (hd : (ops[i]?).bind (·.dst) = d) (hw : Region.wanted ((ops[i]?).getD default) (yielded ops a.tmps) = true)
    (f : FuncId) (args : Array Value) (hr : (execOp a.eval ((ops[i]?).getD default)).run Tryd.prog w = .ok (.enter f args) w) {R0 : Ending → World → Prop} (hc : Calls Tryd.prog f args w R0) (v : Value) (hR : ∀ e w', R0 e w' → e = .returned v ∧ K (a.put d v) w') : wpOp Tryd.prog ops R i K a w := by
  obtain ⟨o, ho⟩ := Option.isSome_iff_exists.1 hi
  rw [ho] at hd hw hr
  unfold wpOp
  simp only [ho]
  have hw' : Region.wanted o (yielded ops a.tmps) = true := hw
  rw [if_pos hw']
  refine .inl ?_
  unfold Oper.wp
  have hr' : (execOp a.eval o).run Tryd.prog w = .ok (.enter f args) w := hr
  rw [hr']
  have hd' : o.dst = d := hd
  refine hc.mono ?_
  intro e w' h
  obtain ⟨rfl, h2⟩ := hR e w' h
  rw [← hd'] at h2
  exact h2
theorem wpAnyH_one {P : Program} {ops : Array Oper} {Q : Exit → Act → World → Prop} {S : World → Prop} {i fuel : Nat} {L : Array Bool} {a : Act} {w : World} (hr : Region.ready .any ops L = [i])
    (h : wpOp P ops Q i (fun a' w' => S w' ∧ wpAnyH P .any ops Q S fuel (L.setIfInBounds i true) a' w') a w) : wpAnyH P .any ops Q S (fuel + 1) L a w :=
  wpAnyH_all hr (by simp) (fun j hj => by
    have e : j = i := by simpa using hj
    rw [e]; exact h)
theorem wpOp_callx {ops : Array Oper} {i : Nat} {a : Act} {w : World} {K : Act → World → Prop} {R : Exit → Act → World → Prop} (d : Option Tmp) (hi : (ops[i]?).isSome = true) (hd : (ops[i]?).bind (·.dst) = d) (hw : Region.wanted ((ops[i]?).getD default) (yielded ops a.tmps) = true)
    (f : FuncId) (args : Array Value) (hr : (execOp a.eval ((ops[i]?).getD default)).run Tryd.prog w = .ok (.enter f args) w) {R0 : Ending → World → Prop} (hc : Calls Tryd.prog f args w R0) (hR : ∀ e w', R0 e w' → ∃ v, e = .returned v ∧ K (a.put d v) w') : wpOp Tryd.prog ops R i K a w := by
  obtain ⟨o, ho⟩ := Option.isSome_iff_exists.1 hi
  rw [ho] at hd hw hr
  unfold wpOp
  simp only [ho]
  have hw' : Region.wanted o (yielded ops a.tmps) = true := hw
  rw [if_pos hw']
  refine .inl ?_
  unfold Oper.wp
  have hr' : (execOp a.eval o).run Tryd.prog w = .ok (.enter f args) w := hr
  rw [hr']
  have hd' : o.dst = d := hd
  refine hc.mono ?_
  intro e w' h
  obtain ⟨v, rfl, h2⟩ := hR e w' h
  rw [← hd'] at h2
  exact h2
abbrev actO (ini : List Value) (n : Nat) : Act := ⟨(ini ++ List.replicate n undef).toArray, []⟩
theorem rgA {c : Code} {Q : Exit → Act → World → Prop} {w : World} {A B : Act} (e : B = A) (h : c.wp Tryd.prog Q A w) : c.wp Tryd.prog Q B w := by rw [e]; exact h
theorem ld_any {o : Oper} {a : Act} {w : World} {v : Value} (t : TypeId) (x : Operand) (g p : Nat) (ho : o.op = .load t x) (hx : a.eval x = .pointer (some ⟨g, p, none⟩)) (hst : (loadVar t ⟨g, p, none⟩).run Tryd.prog w = .ok v w) :
    (execOp a.eval o).run Tryd.prog w = .ok (.value v) w := by
  unfold execOp
  simp only [ho, hx, Instr.loadAt, Instr.sureAddr, Sem.run_bind, Sem.run_pure, Result.andThen_ok, hst]
theorem st_any {o : Oper} {a : Act} {w w' : World} {v : Value} (t : TypeId) (x y : Operand) (g p : Nat) (ho : o.op = .store t x y) (hx : a.eval x = .pointer (some ⟨g, p, none⟩)) (hy : a.eval y = v) (hst : (storeVar t ⟨g, p, none⟩ v).run Tryd.prog w = .ok () w') :
    (execOp a.eval o).run Tryd.prog w = .ok .skip w' := by
  unfold execOp
  simp only [ho, hx, hy, Instr.storeAt, Instr.sureAddr, Sem.run_bind, Sem.run_pure, Result.andThen_ok, hst]
theorem ld9 {w : World} {b j : Nat} {v : ByteArray} (hc : w.cell? ⟨b, j, none⟩ = some (.string v)) : (loadVar 9 ⟨b, j, none⟩).run Tryd.prog w = .ok (.string v) w := by simp [loadVar, go_sem, hc]
theorem ld22 {w : World} {b j : Nat} {a : Option Addr} {n c : Nat} (hc : w.cell? ⟨b, j, none⟩ = some (.slice a n c)) : (loadVar 22 ⟨b, j, none⟩).run Tryd.prog w = .ok (.slice a n c) w := by simp [loadVar, go_sem, hc]
theorem ld3 {w : World} {b j : Nat} {v : Int} (hc : w.cell? ⟨b, j, none⟩ = some (.int .i64 v)) : (loadVar 3 ⟨b, j, none⟩).run Tryd.prog w = .ok (.int .i64 v) w := by simp [loadVar, go_sem, hc]
end Go.Proofs.YtclapheglgiokaaDoor

/-
  The region of the statements' reading of a request that fills the request: it draws its order, calls once and stores. Gone through by hand.
-/
namespace Go.Proofs.YtclapheglgiokaaDoor
open Go.RowKit
set_option linter.unusedVariables false
set_option maxRecDepth 20000

/-- The world beside the result's own block b2 is as it was, and the reading's block b4 holds the request. -/
def MS (w : World) (b2 b4 : Nat) (m sc a p : ByteArray) (y : Sv) (n : Int) (u : World) : Prop := Keep (fun i => i = b2) w u ∧ Blk u b4 34 (rqC m sc a p y n) ∧ b2 ≠ b4
theorem ms_q {w : World} {b2 b4 : Nat} {m sc a p : ByteArray} {y : Sv} {n : Int} {u v : World} (h : MS w b2 b4 m sc a p y n u) (q : Q u v) : MS w b2 b4 m sc a p y n v := ⟨h.1.trans (Keep.ofQ q), h.2.1.q q, h.2.2⟩
theorem Keep.blk {F : Nat → Prop} {a b : World} {g t : Nat} {cs : Array Value} (h : Blk a g t cs) (k : Keep F a b) (hne : ¬ F g) : Blk b g t cs := (k.block g h.lt hne).trans h
def mkrz0 (b2 b4 : Nat) (m sc a p : ByteArray) (y : Sv) (n CE : Int)  : List (Nat × Value) := [(0, .pointer (some ⟨b4, 0, none⟩)), (1, .string m), (2, .pointer (some ⟨b4, 1, none⟩)), (3, .string sc), (4, .pointer (some ⟨b4, 2, none⟩)), (5, .string a), (6, .pointer (some ⟨b4, 3, none⟩)), (7, .string p), (8, .pointer (some ⟨b4, 4, none⟩)), (9, .slice y.a y.n y.c), (11, .pointer (some ⟨b4, 5, none⟩)), (12, .int .i64 n), (14, .int .i64 CE), (15, .bool (CE == 0))]
set_option maxHeartbeats 8000000 in
theorem mkrg0 (b2 b4 : Nat) (m sc a p : ByteArray) (y : Sv) (n CE : Int)  {x0 x1 x3 x6 x7 x8 x9 x10 x11 x12 x13 x14 x15 x16 x17 x18 x19 x20 x21 x22 x23 x24 x25 x26 : Value} (w : World)  : Chn Tryd.prog (RofN Tryd.f9 2) (MS w b2 b4 m sc a p y n) (mkrz0 b2 b4 m sc a p y n CE ) (#[false, false, false, false, false, false, false, false, false, false, false, false, false, false, false, false, false, false] : Array Bool) (⟨#[x0, x1, .pointer (some ⟨b2, 0, none⟩), x3, .pointer (some ⟨b4, 0, none⟩), .int .i64 CE, x6, x7, x8, x9, x10, x11, x12, x13, x14, x15, x16, x17, x18, x19, x20, x21, x22, x23, x24, x25, x26], []⟩ : Act) :=
  ⟨⟨by kernel_rfl, by kernel_rfl, by kernel_rfl, by kernel_rfl, fun u h => by kernel_rfl⟩,
    ⟨by kernel_rfl, by kernel_rfl, by kernel_rfl, by kernel_rfl, fun u h => ld_any 9 (.tmp 11) b4 0 (by kernel_rfl) (by kernel_rfl) (ld9 (h.2.1.cell 0))⟩,
    ⟨by kernel_rfl, by kernel_rfl, by kernel_rfl, by kernel_rfl, fun u h => by kernel_rfl⟩,
    ⟨by kernel_rfl, by kernel_rfl, by kernel_rfl, by kernel_rfl, fun u h => ld_any 9 (.tmp 13) b4 1 (by kernel_rfl) (by kernel_rfl) (ld9 (h.2.1.cell 1))⟩,
    ⟨by kernel_rfl, by kernel_rfl, by kernel_rfl, by kernel_rfl, fun u h => by kernel_rfl⟩,
    ⟨by kernel_rfl, by kernel_rfl, by kernel_rfl, by kernel_rfl, fun u h => ld_any 9 (.tmp 15) b4 2 (by kernel_rfl) (by kernel_rfl) (ld9 (h.2.1.cell 2))⟩,
    ⟨by kernel_rfl, by kernel_rfl, by kernel_rfl, by kernel_rfl, fun u h => by kernel_rfl⟩,
    ⟨by kernel_rfl, by kernel_rfl, by kernel_rfl, by kernel_rfl, fun u h => ld_any 9 (.tmp 17) b4 3 (by kernel_rfl) (by kernel_rfl) (ld9 (h.2.1.cell 3))⟩,
    ⟨by kernel_rfl, by kernel_rfl, by kernel_rfl, by kernel_rfl, fun u h => by kernel_rfl⟩,
    ⟨by kernel_rfl, by kernel_rfl, by kernel_rfl, by kernel_rfl, fun u h => ld_any 22 (.tmp 19) b4 4 (by kernel_rfl) (by kernel_rfl) (ld22 (h.2.1.cell 4))⟩,
    ⟨by kernel_rfl, by kernel_rfl, by kernel_rfl, by kernel_rfl, fun u h => by kernel_rfl⟩,
    ⟨by kernel_rfl, by kernel_rfl, by kernel_rfl, by kernel_rfl, fun u h => ld_any 3 (.tmp 22) b4 5 (by kernel_rfl) (by kernel_rfl) (ld3 (h.2.1.cell 5))⟩,
    ⟨by kernel_rfl, by kernel_rfl, by kernel_rfl, by kernel_rfl, fun u h => by kernel_rfl⟩,
    ⟨by kernel_rfl, by kernel_rfl, by kernel_rfl, by kernel_rfl, fun u h => by kernel_rfl⟩,
    trivial⟩
def mkrz1 (b2 b4 : Nat) (m sc a p : ByteArray) (y : Sv) (n CE : Int)  (g : Nat) : List (Nat × Value) := [(13, .agg (rqC m sc a p ⟨some ⟨g, 0, none⟩, y.n, y.n⟩ n))]
set_option maxHeartbeats 8000000 in
theorem mkrg1 (b2 b4 : Nat) (m sc a p : ByteArray) (y : Sv) (n CE : Int)  (g : Nat) {x0 x1 x3 x6 x7 x8 x9 x10 x24 : Value} (w : World)  : Chn Tryd.prog (RofN Tryd.f9 2) (MS w b2 b4 m sc a p y n) (mkrz1 b2 b4 m sc a p y n CE  g) (#[true, true, true, true, true, true, true, true, true, true, true, true, true, false, true, true, false, false] : Array Bool) (⟨#[x0, x1, .pointer (some ⟨b2, 0, none⟩), x3, .pointer (some ⟨b4, 0, none⟩), .int .i64 CE, x6, x7, x8, x9, x10, .pointer (some ⟨b4, 0, none⟩), .string m, .pointer (some ⟨b4, 1, none⟩), .string sc, .pointer (some ⟨b4, 2, none⟩), .string a, .pointer (some ⟨b4, 3, none⟩), .string p, .pointer (some ⟨b4, 4, none⟩), .slice y.a y.n y.c, .slice (some ⟨g, 0, none⟩) y.n y.n, .pointer (some ⟨b4, 5, none⟩), .int .i64 n, x24, .int .i64 CE, .bool (CE == 0)], []⟩ : Act) :=
  ⟨⟨by kernel_rfl, by kernel_rfl, by kernel_rfl, by kernel_rfl, fun u h => by kernel_rfl⟩,
    trivial⟩
def mkrz2 (b2 b4 : Nat) (m sc a p : ByteArray) (y : Sv) (n CE : Int)  (g : Nat) : List (Nat × Value) := [(17, .bool (CE == 0))]
set_option maxHeartbeats 8000000 in
theorem mkrg2 (b2 b4 : Nat) (m sc a p : ByteArray) (y : Sv) (n CE : Int)  (g : Nat) {x0 x1 x3 x6 x7 x8 x9 x10 : Value} (w : World)  : Chn Tryd.prog (RofN Tryd.f9 2) (MS w b2 b4 m sc a p y n) (mkrz2 b2 b4 m sc a p y n CE  g) (#[true, true, true, true, true, true, true, true, true, true, true, true, true, true, true, true, true, false] : Array Bool) (⟨#[x0, x1, .pointer (some ⟨b2, 0, none⟩), x3, .pointer (some ⟨b4, 0, none⟩), .int .i64 CE, x6, x7, x8, x9, x10, .pointer (some ⟨b4, 0, none⟩), .string m, .pointer (some ⟨b4, 1, none⟩), .string sc, .pointer (some ⟨b4, 2, none⟩), .string a, .pointer (some ⟨b4, 3, none⟩), .string p, .pointer (some ⟨b4, 4, none⟩), .slice y.a y.n y.c, .slice (some ⟨g, 0, none⟩) y.n y.n, .pointer (some ⟨b4, 5, none⟩), .int .i64 n, .agg (rqC m sc a p ⟨some ⟨g, 0, none⟩, y.n, y.n⟩ n), .int .i64 CE, .bool (CE == 0)], []⟩ : Act) :=
  ⟨⟨by kernel_rfl, by kernel_rfl, by kernel_rfl, by kernel_rfl, fun u h => by kernel_rfl⟩,
    trivial⟩
set_option maxHeartbeats 16000000 in
theorem mkr (b2 b4 : Nat) (m sc a p : ByteArray) (y : Sv) (n CE : Int) {x0 x1 x3 x6 x7 x8 x9 x10 x11 x12 x13 x14 x15 x16 x17 x18 x19 x20 x21 x22 x23 x24 x25 x26 : Value} (w : World) (R : Exit → Act → World → Prop) (hQ : ∀ c a d v w, R (.panic c) (a.put d v) w → R (.panic c) a w)
    (hS : MS w b2 b4 m sc a p y n w) (hB : Blk w b2 24 (rqC ⟨#[]⟩ ⟨#[]⟩ ⟨#[]⟩ ⟨#[]⟩ ⟨none, 0, 0⟩ 0)) (fs : List Fd)
    (HC : ∀ W, Q w W → Calls Tryd.prog 22 #[.slice y.a y.n y.c] W fun e w' => ∃ g, e = .returned (.slice (some ⟨g, 0, none⟩) y.n y.n) ∧ Q W w' ∧ RowG w' ⟨some ⟨g, 0, none⟩, y.n, y.n⟩ fs ∧ W.heap.size ≤ g)
    (h : ∀ (g : Nat) (w2 : World), Q w w2 → RowG w2 ⟨some ⟨g, 0, none⟩, y.n, y.n⟩ fs → w.heap.size ≤ g → R .normal (⟨#[x0, x1, .pointer (some ⟨b2, 0, none⟩), .bool (CE == 0), .pointer (some ⟨b4, 0, none⟩), .int .i64 CE, x6, x7, x8, x9, x10, .pointer (some ⟨b4, 0, none⟩), .string m, .pointer (some ⟨b4, 1, none⟩), .string sc, .pointer (some ⟨b4, 2, none⟩), .string a, .pointer (some ⟨b4, 3, none⟩), .string p, .pointer (some ⟨b4, 4, none⟩), .slice y.a y.n y.c, .slice (some ⟨g, 0, none⟩) y.n y.n, .pointer (some ⟨b4, 5, none⟩), .int .i64 n, .agg (rqC m sc a p ⟨some ⟨g, 0, none⟩, y.n, y.n⟩ n), .int .i64 CE, .bool (CE == 0)], []⟩ : Act) (w2.setRow b2 (rqC m sc a p ⟨some ⟨g, 0, none⟩, y.n, y.n⟩ n))) :
    (Code.region 2 (RofN Tryd.f9 2) true).wp Tryd.prog R (⟨#[x0, x1, .pointer (some ⟨b2, 0, none⟩), x3, .pointer (some ⟨b4, 0, none⟩), .int .i64 CE, x6, x7, x8, x9, x10, x11, x12, x13, x14, x15, x16, x17, x18, x19, x20, x21, x22, x23, x24, x25, x26], []⟩ : Act) w := by
  refine wp_region_held (S := (MS w b2 b4 m sc a p y n)) (by kernel_rfl) ?_
  have hsz : (RofN Tryd.f9 2).size = 18 := by kernel_rfl
  rw [hsz]
  have hS0 : (MS w b2 b4 m sc a p y n) w.drew := ms_q hS ((Q.refl w).drew)
  refine chn_take (by kernel_rfl) hQ hS0 4 (mkrz0 b2 b4 m sc a p y n CE ) _ _ (mkrg0 b2 b4 m sc a p y n CE  w ) ?_
  have e0 : putL (RofN Tryd.f9 2) (mkrz0 b2 b4 m sc a p y n CE ) (⟨#[x0, x1, .pointer (some ⟨b2, 0, none⟩), x3, .pointer (some ⟨b4, 0, none⟩), .int .i64 CE, x6, x7, x8, x9, x10, x11, x12, x13, x14, x15, x16, x17, x18, x19, x20, x21, x22, x23, x24, x25, x26], []⟩ : Act) = (⟨#[x0, x1, .pointer (some ⟨b2, 0, none⟩), x3, .pointer (some ⟨b4, 0, none⟩), .int .i64 CE, x6, x7, x8, x9, x10, .pointer (some ⟨b4, 0, none⟩), .string m, .pointer (some ⟨b4, 1, none⟩), .string sc, .pointer (some ⟨b4, 2, none⟩), .string a, .pointer (some ⟨b4, 3, none⟩), .string p, .pointer (some ⟨b4, 4, none⟩), .slice y.a y.n y.c, x21, .pointer (some ⟨b4, 5, none⟩), .int .i64 n, x24, .int .i64 CE, .bool (CE == 0)], []⟩ : Act) := by kernel_rfl
  have l0 : setL (mkrz0 b2 b4 m sc a p y n CE ) (Array.replicate 18 false) = (#[true, true, true, true, true, true, true, true, true, true, false, true, true, false, true, true, false, false] : Array Bool) := by kernel_rfl
  rw [e0, l0]
  clear e0 l0
  refine wpAnyH_one (i := 10) (by kernel_rfl) ?_
  refine wpOp_callx (some 21) (by kernel_rfl) (by kernel_rfl) (by kernel_rfl) 22 #[.slice y.a y.n y.c] (by kernel_rfl) (HC w.drew (Q.refl w).drew) ?_
  rintro e w2 ⟨g, rfl, q2, r2, n2⟩
  have hS1 : (MS w b2 b4 m sc a p y n) w2 := ms_q hS0 (q2)
  refine ⟨_, rfl, hS1, ?_⟩
  have e0 : (⟨#[x0, x1, .pointer (some ⟨b2, 0, none⟩), x3, .pointer (some ⟨b4, 0, none⟩), .int .i64 CE, x6, x7, x8, x9, x10, .pointer (some ⟨b4, 0, none⟩), .string m, .pointer (some ⟨b4, 1, none⟩), .string sc, .pointer (some ⟨b4, 2, none⟩), .string a, .pointer (some ⟨b4, 3, none⟩), .string p, .pointer (some ⟨b4, 4, none⟩), .slice y.a y.n y.c, x21, .pointer (some ⟨b4, 5, none⟩), .int .i64 n, x24, .int .i64 CE, .bool (CE == 0)], []⟩ : Act).put (some 21) (.slice (some ⟨g, 0, none⟩) y.n y.n) = (⟨#[x0, x1, .pointer (some ⟨b2, 0, none⟩), x3, .pointer (some ⟨b4, 0, none⟩), .int .i64 CE, x6, x7, x8, x9, x10, .pointer (some ⟨b4, 0, none⟩), .string m, .pointer (some ⟨b4, 1, none⟩), .string sc, .pointer (some ⟨b4, 2, none⟩), .string a, .pointer (some ⟨b4, 3, none⟩), .string p, .pointer (some ⟨b4, 4, none⟩), .slice y.a y.n y.c, .slice (some ⟨g, 0, none⟩) y.n y.n, .pointer (some ⟨b4, 5, none⟩), .int .i64 n, x24, .int .i64 CE, .bool (CE == 0)], []⟩ : Act) := by kernel_rfl
  have l0 : (#[true, true, true, true, true, true, true, true, true, true, false, true, true, false, true, true, false, false] : Array Bool).setIfInBounds 10 true = (#[true, true, true, true, true, true, true, true, true, true, true, true, true, false, true, true, false, false] : Array Bool) := by kernel_rfl
  rw [e0, l0]
  clear e0 l0
  refine chn_take (by kernel_rfl) hQ hS1 2 (mkrz1 b2 b4 m sc a p y n CE  g) _ _ (mkrg1 b2 b4 m sc a p y n CE  g w ) ?_
  have e0 : putL (RofN Tryd.f9 2) (mkrz1 b2 b4 m sc a p y n CE  g) (⟨#[x0, x1, .pointer (some ⟨b2, 0, none⟩), x3, .pointer (some ⟨b4, 0, none⟩), .int .i64 CE, x6, x7, x8, x9, x10, .pointer (some ⟨b4, 0, none⟩), .string m, .pointer (some ⟨b4, 1, none⟩), .string sc, .pointer (some ⟨b4, 2, none⟩), .string a, .pointer (some ⟨b4, 3, none⟩), .string p, .pointer (some ⟨b4, 4, none⟩), .slice y.a y.n y.c, .slice (some ⟨g, 0, none⟩) y.n y.n, .pointer (some ⟨b4, 5, none⟩), .int .i64 n, x24, .int .i64 CE, .bool (CE == 0)], []⟩ : Act) = (⟨#[x0, x1, .pointer (some ⟨b2, 0, none⟩), x3, .pointer (some ⟨b4, 0, none⟩), .int .i64 CE, x6, x7, x8, x9, x10, .pointer (some ⟨b4, 0, none⟩), .string m, .pointer (some ⟨b4, 1, none⟩), .string sc, .pointer (some ⟨b4, 2, none⟩), .string a, .pointer (some ⟨b4, 3, none⟩), .string p, .pointer (some ⟨b4, 4, none⟩), .slice y.a y.n y.c, .slice (some ⟨g, 0, none⟩) y.n y.n, .pointer (some ⟨b4, 5, none⟩), .int .i64 n, .agg (rqC m sc a p ⟨some ⟨g, 0, none⟩, y.n, y.n⟩ n), .int .i64 CE, .bool (CE == 0)], []⟩ : Act) := by kernel_rfl
  have l0 : setL (mkrz1 b2 b4 m sc a p y n CE  g) (#[true, true, true, true, true, true, true, true, true, true, true, true, true, false, true, true, false, false] : Array Bool) = (#[true, true, true, true, true, true, true, true, true, true, true, true, true, true, true, true, false, false] : Array Bool) := by kernel_rfl
  rw [e0, l0]
  clear e0 l0
  have hb2 : Blk w2 b2 24 (rqC ⟨#[]⟩ ⟨#[]⟩ ⟨#[]⟩ ⟨#[]⟩ ⟨none, 0, 0⟩ 0) := hB.drew.q q2
  have hst := run_storeVar_row (P := Tryd.prog) w2 b2 24 24 (rqC ⟨#[]⟩ ⟨#[]⟩ ⟨#[]⟩ ⟨#[]⟩ ⟨none, 0, 0⟩ 0) (rqC m sc a p ⟨some ⟨g, 0, none⟩, y.n, y.n⟩ n) hb2 (info24 m sc a p _ n) rfl (by kernel_rfl)
  refine wpAnyH_one (i := 16) (by kernel_rfl) ?_
  refine wpOp_skip (w' := w2.setRow b2 (rqC m sc a p ⟨some ⟨g, 0, none⟩, y.n, y.n⟩ n)) none (by kernel_rfl) (by kernel_rfl) (by kernel_rfl) (st_any 24 (.tmp 2) (.tmp 24) b2 0 (by kernel_rfl) (by kernel_rfl) (by kernel_rfl) hst) ?_
  have hS9 : (MS w b2 b4 m sc a p y n) (w2.setRow b2 (rqC m sc a p ⟨some ⟨g, 0, none⟩, y.n, y.n⟩ n)) := ⟨hS1.1.setRow b2 _ (.inl rfl), Keep.blk hS1.2.1 ((Keep.refl (fun i => i = b2) w2).setRow b2 _ (.inl rfl)) (fun e => hS1.2.2 e.symm), hS1.2.2⟩
  refine ⟨hS9, ?_⟩
  have e0 : (⟨#[x0, x1, .pointer (some ⟨b2, 0, none⟩), x3, .pointer (some ⟨b4, 0, none⟩), .int .i64 CE, x6, x7, x8, x9, x10, .pointer (some ⟨b4, 0, none⟩), .string m, .pointer (some ⟨b4, 1, none⟩), .string sc, .pointer (some ⟨b4, 2, none⟩), .string a, .pointer (some ⟨b4, 3, none⟩), .string p, .pointer (some ⟨b4, 4, none⟩), .slice y.a y.n y.c, .slice (some ⟨g, 0, none⟩) y.n y.n, .pointer (some ⟨b4, 5, none⟩), .int .i64 n, .agg (rqC m sc a p ⟨some ⟨g, 0, none⟩, y.n, y.n⟩ n), .int .i64 CE, .bool (CE == 0)], []⟩ : Act).put none undef = (⟨#[x0, x1, .pointer (some ⟨b2, 0, none⟩), x3, .pointer (some ⟨b4, 0, none⟩), .int .i64 CE, x6, x7, x8, x9, x10, .pointer (some ⟨b4, 0, none⟩), .string m, .pointer (some ⟨b4, 1, none⟩), .string sc, .pointer (some ⟨b4, 2, none⟩), .string a, .pointer (some ⟨b4, 3, none⟩), .string p, .pointer (some ⟨b4, 4, none⟩), .slice y.a y.n y.c, .slice (some ⟨g, 0, none⟩) y.n y.n, .pointer (some ⟨b4, 5, none⟩), .int .i64 n, .agg (rqC m sc a p ⟨some ⟨g, 0, none⟩, y.n, y.n⟩ n), .int .i64 CE, .bool (CE == 0)], []⟩ : Act) := by kernel_rfl
  have l0 : (#[true, true, true, true, true, true, true, true, true, true, true, true, true, true, true, true, false, false] : Array Bool).setIfInBounds 16 true = (#[true, true, true, true, true, true, true, true, true, true, true, true, true, true, true, true, true, false] : Array Bool) := by kernel_rfl
  rw [e0, l0]
  clear e0 l0
  refine chn_take (by kernel_rfl) hQ hS9 0 (mkrz2 b2 b4 m sc a p y n CE  g) _ _ (mkrg2 b2 b4 m sc a p y n CE  g w ) ?_
  have e0 : putL (RofN Tryd.f9 2) (mkrz2 b2 b4 m sc a p y n CE  g) (⟨#[x0, x1, .pointer (some ⟨b2, 0, none⟩), x3, .pointer (some ⟨b4, 0, none⟩), .int .i64 CE, x6, x7, x8, x9, x10, .pointer (some ⟨b4, 0, none⟩), .string m, .pointer (some ⟨b4, 1, none⟩), .string sc, .pointer (some ⟨b4, 2, none⟩), .string a, .pointer (some ⟨b4, 3, none⟩), .string p, .pointer (some ⟨b4, 4, none⟩), .slice y.a y.n y.c, .slice (some ⟨g, 0, none⟩) y.n y.n, .pointer (some ⟨b4, 5, none⟩), .int .i64 n, .agg (rqC m sc a p ⟨some ⟨g, 0, none⟩, y.n, y.n⟩ n), .int .i64 CE, .bool (CE == 0)], []⟩ : Act) = (⟨#[x0, x1, .pointer (some ⟨b2, 0, none⟩), .bool (CE == 0), .pointer (some ⟨b4, 0, none⟩), .int .i64 CE, x6, x7, x8, x9, x10, .pointer (some ⟨b4, 0, none⟩), .string m, .pointer (some ⟨b4, 1, none⟩), .string sc, .pointer (some ⟨b4, 2, none⟩), .string a, .pointer (some ⟨b4, 3, none⟩), .string p, .pointer (some ⟨b4, 4, none⟩), .slice y.a y.n y.c, .slice (some ⟨g, 0, none⟩) y.n y.n, .pointer (some ⟨b4, 5, none⟩), .int .i64 n, .agg (rqC m sc a p ⟨some ⟨g, 0, none⟩, y.n, y.n⟩ n), .int .i64 CE, .bool (CE == 0)], []⟩ : Act) := by kernel_rfl
  have l0 : setL (mkrz2 b2 b4 m sc a p y n CE  g) (#[true, true, true, true, true, true, true, true, true, true, true, true, true, true, true, true, true, false] : Array Bool) = (#[true, true, true, true, true, true, true, true, true, true, true, true, true, true, true, true, true, true] : Array Bool) := by kernel_rfl
  rw [e0, l0]
  clear e0 l0
  refine wpAnyH_done (by kernel_rfl) ?_ _
  exact h g w2 ((Q.refl w).drew.trans q2) r2 n2

end Go.Proofs.YtclapheglgiokaaDoor

/-
  The statements' reading of a request: a contract that their walks use.
-/
namespace Go.Proofs.YtclapheglgiokaaDoor
open Go.RowKit
set_option linter.unusedVariables false
set_option maxRecDepth 20000

theorem rhead_con (m sc a p : ByteArray) (x : Sv) (n : Int) (bd : Bool) (w : World) (hc : eqS m kCNT = true) : Calls Tryd.prog 12 #[.agg (rqC m sc a p x n), .bool bd] w fun e w' => e = .returned (.tuple #[.string ⟨#[]⟩, .int .i64 50]) ∧ Q w w' := by
  obtain ⟨xa, xn, xc⟩ := x
  have hmc : (m.toList == [67, 79, 78, 78, 69, 67, 84]) = true := (beq_lit m _).trans hc
  have HQ1 := hid ((Q.refl w).alloc (.cells (rqC m sc a p ⟨xa, xn, xc⟩ n) 34))
  have HB1 := hid (blk_new w (rqC m sc a p ⟨xa, xn, xc⟩ n) 34)
  clear hc
  go_enter Tryd.func12, Tryd.ntmps12
  go_upto_region 1 with fail
  generalize hW : World.alloc w _ = W1 at *
  clear hW
  generalize hbq : w.heap.size = bq at HB1 ⊢
  have c10 : W1.cell? ⟨bq, 0, none⟩ = some (.string m) := HB1.out.cell 0
  clear hbq
  go_wp2
  go_ret2
  exact ⟨rfl, HQ1.out⟩
theorem RowG.cap {w : World} {y : Sv} {l : List Fd} (h : RowG w y l) : y.n ≤ y.c := by
  have hl := h.len
  rcases h.2 with ⟨_, h2, h3⟩ | ⟨g, off, cur, _, _, h1, _⟩
  · omega
  · exact h1
theorem RowG.fin' {w : World} {x : Sv} {l : List Fd} (h : RowG w x l) (hb : l.length ≤ 4398046511104) (hd : BdF l) : Fin w x l := ⟨h.seg, h.len, h.cap, hb, hd⟩
theorem res9 (tmps : Array Value) (w : World) (g : Nat) (e : Bool) (m s a p : ByteArray) (x : Sv) (n : Int) (h4 : tmps.getD 2 undef = .pointer (some ⟨g, 0, none⟩)) (h5 : tmps.getD 3 undef = .bool e) (hb : w.heap[g]? = some (.cells (rqC m s a p x n) 24 (0, 0))) :
    (results Tryd.f9 tmps).run Tryd.prog w = .ok (.tuple #[.agg (rqC m s a p x n), .bool e]) w := by
  have h4' : tmps[2]?.getD undef = .pointer (some ⟨g, 0, none⟩) := by simpa using h4
  have h5' : tmps[3]?.getD undef = .bool e := by simpa using h5
  have hl := run_loadVar_row w g 24 24 _ (0, 0) _ hb Tryd.underlying24 rfl (info24 m s a p x n)
  simp [results, Tryd.results9, h4', h5', asAddr, hl]
set_option maxHeartbeats 8000000 in
/-- What 'made' answers. -/
theorem made_any (x : Sv) (l : List Fd) (w : World) (h : Fin w x l) : Calls Tryd.prog 9 #[.slice x.a x.n x.c] w fun e w' => ∃ y : Sv, e = .returned (.tuple #[rqV (chR l 1048576 1073741824) y, .bool (chE l 1048576 1073741824 == 0)]) ∧ Q w w' ∧ RowG w' y (chR l 1048576 1073741824).fs ∧ New w.heap.size y ∧ y.n ≤ y.c := by
  obtain ⟨xa, xn, xc⟩ := x
  have HD := hid (fun W (q : Q w W) => dcheck_any ⟨xa, xn, xc⟩ l 1048576 1073741824 W (h.q q))
  dsimp only at HD
  have HLB := hid h.b
  have HBD := hid h.d
  have HV := hid (show ∀ y, chV l 1048576 1073741824 y = .tuple #[.agg (rqC (chR l 1048576 1073741824).m (chR l 1048576 1073741824).s (chR l 1048576 1073741824).a (chR l 1048576 1073741824).p y (chR l 1048576 1073741824).len), .int .i64 (chE l 1048576 1073741824)] from fun _ => rfl)
  have HRV := hid (show ∀ y, rqV (chR l 1048576 1073741824) y = .agg (rqC (chR l 1048576 1073741824).m (chR l 1048576 1073741824).s (chR l 1048576 1073741824).a (chR l 1048576 1073741824).p y (chR l 1048576 1073741824).len) from fun _ => rfl)
  have HFS := hid (show (chR l 1048576 1073741824).fs.length ≤ 4398046511104 ∧ BdF (chR l 1048576 1073741824).fs from by
    unfold chR
    split
    · exact ⟨Nat.le_trans (pln_len l) h.b, fun p hp => h.d p (List.mem_filter.1 hp).1⟩
    · exact ⟨Nat.zero_le _, fun p hp => by cases hp⟩)
  generalize rqV (chR l 1048576 1073741824) = RV at *
  generalize chE l 1048576 1073741824 = CE at *
  generalize (chR l 1048576 1073741824).m = m at *
  generalize (chR l 1048576 1073741824).s = sc at *
  generalize (chR l 1048576 1073741824).a = a at *
  generalize (chR l 1048576 1073741824).p = p at *
  generalize (chR l 1048576 1073741824).len = n at *
  generalize (chR l 1048576 1073741824).fs = fs at *
  clear h
  go_enter Tryd.func9, Tryd.ntmps9
  go_upto_region 1 with fail
  have HQ0 := hid ((Q.refl w).alloc (.cells #[.string ⟨#[]⟩, .string ⟨#[]⟩, .string ⟨#[]⟩, .string ⟨#[]⟩, .slice none 0 0, .int .i64 0] 24))
  have HB0 := hid (blk_new w #[.string ⟨#[]⟩, .string ⟨#[]⟩, .string ⟨#[]⟩, .string ⟨#[]⟩, .slice none 0 0, .int .i64 0] 24)
  generalize hW : World.alloc w _ = W0 at *
  clear hW
  generalize hbb : w.heap.size = b2 at HB0 ⊢
  have HBE := hid hbb
  clear hbb
  go_wp2_with fail
  refine (HD.out _ HQ0.out).mono ?_
  rintro e w1 ⟨⟨ya, yn, yc⟩, rfl, q1, r1, n1⟩
  rw [HV.out]
  have B1 := hid (HB0.out.q q1)
  have Q1 := hid (HQ0.out.trans q1)
  have R1 := hid r1
  clear q1 r1 n1 HB0 HQ0 HD
  go_upto_region 2 with fail
  have q2 : Q w1 (w1.alloc (.cells #[.string m, .string sc, .string a, .string p, .slice ya yn yc, .int .i64 n] 34)) := (Q.refl w1).alloc _
  have B2 := hid (B1.out.q q2)
  have B4 := hid (blk_new w1 #[.string m, .string sc, .string a, .string p, .slice ya yn yc, .int .i64 n] 34)
  have Q2 := hid (Q1.out.trans q2)
  have R2 := hid (R1.out.q q2)
  have hlt : b2 < w1.heap.size := B1.out.lt
  clear q2 B1 Q1 R1
  generalize hW : World.alloc w1 _ = W2 at *
  clear hW
  generalize w1.heap.size = b4 at *
  have hne : b2 ≠ b4 := by omega
  have HCP := hid (fun W (q : Q W2 W) => copy_any ⟨ya, yn, yc⟩ fs W ((R2.out.q q).fin' HFS.out.1 HFS.out.2))
  dsimp only at HCP
  clear hlt
  generalize hR : Code.region 2 _ true = CC
  have eR : CC = Code.region 2 (RofN Tryd.f9 2) true := hR.symm.trans (by kernel_rfl)
  clear hR
  subst eR
  refine wp_region_noPanic ?_
  refine mkr b2 b4 m sc a p ⟨ya, yn, yc⟩ n CE W2 _ ?_ ⟨Keep.refl _ _, B4.out, hne⟩ B2.out fs HCP.out ?_
  · exact fun _ _ _ _ _ h => h
  · intro g w5 q5 r5 n5
    refine NoPanic.normal ?_
    refine ‹∀ a w, Code.wp Tryd.prog _ _ a w → _› _ _ ?_
    dsimp only at r5 ⊢
    have hb5 := B2.out.q q5
    have BZ := hid (show (w5.setRow b2 (rqC m sc a p ⟨some ⟨g, 0, none⟩, yn, yn⟩ n)).heap[b2]? = some (.cells (rqC m sc a p ⟨some ⟨g, 0, none⟩, yn, yn⟩ n) 24 (0, 0)) from setRow_heap _ _ _ _ 24 _ hb5)
    have KZ := hid (show Keep (fun b => b = b2) w5 (w5.setRow b2 (rqC m sc a p ⟨some ⟨g, 0, none⟩, yn, yn⟩ n)) from (Keep.refl _ _).setRow _ _ (.inl rfl))
    have QZ := hid (show Q w (w5.setRow b2 (rqC m sc a p ⟨some ⟨g, 0, none⟩, yn, yn⟩ n)) from KZ.out.below (Q2.out.trans q5) (Q2.out.trans q5).size (fun i e => by have := HBE.out; omega))
    have RZ := hid (show RowG (w5.setRow b2 (rqC m sc a p ⟨some ⟨g, 0, none⟩, yn, yn⟩ n)) ⟨some ⟨g, 0, none⟩, yn, yn⟩ fs from Sub.keep r5 KZ.out (fun b e h => by
      have h1 : g = b := by simpa [blk] using e
      have h2 := B2.out.lt
      omega))
    have NZ := hid (show New w.heap.size ⟨some ⟨g, 0, none⟩, yn, yn⟩ from fun b e => by
      have h1 : g = b := by simpa [blk] using e
      have h2 := Q2.out.size
      omega)
    generalize hWZ : World.setRow _ _ _ = WZ at *
    clear hWZ hb5
    go_wp2
    refine bodyPost_ret (res9 _ _ b2 _ m sc a p ⟨some ⟨g, 0, none⟩, yn, yn⟩ n rfl rfl BZ.out) rfl ?_
    exact ⟨⟨some ⟨g, 0, none⟩, yn, yn⟩, by rw [HRV.out], QZ.out, RZ.out, NZ.out, Nat.le_refl _⟩
end Go.Proofs.YtclapheglgiokaaDoor

/-
  The region of the law on heads that compares: it draws its order and calls four times. Gone through by hand.
-/
namespace Go.Proofs.YtclapheglgiokaaDoor
open Go.RowKit
set_option linter.unusedVariables false
set_option maxRecDepth 20000

theorem eq9_any {o : Oper} {a : Act} {w : World} (x y : Operand) (s : ByteArray) (ho : o.op = .binOp BinOp.eql 9 x y 9) (hx : a.eval x = .string s) (hy : a.eval y = .string s) : (execOp a.eval o).run Tryd.prog w = .ok (.value (.bool true)) w := by
  unfold execOp
  simp only [ho, hx, hy]
  simp [go_sem, binOp, Op.stringOp]
theorem eq3_any {o : Oper} {a : Act} {w : World} (x y : Operand) (s : Int) (ho : o.op = .binOp BinOp.eql 3 x y 3) (hx : a.eval x = .int .i64 s) (hy : a.eval y = .int .i64 s) : (execOp a.eval o).run Tryd.prog w = .ok (.value (.bool true)) w := by
  unfold execOp
  simp only [ho, hx, hy]
  simp [go_sem, binOp]
theorem cv_any {o : Oper} {a : Act} {w : World} (x : Operand) (v : Value) (s : ByteArray) (ho : o.op = .convert 28 9 x) (hx : a.eval x = v) (hc : (convert 28 9 v).run Tryd.prog w = .ok (.string s) w) : (execOp a.eval o).run Tryd.prog w = .ok (.value (.string s)) w := by
  unfold execOp
  simp only [ho, hx]
  simp [go_sem, hc]
def hdrz1 (bA bB : Nat) (m sc a p : ByteArray) (sx sy y : Sv) (n e f : Int) (bd : Bool) (T : ByteArray)   : List (Nat × Value) := [(1, .bool true), (2, .slice y.a y.n y.c), (3, .string T), (4, .string T), (5, .bool true), (6, .bool true), (7, .bool true), (8, .int .i64 e), (9, .int .i64 e), (10, .bool true), (11, .bool true), (12, .bool true), (13, .agg (rqC m sc a p sx n)), (14, .bool bd), (16, .agg (rqC m sc a p sy n)), (17, .bool bd)]
set_option maxHeartbeats 8000000 in
theorem hdrg1 (bA bB : Nat) (m sc a p : ByteArray) (sx sy y : Sv) (n e f : Int) (bd : Bool) (T : ByteArray)   {x0 x2 x3 x4 x6 x12 x13 x14 x15 x16 x17 x18 x19 x20 x21 x22 x23 x24 x25 x26 x27 x28 x29 x30 x31 x32 x33 x34 x35 x36 x37 x38 x40 x41 x42 x43 x44 x45 x46 x47 x48 x49 x50 x51 x52 x53 x54 x55 x56 x57 x58 x59 x60 x61 x62 x63 x64 x65 x66 : Value} (w : World) (hA : Blk w bA 24 (rqC m sc a p sx n)) (hB : Blk w bB 34 (rqC m sc a p sy n)) (hcv : ∀ W, Q w W → (convert 28 9 (.slice y.a y.n y.c)).run Tryd.prog W = .ok (.string T) W) : Chn Tryd.prog (RofN Tryd.f3 7) (Q w) (hdrz1 bA bB m sc a p sx sy y n e f bd T  ) (#[true, false, false, false, false, false, false, false, false, false, false, false, false, false, false, false, false, false, false, false, false, false, false, false, false, false, false, false, false] : Array Bool) (⟨#[x0, .bool bd, x2, x3, x4, .pointer (some ⟨bA, 0, none⟩), x6, .slice y.a y.n y.c, .int .i64 e, .string T, .int .i64 e, .pointer (some ⟨bB, 0, none⟩), x12, x13, x14, x15, x16, x17, x18, x19, x20, x21, x22, x23, x24, x25, x26, x27, x28, x29, x30, x31, x32, x33, x34, x35, x36, x37, x38, .bool true, x40, x41, x42, x43, x44, x45, x46, x47, x48, x49, x50, x51, x52, x53, x54, x55, x56, x57, x58, x59, x60, x61, x62, x63, x64, x65, x66], []⟩ : Act) :=
  ⟨⟨by kernel_rfl, by kernel_rfl, by kernel_rfl, by kernel_rfl, fun u h => by kernel_rfl⟩,
    ⟨by kernel_rfl, by kernel_rfl, by kernel_rfl, by kernel_rfl, fun u h => by kernel_rfl⟩,
    ⟨by kernel_rfl, by kernel_rfl, by kernel_rfl, by kernel_rfl, fun u h => cv_any (.tmp 41) _ T (by kernel_rfl) (by kernel_rfl) (hcv u h)⟩,
    ⟨by kernel_rfl, by kernel_rfl, by kernel_rfl, by kernel_rfl, fun u h => by kernel_rfl⟩,
    ⟨by kernel_rfl, by kernel_rfl, by kernel_rfl, by kernel_rfl, fun u h => eq9_any (.tmp 42) (.tmp 43) T (by kernel_rfl) (by kernel_rfl) (by kernel_rfl)⟩,
    ⟨by kernel_rfl, by kernel_rfl, by kernel_rfl, by kernel_rfl, fun u h => by kernel_rfl⟩,
    ⟨by kernel_rfl, by kernel_rfl, by kernel_rfl, by kernel_rfl, fun u h => by kernel_rfl⟩,
    ⟨by kernel_rfl, by kernel_rfl, by kernel_rfl, by kernel_rfl, fun u h => by kernel_rfl⟩,
    ⟨by kernel_rfl, by kernel_rfl, by kernel_rfl, by kernel_rfl, fun u h => by kernel_rfl⟩,
    ⟨by kernel_rfl, by kernel_rfl, by kernel_rfl, by kernel_rfl, fun u h => eq3_any (.tmp 47) (.tmp 48) e (by kernel_rfl) (by kernel_rfl) (by kernel_rfl)⟩,
    ⟨by kernel_rfl, by kernel_rfl, by kernel_rfl, by kernel_rfl, fun u h => by kernel_rfl⟩,
    ⟨by kernel_rfl, by kernel_rfl, by kernel_rfl, by kernel_rfl, fun u h => by kernel_rfl⟩,
    ⟨by kernel_rfl, by kernel_rfl, by kernel_rfl, by kernel_rfl, fun u h => ld_any 24 (.tmp 5) bA 0 (by kernel_rfl) (by kernel_rfl) (run_loadVar_row u bA 24 24 _ (0, 0) _ (hA.q h) Tryd.underlying24 rfl (info24 m sc a p sx n))⟩,
    ⟨by kernel_rfl, by kernel_rfl, by kernel_rfl, by kernel_rfl, fun u h => by kernel_rfl⟩,
    ⟨by kernel_rfl, by kernel_rfl, by kernel_rfl, by kernel_rfl, fun u h => ld_any 34 (.tmp 11) bB 0 (by kernel_rfl) (by kernel_rfl) (run_loadVar_row u bB 34 34 _ (0, 0) _ (hB.q h) Tryd.underlying34 rfl (info34 m sc a p sy n))⟩,
    ⟨by kernel_rfl, by kernel_rfl, by kernel_rfl, by kernel_rfl, fun u h => by kernel_rfl⟩,
    trivial⟩
def hdrz2 (bA bB : Nat) (m sc a p : ByteArray) (sx sy y : Sv) (n e f : Int) (bd : Bool) (T : ByteArray)     : List (Nat × Value) := [(19, .bool true), (20, .bool true), (21, .bool true), (22, .pointer (some ⟨bA, 4, none⟩)), (23, .slice sx.a sx.n sx.c), (24, .pointer (some ⟨bB, 4, none⟩)), (25, .slice sy.a sy.n sy.c)]
set_option maxHeartbeats 8000000 in
theorem hdrg2 (bA bB : Nat) (m sc a p : ByteArray) (sx sy y : Sv) (n e f : Int) (bd : Bool) (T : ByteArray)     {x0 x2 x3 x4 x6 x12 x13 x14 x15 x16 x17 x18 x19 x20 x21 x22 x23 x24 x25 x26 x27 x28 x29 x30 x31 x32 x33 x34 x35 x36 x37 x38 x58 x59 x60 x61 x62 x63 x64 x65 x66 : Value} (w : World) (hA : Blk w bA 24 (rqC m sc a p sx n)) (hB : Blk w bB 34 (rqC m sc a p sy n)) (hcv : ∀ W, Q w W → (convert 28 9 (.slice y.a y.n y.c)).run Tryd.prog W = .ok (.string T) W) : Chn Tryd.prog (RofN Tryd.f3 7) (Q w) (hdrz2 bA bB m sc a p sx sy y n e f bd T    ) (#[true, true, true, true, true, true, true, true, true, true, true, true, true, true, true, true, true, true, true, false, false, false, false, false, false, false, false, false, false] : Array Bool) (⟨#[x0, .bool bd, x2, x3, x4, .pointer (some ⟨bA, 0, none⟩), x6, .slice y.a y.n y.c, .int .i64 e, .string T, .int .i64 e, .pointer (some ⟨bB, 0, none⟩), x12, x13, x14, x15, x16, x17, x18, x19, x20, x21, x22, x23, x24, x25, x26, x27, x28, x29, x30, x31, x32, x33, x34, x35, x36, x37, x38, .bool true, .bool true, .slice y.a y.n y.c, .string T, .string T, .bool true, .bool true, .bool true, .int .i64 e, .int .i64 e, .bool true, .bool true, .bool true, .agg (rqC m sc a p sx n), .bool bd, .int .i64 f, .agg (rqC m sc a p sy n), .bool bd, .int .i64 f, x58, x59, x60, x61, x62, x63, x64, x65, x66], []⟩ : Act) :=
  ⟨⟨by kernel_rfl, by kernel_rfl, by kernel_rfl, by kernel_rfl, fun u h => eq3_any (.tmp 54) (.tmp 57) f (by kernel_rfl) (by kernel_rfl) (by kernel_rfl)⟩,
    ⟨by kernel_rfl, by kernel_rfl, by kernel_rfl, by kernel_rfl, fun u h => by kernel_rfl⟩,
    ⟨by kernel_rfl, by kernel_rfl, by kernel_rfl, by kernel_rfl, fun u h => by kernel_rfl⟩,
    ⟨by kernel_rfl, by kernel_rfl, by kernel_rfl, by kernel_rfl, fun u h => by kernel_rfl⟩,
    ⟨by kernel_rfl, by kernel_rfl, by kernel_rfl, by kernel_rfl, fun u h => ld_any 22 (.tmp 61) bA 4 (by kernel_rfl) (by kernel_rfl) (ld22 ((hA.q h).cell 4))⟩,
    ⟨by kernel_rfl, by kernel_rfl, by kernel_rfl, by kernel_rfl, fun u h => by kernel_rfl⟩,
    ⟨by kernel_rfl, by kernel_rfl, by kernel_rfl, by kernel_rfl, fun u h => ld_any 22 (.tmp 63) bB 4 (by kernel_rfl) (by kernel_rfl) (ld22 ((hB.q h).cell 4))⟩,
    trivial⟩
def hdrz3 (bA bB : Nat) (m sc a p : ByteArray) (sx sy y : Sv) (n e f : Int) (bd : Bool) (T : ByteArray)      : List (Nat × Value) := [(27, .bool true), (28, .bool true)]
set_option maxHeartbeats 8000000 in
theorem hdrg3 (bA bB : Nat) (m sc a p : ByteArray) (sx sy y : Sv) (n e f : Int) (bd : Bool) (T : ByteArray)      {x0 x2 x3 x4 x6 x12 x13 x14 x15 x16 x17 x18 x19 x20 x21 x22 x23 x24 x25 x26 x27 x28 x29 x30 x31 x32 x33 x34 x35 x36 x37 x38 x66 : Value} (w : World)  : Chn Tryd.prog (RofN Tryd.f3 7) (Q w) (hdrz3 bA bB m sc a p sx sy y n e f bd T     ) (#[true, true, true, true, true, true, true, true, true, true, true, true, true, true, true, true, true, true, true, true, true, true, true, true, true, true, true, false, false] : Array Bool) (⟨#[x0, .bool bd, x2, x3, x4, .pointer (some ⟨bA, 0, none⟩), x6, .slice y.a y.n y.c, .int .i64 e, .string T, .int .i64 e, .pointer (some ⟨bB, 0, none⟩), x12, x13, x14, x15, x16, x17, x18, x19, x20, x21, x22, x23, x24, x25, x26, x27, x28, x29, x30, x31, x32, x33, x34, x35, x36, x37, x38, .bool true, .bool true, .slice y.a y.n y.c, .string T, .string T, .bool true, .bool true, .bool true, .int .i64 e, .int .i64 e, .bool true, .bool true, .bool true, .agg (rqC m sc a p sx n), .bool bd, .int .i64 f, .agg (rqC m sc a p sy n), .bool bd, .int .i64 f, .bool true, .bool true, .bool true, .pointer (some ⟨bA, 4, none⟩), .slice sx.a sx.n sx.c, .pointer (some ⟨bB, 4, none⟩), .slice sy.a sy.n sy.c, .bool true, x66], []⟩ : Act) :=
  ⟨⟨by kernel_rfl, by kernel_rfl, by kernel_rfl, by kernel_rfl, fun u h => by kernel_rfl⟩,
    ⟨by kernel_rfl, by kernel_rfl, by kernel_rfl, by kernel_rfl, fun u h => by kernel_rfl⟩,
    trivial⟩
set_option maxHeartbeats 16000000 in
theorem hdr (bA bB : Nat) (m sc a p : ByteArray) (sx sy y : Sv) (n e f : Int) (bd : Bool) (T : ByteArray) {x0 x2 x3 x4 x6 x12 x13 x14 x15 x16 x17 x18 x19 x20 x21 x22 x23 x24 x25 x26 x27 x28 x29 x30 x31 x32 x33 x34 x35 x36 x37 x38 x39 x40 x41 x42 x43 x44 x45 x46 x47 x48 x49 x50 x51 x52 x53 x54 x55 x56 x57 x58 x59 x60 x61 x62 x63 x64 x65 x66 : Value} (w : World) (R : Exit → Act → World → Prop) (hQ : ∀ c a d v w, R (.panic c) (a.put d v) w → R (.panic c) a w)
    (hS : Q w w) (hA : Blk w bA 24 (rqC m sc a p sx n)) (hB : Blk w bB 34 (rqC m sc a p sy n)) (hcv : ∀ W, Q w W → (convert 28 9 (.slice y.a y.n y.c)).run Tryd.prog W = .ok (.string T) W)
    (HAW : ∀ W, Q w W → Calls Tryd.prog 10 #[] W fun e w' => e = .returned (.bool true) ∧ Q W w')
    (HFA : ∀ W, Q w W → Calls Tryd.prog 15 #[.agg (rqC m sc a p sx n), .bool bd] W fun e w' => e = .returned (.int .i64 f) ∧ Q W w')
    (HFB : ∀ W, Q w W → Calls Tryd.prog 16 #[.agg (rqC m sc a p sy n), .bool bd] W fun e w' => e = .returned (.int .i64 f) ∧ Q W w')
    (HSM : ∀ W, Q w W → Calls Tryd.prog 17 #[.slice sx.a sx.n sx.c, .slice sy.a sy.n sy.c] W fun e w' => e = .returned (.bool true) ∧ Q W w')
    (h : ∀ W, Q w W → R .normal (⟨#[x0, .bool bd, x2, x3, .bool true, .pointer (some ⟨bA, 0, none⟩), x6, .slice y.a y.n y.c, .int .i64 e, .string T, .int .i64 e, .pointer (some ⟨bB, 0, none⟩), x12, x13, x14, x15, x16, x17, x18, x19, x20, x21, x22, x23, x24, x25, x26, x27, x28, x29, x30, x31, x32, x33, x34, x35, x36, x37, x38, .bool true, .bool true, .slice y.a y.n y.c, .string T, .string T, .bool true, .bool true, .bool true, .int .i64 e, .int .i64 e, .bool true, .bool true, .bool true, .agg (rqC m sc a p sx n), .bool bd, .int .i64 f, .agg (rqC m sc a p sy n), .bool bd, .int .i64 f, .bool true, .bool true, .bool true, .pointer (some ⟨bA, 4, none⟩), .slice sx.a sx.n sx.c, .pointer (some ⟨bB, 4, none⟩), .slice sy.a sy.n sy.c, .bool true, .bool true], []⟩ : Act) W) :
    (Code.region 7 (RofN Tryd.f3 7) true).wp Tryd.prog R (⟨#[x0, .bool bd, x2, x3, x4, .pointer (some ⟨bA, 0, none⟩), x6, .slice y.a y.n y.c, .int .i64 e, .string T, .int .i64 e, .pointer (some ⟨bB, 0, none⟩), x12, x13, x14, x15, x16, x17, x18, x19, x20, x21, x22, x23, x24, x25, x26, x27, x28, x29, x30, x31, x32, x33, x34, x35, x36, x37, x38, x39, x40, x41, x42, x43, x44, x45, x46, x47, x48, x49, x50, x51, x52, x53, x54, x55, x56, x57, x58, x59, x60, x61, x62, x63, x64, x65, x66], []⟩ : Act) w := by
  refine wp_region_held (S := (Q w)) (by kernel_rfl) ?_
  have hsz : (RofN Tryd.f3 7).size = 29 := by kernel_rfl
  rw [hsz]
  have hS0 : (Q w) w.drew := Q.trans hS ((Q.refl w).drew)
  refine wpAnyH_one (i := 0) (by kernel_rfl) ?_
  refine wpOp_callx (some 39) (by kernel_rfl) (by kernel_rfl) (by kernel_rfl) 10 #[] (by kernel_rfl) (HAW w.drew (Q.refl w).drew) ?_
  rintro e w1 ⟨rfl, q1⟩
  have hS1 : (Q w) w1 := Q.trans hS0 (q1)
  refine ⟨_, rfl, hS1, ?_⟩
  have e0 : (⟨#[x0, .bool bd, x2, x3, x4, .pointer (some ⟨bA, 0, none⟩), x6, .slice y.a y.n y.c, .int .i64 e, .string T, .int .i64 e, .pointer (some ⟨bB, 0, none⟩), x12, x13, x14, x15, x16, x17, x18, x19, x20, x21, x22, x23, x24, x25, x26, x27, x28, x29, x30, x31, x32, x33, x34, x35, x36, x37, x38, x39, x40, x41, x42, x43, x44, x45, x46, x47, x48, x49, x50, x51, x52, x53, x54, x55, x56, x57, x58, x59, x60, x61, x62, x63, x64, x65, x66], []⟩ : Act).put (some 39) (.bool true) = (⟨#[x0, .bool bd, x2, x3, x4, .pointer (some ⟨bA, 0, none⟩), x6, .slice y.a y.n y.c, .int .i64 e, .string T, .int .i64 e, .pointer (some ⟨bB, 0, none⟩), x12, x13, x14, x15, x16, x17, x18, x19, x20, x21, x22, x23, x24, x25, x26, x27, x28, x29, x30, x31, x32, x33, x34, x35, x36, x37, x38, .bool true, x40, x41, x42, x43, x44, x45, x46, x47, x48, x49, x50, x51, x52, x53, x54, x55, x56, x57, x58, x59, x60, x61, x62, x63, x64, x65, x66], []⟩ : Act) := by kernel_rfl
  have l0 : (Array.replicate 29 false).setIfInBounds 0 true = (#[true, false, false, false, false, false, false, false, false, false, false, false, false, false, false, false, false, false, false, false, false, false, false, false, false, false, false, false, false] : Array Bool) := by kernel_rfl
  rw [e0, l0]
  clear e0 l0
  refine chn_take (by kernel_rfl) hQ hS1 12 (hdrz1 bA bB m sc a p sx sy y n e f bd T  ) _ _ (hdrg1 bA bB m sc a p sx sy y n e f bd T   w hA hB hcv) ?_
  have e0 : putL (RofN Tryd.f3 7) (hdrz1 bA bB m sc a p sx sy y n e f bd T  ) (⟨#[x0, .bool bd, x2, x3, x4, .pointer (some ⟨bA, 0, none⟩), x6, .slice y.a y.n y.c, .int .i64 e, .string T, .int .i64 e, .pointer (some ⟨bB, 0, none⟩), x12, x13, x14, x15, x16, x17, x18, x19, x20, x21, x22, x23, x24, x25, x26, x27, x28, x29, x30, x31, x32, x33, x34, x35, x36, x37, x38, .bool true, x40, x41, x42, x43, x44, x45, x46, x47, x48, x49, x50, x51, x52, x53, x54, x55, x56, x57, x58, x59, x60, x61, x62, x63, x64, x65, x66], []⟩ : Act) = (⟨#[x0, .bool bd, x2, x3, x4, .pointer (some ⟨bA, 0, none⟩), x6, .slice y.a y.n y.c, .int .i64 e, .string T, .int .i64 e, .pointer (some ⟨bB, 0, none⟩), x12, x13, x14, x15, x16, x17, x18, x19, x20, x21, x22, x23, x24, x25, x26, x27, x28, x29, x30, x31, x32, x33, x34, x35, x36, x37, x38, .bool true, .bool true, .slice y.a y.n y.c, .string T, .string T, .bool true, .bool true, .bool true, .int .i64 e, .int .i64 e, .bool true, .bool true, .bool true, .agg (rqC m sc a p sx n), .bool bd, x54, .agg (rqC m sc a p sy n), .bool bd, x57, x58, x59, x60, x61, x62, x63, x64, x65, x66], []⟩ : Act) := by kernel_rfl
  have l0 : setL (hdrz1 bA bB m sc a p sx sy y n e f bd T  ) (#[true, false, false, false, false, false, false, false, false, false, false, false, false, false, false, false, false, false, false, false, false, false, false, false, false, false, false, false, false] : Array Bool) = (#[true, true, true, true, true, true, true, true, true, true, true, true, true, true, true, false, true, true, false, false, false, false, false, false, false, false, false, false, false] : Array Bool) := by kernel_rfl
  rw [e0, l0]
  clear e0 l0
  refine wpAnyH_one (i := 15) (by kernel_rfl) ?_
  refine wpOp_callx (some 54) (by kernel_rfl) (by kernel_rfl) (by kernel_rfl) 15 #[.agg (rqC m sc a p sx n), .bool bd] (by kernel_rfl) (HFA w1 hS1) ?_
  rintro e w2 ⟨rfl, q2⟩
  have hS2 : (Q w) w2 := Q.trans hS1 (q2)
  refine ⟨_, rfl, hS2, ?_⟩
  have e0 : (⟨#[x0, .bool bd, x2, x3, x4, .pointer (some ⟨bA, 0, none⟩), x6, .slice y.a y.n y.c, .int .i64 e, .string T, .int .i64 e, .pointer (some ⟨bB, 0, none⟩), x12, x13, x14, x15, x16, x17, x18, x19, x20, x21, x22, x23, x24, x25, x26, x27, x28, x29, x30, x31, x32, x33, x34, x35, x36, x37, x38, .bool true, .bool true, .slice y.a y.n y.c, .string T, .string T, .bool true, .bool true, .bool true, .int .i64 e, .int .i64 e, .bool true, .bool true, .bool true, .agg (rqC m sc a p sx n), .bool bd, x54, .agg (rqC m sc a p sy n), .bool bd, x57, x58, x59, x60, x61, x62, x63, x64, x65, x66], []⟩ : Act).put (some 54) (.int .i64 f) = (⟨#[x0, .bool bd, x2, x3, x4, .pointer (some ⟨bA, 0, none⟩), x6, .slice y.a y.n y.c, .int .i64 e, .string T, .int .i64 e, .pointer (some ⟨bB, 0, none⟩), x12, x13, x14, x15, x16, x17, x18, x19, x20, x21, x22, x23, x24, x25, x26, x27, x28, x29, x30, x31, x32, x33, x34, x35, x36, x37, x38, .bool true, .bool true, .slice y.a y.n y.c, .string T, .string T, .bool true, .bool true, .bool true, .int .i64 e, .int .i64 e, .bool true, .bool true, .bool true, .agg (rqC m sc a p sx n), .bool bd, .int .i64 f, .agg (rqC m sc a p sy n), .bool bd, x57, x58, x59, x60, x61, x62, x63, x64, x65, x66], []⟩ : Act) := by kernel_rfl
  have l0 : (#[true, true, true, true, true, true, true, true, true, true, true, true, true, true, true, false, true, true, false, false, false, false, false, false, false, false, false, false, false] : Array Bool).setIfInBounds 15 true = (#[true, true, true, true, true, true, true, true, true, true, true, true, true, true, true, true, true, true, false, false, false, false, false, false, false, false, false, false, false] : Array Bool) := by kernel_rfl
  rw [e0, l0]
  clear e0 l0
  refine wpAnyH_one (i := 18) (by kernel_rfl) ?_
  refine wpOp_callx (some 57) (by kernel_rfl) (by kernel_rfl) (by kernel_rfl) 16 #[.agg (rqC m sc a p sy n), .bool bd] (by kernel_rfl) (HFB w2 hS2) ?_
  rintro e w3 ⟨rfl, q3⟩
  have hS3 : (Q w) w3 := Q.trans hS2 (q3)
  refine ⟨_, rfl, hS3, ?_⟩
  have e0 : (⟨#[x0, .bool bd, x2, x3, x4, .pointer (some ⟨bA, 0, none⟩), x6, .slice y.a y.n y.c, .int .i64 e, .string T, .int .i64 e, .pointer (some ⟨bB, 0, none⟩), x12, x13, x14, x15, x16, x17, x18, x19, x20, x21, x22, x23, x24, x25, x26, x27, x28, x29, x30, x31, x32, x33, x34, x35, x36, x37, x38, .bool true, .bool true, .slice y.a y.n y.c, .string T, .string T, .bool true, .bool true, .bool true, .int .i64 e, .int .i64 e, .bool true, .bool true, .bool true, .agg (rqC m sc a p sx n), .bool bd, .int .i64 f, .agg (rqC m sc a p sy n), .bool bd, x57, x58, x59, x60, x61, x62, x63, x64, x65, x66], []⟩ : Act).put (some 57) (.int .i64 f) = (⟨#[x0, .bool bd, x2, x3, x4, .pointer (some ⟨bA, 0, none⟩), x6, .slice y.a y.n y.c, .int .i64 e, .string T, .int .i64 e, .pointer (some ⟨bB, 0, none⟩), x12, x13, x14, x15, x16, x17, x18, x19, x20, x21, x22, x23, x24, x25, x26, x27, x28, x29, x30, x31, x32, x33, x34, x35, x36, x37, x38, .bool true, .bool true, .slice y.a y.n y.c, .string T, .string T, .bool true, .bool true, .bool true, .int .i64 e, .int .i64 e, .bool true, .bool true, .bool true, .agg (rqC m sc a p sx n), .bool bd, .int .i64 f, .agg (rqC m sc a p sy n), .bool bd, .int .i64 f, x58, x59, x60, x61, x62, x63, x64, x65, x66], []⟩ : Act) := by kernel_rfl
  have l0 : (#[true, true, true, true, true, true, true, true, true, true, true, true, true, true, true, true, true, true, false, false, false, false, false, false, false, false, false, false, false] : Array Bool).setIfInBounds 18 true = (#[true, true, true, true, true, true, true, true, true, true, true, true, true, true, true, true, true, true, true, false, false, false, false, false, false, false, false, false, false] : Array Bool) := by kernel_rfl
  rw [e0, l0]
  clear e0 l0
  refine chn_take (by kernel_rfl) hQ hS3 3 (hdrz2 bA bB m sc a p sx sy y n e f bd T    ) _ _ (hdrg2 bA bB m sc a p sx sy y n e f bd T     w hA hB hcv) ?_
  have e0 : putL (RofN Tryd.f3 7) (hdrz2 bA bB m sc a p sx sy y n e f bd T    ) (⟨#[x0, .bool bd, x2, x3, x4, .pointer (some ⟨bA, 0, none⟩), x6, .slice y.a y.n y.c, .int .i64 e, .string T, .int .i64 e, .pointer (some ⟨bB, 0, none⟩), x12, x13, x14, x15, x16, x17, x18, x19, x20, x21, x22, x23, x24, x25, x26, x27, x28, x29, x30, x31, x32, x33, x34, x35, x36, x37, x38, .bool true, .bool true, .slice y.a y.n y.c, .string T, .string T, .bool true, .bool true, .bool true, .int .i64 e, .int .i64 e, .bool true, .bool true, .bool true, .agg (rqC m sc a p sx n), .bool bd, .int .i64 f, .agg (rqC m sc a p sy n), .bool bd, .int .i64 f, x58, x59, x60, x61, x62, x63, x64, x65, x66], []⟩ : Act) = (⟨#[x0, .bool bd, x2, x3, x4, .pointer (some ⟨bA, 0, none⟩), x6, .slice y.a y.n y.c, .int .i64 e, .string T, .int .i64 e, .pointer (some ⟨bB, 0, none⟩), x12, x13, x14, x15, x16, x17, x18, x19, x20, x21, x22, x23, x24, x25, x26, x27, x28, x29, x30, x31, x32, x33, x34, x35, x36, x37, x38, .bool true, .bool true, .slice y.a y.n y.c, .string T, .string T, .bool true, .bool true, .bool true, .int .i64 e, .int .i64 e, .bool true, .bool true, .bool true, .agg (rqC m sc a p sx n), .bool bd, .int .i64 f, .agg (rqC m sc a p sy n), .bool bd, .int .i64 f, .bool true, .bool true, .bool true, .pointer (some ⟨bA, 4, none⟩), .slice sx.a sx.n sx.c, .pointer (some ⟨bB, 4, none⟩), .slice sy.a sy.n sy.c, x65, x66], []⟩ : Act) := by kernel_rfl
  have l0 : setL (hdrz2 bA bB m sc a p sx sy y n e f bd T    ) (#[true, true, true, true, true, true, true, true, true, true, true, true, true, true, true, true, true, true, true, false, false, false, false, false, false, false, false, false, false] : Array Bool) = (#[true, true, true, true, true, true, true, true, true, true, true, true, true, true, true, true, true, true, true, true, true, true, true, true, true, true, false, false, false] : Array Bool) := by kernel_rfl
  rw [e0, l0]
  clear e0 l0
  refine wpAnyH_one (i := 26) (by kernel_rfl) ?_
  refine wpOp_callx (some 65) (by kernel_rfl) (by kernel_rfl) (by kernel_rfl) 17 #[.slice sx.a sx.n sx.c, .slice sy.a sy.n sy.c] (by kernel_rfl) (HSM w3 hS3) ?_
  rintro e w4 ⟨rfl, q4⟩
  have hS4 : (Q w) w4 := Q.trans hS3 (q4)
  refine ⟨_, rfl, hS4, ?_⟩
  have e0 : (⟨#[x0, .bool bd, x2, x3, x4, .pointer (some ⟨bA, 0, none⟩), x6, .slice y.a y.n y.c, .int .i64 e, .string T, .int .i64 e, .pointer (some ⟨bB, 0, none⟩), x12, x13, x14, x15, x16, x17, x18, x19, x20, x21, x22, x23, x24, x25, x26, x27, x28, x29, x30, x31, x32, x33, x34, x35, x36, x37, x38, .bool true, .bool true, .slice y.a y.n y.c, .string T, .string T, .bool true, .bool true, .bool true, .int .i64 e, .int .i64 e, .bool true, .bool true, .bool true, .agg (rqC m sc a p sx n), .bool bd, .int .i64 f, .agg (rqC m sc a p sy n), .bool bd, .int .i64 f, .bool true, .bool true, .bool true, .pointer (some ⟨bA, 4, none⟩), .slice sx.a sx.n sx.c, .pointer (some ⟨bB, 4, none⟩), .slice sy.a sy.n sy.c, x65, x66], []⟩ : Act).put (some 65) (.bool true) = (⟨#[x0, .bool bd, x2, x3, x4, .pointer (some ⟨bA, 0, none⟩), x6, .slice y.a y.n y.c, .int .i64 e, .string T, .int .i64 e, .pointer (some ⟨bB, 0, none⟩), x12, x13, x14, x15, x16, x17, x18, x19, x20, x21, x22, x23, x24, x25, x26, x27, x28, x29, x30, x31, x32, x33, x34, x35, x36, x37, x38, .bool true, .bool true, .slice y.a y.n y.c, .string T, .string T, .bool true, .bool true, .bool true, .int .i64 e, .int .i64 e, .bool true, .bool true, .bool true, .agg (rqC m sc a p sx n), .bool bd, .int .i64 f, .agg (rqC m sc a p sy n), .bool bd, .int .i64 f, .bool true, .bool true, .bool true, .pointer (some ⟨bA, 4, none⟩), .slice sx.a sx.n sx.c, .pointer (some ⟨bB, 4, none⟩), .slice sy.a sy.n sy.c, .bool true, x66], []⟩ : Act) := by kernel_rfl
  have l0 : (#[true, true, true, true, true, true, true, true, true, true, true, true, true, true, true, true, true, true, true, true, true, true, true, true, true, true, false, false, false] : Array Bool).setIfInBounds 26 true = (#[true, true, true, true, true, true, true, true, true, true, true, true, true, true, true, true, true, true, true, true, true, true, true, true, true, true, true, false, false] : Array Bool) := by kernel_rfl
  rw [e0, l0]
  clear e0 l0
  refine chn_take (by kernel_rfl) hQ hS4 0 (hdrz3 bA bB m sc a p sx sy y n e f bd T     ) _ _ (hdrg3 bA bB m sc a p sx sy y n e f bd T      w ) ?_
  have e0 : putL (RofN Tryd.f3 7) (hdrz3 bA bB m sc a p sx sy y n e f bd T     ) (⟨#[x0, .bool bd, x2, x3, x4, .pointer (some ⟨bA, 0, none⟩), x6, .slice y.a y.n y.c, .int .i64 e, .string T, .int .i64 e, .pointer (some ⟨bB, 0, none⟩), x12, x13, x14, x15, x16, x17, x18, x19, x20, x21, x22, x23, x24, x25, x26, x27, x28, x29, x30, x31, x32, x33, x34, x35, x36, x37, x38, .bool true, .bool true, .slice y.a y.n y.c, .string T, .string T, .bool true, .bool true, .bool true, .int .i64 e, .int .i64 e, .bool true, .bool true, .bool true, .agg (rqC m sc a p sx n), .bool bd, .int .i64 f, .agg (rqC m sc a p sy n), .bool bd, .int .i64 f, .bool true, .bool true, .bool true, .pointer (some ⟨bA, 4, none⟩), .slice sx.a sx.n sx.c, .pointer (some ⟨bB, 4, none⟩), .slice sy.a sy.n sy.c, .bool true, x66], []⟩ : Act) = (⟨#[x0, .bool bd, x2, x3, .bool true, .pointer (some ⟨bA, 0, none⟩), x6, .slice y.a y.n y.c, .int .i64 e, .string T, .int .i64 e, .pointer (some ⟨bB, 0, none⟩), x12, x13, x14, x15, x16, x17, x18, x19, x20, x21, x22, x23, x24, x25, x26, x27, x28, x29, x30, x31, x32, x33, x34, x35, x36, x37, x38, .bool true, .bool true, .slice y.a y.n y.c, .string T, .string T, .bool true, .bool true, .bool true, .int .i64 e, .int .i64 e, .bool true, .bool true, .bool true, .agg (rqC m sc a p sx n), .bool bd, .int .i64 f, .agg (rqC m sc a p sy n), .bool bd, .int .i64 f, .bool true, .bool true, .bool true, .pointer (some ⟨bA, 4, none⟩), .slice sx.a sx.n sx.c, .pointer (some ⟨bB, 4, none⟩), .slice sy.a sy.n sy.c, .bool true, .bool true], []⟩ : Act) := by kernel_rfl
  have l0 : setL (hdrz3 bA bB m sc a p sx sy y n e f bd T     ) (#[true, true, true, true, true, true, true, true, true, true, true, true, true, true, true, true, true, true, true, true, true, true, true, true, true, true, true, false, false] : Array Bool) = (#[true, true, true, true, true, true, true, true, true, true, true, true, true, true, true, true, true, true, true, true, true, true, true, true, true, true, true, true, true] : Array Bool) := by kernel_rfl
  rw [e0, l0]
  clear e0 l0
  refine wpAnyH_done (by kernel_rfl) ?_ _
  exact h w4 hS4

end Go.Proofs.YtclapheglgiokaaDoor

/-
  The law on heads, walked whole.
-/
namespace Go.Proofs.YtclapheglgiokaaDoor
open Go.RowKit
set_option linter.unusedVariables false
set_option maxRecDepth 100000

theorem totF_pln (l : List Fd) : totF (plnL l) ≤ totF l := by
  unfold plnL
  induction l with
  | nil => exact Nat.le_refl _
  | cons p r ih =>
    have e : totF (p :: r) = (p.1.size + p.2.size) + totF r := by simp [totF]
    rw [List.filter_cons]
    split
    · have e2 : totF (p :: r.filter fun f => !psS f.1 && !eqS f.1 kHos) = (p.1.size + p.2.size) + totF (r.filter fun f => !psS f.1 && !eqS f.1 kHos) := by simp [totF]
      rw [e, e2]; omega
    · rw [e]; omega
theorem fnd_le (l : List Fd) (n : ByteArray) : ((fnd l n).getD ⟨#[]⟩).size ≤ totF l := by
  unfold fnd
  cases hf : l.find? (fun f => eqS f.1 n) with
  | none => exact Nat.zero_le _
  | some p =>
    have := totF_le (List.mem_of_find?_eq_some hf)
    show p.2.size ≤ _
    omega
theorem autO_le (l : List Fd) : (autO l).size ≤ totF l := by
  unfold autO autW
  have h1 := fnd_le l kAut
  have h2 := fnd_le l kHos
  cases h : fnd l kAut with
  | none => exact h2
  | some a => rw [h] at h1; exact h1
theorem lenO_le (s : ByteArray) : -1 ≤ lenO s ∧ lenO s ≤ 1000000000000000 := by
  unfold lenO
  split
  · rename_i h
    simp only [Bool.and_eq_true, decide_eq_true_eq] at h
    obtain ⟨⟨_, h1⟩, h2⟩ := h
    have h3 := numL_lt s.data.toList (fun b hb => by
      have h6 : dgB b.toNat = true := List.all_eq_true.1 h2 b hb
      unfold dgB at h6
      simp only [Bool.and_eq_true, decide_eq_true_eq] at h6
      exact h6.2)
    have h7 : (10 : Nat) ^ s.data.toList.length ≤ 10 ^ 15 := Nat.pow_le_pow_right (by omega) h1
    have h8 : (10 : Nat) ^ 15 = 1000000000000000 := by decide
    omega
  · omega
theorem lenL_le (l : List Fd) : -1 ≤ lenL l ∧ lenL l ≤ 1000000000000000 := by
  unfold lenL
  cases fnd l kLen with
  | none => exact ⟨Int.le_refl _, by decide⟩
  | some v => exact lenO_le v
/-- What is written, its error. -/
def hdT (m p a : ByteArray) (l : List Fd) (n : Int) (b : Bool) : ByteArray := if eqS m kCNT then ⟨#[]⟩ else ⟨(headB m p a l n b).toArray⟩
def hdE (m : ByteArray) : Int := if eqS m kCNT then 50 else 0
theorem head_all (m sc a p : ByteArray) (x : Sv) (l : List Fd) (n : Int) (bd : Bool) (w : World) (hx : Fin w x l) (hb : totF l + 4 * l.length ≤ 17592186044416) (hs : m.size + p.size + a.size ≤ 8796093022208) (hn0 : -9223372036854775808 ≤ n) (hn1 : n ≤ 9223372036854775807) (ht : Tp w) :
    Calls Tryd.prog 11 #[.agg (rqC m sc a p x n), .bool bd] w fun e w' => ∃ y : Sv, e = .returned (.tuple #[.slice y.a y.n y.c, .int .i64 (hdE m)]) ∧ Q w w' ∧ ∀ W, Q w' W → (convert 28 9 (.slice y.a y.n y.c)).run Tryd.prog W = .ok (.string (hdT m p a l n bd)) W := by
  unfold hdT hdE
  by_cases hc : eqS m kCNT = true
  · rw [if_pos hc, if_pos hc]
    refine (head_con m sc a p x n bd w hc).mono ?_
    rintro e w' ⟨rfl, q⟩
    exact ⟨⟨none, 0, 0⟩, rfl, q, fun W _ => nil_str W⟩
  · rw [if_neg hc, if_neg hc]
    refine (head_any m sc a p x l n bd w (by simpa using hc) hx hb hs hn0 hn1 ht).mono ?_
    rintro e w' ⟨y, rfl, q, r, _⟩
    exact ⟨y, rfl, q, fun W qW => br_str (r.q qW)⟩
theorem rhead_all (m sc a p : ByteArray) (x : Sv) (l : List Fd) (n : Int) (bd : Bool) (w : World) (hx : Fin w x l) (hb : totF l + 4 * l.length ≤ 17592186044416) (hs : m.size + p.size + a.size ≤ 8796093022208) (hn1 : n ≤ 9223372036854775807) :
    Calls Tryd.prog 12 #[.agg (rqC m sc a p x n), .bool bd] w fun e w' => e = .returned (.tuple #[.string (hdT m p a l n bd), .int .i64 (hdE m)]) ∧ Q w w' := by
  unfold hdT hdE
  by_cases hc : eqS m kCNT = true
  · rw [if_pos hc, if_pos hc]
    exact rhead_con m sc a p x n bd w hc
  · rw [if_neg hc, if_neg hc]
    exact rhead_any m sc a p x l n bd w (by simpa using hc) hx hb hs hn1
set_option maxHeartbeats 16000000 in
theorem heads_walk (x : Sv) (l : List Fd) (bd : Bool) (w : World) (h : Fin w x l) (hb : totF l + l.length ≤ 1048576) (ht : Tb w) (hp : Tp w) :
    Calls Tryd.prog 3 #[.slice x.a x.n x.c, .bool bd] w fun e w' => e = .returned (.bool true) ∧ Q w w' := by
  obtain ⟨xa, xn, xc⟩ := x
  have HAW := hid (fun W (q : Q w W) => awake_any W (ht.q q))
  have HMD := hid (made_any ⟨xa, xn, xc⟩ l w h)
  have HDC := hid (fun W (q : Q w W) => dcheck_any ⟨xa, xn, xc⟩ l 1048576 1073741824 W (h.q q))
  have HTP := hid hp
  have HLB := hid h.b
  have HBD := hid h.d
  have HB := hid hb
  dsimp only at HMD HDC
  clear h ht hp hb
  by_cases hce : chE l 1048576 1073741824 = 0
  · have HR := hid (show chR l 1048576 1073741824 = rqO l from by unfold chR; rw [if_pos hce])
    have HV := hid (show ∀ y, chV l 1048576 1073741824 y = .tuple #[.agg (rqC (metO l) (schO l) (autO l) (patO l) y (lenL l)), .int .i64 0] from fun y => by unfold chV; rw [HR.out, hce]; rfl)
    have HM := hid (show ∀ y, (Value.tuple #[rqV (chR l 1048576 1073741824) y, .bool (chE l 1048576 1073741824 == 0)]) = .tuple #[.agg (rqC (metO l) (schO l) (autO l) (patO l) y (lenL l)), .bool true] from fun y => by rw [HR.out, hce]; rfl)
    have HFS := hid (show (chR l 1048576 1073741824).fs = plnL l from by rw [HR.out]; rfl)
    clear hce
    have HSZ := hid (show (metO l).size + (patO l).size + (autO l).size ≤ 8796093022208 from by
      have h1 := fnd_le l kMet
      have h2 := fnd_le l kPat
      have h3 := autO_le l
      have h4 := HB.out
      have e1 : (metO l).size = ((fnd l kMet).getD ⟨#[]⟩).size := rfl
      have e2 : (patO l).size = ((fnd l kPat).getD ⟨#[]⟩).size := rfl
      omega)
    have HTF := hid (show totF (plnL l) + 4 * (plnL l).length ≤ 17592186044416 from by
      have h1 := totF_pln l
      have h2 := pln_len l
      have h3 := HB.out
      omega)
    have HLN := hid (lenL_le l)
    have HPB := hid (show (plnL l).length ≤ 4398046511104 ∧ BdF (plnL l) from ⟨Nat.le_trans (pln_len l) HLB.out, fun p hp => HBD.out p (List.mem_filter.1 hp).1⟩)
    rw [HFS.out] at HMD
    have HDC2 := hid (fun W (q : Q w W) => (show Calls Tryd.prog 14 #[.slice xa xn xc, .int .i64 1048576, .int .i64 1073741824] W fun e w' => ∃ y : Sv, e = .returned (.tuple #[.agg (rqC (metO l) (schO l) (autO l) (patO l) y (lenL l)), .int .i64 0]) ∧ Q W w' ∧ RowG w' y (plnL l) from by
      refine (HDC.out W q).mono ?_
      rintro e w' ⟨y, rfl, q', r, _⟩
      exact ⟨y, by rw [HV.out], q', by rw [← HFS.out]; exact r⟩))
    clear HDC HV HR HFS
    generalize metO l = m at *
    generalize schO l = sc at *
    generalize autO l = a at *
    generalize patO l = p at *
    generalize lenL l = n at *
    generalize plnL l = pl at *
    go_enter Tryd.func3, Tryd.ntmps3
    go_wp2_with fail
    refine HMD.out.mono ?_
    rintro e w1 ⟨⟨ya, yn, yc⟩, rfl, q1, r1, n1, m1⟩
    rw [HM.out]
    have Q1 := hid q1
    have R1 := hid r1
    clear q1 r1 n1 m1 HMD HM
    go_upto_region 4 with fail
    have q2 : Q w1 (w1.alloc (.cells #[.string m, .string sc, .string a, .string p, .slice ya yn yc, .int .i64 n] 24)) := (Q.refl w1).alloc _
    have BA0 := hid (blk_new w1 #[.string m, .string sc, .string a, .string p, .slice ya yn yc, .int .i64 n] 24)
    have Q2 := hid (Q1.out.trans q2)
    have R2 := hid (R1.out.q q2)
    clear q2 Q1 R1
    generalize hW : World.alloc w1 _ = W2 at *
    clear hW
    generalize w1.heap.size = bA at *
    have BA := hid (show Blk W2 bA 24 (rqC m sc a p ⟨ya, yn, yc⟩ n) from BA0.out)
    clear BA0
    have HF := hid (fun W (q : Q W2 W) => (R2.out.q q).fin' HPB.out.1 HPB.out.2)
    have HHD := hid (fun W (q : Q W2 W) => head_all m sc a p ⟨ya, yn, yc⟩ pl n bd W (HF.out W q) HTF.out HSZ.out (by have := HLN.out; omega) (by have := HLN.out; omega) (HTP.out.q (Q2.out.trans q)))
    have HRH := hid (fun W (q : Q W2 W) => rhead_all m sc a p ⟨ya, yn, yc⟩ pl n bd W (HF.out W q) HTF.out HSZ.out (by have := HLN.out; omega))
    have HOF := hid (fun W => of_any m sc a p ⟨ya, yn, yc⟩ n W)
    have HFA := hid (fun (x : Sv) W => framing_any m sc a p x n bd W)
    have HFB := hid (fun (x : Sv) W => rframing_any m sc a p x n bd W)
    generalize hdT m p a pl n bd = T at *
    generalize hdE m = ec at *
    generalize frm m n bd = fr at *
    go_wp2_with (refine wpList_load_row rfl 24 _ rfl bA rfl 24 _ (0, 0) _ BA.out Tryd.underlying24 rfl (info24 m sc a p ⟨ya, yn, yc⟩ n) ?_)
    refine (HHD.out _ (Q.refl _)).mono ?_
    rintro e w3 ⟨⟨za, zn, zc⟩, rfl, q3, cv3⟩
    have Q3 := hid q3
    have CV := hid cv3
    have BA3 := hid (BA.out.q q3)
    clear q3 cv3 HHD
    go_wp2_with (refine wpList_load_row rfl 24 _ rfl bA rfl 24 _ (0, 0) _ BA3.out Tryd.underlying24 rfl (info24 m sc a p ⟨ya, yn, yc⟩ n) ?_)
    refine (HOF.out _).mono ?_
    rintro e w4 ⟨rfl, q4⟩
    have Q4 := hid (Q3.out.trans q4)
    have K4 := hid q4
    clear q4 BA3
    go_wp2_with fail
    refine (HRH.out _ Q4.out).mono ?_
    rintro e w5 ⟨rfl, q5⟩
    have Q5 := hid (Q4.out.trans q5)
    have K5 := hid (K4.out.trans q5)
    clear q5 K4 HRH
    go_wp2_with fail
    refine (HDC2.out _ (Q2.out.trans Q5.out)).mono ?_
    rintro e w6 ⟨⟨ua, un, uc⟩, rfl, q6, r6⟩
    have Q6 := hid (Q5.out.trans q6)
    have K6 := hid (K5.out.trans q6)
    have R6 := hid r6
    clear q6 r6 K5 HDC2
    go_upto_region 7 with fail
    have q7 : Q w6 (w6.alloc (.cells #[.string m, .string sc, .string a, .string p, .slice ua un uc, .int .i64 n] 34)) := (Q.refl w6).alloc _
    have BB0 := hid (blk_new w6 #[.string m, .string sc, .string a, .string p, .slice ua un uc, .int .i64 n] 34)
    have Q7 := hid (Q6.out.trans q7)
    have K7 := hid (K6.out.trans q7)
    have R7 := hid (R6.out.q q7)
    clear q7 Q6 K6 R6
    generalize hW : World.alloc w6 _ = W7 at *
    clear hW
    generalize w6.heap.size = bB at *
    have BB := hid (show Blk W7 bB 34 (rqC m sc a p ⟨ua, un, uc⟩ n) from BB0.out)
    clear BB0
    have BA7 := hid (BA.out.q Q7.out)
    have HSM := hid (fun W (q : Q W7 W) => same_any ⟨ya, yn, yc⟩ ⟨ua, un, uc⟩ pl W ((R2.out.q (Q7.out.trans q)).seg) ((R7.out.q q).seg) R2.out.len R7.out.len HPB.out.1)
    dsimp only at HSM
    generalize hR : Code.region 7 _ true = CC
    have eR : CC = Code.region 7 (RofN Tryd.f3 7) true := hR.symm.trans (by kernel_rfl)
    clear hR
    subst eR
    refine wp_region_noPanic ?_
    refine hdr bA bB m sc a p ⟨ya, yn, yc⟩ ⟨ua, un, uc⟩ ⟨za, zn, zc⟩ n ec fr bd T W7 _ (fun _ _ _ _ _ h => h) (Q.refl _) BA7.out BB.out (fun W q => CV.out W (K7.out.trans q)) (fun W q => HAW.out W (Q2.out.trans (Q7.out.trans q))) (fun W _ => HFA.out _ W) (fun W _ => HFB.out _ W) HSM.out ?_
    intro W8 q8
    have Q8 := hid (Q2.out.trans (Q7.out.trans q8))
    clear q8
    refine NoPanic.normal ?_
    refine ‹∀ a w, Code.wp Tryd.prog _ _ a w → _› _ _ ?_
    go_wp2
    go_ret
    exact ⟨rfl, Q8.out⟩
  · have HM := hid (show ∀ y, (Value.tuple #[rqV (chR l 1048576 1073741824) y, .bool (chE l 1048576 1073741824 == 0)]) = .tuple #[.agg (rqC ⟨#[]⟩ ⟨#[]⟩ ⟨#[]⟩ ⟨#[]⟩ y 0), .bool false] from fun y => by
      have e : chR l 1048576 1073741824 = rq0 := by unfold chR; rw [if_neg hce]
      have e2 : (chE l 1048576 1073741824 == 0) = false := by simpa using hce
      rw [e, e2]; rfl)
    clear hce HDC
    go_enter Tryd.func3, Tryd.ntmps3
    go_wp2_with fail
    refine HMD.out.mono ?_
    rintro e w1 ⟨⟨ya, yn, yc⟩, rfl, q1, r1, n1, m1⟩
    rw [HM.out]
    have Q1 := hid q1
    clear q1 r1 n1 m1 HMD HM
    go_wp2_with (go_at_call 10; refine (HAW.out _ (Q1.out.alloc _)).mono ?_; rintro e w2 ⟨rfl, q2⟩; have Q2 := hid ((Q1.out.alloc _).trans q2); clear q2)
    go_ret
    exact ⟨rfl, Q2.out⟩
end Go.Proofs.YtclapheglgiokaaDoor

/-
  The grammar's Line: a contract that the statements' walks use.
-/
namespace Go.Proofs.YtclapheglgiokaaDoor
open Go.RowKit
set_option linter.unusedVariables false
set_option maxRecDepth 20000

/-- A line ends at this place. -/
def crAt (s : ByteArray) (i : Nat) : Prop := s.data.toList[i]? = some 13 ∧ s.data.toList[i + 1]? = some 10
theorem crAt_iff (s : ByteArray) (i : Nat) (h : i + 1 < s.size) : crAt s i ↔ (s[i]'(by omega)).toNat = 13 ∧ (s[i + 1]'h).toNat = 10 := by
  unfold crAt
  rw [List.getElem?_eq_getElem (show i < s.data.toList.length by simpa using (show i < s.size by omega)), List.getElem?_eq_getElem (show i + 1 < s.data.toList.length by simpa using h)]
  simp only [Option.some.injEq]
  constructor
  · rintro ⟨h1, h2⟩
    exact ⟨congrArg UInt8.toNat h1, congrArg UInt8.toNat h2⟩
  · rintro ⟨h1, h2⟩
    exact ⟨UInt8.toNat_inj.1 h1, UInt8.toNat_inj.1 h2⟩
/-- No line ends from one place on and ahead of another. -/
def noCr (s : ByteArray) (a k : Nat) : Prop := ∀ i, a ≤ i → i < k → ¬ crAt s i
theorem noCr_succ {s : ByteArray} {a k : Nat} (h : noCr s a k) (hk : ¬ crAt s k) : noCr s a (k + 1) := by
  intro i h1 h2
  by_cases e : i = k
  · rw [e]; exact hk
  · exact h i h1 (by omega)
/-- What Line answers. -/
def LnA (s : ByteArray) (a : Nat) (l : ByteArray) (e : Int) : Prop :=
  (∃ j : Nat, a ≤ j ∧ j + 1 < s.size ∧ crAt s j ∧ noCr s a j ∧ l = s.extract a j ∧ e = (j : Int) + 2) ∨ (noCr s a s.size ∧ l = ⟨#[]⟩ ∧ e = -1)
theorem str_sl (s : ByteArray) (a k : Nat) (h1 : a ≤ k) (h2 : k ≤ s.size) (W : World) : (Instr.slice 9 (.string s) (some (.int .i64 (a : Int))) (some (.int .i64 (k : Int))) none).run Tryd.prog W = .ok (.string (s.extract a k)) W := by
  have hk' : (k : Int) ≤ (s.size : Int) := by omega
  have ha0 : (0 : Int) ≤ (a : Int) := by omega
  have hk0 : (0 : Int) ≤ (k : Int) := by omega
  have hak : (a : Int) ≤ (k : Int) := by omega
  have hn : ¬ k < a := by omega
  simp [Instr.slice, go_sem, run_underlying Tryd.underlying9, hk', ha0, hn]
set_option maxHeartbeats 4000000 in
theorem line71_any (s : ByteArray) (a : Nat) (w : World) (hs : s.size ≤ 140737488355328) (ha : a ≤ s.size) : Calls Tryd.prog 71 #[.string s, .int .i64 (a : Int)] w fun e w' => ∃ l f, LnA s a l f ∧ e = .returned (.tuple #[.string l, .int .i64 f]) ∧ w' = w := by
  have HS := hid hs
  have HA := hid ha
  clear hs ha
  go_enter Tryd.func71, Tryd.ntmps71
  go_wp2_with fail
  go_loop [6] (fun i => ∃ k : Nat, a ≤ k ∧ k ≤ s.size ∧ i = .int .i64 (k : Int) ∧ noCr s a k) (fun i => s.size - (intOf i).toNat)
  case atStart => exact ⟨a, Nat.le_refl _, HA.out, rfl, fun i h1 h2 => by omega⟩
  case round =>
    obtain ⟨k, hak, hk, rfl, hno⟩ := hrel
    have HNO := hid hno
    clear hno
    by_cases hlt : k + 1 < s.size
    · have hkl : k < s.size := by omega
      have hix := fun W => str_ix s k hkl W
      have hix2 := fun W => str_ix s (k + 1) hlt W
      have hc1 : ((k + 1 : Nat) : Int) = (k : Int) + 1 := by omega
      rw [hc1] at hix2
      have hki : (k : Int) + 1 < (s.size : Int) := by omega
      have hkj : (k : Int) < (s.size : Int) := by omega
      have hk0 : (0 : Int) ≤ (k : Int) := by omega
      have hkb : (k : Int) < 140737488355328 := by have := HS.out; omega
      have HCR := hid (crAt_iff s k hlt)
      have hcb : (s[k]'hkl).toNat < 256 := UInt8.toNat_lt _
      have hdb : (s[k + 1]'hlt).toNat < 256 := UInt8.toNat_lt _
      generalize (s[k]'hkl).toNat = c at *
      generalize (s[k + 1]'hlt).toNat = d at *
      have HAK := hid hak
      have HLT := hid hlt
      clear hc1
      by_cases h1 : c = 13
      · have a1 : ((c : Int) == 13) = true := by simp [h1]
        by_cases h2 : d = 10
        · have a2 : ((d : Int) == 10) = true := by simp [h2]
          have HY := hid (HCR.out.2 ⟨h1, h2⟩)
          have hai : (a : Int) ≤ (k : Int) := by omega
          have hexs := fun W => str_sl s a k hak (by omega) W
          clear HCR h1 h2
          go_wp2
          go_ret2
          exact ⟨_, _, .inl ⟨k, HAK.out, HLT.out, HY.out, HNO.out, rfl, rfl⟩, rfl, rfl⟩
        · have a2 : ((d : Int) == 10) = false := by simp; omega
          have HN := hid (noCr_succ HNO.out (fun h => h2 (HCR.out.1 h).2))
          clear HCR h1 h2
          go_wp2
          go_round
          case rel => exact ⟨k + 1, by have := HAK.out; omega, by omega, by go_num, HN.out⟩
          case measure => simp [intOf]; omega
      · have a1 : ((c : Int) == 13) = false := by simp; omega
        have HN := hid (noCr_succ HNO.out (fun h => h1 (HCR.out.1 h).1))
        clear HCR h1
        go_wp2
        go_round
        case rel => exact ⟨k + 1, by have := HAK.out; omega, by omega, by go_num, HN.out⟩
        case measure => simp [intOf]; omega
    · have hki : ¬ (k : Int) + 1 < (s.size : Int) := by omega
      have hkb : (k : Int) ≤ 140737488355328 := by have := HS.out; omega
      have HN := hid (show noCr s a s.size from fun i h1 h2 h => by
        by_cases e : i < k
        · exact HNO.out i h1 e h
        · have h3 := h.2
          rw [List.getElem?_eq_none (by show s.size ≤ i + 1; omega)] at h3
          cases h3)
      clear hlt
      go_wp2
      go_ret2
      exact ⟨_, _, .inr ⟨HN.out, rfl, rfl⟩, rfl, rfl⟩
end Go.Proofs.YtclapheglgiokaaDoor

/-
  The lines of a request's head, and where they end in a beginning of it: plain mathematics.
-/
namespace Go.Proofs.YtclapheglgiokaaDoor
open Go.RowKit
set_option linter.unusedVariables false

/-- Lines behind one another. -/
def ln2 (LN : List (List UInt8)) : List UInt8 := LN.flatMap fun x => x ++ [13, 10]
theorem ln2_cons (x : List UInt8) (r : List (List UInt8)) : ln2 (x :: r) = x ++ [13, 10] ++ ln2 r := by simp [ln2]
theorem ln2_app (a b : List (List UInt8)) : ln2 (a ++ b) = ln2 a ++ ln2 b := by simp [ln2]
theorem ln2_take {LN : List (List UInt8)} {i : Nat} {x : List UInt8} (h : LN[i]? = some x) : ln2 (LN.take (i + 1)) = ln2 (LN.take i) ++ (x ++ [13, 10]) := by
  rw [List.take_add_one, h, ln2_app]
  simp [ln2]
theorem crAt_at {s : ByteArray} {H : List UInt8} {c : Nat} (hs : s.data.toList = H.take c) {j : Nat} (h : crAt s j) : H[j]? = some 13 ∧ H[j + 1]? = some 10 ∧ j + 1 < c := by
  unfold crAt at h
  rw [hs] at h
  rw [List.getElem?_take, List.getElem?_take] at h
  obtain ⟨h1, h2⟩ := h
  split at h2
  · rename_i hlt
    rw [if_pos (by omega)] at h1
    exact ⟨h1, h2, hlt⟩
  · cases h2
theorem crAt_of {s : ByteArray} {H : List UInt8} {c : Nat} (hs : s.data.toList = H.take c) {j : Nat} (h1 : H[j]? = some 13) (h2 : H[j + 1]? = some 10) (h3 : j + 1 < c) : crAt s j := by
  unfold crAt
  rw [hs, List.getElem?_take, List.getElem?_take, if_pos (by omega), if_pos h3]
  exact ⟨h1, h2⟩
/-- What Line answers at the beginning of a line, in a beginning of the lines and the empty one. -/
theorem lnA_at {s : ByteArray} {LN : List (List UInt8)} {c i : Nat} (hs : s.data.toList = (ln2 LN ++ [13, 10]).take c) (hc : c < (ln2 LN).length + 2) (hg : ∀ x ∈ LN, 13 ∉ x) (hi : i ≤ LN.length)
    {l : ByteArray} {e : Int} (h : LnA s (ln2 (LN.take i)).length l e) :
    e = -1 ∨ ∃ x, LN[i]? = some x ∧ l = ⟨x.toArray⟩ ∧ e = ((ln2 (LN.take (i + 1))).length : Int) ∧ (ln2 (LN.take (i + 1))).length ≤ c := by
  rcases h with ⟨j, haj, hjs, hcr, hno, hl, he⟩ | ⟨_, _, he⟩
  · right
    obtain ⟨g1, g2, g3⟩ := crAt_at hs hcr
    by_cases hil : i < LN.length
    · have hx : LN[i]? = some LN[i] := List.getElem?_eq_getElem hil
      have hmem : LN[i] ∈ LN := List.getElem_mem hil
      generalize LN[i] = x at hx hmem
      have hd : LN.drop i = x :: LN.drop (i + 1) := by
        rw [List.drop_eq_getElem_cons hil]
        have := List.getElem?_eq_getElem hil
        rw [hx] at this
        rw [← Option.some.inj this]
      have hH : ln2 LN ++ [13, 10] = ln2 (LN.take i) ++ (x ++ ([13, 10] ++ (ln2 (LN.drop (i + 1)) ++ [13, 10]))) := by
        conv => lhs; rw [← List.take_append_drop i LN]
        rw [ln2_app, hd, ln2_cons]
        simp
      rw [hH] at g1 g2 hs
      have hjx : j = (ln2 (LN.take i)).length + x.length := by
        rcases Nat.lt_trichotomy j ((ln2 (LN.take i)).length + x.length) with h1 | h1 | h1
        · exfalso
          rw [List.getElem?_append_right haj, List.getElem?_append_left (by omega)] at g1
          exact hg x hmem (List.mem_of_getElem? g1)
        · exact h1
        · exfalso
          refine hno ((ln2 (LN.take i)).length + x.length) (by omega) h1 (crAt_of hs ?_ ?_ (by omega))
          · rw [List.getElem?_append_right (by omega), List.getElem?_append_right (by omega)]
            have : (ln2 (LN.take i)).length + x.length - (ln2 (LN.take i)).length - x.length = 0 := by omega
            rw [this]; rfl
          · rw [List.getElem?_append_right (by omega), List.getElem?_append_right (by omega)]
            have : (ln2 (LN.take i)).length + x.length + 1 - (ln2 (LN.take i)).length - x.length = 1 := by omega
            rw [this]; rfl
      subst hjx
      refine ⟨x, hx, ?_, ?_, ?_⟩
      · rw [hl]
        apply ByteArray.ext
        apply Array.toList_inj.1
        have e1 : (s.extract (ln2 (LN.take i)).length ((ln2 (LN.take i)).length + x.length)).data.toList = (s.data.toList.take ((ln2 (LN.take i)).length + x.length)).drop (ln2 (LN.take i)).length := by
          simp [List.drop_take]
        rw [e1, hs, List.take_take, Nat.min_eq_left (by omega), List.take_length_add_append, List.drop_left]
        simp
      · rw [he, ln2_take hx]
        simp only [List.length_append, List.length_cons, List.length_nil]
        omega
      · rw [ln2_take hx]
        simp only [List.length_append, List.length_cons, List.length_nil]
        omega
    · exfalso
      have e0 : LN.take i = LN := List.take_of_length_le (by omega)
      rw [e0] at haj
      omega
  · exact .inl he
/-! ### which bytes -/
theorem tok_no : ∀ n, n < 256 → tokB n = true → n ≠ 58 ∧ n ≠ 13 ∧ n ≠ 32 ∧ insB n = true := by decide +kernel
theorem aut_no : ∀ n, n < 256 → autB n = true → n ≠ 13 ∧ insB n = true := by decide +kernel
theorem allB_mem {f : Nat → Bool} {s : ByteArray} (h : allB f s = true) {b : UInt8} (hb : b ∈ s.data.toList) : f b.toNat = true := List.all_eq_true.1 h b hb
theorem allB_of {f : Nat → Bool} {s : ByteArray} (h : ∀ b ∈ s.data.toList, f b.toNat = true) : allB f s = true := List.all_eq_true.2 h
theorem ins_no13 {s : ByteArray} (h : allB insB s = true) : (13 : UInt8) ∉ s.data.toList := fun hb => by
  have := allB_mem h hb
  exact absurd this (by decide)
theorem tk_no {n : ByteArray} (h : tkS n = true) {x : UInt8} (hx : x = 58 ∨ x = 13 ∨ x = 32) : x ∉ n.data.toList := fun hb => by
  unfold tkS at h
  rw [Bool.and_eq_true] at h
  have h1 := tok_no _ (UInt8.toNat_lt x) (allB_mem h.2 hb)
  rcases hx with rfl | rfl | rfl
  · exact h1.1 rfl
  · exact h1.2.1 rfl
  · exact h1.2.2.1 rfl
/-- A field's line, its end apart. -/
def flL (n v : ByteArray) : List UInt8 := n.data.toList ++ [58, 32] ++ v.data.toList
theorem fldB_fl (n v : ByteArray) : fldB n v = flL n v ++ [13, 10] := rfl
/-- A field that is written rightly. -/
def Fok (p : Fd) : Prop := tkS p.1 = true ∧ allB insB p.2 = true
theorem fl_no13 {p : Fd} (h : Fok p) : (13 : UInt8) ∉ flL p.1 p.2 := by
  unfold flL
  intro hm
  simp only [List.mem_append] at hm
  rcases hm with (hm | hm) | hm
  · exact tk_no h.1 (.inr (.inl rfl)) hm
  · revert hm; decide
  · exact ins_no13 h.2 hm
theorem fdsB_ln (l : List Fd) : fdsB l = ln2 (l.map fun p => flL p.1 p.2) := by
  unfold fdsB ln2
  rw [List.flatMap_map]
  rfl
/-- The fields that are written. -/
def hdN' (J : ByteArray) (st : Bool × List Fd) (f : Fd) : Bool × List Fd :=
  if goneS f then st else if eqS f.1 kCoo then (if st.1 then st else (true, st.2 ++ [(f.1, J)])) else (st.1, st.2 ++ [f])
def hdP (J : ByteArray) (l : List Fd) : Bool × List Fd := l.foldl (hdN' J) (false, [])
theorem fdsB_app (a b : List Fd) : fdsB (a ++ b) = fdsB a ++ fdsB b := by unfold fdsB; rw [List.flatMap_append]
theorem fdsB_one (p : Fd) : fdsB [p] = fldB p.1 p.2 := by simp [fdsB]
theorem hdP_S (J : ByteArray) (l : List Fd) : hdS J l = ((hdP J l).1, fdsB (hdP J l).2) := by
  have key : ∀ (l : List Fd) (st : Bool × List Fd), l.foldl (hdN J) (st.1, fdsB st.2) = ((l.foldl (hdN' J) st).1, fdsB (l.foldl (hdN' J) st).2) := by
    intro l
    induction l with
    | nil => intro st; rfl
    | cons f r ih =>
      intro st
      rw [List.foldl_cons, List.foldl_cons, ← ih]
      congr 1
      unfold hdN hdN'
      split
      · rfl
      · split
        · dsimp only
          obtain ⟨s1, s2⟩ := st
          cases s1
          · show (true, fdsB s2 ++ fldB f.1 J) = (true, fdsB (s2 ++ [(f.1, J)]))
            rw [fdsB_app, fdsB_one]
          · rfl
        · dsimp only
          rw [fdsB_app, fdsB_one]
  exact key l (false, [])
theorem hdP_ok (J : ByteArray) (hJ : allB insB J = true) (l : List Fd) (hl : ∀ p ∈ l, Fok p) : ∀ p ∈ (hdP J l).2, Fok p := by
  have key : ∀ (l : List Fd) (st : Bool × List Fd), (∀ p ∈ l, Fok p) → (∀ p ∈ st.2, Fok p) → ∀ p ∈ (l.foldl (hdN' J) st).2, Fok p := by
    intro l
    induction l with
    | nil => intro st _ h; exact h
    | cons f r ih =>
      intro st hl h
      rw [List.foldl_cons]
      refine ih _ (fun p hp => hl p (by simp [hp])) ?_
      have hf := hl f (by simp)
      unfold hdN'
      split
      · exact h
      · split
        · split
          · exact h
          · intro p hp
            rcases List.mem_append.1 hp with hp | hp
            · exact h p hp
            · simp at hp; subst hp; exact ⟨hf.1, hJ⟩
        · intro p hp
          rcases List.mem_append.1 hp with hp | hp
          · exact h p hp
          · simp at hp; subst hp; exact hf
  exact key l (false, []) hl (fun p hp => by cases hp)
theorem ckJ_ins {l : List Fd} (hl : ∀ p ∈ l, Fok p) : allB insB (ckJ l) = true := by
  refine allB_of (fun b hb => ?_)
  have hb' : b ∈ joinC (ckL l) := hb
  have key : ∀ c : List ByteArray, (∀ s ∈ c, allB insB s = true) → ∀ b ∈ joinC c, insB b.toNat = true := by
    intro c hc b hb
    unfold joinC at hb
    cases c with
    | nil => cases hb
    | cons x r =>
      rw [List.map_cons, Lib.join_cons] at hb
      rcases List.mem_append.1 hb with hb | hb
      · exact allB_mem (hc x (by simp)) hb
      · unfold Lib.joinTail at hb
        rw [List.mem_flatten] at hb
        obtain ⟨y, hy, hb⟩ := hb
        simp only [List.map_map, List.mem_map, Function.comp] at hy
        obtain ⟨s, hs, rfl⟩ := hy
        rcases List.mem_append.1 hb with hb | hb
        · have : ∀ b ∈ ([59, 32] : List UInt8), insB b.toNat = true := by decide
          exact this b hb
        · exact allB_mem (hc s (by simp [hs])) hb
  refine key _ (fun s hs => ?_) b hb'
  unfold ckL at hs
  obtain ⟨p, hp, rfl⟩ := List.mem_map.1 hs
  exact (hl p (List.mem_filter.1 hp).1).2
/-- The field that says how the body is framed. -/
def frmP (m : ByteArray) (n : Int) (b : Bool) : List Fd := if frm m n b = 1 then [(kLen, ⟨(Lib.decDigits n.toNat).toArray⟩)] else if frm m n b = 2 then [(kTra, sChk)] else []
theorem frmP_B (m : ByteArray) (n : Int) (b : Bool) : frmB m n b = fdsB (frmP m n b) := by
  unfold frmB frmP
  split
  · rw [fdsB_one]
  · split
    · rw [fdsB_one]
    · rfl
theorem dig_ins (u : Nat) : ∀ b ∈ Lib.decDigits u, insB b.toNat = true := by
  induction u using Nat.strongRecOn with
  | ind u ih =>
    rw [Lib.decDigits]
    have hd : ∀ d, d < 10 → insB (UInt8.ofNat (48 + d)).toNat = true := by decide
    split
    · intro b hb
      rw [List.mem_singleton] at hb
      subst hb
      exact hd u (by omega)
    · intro b hb
      rcases List.mem_append.1 hb with hb | hb
      · exact ih (u / 10) (by omega) b hb
      · rw [List.mem_singleton] at hb
        subst hb
        exact hd (u % 10) (by omega)
theorem frmP_ok (m : ByteArray) (n : Int) (b : Bool) : ∀ p ∈ frmP m n b, Fok p := by
  unfold frmP
  split
  · intro p hp
    simp at hp
    subst hp
    exact ⟨show tkS kLen = true by decide +kernel, allB_of (fun b hb => dig_ins _ b hb)⟩
  · split
    · intro p hp
      simp at hp
      subst hp
      exact ⟨by decide +kernel, by decide +kernel⟩
    · intro p hp; cases hp
/-- All fields of a head; its request line; its lines. -/
def hdF (a : ByteArray) (l : List Fd) (m : ByteArray) (n : Int) (b : Bool) : List Fd := (sHost, a) :: ((hdP (ckJ l) l).2 ++ frmP m n b ++ [(sVia, sTurn)])
def rqL (m p : ByteArray) : List UInt8 := m.data.toList ++ [32] ++ p.data.toList ++ sHTTP.data.toList
def hdLN (m p a : ByteArray) (l : List Fd) (n : Int) (b : Bool) : List (List UInt8) := rqL m p :: (hdF a l m n b).map fun q => flL q.1 q.2
theorem headB_ln (m p a : ByteArray) (l : List Fd) (n : Int) (b : Bool) : headB m p a l n b = ln2 (hdLN m p a l n b) ++ [13, 10] := by
  have h1 : hdB l = fdsB (hdP (ckJ l) l).2 := by unfold hdB; rw [hdP_S]
  unfold headB topB endB hdLN hdF
  rw [ln2_cons, ← fdsB_ln, h1, frmP_B]
  have e : fdsB ((sHost, a) :: ((hdP (ckJ l) l).2 ++ frmP m n b ++ [(sVia, sTurn)])) = fldB sHost a ++ (fdsB (hdP (ckJ l) l).2 ++ fdsB (frmP m n b) ++ fldB sVia sTurn) := by
    have e2 : fdsB ((sHost, a) :: ((hdP (ckJ l) l).2 ++ frmP m n b ++ [(sVia, sTurn)])) = fdsB [(sHost, a)] ++ fdsB ((hdP (ckJ l) l).2 ++ frmP m n b ++ [(sVia, sTurn)]) := by
      rw [← fdsB_app]; rfl
    rw [e2, fdsB_app, fdsB_app, fdsB_one, fdsB_one]
  rw [e]
  simp [catB, rqL]
end Go.Proofs.YtclapheglgiokaaDoor

/-
  The grammar's Small and Trim, as far as a request's beginnings ask: contracts that the statements' walks use.
-/
namespace Go.Proofs.YtclapheglgiokaaDoor
open Go.RowKit
set_option linter.unusedVariables false
set_option maxRecDepth 20000

/-- A row of bytes of which only its length is known: its cells hold bytes and may be written. -/
def BW (W : World) (b n : Nat) : Prop := ∃ zs : List UInt8, zs.length = n ∧ (∀ i (h : i < zs.length), W.cell? ⟨b, i, none⟩ = some (.int .u8 (zs[i].toNat : Int))) ∧ ∀ i, i < n → W.frozen? ⟨b, i, none⟩ = false
theorem conv_bw (s : ByteArray) (w : World) : ∃ (c : Nat) (w' : World), (convert 9 28 (.string s)).run Tryd.prog w = .ok (.slice (some ⟨w.heap.size, 0, none⟩) s.size c) w' ∧ Q w w' ∧ BW w' w.heap.size s.size := by
  have h := run_bytes_of_string (P := Tryd.prog) w 9 28 5 s Tryd.underlying9 Tryd.underlying28 Tryd.underlying5
  refine ⟨_, _, h, ((Q.refl w).drew).alloc _, s.data.toList, rfl, fun i hi => ?_, fun i hi => ?_⟩
  · have hi' : i < s.data.size := by simpa using hi
    have hc := World.cell?_alloc_mark w.drew (bytesRow s (grownCap w s.size 0 5)) 5 ((bytesRow s (grownCap w s.size 0 5)).size, (bytesRow s (grownCap w s.size 0 5)).size + 1) i
    rw [show w.drew.heap.size = w.heap.size from rfl] at hc
    rw [hc, bytesRow_at s _ i hi']
    simp
  · have hf := World.frozen?_alloc_mark w.drew (bytesRow s (grownCap w s.size 0 5)) 5 (bytesRow s (grownCap w s.size 0 5)).size ((bytesRow s (grownCap w s.size 0 5)).size + 1) i
    rw [show w.drew.heap.size = w.heap.size from rfl] at hf
    rw [hf]
    have hsz : i < (bytesRow s (grownCap w s.size 0 5)).size := by
      have hb := bytesRow_at s (grownCap w s.size 0 5) i hi
      exact (Array.getElem?_eq_some_iff.1 hb).1
    simp
    omega
theorem BW.set {W : World} {b n i : Nat} {v : UInt8} (h : BW W b n) (hi : i < n) : BW (W.setCell ⟨b, i, none⟩ (.int .u8 (v.toNat : Int))) b n := by
  obtain ⟨zs, hl, hc, hf⟩ := h
  refine ⟨zs.set i v, by rw [List.length_set]; exact hl, fun j hj => ?_, fun j hj => by rw [World.frozen?_setCell]; exact hf j hj⟩
  have hj' : j < zs.length := by simpa using hj
  by_cases e : j = i
  · subst e
    rw [World.cell?_setCell_same _ _ _ (hc j hj')]
    simp
  · rw [World.cell?_setCell_other _ _ _ _ (by intro h; exact e (by simpa using (congrArg Addr.off h).symm)), hc j hj']
    simp [Ne.symm e]
theorem BW.str {W : World} {b n c : Nat} (h : BW W b n) : ∃ t : ByteArray, (convert 28 9 (.slice (some ⟨b, 0, none⟩) n c)).run Tryd.prog W = .ok (.string t) W := by
  obtain ⟨zs, hl, hc, _⟩ := h
  subst hl
  exact ⟨_, run_convert_bytes_back W 28 9 5 ⟨b, 0, none⟩ c zs Tryd.underlying28 Tryd.underlying5 Tryd.underlying9 (fun j hj => by rw [addr_add, Nat.zero_add]; exact hc j hj)⟩
set_option maxHeartbeats 4000000 in
/-- Small answers some text. -/
theorem small32_any (s : ByteArray) (w : World) (hs : s.size ≤ 140737488355328) : Calls Tryd.prog 32 #[.string s] w fun e w' => ∃ t : ByteArray, e = .returned (.string t) ∧ Q w w' := by
  obtain ⟨c, w1, hcv, q1, b1⟩ := conv_bw s w
  have HS := hid hs
  have Q1 := hid q1
  have B1 := hid b1
  have HWZ := hid (Nat.le_refl w.heap.size)
  clear hs q1 b1
  go_enter Tryd.func32, Tryd.ntmps32
  go_wp2_with fail
  generalize hb : w.heap.size = b at *
  have HBB := hid hb
  clear hb
  go_loopw [4] (fun i wr => ∃ k : Nat, k ≤ s.size ∧ i = .int .i64 (k : Int) ∧ Q w wr ∧ BW wr b s.size) (fun i _ => s.size - (intOf i).toNat)
  case atStart => exact ⟨0, Nat.zero_le _, rfl, Q1.out, B1.out⟩
  case round =>
    obtain ⟨k, hk, rfl, hq, hb⟩ := hrel
    have HQ := hid hq
    have HB := hid hb
    by_cases hlt : k < s.size
    · obtain ⟨zs, hl, hc, hf⟩ := hb
      have c0 : wr.cell? ⟨b, k, none⟩ = some (.int .u8 ((zs[k]'(by omega)).toNat : Int)) := hc k (by omega)
      have f0 : wr.frozen? ⟨b, k, none⟩ = false := hf k hlt
      have hx : (zs[k]'(by omega)).toNat < 256 := UInt8.toNat_lt _
      generalize (zs[k]'(by omega)).toNat = x at c0 hx
      have hki : (k : Int) < (s.size : Int) := by omega
      have hk0 : (0 : Int) ≤ (k : Int) := by omega
      have hkb : (k : Int) < 140737488355328 := by have := HS.out; omega
      have HLT := hid hlt
      clear hc hf hl hq
      by_cases h1 : 65 ≤ x ∧ x ≤ 90
      · have a1 : (65 : Int) ≤ (x : Int) := by omega
        have a2 : (x : Int) ≤ 90 := by omega
        have HST := hid (show BW (wr.setCell ⟨b, k, none⟩ (.int .u8 ((x : Int) + 32))) b s.size from by
          have := HB.out.set (v := UInt8.ofNat (x + 32)) HLT.out
          have e : ((UInt8.ofNat (x + 32)).toNat : Int) = (x : Int) + 32 := by
            rw [UInt8.toNat_ofNat']
            omega
          rw [e] at this
          exact this)
        have HQ2 := hid (show Q w (wr.setCell ⟨b, k, none⟩ (.int .u8 ((x : Int) + 32))) from ((Keep.refl (fun i => i = b) wr).setCell b k _ (.inl rfl)).below HQ.out HQ.out.size (fun i e => by have := HBB.out; omega))
        clear h1
        go_wp2
        go_roundw
        case rel => exact ⟨k + 1, by omega, by go_num, HQ2.out, HST.out⟩
        case measure => simp [intOf]; omega
      · by_cases h2 : 65 ≤ x
        · have a1 : (65 : Int) ≤ (x : Int) := by omega
          have a2 : ¬ (x : Int) ≤ 90 := by omega
          clear h1 h2
          go_wp2
          go_roundw
          case rel => exact ⟨k + 1, by omega, by go_num, HQ.out, HB.out⟩
          case measure => simp [intOf]; omega
        · have a1 : ¬ (65 : Int) ≤ (x : Int) := by omega
          clear h1 h2
          go_wp2
          go_roundw
          case rel => exact ⟨k + 1, by omega, by go_num, HQ.out, HB.out⟩
          case measure => simp [intOf]; omega
    · have hki : ¬ (k : Int) < (s.size : Int) := by omega
      obtain ⟨t, ht⟩ := BW.str (c := c) hb
      clear hq hb hlt
      go_wp2
      go_ret
      exact ⟨⟨t, rfl⟩, HQ.out⟩
end Go.Proofs.YtclapheglgiokaaDoor

/-
  The grammar's Trim, as far as a request's beginnings ask: a contract that the statements' walks use.
-/
namespace Go.Proofs.YtclapheglgiokaaDoor
open Go.RowKit
set_option linter.unusedVariables false
set_option maxRecDepth 20000

theorem str_from1 (t : ByteArray) (h : 1 ≤ t.size) (W : World) : (Instr.slice 9 (.string t) (some (.int .i64 1)) none none).run Tryd.prog W = .ok (.string (t.extract 1 t.size)) W := by
  have h1 : (1 : Int) ≤ (t.size : Int) := by omega
  simp [Instr.slice, go_sem, run_underlying Tryd.underlying9, h1]
theorem str_to (t : ByteArray) (m : Nat) (h : m ≤ t.size) (W : World) : (Instr.slice 9 (.string t) none (some (.int .i64 (m : Int))) none).run Tryd.prog W = .ok (.string (t.extract 0 m)) W := by
  rw [run_slice_string_to_if W 9 t .i64 _ Tryd.underlying9, if_pos ⟨by omega, by omega⟩]
  rfl
/-- A text out of another's bytes. -/
def Sb (s t : ByteArray) : Prop := t.size ≤ s.size ∧ ∀ b ∈ t.data.toList, b ∈ s.data.toList
theorem extract_mem (t : ByteArray) (a b : Nat) : ∀ x ∈ (t.extract a b).data.toList, x ∈ t.data.toList := by
  intro x hx
  have e : (t.extract a b).data.toList = (t.data.toList.take b).drop a := by simp [List.drop_take]
  rw [e] at hx
  exact List.mem_of_mem_take (List.mem_of_mem_drop hx)
theorem Sb.cut {s t : ByteArray} (h : Sb s t) (a b : Nat) : Sb s (t.extract a b) := ⟨by rw [ByteArray.size_extract]; have := h.1; omega, fun x hx => h.2 x (extract_mem t a b x hx)⟩
theorem fsS_nil' (t : ByteArray) (h : t.size = 0) : fsS t = true := by
  have : t.data.toList = [] := List.eq_nil_of_length_eq_zero (by simpa using h)
  unfold fsS
  rw [this]
theorem fsS_to {t : ByteArray} (m : Nat) (hm : m ≤ t.size) (h : fsS t = true) : fsS (t.extract 0 m) = true := by
  by_cases h0 : m = 0
  · exact fsS_nil' _ (by rw [ByteArray.size_extract]; omega)
  · have e : (t.extract 0 m).data.toList = t.data.toList.take m := by simp
    unfold fsS at h ⊢
    rw [e]
    cases hl : t.data.toList with
    | nil => simp
    | cons b r =>
      rw [hl] at h
      obtain ⟨k, rfl⟩ : ∃ k, m = k + 1 := ⟨m - 1, by omega⟩
      exact h
def szV : Value → Nat
  | .string t => t.size
  | _ => 0
theorem blk1_t {n : Nat} : blk1 n = true ↔ n = 32 ∨ n = 9 := by unfold blk1; simp
set_option maxHeartbeats 8000000 in
theorem trim70_any (s : ByteArray) (w : World) (hs : s.size ≤ 140737488355328) : Calls Tryd.prog 70 #[.string s] w fun e w' => ∃ t, (Sb s t ∧ fsS t = true ∧ lsS t = true) ∧ e = .returned (.string t) ∧ w' = w := by
  have HS := hid hs
  clear hs
  go_enter Tryd.func70, Tryd.ntmps70
  go_wp2_with fail
  go_loop [0] (fun v => ∃ t : ByteArray, v = .string t ∧ Sb s t) (fun v => szV v)
  case atStart => exact ⟨s, rfl, Nat.le_refl _, fun b hb => hb⟩
  case round =>
    obtain ⟨t, rfl, hsb⟩ := hrel
    have HSB := hid hsb
    have htb : t.size ≤ 140737488355328 := by have := HS.out; have := hsb.1; omega
    have HTB := hid htb
    clear hsb
    by_cases h0 : 0 < t.size
    · have hix := fun W => str_ix t 0 h0 W
      have hz0 : ((0 : Nat) : Int) = 0 := rfl
      rw [hz0] at hix
      have hsz : (0 : Int) < (t.size : Int) := by omega
      have hsm : (t.size : Int) ≤ 140737488355328 := by omega
      have HFS := hid (fsS_at t h0)
      have hcb : (t[0]'h0).toNat < 256 := UInt8.toNat_lt _
      have hsl := fun W => str_from1 t h0 W
      have HSZ := hid (show (t.extract 1 t.size).size < t.size from by rw [ByteArray.size_extract]; omega)
      generalize (t[0]'h0).toNat = c at *
      have H0 := hid h0
      clear hz0 h0 htb
      by_cases hb : blk1 c = true
      · rcases blk1_t.1 hb with rfl | rfl
        · clear hb
          go_wp2_with fail
          go_round
          case rel => exact ⟨_, rfl, HSB.out.cut 1 t.size⟩
          case measure => exact HSZ.out
        · clear hb
          go_wp2_with fail
          go_round
          case rel => exact ⟨_, rfl, HSB.out.cut 1 t.size⟩
          case measure => exact HSZ.out
      · have hc1 : ((c : Int) == 32) = false := by have : ¬ (c = 32 ∨ c = 9) := fun h => hb (blk1_t.2 h); simp; omega
        have hc2 : ((c : Int) == 9) = false := by have : ¬ (c = 32 ∨ c = 9) := fun h => hb (blk1_t.2 h); simp; omega
        have HFT := hid (show fsS t = true from by rw [HFS.out]; simp [hb])
        clear hb hsl HFS
        go_wp2_with fail
        go_loop [0] (fun v => ∃ u : ByteArray, v = .string u ∧ Sb s u ∧ fsS u = true) (fun v => szV v)
        case atStart => exact ⟨t, rfl, HSB.out, HFT.out⟩
        case round =>
          obtain ⟨u, rfl, hsb2, hfu⟩ := hrel
          have HSU := hid (And.intro hsb2 hfu)
          have hub : (u.size : Int) ≤ 140737488355328 := by have := HS.out; have := hsb2.1; omega
          clear hsb2 hfu
          by_cases hu0 : 0 < u.size
          · obtain ⟨m, hm⟩ : ∃ m, u.size = m + 1 := ⟨u.size - 1, by omega⟩
            have hml : m < u.size := by omega
            have hix2 := fun W => str_ix u m hml W
            have hmI : (u.size : Int) - 1 = (m : Int) := by omega
            have husz : (0 : Int) < (u.size : Int) := by omega
            have hm0 : (0 : Int) ≤ (m : Int) := by omega
            have hmL : (m : Int) < (u.size : Int) := by omega
            have hdb : (u[m]'hml).toNat < 256 := UInt8.toNat_lt _
            have HLS := hid (lsS_at u m hm)
            have hsl2 := fun W => str_to u m (by omega) W
            have HMS := hid (show (u.extract 0 m).size < u.size from by rw [ByteArray.size_extract]; omega)
            have HML := hid hml
            generalize (u[m]'hml).toNat = d at *
            clear hm hml hu0
            by_cases hb2 : blk1 d = true
            · rcases blk1_t.1 hb2 with rfl | rfl
              · clear hb2
                go_wp2_with fail
                go_round
                case rel => exact ⟨_, rfl, HSU.out.1.cut 0 m, fsS_to m (by have := HML.out; omega) HSU.out.2⟩
                case measure => exact HMS.out
              · clear hb2
                go_wp2_with fail
                go_round
                case rel => exact ⟨_, rfl, HSU.out.1.cut 0 m, fsS_to m (by have := HML.out; omega) HSU.out.2⟩
                case measure => exact HMS.out
            · have hd1 : ((d : Int) == 32) = false := by have : ¬ (d = 32 ∨ d = 9) := fun h => hb2 (blk1_t.2 h); simp; omega
              have hd2 : ((d : Int) == 9) = false := by have : ¬ (d = 32 ∨ d = 9) := fun h => hb2 (blk1_t.2 h); simp; omega
              have HL := hid (show lsS u = true from by rw [HLS.out]; simp [hb2])
              clear hb2 hsl2
              go_wp2_with fail
              go_ret
              exact ⟨u, ⟨HSU.out.1, HSU.out.2, HL.out⟩, rfl, rfl⟩
          · have husz : (u.size : Int) = 0 := by omega
            have HL := hid (lsS_nil u (by omega))
            clear hu0
            go_wp2_with fail
            go_ret
            exact ⟨u, ⟨HSU.out.1, HSU.out.2, HL.out⟩, rfl, rfl⟩
    · have hsz : (t.size : Int) = 0 := by omega
      have HFT := hid (fsS_nil' t (by omega))
      clear h0 htb
      go_wp2_with fail
      go_loop [0] (fun v => ∃ u : ByteArray, v = .string u ∧ Sb s u ∧ fsS u = true) (fun v => szV v)
      case atStart => exact ⟨t, rfl, HSB.out, HFT.out⟩
      case round =>
        obtain ⟨u, rfl, hsb2, hfu⟩ := hrel
        have HSU := hid (And.intro hsb2 hfu)
        have hub : (u.size : Int) ≤ 140737488355328 := by have := HS.out; have := hsb2.1; omega
        clear hsb2 hfu
        by_cases hu0 : 0 < u.size
        · obtain ⟨m, hm⟩ : ∃ m, u.size = m + 1 := ⟨u.size - 1, by omega⟩
          have hml : m < u.size := by omega
          have hix2 := fun W => str_ix u m hml W
          have hmI : (u.size : Int) - 1 = (m : Int) := by omega
          have husz : (0 : Int) < (u.size : Int) := by omega
          have hm0 : (0 : Int) ≤ (m : Int) := by omega
          have hmL : (m : Int) < (u.size : Int) := by omega
          have hdb : (u[m]'hml).toNat < 256 := UInt8.toNat_lt _
          have HLS := hid (lsS_at u m hm)
          have hsl2 := fun W => str_to u m (by omega) W
          have HMS := hid (show (u.extract 0 m).size < u.size from by rw [ByteArray.size_extract]; omega)
          have HML := hid hml
          generalize (u[m]'hml).toNat = d at *
          clear hm hml hu0
          by_cases hb2 : blk1 d = true
          · rcases blk1_t.1 hb2 with rfl | rfl
            · clear hb2
              go_wp2_with fail
              go_round
              case rel => exact ⟨_, rfl, HSU.out.1.cut 0 m, fsS_to m (by have := HML.out; omega) HSU.out.2⟩
              case measure => exact HMS.out
            · clear hb2
              go_wp2_with fail
              go_round
              case rel => exact ⟨_, rfl, HSU.out.1.cut 0 m, fsS_to m (by have := HML.out; omega) HSU.out.2⟩
              case measure => exact HMS.out
          · have hd1 : ((d : Int) == 32) = false := by have : ¬ (d = 32 ∨ d = 9) := fun h => hb2 (blk1_t.2 h); simp; omega
            have hd2 : ((d : Int) == 9) = false := by have : ¬ (d = 32 ∨ d = 9) := fun h => hb2 (blk1_t.2 h); simp; omega
            have HL := hid (show lsS u = true from by rw [HLS.out]; simp [hb2])
            clear hb2 hsl2
            go_wp2_with fail
            go_ret
            exact ⟨u, ⟨HSU.out.1, HSU.out.2, HL.out⟩, rfl, rfl⟩
        · have husz : (u.size : Int) = 0 := by omega
          have HL := hid (lsS_nil u (by omega))
          clear hu0
          go_wp2_with fail
          go_ret
          exact ⟨u, ⟨HSU.out.1, HSU.out.2, HL.out⟩, rfl, rfl⟩
end Go.Proofs.YtclapheglgiokaaDoor

/-
  The regions of the grammar's field that draw their order. Gone through by hand.
-/
namespace Go.Proofs.YtclapheglgiokaaDoor
open Go.RowKit
set_option linter.unusedVariables false
set_option maxRecDepth 20000

theorem sl_to {o : Oper} {a : Act} {w : World} (x y : Operand) (s t : ByteArray) (n : Nat) (ho : o.op = .slice 9 x none (some y) none) (hx : a.eval x = .string s) (hy : a.eval y = .int .i64 (n : Int)) (hr : ∀ W, (Instr.slice 9 (.string s) none (some (.int .i64 (n : Int))) none).run Tryd.prog W = .ok (.string t) W) : (execOp a.eval o).run Tryd.prog w = .ok (.value (.string t)) w := by
  unfold execOp
  simp only [ho, hx]
  simp only [Option.map, hy, Instr.sliceAt, Sem.run_bind, run_underlying Tryd.underlying9, Result.andThen_ok, hr, Sem.run_pure]
theorem sl_from {o : Oper} {a : Act} {w : World} (x y : Operand) (s t : ByteArray) (n : Int) (ho : o.op = .slice 9 x (some y) none none) (hx : a.eval x = .string s) (hy : a.eval y = .int .i64 n) (hr : ∀ W, (Instr.slice 9 (.string s) (some (.int .i64 n)) none none).run Tryd.prog W = .ok (.string t) W) : (execOp a.eval o).run Tryd.prog w = .ok (.value (.string t)) w := by
  unfold execOp
  simp only [ho, hx]
  simp only [Option.map, hy, Instr.sliceAt, Sem.run_bind, run_underlying Tryd.underlying9, Result.andThen_ok, hr, Sem.run_pure]
theorem add1_any {o : Oper} {a : Act} {w : World} (x y : Operand) (n : Nat) (hn : n ≤ 140737488355328) (ho : o.op = .binOp BinOp.add 3 x y 3) (hx : a.eval x = .int .i64 (n : Int)) (hy : a.eval y = .int .i64 1) : (execOp a.eval o).run Tryd.prog w = .ok (.value (.int .i64 ((n : Int) + 1))) w := by
  have hw : IntKind.i64.wrap ((n : Int) + 1) = (n : Int) + 1 := by rw [wrap_i64]; omega
  unfold execOp
  simp only [ho, hx, hy]
  simp [go_sem, binOp, hw]
/-- The world beside the result's own block is as it was, and the field's block holds it. -/
def FS (w : World) (b2 gb : Nat) (t1 t2 : ByteArray) (u : World) : Prop := Keep (fun i => i = b2) w u ∧ Blk u gb 57 #[.string t1, .string t2] ∧ b2 ≠ gb
theorem fs_q {w : World} {b2 gb : Nat} {t1 t2 : ByteArray} {u v : World} (h : FS w b2 gb t1 t2 u) (q : Q u v) : FS w b2 gb t1 t2 v := ⟨h.1.trans (Keep.ofQ q), h.2.1.q q, h.2.2⟩
theorem ld57 {w : World} {b : Nat} {t1 t2 : ByteArray} (h : Blk w b 57 #[.string t1, .string t2]) : (loadVar 57 ⟨b, 0, none⟩).run Tryd.prog w = .ok (.agg #[.string t1, .string t2]) w := by
  have h0 : w.cell? ⟨b, 0, none⟩ = some (.string t1) := h.cell 0
  have h1 : w.cell? ⟨b, 1, none⟩ = some (.string t2) := h.cell 1
  simp [loadVar, go_sem, h0, h1]
theorem info57s (t1 t2 : ByteArray) : (Tryd.prog.info? 57).map (·.size) = some (#[Value.string t1, Value.string t2] : Array Value).size := by kernel_rfl
theorem wpAnyH_l2 {P : Program} {ops : Array Oper} {Q : Exit → Act → World → Prop} {S : World → Prop} {i j fuel : Nat} {L : Array Bool} {a : Act} {w : World} (hr : Region.ready .any ops L = [i, j])
    (h1 : wpOp P ops Q i (fun a' w' => S w' ∧ wpAnyH P .any ops Q S fuel (L.setIfInBounds i true) a' w') a w)
    (h2 : wpOp P ops Q j (fun a' w' => S w' ∧ wpAnyH P .any ops Q S fuel (L.setIfInBounds j true) a' w') a w) : wpAnyH P .any ops Q S (fuel + 1) L a w :=
  wpAnyH_all hr (by simp) (fun l hl => by
    rcases List.mem_cons.1 hl with e | hl
    · rw [e]; exact h1
    · have e' : l = j := by simpa using hl
      rw [e']; exact h2)
theorem wpAnyH_l3 {P : Program} {ops : Array Oper} {Q : Exit → Act → World → Prop} {S : World → Prop} {i j k fuel : Nat} {L : Array Bool} {a : Act} {w : World} (hr : Region.ready .any ops L = [i, j, k])
    (h1 : wpOp P ops Q i (fun a' w' => S w' ∧ wpAnyH P .any ops Q S fuel (L.setIfInBounds i true) a' w') a w)
    (h2 : wpOp P ops Q j (fun a' w' => S w' ∧ wpAnyH P .any ops Q S fuel (L.setIfInBounds j true) a' w') a w)
    (h3 : wpOp P ops Q k (fun a' w' => S w' ∧ wpAnyH P .any ops Q S fuel (L.setIfInBounds k true) a' w') a w) : wpAnyH P .any ops Q S (fuel + 1) L a w :=
  wpAnyH_all hr (by simp) (fun l hl => by
    rcases List.mem_cons.1 hl with e | hl
    · rw [e]; exact h1
    · rcases List.mem_cons.1 hl with e | hl
      · rw [e]; exact h2
      · have e' : l = k := by simpa using hl
        rw [e']; exact h3)
def fl5g0z (s nm vl : ByteArray) (n : Nat)  : List (Nat × Value) := [(0, .string s), (1, .int .i64 (n : Int)), (4, .string s), (5, .int .i64 (n : Int)), (2, .string nm), (6, .int .i64 ((n : Int) + 1)), (7, .string vl)]
set_option maxHeartbeats 8000000 in
theorem fl5g0 (s nm vl : ByteArray) (n : Nat)  {x1 x2 x3 x5 x6 x7 x8 x9 x10 x11 x12 x13 x14 x15 x16 x17 x18 x19 x20 x21 x22 x23 x24 x25 x26 x27 x28 x29 x30 x31 x32 x33 x34 x35 x36 : Value} (w : World) (hn : n ≤ 140737488355328) (hnm : ∀ W, (Instr.slice 9 (.string s) none (some (.int .i64 (n : Int))) none).run Tryd.prog W = .ok (.string nm) W) (hvl : ∀ W, (Instr.slice 9 (.string s) (some (.int .i64 ((n : Int) + 1))) none none).run Tryd.prog W = .ok (.string vl) W) (HS : ∀ W, Calls Tryd.prog 32 #[.string nm] W fun e w' => ∃ t : ByteArray, e = .returned (.string t) ∧ Q W w') (HT : ∀ W, Calls Tryd.prog 70 #[.string vl] W fun e w' => ∃ t : ByteArray, (vlS t = true ∧ t.size ≤ 140737488355328) ∧ e = .returned (.string t) ∧ Q W w') : Chn Tryd.prog (RofN Tryd.f84 5) (Q w) (fl5g0z s nm vl n ) (#[false, false, false, false, false, false, false, false, false, false, false, false] : Array Bool) (⟨#[.string s, x1, x2, x3, .int .i64 (n : Int), x5, x6, x7, x8, x9, x10, x11, x12, x13, x14, x15, x16, x17, x18, x19, x20, x21, x22, x23, x24, x25, x26, x27, x28, x29, x30, x31, x32, x33, x34, x35, x36], []⟩ : Act) :=
  ⟨⟨by kernel_rfl, by kernel_rfl, by kernel_rfl, by kernel_rfl, fun u h => by kernel_rfl⟩,
    ⟨by kernel_rfl, by kernel_rfl, by kernel_rfl, by kernel_rfl, fun u h => by kernel_rfl⟩,
    ⟨by kernel_rfl, by kernel_rfl, by kernel_rfl, by kernel_rfl, fun u h => by kernel_rfl⟩,
    ⟨by kernel_rfl, by kernel_rfl, by kernel_rfl, by kernel_rfl, fun u h => by kernel_rfl⟩,
    ⟨by kernel_rfl, by kernel_rfl, by kernel_rfl, by kernel_rfl, fun u h => sl_to (.tmp 16) (.tmp 17) s nm n (by kernel_rfl) (by kernel_rfl) (by kernel_rfl) hnm⟩,
    ⟨by kernel_rfl, by kernel_rfl, by kernel_rfl, by kernel_rfl, fun u h => add1_any (.tmp 21) (.const (.int .i64 1)) n hn (by kernel_rfl) (by kernel_rfl) (by kernel_rfl)⟩,
    ⟨by kernel_rfl, by kernel_rfl, by kernel_rfl, by kernel_rfl, fun u h => sl_from (.tmp 20) (.tmp 22) s vl ((n : Int) + 1) (by kernel_rfl) (by kernel_rfl) (by kernel_rfl) hvl⟩,
    trivial⟩
def fl5g1z (s nm vl : ByteArray) (n : Nat) (t1 : ByteArray) (t2 : ByteArray) : List (Nat × Value) := [(9, .agg #[.string t1, .string t2])]
set_option maxHeartbeats 8000000 in
theorem fl5g1 (s nm vl : ByteArray) (n : Nat) (t1 : ByteArray) (t2 : ByteArray) {x1 x2 x3 x5 x6 x7 x8 x9 x10 x11 x12 x13 x14 x15 x25 x26 x27 x28 x29 x30 x31 x32 x33 x34 x35 x36 : Value} (w : World) (hn : n ≤ 140737488355328) (hnm : ∀ W, (Instr.slice 9 (.string s) none (some (.int .i64 (n : Int))) none).run Tryd.prog W = .ok (.string nm) W) (hvl : ∀ W, (Instr.slice 9 (.string s) (some (.int .i64 ((n : Int) + 1))) none none).run Tryd.prog W = .ok (.string vl) W) (HS : ∀ W, Calls Tryd.prog 32 #[.string nm] W fun e w' => ∃ t : ByteArray, e = .returned (.string t) ∧ Q W w') (HT : ∀ W, Calls Tryd.prog 70 #[.string vl] W fun e w' => ∃ t : ByteArray, (vlS t = true ∧ t.size ≤ 140737488355328) ∧ e = .returned (.string t) ∧ Q W w') : Chn Tryd.prog (RofN Tryd.f84 5) (Q w) (fl5g1z s nm vl n t1 t2) (#[true, true, true, true, true, true, true, true, true, false, false, false] : Array Bool) (⟨#[.string s, x1, x2, x3, .int .i64 (n : Int), x5, x6, x7, x8, x9, x10, x11, x12, x13, x14, x15, .string s, .int .i64 (n : Int), .string nm, .string t1, .string s, .int .i64 (n : Int), .int .i64 ((n : Int) + 1), .string vl, .string t2, x25, x26, x27, x28, x29, x30, x31, x32, x33, x34, x35, x36], []⟩ : Act) :=
  ⟨⟨by kernel_rfl, by kernel_rfl, by kernel_rfl, by kernel_rfl, fun u h => by kernel_rfl⟩,
    trivial⟩
def fl5g2z (s nm vl : ByteArray) (n : Nat) (t1 : ByteArray) (t2 : ByteArray) (gb : Nat) : List (Nat × Value) := [(9, .agg #[.string t1, .string t2])]
set_option maxHeartbeats 8000000 in
theorem fl5g2 (s nm vl : ByteArray) (n : Nat) (t1 : ByteArray) (t2 : ByteArray) (gb : Nat) {x1 x2 x3 x6 x7 x8 x9 x10 x11 x12 x13 x14 x15 x25 x26 x27 x28 x29 x30 x31 x32 x33 x34 x35 x36 : Value} (w : World) (hn : n ≤ 140737488355328) (hnm : ∀ W, (Instr.slice 9 (.string s) none (some (.int .i64 (n : Int))) none).run Tryd.prog W = .ok (.string nm) W) (hvl : ∀ W, (Instr.slice 9 (.string s) (some (.int .i64 ((n : Int) + 1))) none none).run Tryd.prog W = .ok (.string vl) W) (HS : ∀ W, Calls Tryd.prog 32 #[.string nm] W fun e w' => ∃ t : ByteArray, e = .returned (.string t) ∧ Q W w') (HT : ∀ W, Calls Tryd.prog 70 #[.string vl] W fun e w' => ∃ t : ByteArray, (vlS t = true ∧ t.size ≤ 140737488355328) ∧ e = .returned (.string t) ∧ Q W w') : Chn Tryd.prog (RofN Tryd.f84 5) (Q w) (fl5g2z s nm vl n t1 t2 gb) (#[true, true, true, true, true, true, true, true, true, false, true, false] : Array Bool) (⟨#[.string s, x1, x2, x3, .int .i64 (n : Int), .pointer (some ⟨gb, 0, none⟩), x6, x7, x8, x9, x10, x11, x12, x13, x14, x15, .string s, .int .i64 (n : Int), .string nm, .string t1, .string s, .int .i64 (n : Int), .int .i64 ((n : Int) + 1), .string vl, .string t2, x25, x26, x27, x28, x29, x30, x31, x32, x33, x34, x35, x36], []⟩ : Act) :=
  ⟨⟨by kernel_rfl, by kernel_rfl, by kernel_rfl, by kernel_rfl, fun u h => by kernel_rfl⟩,
    trivial⟩
set_option maxHeartbeats 16000000 in
theorem fl5_3_8_10_11 (s nm vl : ByteArray) (n : Nat) (t1 : ByteArray) (t2 : ByteArray) (gb : Nat)  {x1 x2 x3 x6 x7 x8 x9 x10 x11 x12 x13 x14 x15 x26 x27 x28 x29 x30 x31 x32 x33 x34 x35 x36 : Value} (w : World) (R : Exit → Act → World → Prop) (hQ : ∀ c a d v w, R (.panic c) (a.put d v) w → R (.panic c) a w) (hn : n ≤ 140737488355328) (hnm : ∀ W, (Instr.slice 9 (.string s) none (some (.int .i64 (n : Int))) none).run Tryd.prog W = .ok (.string nm) W) (hvl : ∀ W, (Instr.slice 9 (.string s) (some (.int .i64 ((n : Int) + 1))) none none).run Tryd.prog W = .ok (.string vl) W) (HS : ∀ W, Calls Tryd.prog 32 #[.string nm] W fun e w' => ∃ t : ByteArray, e = .returned (.string t) ∧ Q W w') (HT : ∀ W, Calls Tryd.prog 70 #[.string vl] W fun e w' => ∃ t : ByteArray, (vlS t = true ∧ t.size ≤ 140737488355328) ∧ e = .returned (.string t) ∧ Q W w')
    (h : ∀ (t1 t2 : ByteArray) (gb : Nat) u, Q w u → (vlS t2 = true ∧ t2.size ≤ 140737488355328) → Blk u gb 57 #[.string t1, .string t2] → w.heap.size ≤ gb → R .normal (⟨#[.string s, x1, x2, x3, .int .i64 (n : Int), .pointer (some ⟨gb, 0, none⟩), x6, x7, x8, x9, x10, x11, x12, x13, x14, x15, .string s, .int .i64 (n : Int), .string nm, .string t1, .string s, .int .i64 (n : Int), .int .i64 ((n : Int) + 1), .string vl, .string t2, .agg #[.string t1, .string t2], x26, x27, x28, x29, x30, x31, x32, x33, x34, x35, x36], []⟩ : Act) u) (u : World) (hS : (Q w) u) (h2 : (vlS t2 = true ∧ t2.size ≤ 140737488355328)) (hg : w.heap.size ≤ gb) (hb2 : Blk u gb 57 #[.string t1, .string t2]) :
    wpAnyH Tryd.prog .any (RofN Tryd.f84 5) R (Q w) 0 (#[true, true, true, true, true, true, true, true, true, true, true, true] : Array Bool) (⟨#[.string s, x1, x2, x3, .int .i64 (n : Int), .pointer (some ⟨gb, 0, none⟩), x6, x7, x8, x9, x10, x11, x12, x13, x14, x15, .string s, .int .i64 (n : Int), .string nm, .string t1, .string s, .int .i64 (n : Int), .int .i64 ((n : Int) + 1), .string vl, .string t2, .agg #[.string t1, .string t2], x26, x27, x28, x29, x30, x31, x32, x33, x34, x35, x36], []⟩ : Act) u := by
  refine wpAnyH_done (by kernel_rfl) ?_ _
  exact h t1 t2 gb u hS h2 hb2 hg
set_option maxHeartbeats 16000000 in
theorem fl5_3_8_10 (s nm vl : ByteArray) (n : Nat) (t1 : ByteArray) (t2 : ByteArray) (gb : Nat) {x1 x2 x3 x6 x7 x8 x9 x10 x11 x12 x13 x14 x15 x26 x27 x28 x29 x30 x31 x32 x33 x34 x35 x36 : Value} (w : World) (R : Exit → Act → World → Prop) (hQ : ∀ c a d v w, R (.panic c) (a.put d v) w → R (.panic c) a w) (hn : n ≤ 140737488355328) (hnm : ∀ W, (Instr.slice 9 (.string s) none (some (.int .i64 (n : Int))) none).run Tryd.prog W = .ok (.string nm) W) (hvl : ∀ W, (Instr.slice 9 (.string s) (some (.int .i64 ((n : Int) + 1))) none none).run Tryd.prog W = .ok (.string vl) W) (HS : ∀ W, Calls Tryd.prog 32 #[.string nm] W fun e w' => ∃ t : ByteArray, e = .returned (.string t) ∧ Q W w') (HT : ∀ W, Calls Tryd.prog 70 #[.string vl] W fun e w' => ∃ t : ByteArray, (vlS t = true ∧ t.size ≤ 140737488355328) ∧ e = .returned (.string t) ∧ Q W w')
    (h : ∀ (t1 t2 : ByteArray) (gb : Nat) u, Q w u → (vlS t2 = true ∧ t2.size ≤ 140737488355328) → Blk u gb 57 #[.string t1, .string t2] → w.heap.size ≤ gb → R .normal (⟨#[.string s, x1, x2, x3, .int .i64 (n : Int), .pointer (some ⟨gb, 0, none⟩), x6, x7, x8, x9, x10, x11, x12, x13, x14, x15, .string s, .int .i64 (n : Int), .string nm, .string t1, .string s, .int .i64 (n : Int), .int .i64 ((n : Int) + 1), .string vl, .string t2, .agg #[.string t1, .string t2], x26, x27, x28, x29, x30, x31, x32, x33, x34, x35, x36], []⟩ : Act) u) (u : World) (hS : (Q w) u) (h2 : (vlS t2 = true ∧ t2.size ≤ 140737488355328)) (hb : Blk u gb 57 #[.string ⟨#[]⟩, .string ⟨#[]⟩]) (hg : w.heap.size ≤ gb) :
    wpAnyH Tryd.prog .any (RofN Tryd.f84 5) R (Q w) 1 (#[true, true, true, true, true, true, true, true, true, true, true, false] : Array Bool) (⟨#[.string s, x1, x2, x3, .int .i64 (n : Int), .pointer (some ⟨gb, 0, none⟩), x6, x7, x8, x9, x10, x11, x12, x13, x14, x15, .string s, .int .i64 (n : Int), .string nm, .string t1, .string s, .int .i64 (n : Int), .int .i64 ((n : Int) + 1), .string vl, .string t2, .agg #[.string t1, .string t2], x26, x27, x28, x29, x30, x31, x32, x33, x34, x35, x36], []⟩ : Act) u := by
  refine wpAnyH_one (i := 11) (by kernel_rfl) ?_
  have hc : (execOp (⟨#[.string s, x1, x2, x3, .int .i64 (n : Int), .pointer (some ⟨gb, 0, none⟩), x6, x7, x8, x9, x10, x11, x12, x13, x14, x15, .string s, .int .i64 (n : Int), .string nm, .string t1, .string s, .int .i64 (n : Int), .int .i64 ((n : Int) + 1), .string vl, .string t2, .agg #[.string t1, .string t2], x26, x27, x28, x29, x30, x31, x32, x33, x34, x35, x36], []⟩ : Act).eval (((RofN Tryd.f84 5)[11]?).getD default)).run Tryd.prog u = .ok .skip (u.setRow gb #[.string t1, .string t2]) := st_any 57 (.tmp 5) (.tmp 25) gb 0 (by kernel_rfl) (by kernel_rfl) (by kernel_rfl) (run_storeVar_row (P := Tryd.prog) u gb 57 57 _ #[.string t1, .string t2] hb (info57s t1 t2) rfl (by kernel_rfl))
  refine wpOp_skip none (by kernel_rfl) (by kernel_rfl) (by kernel_rfl) hc ?_
  clear hc
  have hS1 : (Q w) (u.setRow gb #[.string t1, .string t2]) := ((Keep.refl (fun i => i = gb) u).setRow gb _ (.inl rfl)).below hS hS.size (fun i e => by omega)
  refine ⟨hS1, ?_⟩
  have e1 : (⟨#[.string s, x1, x2, x3, .int .i64 (n : Int), .pointer (some ⟨gb, 0, none⟩), x6, x7, x8, x9, x10, x11, x12, x13, x14, x15, .string s, .int .i64 (n : Int), .string nm, .string t1, .string s, .int .i64 (n : Int), .int .i64 ((n : Int) + 1), .string vl, .string t2, .agg #[.string t1, .string t2], x26, x27, x28, x29, x30, x31, x32, x33, x34, x35, x36], []⟩ : Act).put none undef = (⟨#[.string s, x1, x2, x3, .int .i64 (n : Int), .pointer (some ⟨gb, 0, none⟩), x6, x7, x8, x9, x10, x11, x12, x13, x14, x15, .string s, .int .i64 (n : Int), .string nm, .string t1, .string s, .int .i64 (n : Int), .int .i64 ((n : Int) + 1), .string vl, .string t2, .agg #[.string t1, .string t2], x26, x27, x28, x29, x30, x31, x32, x33, x34, x35, x36], []⟩ : Act) := by kernel_rfl
  have l1 : (#[true, true, true, true, true, true, true, true, true, true, true, false] : Array Bool).setIfInBounds 11 true = (#[true, true, true, true, true, true, true, true, true, true, true, true] : Array Bool) := by kernel_rfl
  rw [e1, l1]
  clear e1 l1
  exact fl5_3_8_10_11 s nm vl n t1 t2 gb w R hQ hn hnm hvl HS HT h (u.setRow gb #[.string t1, .string t2]) hS1 (h2) (hg) (setRow_heap _ _ _ _ 57 _ hb)
set_option maxHeartbeats 16000000 in
theorem fl5_3_10 (s nm vl : ByteArray) (n : Nat) (t1 : ByteArray) (gb : Nat) {x1 x2 x3 x6 x7 x8 x9 x10 x11 x12 x13 x14 x15 x24 x25 x26 x27 x28 x29 x30 x31 x32 x33 x34 x35 x36 : Value} (w : World) (R : Exit → Act → World → Prop) (hQ : ∀ c a d v w, R (.panic c) (a.put d v) w → R (.panic c) a w) (hn : n ≤ 140737488355328) (hnm : ∀ W, (Instr.slice 9 (.string s) none (some (.int .i64 (n : Int))) none).run Tryd.prog W = .ok (.string nm) W) (hvl : ∀ W, (Instr.slice 9 (.string s) (some (.int .i64 ((n : Int) + 1))) none none).run Tryd.prog W = .ok (.string vl) W) (HS : ∀ W, Calls Tryd.prog 32 #[.string nm] W fun e w' => ∃ t : ByteArray, e = .returned (.string t) ∧ Q W w') (HT : ∀ W, Calls Tryd.prog 70 #[.string vl] W fun e w' => ∃ t : ByteArray, (vlS t = true ∧ t.size ≤ 140737488355328) ∧ e = .returned (.string t) ∧ Q W w')
    (h : ∀ (t1 t2 : ByteArray) (gb : Nat) u, Q w u → (vlS t2 = true ∧ t2.size ≤ 140737488355328) → Blk u gb 57 #[.string t1, .string t2] → w.heap.size ≤ gb → R .normal (⟨#[.string s, x1, x2, x3, .int .i64 (n : Int), .pointer (some ⟨gb, 0, none⟩), x6, x7, x8, x9, x10, x11, x12, x13, x14, x15, .string s, .int .i64 (n : Int), .string nm, .string t1, .string s, .int .i64 (n : Int), .int .i64 ((n : Int) + 1), .string vl, .string t2, .agg #[.string t1, .string t2], x26, x27, x28, x29, x30, x31, x32, x33, x34, x35, x36], []⟩ : Act) u) (u : World) (hS : (Q w) u) (hb : Blk u gb 57 #[.string ⟨#[]⟩, .string ⟨#[]⟩]) (hg : w.heap.size ≤ gb) :
    wpAnyH Tryd.prog .any (RofN Tryd.f84 5) R (Q w) 3 (#[true, true, true, true, true, true, true, true, false, false, true, false] : Array Bool) (⟨#[.string s, x1, x2, x3, .int .i64 (n : Int), .pointer (some ⟨gb, 0, none⟩), x6, x7, x8, x9, x10, x11, x12, x13, x14, x15, .string s, .int .i64 (n : Int), .string nm, .string t1, .string s, .int .i64 (n : Int), .int .i64 ((n : Int) + 1), .string vl, x24, x25, x26, x27, x28, x29, x30, x31, x32, x33, x34, x35, x36], []⟩ : Act) u := by
  refine wpAnyH_one (i := 8) (by kernel_rfl) ?_
  refine wpOp_callx (some 24) (by kernel_rfl) (by kernel_rfl) (by kernel_rfl) 70 #[.string vl] (by kernel_rfl) (HT u) ?_
  rintro e v ⟨t2, h2, rfl, q⟩
  have q0 : Q u v := q
  have hS1 : (Q w) v := Q.trans hS q0
  refine ⟨_, rfl, hS1, ?_⟩
  have e1 : (⟨#[.string s, x1, x2, x3, .int .i64 (n : Int), .pointer (some ⟨gb, 0, none⟩), x6, x7, x8, x9, x10, x11, x12, x13, x14, x15, .string s, .int .i64 (n : Int), .string nm, .string t1, .string s, .int .i64 (n : Int), .int .i64 ((n : Int) + 1), .string vl, x24, x25, x26, x27, x28, x29, x30, x31, x32, x33, x34, x35, x36], []⟩ : Act).put (some 24) (.string t2) = (⟨#[.string s, x1, x2, x3, .int .i64 (n : Int), .pointer (some ⟨gb, 0, none⟩), x6, x7, x8, x9, x10, x11, x12, x13, x14, x15, .string s, .int .i64 (n : Int), .string nm, .string t1, .string s, .int .i64 (n : Int), .int .i64 ((n : Int) + 1), .string vl, .string t2, x25, x26, x27, x28, x29, x30, x31, x32, x33, x34, x35, x36], []⟩ : Act) := by kernel_rfl
  have l1 : (#[true, true, true, true, true, true, true, true, false, false, true, false] : Array Bool).setIfInBounds 8 true = (#[true, true, true, true, true, true, true, true, true, false, true, false] : Array Bool) := by kernel_rfl
  rw [e1, l1]
  clear e1 l1
  refine chn_take (by kernel_rfl) hQ hS1 1 (fl5g2z s nm vl n t1 t2 gb) _ _ (fl5g2 s nm vl n t1 t2 gb w hn hnm hvl HS HT) ?_
  have e0 : putL (RofN Tryd.f84 5) (fl5g2z s nm vl n t1 t2 gb) (⟨#[.string s, x1, x2, x3, .int .i64 (n : Int), .pointer (some ⟨gb, 0, none⟩), x6, x7, x8, x9, x10, x11, x12, x13, x14, x15, .string s, .int .i64 (n : Int), .string nm, .string t1, .string s, .int .i64 (n : Int), .int .i64 ((n : Int) + 1), .string vl, .string t2, x25, x26, x27, x28, x29, x30, x31, x32, x33, x34, x35, x36], []⟩ : Act) = (⟨#[.string s, x1, x2, x3, .int .i64 (n : Int), .pointer (some ⟨gb, 0, none⟩), x6, x7, x8, x9, x10, x11, x12, x13, x14, x15, .string s, .int .i64 (n : Int), .string nm, .string t1, .string s, .int .i64 (n : Int), .int .i64 ((n : Int) + 1), .string vl, .string t2, .agg #[.string t1, .string t2], x26, x27, x28, x29, x30, x31, x32, x33, x34, x35, x36], []⟩ : Act) := by kernel_rfl
  have l0 : setL (fl5g2z s nm vl n t1 t2 gb) (#[true, true, true, true, true, true, true, true, true, false, true, false] : Array Bool) = (#[true, true, true, true, true, true, true, true, true, true, true, false] : Array Bool) := by kernel_rfl
  rw [e0, l0]
  clear e0 l0
  exact fl5_3_8_10 s nm vl n t1 t2 gb w R hQ hn hnm hvl HS HT h v hS1 (h2) (hb.q q0) (hg)
set_option maxHeartbeats 16000000 in
theorem fl5_3_8 (s nm vl : ByteArray) (n : Nat) (t1 : ByteArray) (t2 : ByteArray) {x1 x2 x3 x5 x6 x7 x8 x9 x10 x11 x12 x13 x14 x15 x26 x27 x28 x29 x30 x31 x32 x33 x34 x35 x36 : Value} (w : World) (R : Exit → Act → World → Prop) (hQ : ∀ c a d v w, R (.panic c) (a.put d v) w → R (.panic c) a w) (hn : n ≤ 140737488355328) (hnm : ∀ W, (Instr.slice 9 (.string s) none (some (.int .i64 (n : Int))) none).run Tryd.prog W = .ok (.string nm) W) (hvl : ∀ W, (Instr.slice 9 (.string s) (some (.int .i64 ((n : Int) + 1))) none none).run Tryd.prog W = .ok (.string vl) W) (HS : ∀ W, Calls Tryd.prog 32 #[.string nm] W fun e w' => ∃ t : ByteArray, e = .returned (.string t) ∧ Q W w') (HT : ∀ W, Calls Tryd.prog 70 #[.string vl] W fun e w' => ∃ t : ByteArray, (vlS t = true ∧ t.size ≤ 140737488355328) ∧ e = .returned (.string t) ∧ Q W w')
    (h : ∀ (t1 t2 : ByteArray) (gb : Nat) u, Q w u → (vlS t2 = true ∧ t2.size ≤ 140737488355328) → Blk u gb 57 #[.string t1, .string t2] → w.heap.size ≤ gb → R .normal (⟨#[.string s, x1, x2, x3, .int .i64 (n : Int), .pointer (some ⟨gb, 0, none⟩), x6, x7, x8, x9, x10, x11, x12, x13, x14, x15, .string s, .int .i64 (n : Int), .string nm, .string t1, .string s, .int .i64 (n : Int), .int .i64 ((n : Int) + 1), .string vl, .string t2, .agg #[.string t1, .string t2], x26, x27, x28, x29, x30, x31, x32, x33, x34, x35, x36], []⟩ : Act) u) (u : World) (hS : (Q w) u) (h2 : (vlS t2 = true ∧ t2.size ≤ 140737488355328)) :
    wpAnyH Tryd.prog .any (RofN Tryd.f84 5) R (Q w) 2 (#[true, true, true, true, true, true, true, true, true, true, false, false] : Array Bool) (⟨#[.string s, x1, x2, x3, .int .i64 (n : Int), x5, x6, x7, x8, x9, x10, x11, x12, x13, x14, x15, .string s, .int .i64 (n : Int), .string nm, .string t1, .string s, .int .i64 (n : Int), .int .i64 ((n : Int) + 1), .string vl, .string t2, .agg #[.string t1, .string t2], x26, x27, x28, x29, x30, x31, x32, x33, x34, x35, x36], []⟩ : Act) u := by
  refine wpAnyH_one (i := 10) (by kernel_rfl) ?_
  refine wpOp_val (w' := (u.alloc (.cells #[.string ⟨#[]⟩, .string ⟨#[]⟩] 57))) (v := .pointer (some ⟨u.heap.size, 0, none⟩)) (some 5) (by kernel_rfl) (by kernel_rfl) (by kernel_rfl) (by kernel_rfl) ?_
  have q0 : Q u ((u.alloc (.cells #[.string ⟨#[]⟩, .string ⟨#[]⟩] 57))) := (Q.refl u).alloc _
  have hS1 : (Q w) ((u.alloc (.cells #[.string ⟨#[]⟩, .string ⟨#[]⟩] 57))) := Q.trans hS q0
  refine ⟨hS1, ?_⟩
  have e1 : (⟨#[.string s, x1, x2, x3, .int .i64 (n : Int), x5, x6, x7, x8, x9, x10, x11, x12, x13, x14, x15, .string s, .int .i64 (n : Int), .string nm, .string t1, .string s, .int .i64 (n : Int), .int .i64 ((n : Int) + 1), .string vl, .string t2, .agg #[.string t1, .string t2], x26, x27, x28, x29, x30, x31, x32, x33, x34, x35, x36], []⟩ : Act).put (some 5) (.pointer (some ⟨u.heap.size, 0, none⟩)) = (⟨#[.string s, x1, x2, x3, .int .i64 (n : Int), .pointer (some ⟨u.heap.size, 0, none⟩), x6, x7, x8, x9, x10, x11, x12, x13, x14, x15, .string s, .int .i64 (n : Int), .string nm, .string t1, .string s, .int .i64 (n : Int), .int .i64 ((n : Int) + 1), .string vl, .string t2, .agg #[.string t1, .string t2], x26, x27, x28, x29, x30, x31, x32, x33, x34, x35, x36], []⟩ : Act) := by kernel_rfl
  have l1 : (#[true, true, true, true, true, true, true, true, true, true, false, false] : Array Bool).setIfInBounds 10 true = (#[true, true, true, true, true, true, true, true, true, true, true, false] : Array Bool) := by kernel_rfl
  rw [e1, l1]
  clear e1 l1
  exact fl5_3_8_10 s nm vl n t1 t2 (u.heap.size) w R hQ hn hnm hvl HS HT h ((u.alloc (.cells #[.string ⟨#[]⟩, .string ⟨#[]⟩] 57))) hS1 (h2) (blk_new _ _ _) (hS.size)
set_option maxHeartbeats 16000000 in
theorem fl5_10 (s nm vl : ByteArray) (n : Nat) (gb : Nat) {x1 x2 x3 x6 x7 x8 x9 x10 x11 x12 x13 x14 x15 x19 x24 x25 x26 x27 x28 x29 x30 x31 x32 x33 x34 x35 x36 : Value} (w : World) (R : Exit → Act → World → Prop) (hQ : ∀ c a d v w, R (.panic c) (a.put d v) w → R (.panic c) a w) (hn : n ≤ 140737488355328) (hnm : ∀ W, (Instr.slice 9 (.string s) none (some (.int .i64 (n : Int))) none).run Tryd.prog W = .ok (.string nm) W) (hvl : ∀ W, (Instr.slice 9 (.string s) (some (.int .i64 ((n : Int) + 1))) none none).run Tryd.prog W = .ok (.string vl) W) (HS : ∀ W, Calls Tryd.prog 32 #[.string nm] W fun e w' => ∃ t : ByteArray, e = .returned (.string t) ∧ Q W w') (HT : ∀ W, Calls Tryd.prog 70 #[.string vl] W fun e w' => ∃ t : ByteArray, (vlS t = true ∧ t.size ≤ 140737488355328) ∧ e = .returned (.string t) ∧ Q W w')
    (h : ∀ (t1 t2 : ByteArray) (gb : Nat) u, Q w u → (vlS t2 = true ∧ t2.size ≤ 140737488355328) → Blk u gb 57 #[.string t1, .string t2] → w.heap.size ≤ gb → R .normal (⟨#[.string s, x1, x2, x3, .int .i64 (n : Int), .pointer (some ⟨gb, 0, none⟩), x6, x7, x8, x9, x10, x11, x12, x13, x14, x15, .string s, .int .i64 (n : Int), .string nm, .string t1, .string s, .int .i64 (n : Int), .int .i64 ((n : Int) + 1), .string vl, .string t2, .agg #[.string t1, .string t2], x26, x27, x28, x29, x30, x31, x32, x33, x34, x35, x36], []⟩ : Act) u) (u : World) (hS : (Q w) u) (hb : Blk u gb 57 #[.string ⟨#[]⟩, .string ⟨#[]⟩]) (hg : w.heap.size ≤ gb) :
    wpAnyH Tryd.prog .any (RofN Tryd.f84 5) R (Q w) 4 (#[true, true, true, false, true, true, true, true, false, false, true, false] : Array Bool) (⟨#[.string s, x1, x2, x3, .int .i64 (n : Int), .pointer (some ⟨gb, 0, none⟩), x6, x7, x8, x9, x10, x11, x12, x13, x14, x15, .string s, .int .i64 (n : Int), .string nm, x19, .string s, .int .i64 (n : Int), .int .i64 ((n : Int) + 1), .string vl, x24, x25, x26, x27, x28, x29, x30, x31, x32, x33, x34, x35, x36], []⟩ : Act) u := by
  refine wpAnyH_one (i := 3) (by kernel_rfl) ?_
  refine wpOp_callx (some 19) (by kernel_rfl) (by kernel_rfl) (by kernel_rfl) 32 #[.string nm] (by kernel_rfl) (HS u) ?_
  rintro e v ⟨t1, rfl, q⟩
  have q0 : Q u v := q
  have hS1 : (Q w) v := Q.trans hS q0
  refine ⟨_, rfl, hS1, ?_⟩
  have e1 : (⟨#[.string s, x1, x2, x3, .int .i64 (n : Int), .pointer (some ⟨gb, 0, none⟩), x6, x7, x8, x9, x10, x11, x12, x13, x14, x15, .string s, .int .i64 (n : Int), .string nm, x19, .string s, .int .i64 (n : Int), .int .i64 ((n : Int) + 1), .string vl, x24, x25, x26, x27, x28, x29, x30, x31, x32, x33, x34, x35, x36], []⟩ : Act).put (some 19) (.string t1) = (⟨#[.string s, x1, x2, x3, .int .i64 (n : Int), .pointer (some ⟨gb, 0, none⟩), x6, x7, x8, x9, x10, x11, x12, x13, x14, x15, .string s, .int .i64 (n : Int), .string nm, .string t1, .string s, .int .i64 (n : Int), .int .i64 ((n : Int) + 1), .string vl, x24, x25, x26, x27, x28, x29, x30, x31, x32, x33, x34, x35, x36], []⟩ : Act) := by kernel_rfl
  have l1 : (#[true, true, true, false, true, true, true, true, false, false, true, false] : Array Bool).setIfInBounds 3 true = (#[true, true, true, true, true, true, true, true, false, false, true, false] : Array Bool) := by kernel_rfl
  rw [e1, l1]
  clear e1 l1
  exact fl5_3_10 s nm vl n t1 gb w R hQ hn hnm hvl HS HT h v hS1 (hb.q q0) (hg)
set_option maxHeartbeats 16000000 in
theorem fl5_3 (s nm vl : ByteArray) (n : Nat) (t1 : ByteArray) {x1 x2 x3 x5 x6 x7 x8 x9 x10 x11 x12 x13 x14 x15 x24 x25 x26 x27 x28 x29 x30 x31 x32 x33 x34 x35 x36 : Value} (w : World) (R : Exit → Act → World → Prop) (hQ : ∀ c a d v w, R (.panic c) (a.put d v) w → R (.panic c) a w) (hn : n ≤ 140737488355328) (hnm : ∀ W, (Instr.slice 9 (.string s) none (some (.int .i64 (n : Int))) none).run Tryd.prog W = .ok (.string nm) W) (hvl : ∀ W, (Instr.slice 9 (.string s) (some (.int .i64 ((n : Int) + 1))) none none).run Tryd.prog W = .ok (.string vl) W) (HS : ∀ W, Calls Tryd.prog 32 #[.string nm] W fun e w' => ∃ t : ByteArray, e = .returned (.string t) ∧ Q W w') (HT : ∀ W, Calls Tryd.prog 70 #[.string vl] W fun e w' => ∃ t : ByteArray, (vlS t = true ∧ t.size ≤ 140737488355328) ∧ e = .returned (.string t) ∧ Q W w')
    (h : ∀ (t1 t2 : ByteArray) (gb : Nat) u, Q w u → (vlS t2 = true ∧ t2.size ≤ 140737488355328) → Blk u gb 57 #[.string t1, .string t2] → w.heap.size ≤ gb → R .normal (⟨#[.string s, x1, x2, x3, .int .i64 (n : Int), .pointer (some ⟨gb, 0, none⟩), x6, x7, x8, x9, x10, x11, x12, x13, x14, x15, .string s, .int .i64 (n : Int), .string nm, .string t1, .string s, .int .i64 (n : Int), .int .i64 ((n : Int) + 1), .string vl, .string t2, .agg #[.string t1, .string t2], x26, x27, x28, x29, x30, x31, x32, x33, x34, x35, x36], []⟩ : Act) u) (u : World) (hS : (Q w) u)  :
    wpAnyH Tryd.prog .any (RofN Tryd.f84 5) R (Q w) 4 (#[true, true, true, true, true, true, true, true, false, false, false, false] : Array Bool) (⟨#[.string s, x1, x2, x3, .int .i64 (n : Int), x5, x6, x7, x8, x9, x10, x11, x12, x13, x14, x15, .string s, .int .i64 (n : Int), .string nm, .string t1, .string s, .int .i64 (n : Int), .int .i64 ((n : Int) + 1), .string vl, x24, x25, x26, x27, x28, x29, x30, x31, x32, x33, x34, x35, x36], []⟩ : Act) u := by
  refine wpAnyH_l2 (i := 8) (j := 10) (by kernel_rfl) ?_ ?_
  · refine wpOp_callx (some 24) (by kernel_rfl) (by kernel_rfl) (by kernel_rfl) 70 #[.string vl] (by kernel_rfl) (HT u) ?_
    rintro e v ⟨t2, h2, rfl, q⟩
    have q0 : Q u v := q
    have hS1 : (Q w) v := Q.trans hS q0
    refine ⟨_, rfl, hS1, ?_⟩
    have e1 : (⟨#[.string s, x1, x2, x3, .int .i64 (n : Int), x5, x6, x7, x8, x9, x10, x11, x12, x13, x14, x15, .string s, .int .i64 (n : Int), .string nm, .string t1, .string s, .int .i64 (n : Int), .int .i64 ((n : Int) + 1), .string vl, x24, x25, x26, x27, x28, x29, x30, x31, x32, x33, x34, x35, x36], []⟩ : Act).put (some 24) (.string t2) = (⟨#[.string s, x1, x2, x3, .int .i64 (n : Int), x5, x6, x7, x8, x9, x10, x11, x12, x13, x14, x15, .string s, .int .i64 (n : Int), .string nm, .string t1, .string s, .int .i64 (n : Int), .int .i64 ((n : Int) + 1), .string vl, .string t2, x25, x26, x27, x28, x29, x30, x31, x32, x33, x34, x35, x36], []⟩ : Act) := by kernel_rfl
    have l1 : (#[true, true, true, true, true, true, true, true, false, false, false, false] : Array Bool).setIfInBounds 8 true = (#[true, true, true, true, true, true, true, true, true, false, false, false] : Array Bool) := by kernel_rfl
    rw [e1, l1]
    clear e1 l1
    refine chn_take (by kernel_rfl) hQ hS1 2 (fl5g1z s nm vl n t1 t2) _ _ (fl5g1 s nm vl n t1 t2 w hn hnm hvl HS HT) ?_
    have e0 : putL (RofN Tryd.f84 5) (fl5g1z s nm vl n t1 t2) (⟨#[.string s, x1, x2, x3, .int .i64 (n : Int), x5, x6, x7, x8, x9, x10, x11, x12, x13, x14, x15, .string s, .int .i64 (n : Int), .string nm, .string t1, .string s, .int .i64 (n : Int), .int .i64 ((n : Int) + 1), .string vl, .string t2, x25, x26, x27, x28, x29, x30, x31, x32, x33, x34, x35, x36], []⟩ : Act) = (⟨#[.string s, x1, x2, x3, .int .i64 (n : Int), x5, x6, x7, x8, x9, x10, x11, x12, x13, x14, x15, .string s, .int .i64 (n : Int), .string nm, .string t1, .string s, .int .i64 (n : Int), .int .i64 ((n : Int) + 1), .string vl, .string t2, .agg #[.string t1, .string t2], x26, x27, x28, x29, x30, x31, x32, x33, x34, x35, x36], []⟩ : Act) := by kernel_rfl
    have l0 : setL (fl5g1z s nm vl n t1 t2) (#[true, true, true, true, true, true, true, true, true, false, false, false] : Array Bool) = (#[true, true, true, true, true, true, true, true, true, true, false, false] : Array Bool) := by kernel_rfl
    rw [e0, l0]
    clear e0 l0
    exact fl5_3_8 s nm vl n t1 t2 w R hQ hn hnm hvl HS HT h v hS1 (h2)
  · refine wpOp_val (w' := (u.alloc (.cells #[.string ⟨#[]⟩, .string ⟨#[]⟩] 57))) (v := .pointer (some ⟨u.heap.size, 0, none⟩)) (some 5) (by kernel_rfl) (by kernel_rfl) (by kernel_rfl) (by kernel_rfl) ?_
    have q0 : Q u ((u.alloc (.cells #[.string ⟨#[]⟩, .string ⟨#[]⟩] 57))) := (Q.refl u).alloc _
    have hS1 : (Q w) ((u.alloc (.cells #[.string ⟨#[]⟩, .string ⟨#[]⟩] 57))) := Q.trans hS q0
    refine ⟨hS1, ?_⟩
    have e1 : (⟨#[.string s, x1, x2, x3, .int .i64 (n : Int), x5, x6, x7, x8, x9, x10, x11, x12, x13, x14, x15, .string s, .int .i64 (n : Int), .string nm, .string t1, .string s, .int .i64 (n : Int), .int .i64 ((n : Int) + 1), .string vl, x24, x25, x26, x27, x28, x29, x30, x31, x32, x33, x34, x35, x36], []⟩ : Act).put (some 5) (.pointer (some ⟨u.heap.size, 0, none⟩)) = (⟨#[.string s, x1, x2, x3, .int .i64 (n : Int), .pointer (some ⟨u.heap.size, 0, none⟩), x6, x7, x8, x9, x10, x11, x12, x13, x14, x15, .string s, .int .i64 (n : Int), .string nm, .string t1, .string s, .int .i64 (n : Int), .int .i64 ((n : Int) + 1), .string vl, x24, x25, x26, x27, x28, x29, x30, x31, x32, x33, x34, x35, x36], []⟩ : Act) := by kernel_rfl
    have l1 : (#[true, true, true, true, true, true, true, true, false, false, false, false] : Array Bool).setIfInBounds 10 true = (#[true, true, true, true, true, true, true, true, false, false, true, false] : Array Bool) := by kernel_rfl
    rw [e1, l1]
    clear e1 l1
    exact fl5_3_10 s nm vl n t1 (u.heap.size) w R hQ hn hnm hvl HS HT h ((u.alloc (.cells #[.string ⟨#[]⟩, .string ⟨#[]⟩] 57))) hS1 (blk_new _ _ _) (hS.size)
set_option maxHeartbeats 16000000 in
theorem fl5_o (s nm vl : ByteArray) (n : Nat)  {x1 x2 x3 x5 x6 x7 x8 x9 x10 x11 x12 x13 x14 x15 x19 x24 x25 x26 x27 x28 x29 x30 x31 x32 x33 x34 x35 x36 : Value} (w : World) (R : Exit → Act → World → Prop) (hQ : ∀ c a d v w, R (.panic c) (a.put d v) w → R (.panic c) a w) (hn : n ≤ 140737488355328) (hnm : ∀ W, (Instr.slice 9 (.string s) none (some (.int .i64 (n : Int))) none).run Tryd.prog W = .ok (.string nm) W) (hvl : ∀ W, (Instr.slice 9 (.string s) (some (.int .i64 ((n : Int) + 1))) none none).run Tryd.prog W = .ok (.string vl) W) (HS : ∀ W, Calls Tryd.prog 32 #[.string nm] W fun e w' => ∃ t : ByteArray, e = .returned (.string t) ∧ Q W w') (HT : ∀ W, Calls Tryd.prog 70 #[.string vl] W fun e w' => ∃ t : ByteArray, (vlS t = true ∧ t.size ≤ 140737488355328) ∧ e = .returned (.string t) ∧ Q W w')
    (h : ∀ (t1 t2 : ByteArray) (gb : Nat) u, Q w u → (vlS t2 = true ∧ t2.size ≤ 140737488355328) → Blk u gb 57 #[.string t1, .string t2] → w.heap.size ≤ gb → R .normal (⟨#[.string s, x1, x2, x3, .int .i64 (n : Int), .pointer (some ⟨gb, 0, none⟩), x6, x7, x8, x9, x10, x11, x12, x13, x14, x15, .string s, .int .i64 (n : Int), .string nm, .string t1, .string s, .int .i64 (n : Int), .int .i64 ((n : Int) + 1), .string vl, .string t2, .agg #[.string t1, .string t2], x26, x27, x28, x29, x30, x31, x32, x33, x34, x35, x36], []⟩ : Act) u) (u : World) (hS : (Q w) u)  :
    wpAnyH Tryd.prog .any (RofN Tryd.f84 5) R (Q w) 5 (#[true, true, true, false, true, true, true, true, false, false, false, false] : Array Bool) (⟨#[.string s, x1, x2, x3, .int .i64 (n : Int), x5, x6, x7, x8, x9, x10, x11, x12, x13, x14, x15, .string s, .int .i64 (n : Int), .string nm, x19, .string s, .int .i64 (n : Int), .int .i64 ((n : Int) + 1), .string vl, x24, x25, x26, x27, x28, x29, x30, x31, x32, x33, x34, x35, x36], []⟩ : Act) u := by
  refine wpAnyH_l2 (i := 3) (j := 10) (by kernel_rfl) ?_ ?_
  · refine wpOp_callx (some 19) (by kernel_rfl) (by kernel_rfl) (by kernel_rfl) 32 #[.string nm] (by kernel_rfl) (HS u) ?_
    rintro e v ⟨t1, rfl, q⟩
    have q0 : Q u v := q
    have hS1 : (Q w) v := Q.trans hS q0
    refine ⟨_, rfl, hS1, ?_⟩
    have e1 : (⟨#[.string s, x1, x2, x3, .int .i64 (n : Int), x5, x6, x7, x8, x9, x10, x11, x12, x13, x14, x15, .string s, .int .i64 (n : Int), .string nm, x19, .string s, .int .i64 (n : Int), .int .i64 ((n : Int) + 1), .string vl, x24, x25, x26, x27, x28, x29, x30, x31, x32, x33, x34, x35, x36], []⟩ : Act).put (some 19) (.string t1) = (⟨#[.string s, x1, x2, x3, .int .i64 (n : Int), x5, x6, x7, x8, x9, x10, x11, x12, x13, x14, x15, .string s, .int .i64 (n : Int), .string nm, .string t1, .string s, .int .i64 (n : Int), .int .i64 ((n : Int) + 1), .string vl, x24, x25, x26, x27, x28, x29, x30, x31, x32, x33, x34, x35, x36], []⟩ : Act) := by kernel_rfl
    have l1 : (#[true, true, true, false, true, true, true, true, false, false, false, false] : Array Bool).setIfInBounds 3 true = (#[true, true, true, true, true, true, true, true, false, false, false, false] : Array Bool) := by kernel_rfl
    rw [e1, l1]
    clear e1 l1
    exact fl5_3 s nm vl n t1 w R hQ hn hnm hvl HS HT h v hS1 
  · refine wpOp_val (w' := (u.alloc (.cells #[.string ⟨#[]⟩, .string ⟨#[]⟩] 57))) (v := .pointer (some ⟨u.heap.size, 0, none⟩)) (some 5) (by kernel_rfl) (by kernel_rfl) (by kernel_rfl) (by kernel_rfl) ?_
    have q0 : Q u ((u.alloc (.cells #[.string ⟨#[]⟩, .string ⟨#[]⟩] 57))) := (Q.refl u).alloc _
    have hS1 : (Q w) ((u.alloc (.cells #[.string ⟨#[]⟩, .string ⟨#[]⟩] 57))) := Q.trans hS q0
    refine ⟨hS1, ?_⟩
    have e1 : (⟨#[.string s, x1, x2, x3, .int .i64 (n : Int), x5, x6, x7, x8, x9, x10, x11, x12, x13, x14, x15, .string s, .int .i64 (n : Int), .string nm, x19, .string s, .int .i64 (n : Int), .int .i64 ((n : Int) + 1), .string vl, x24, x25, x26, x27, x28, x29, x30, x31, x32, x33, x34, x35, x36], []⟩ : Act).put (some 5) (.pointer (some ⟨u.heap.size, 0, none⟩)) = (⟨#[.string s, x1, x2, x3, .int .i64 (n : Int), .pointer (some ⟨u.heap.size, 0, none⟩), x6, x7, x8, x9, x10, x11, x12, x13, x14, x15, .string s, .int .i64 (n : Int), .string nm, x19, .string s, .int .i64 (n : Int), .int .i64 ((n : Int) + 1), .string vl, x24, x25, x26, x27, x28, x29, x30, x31, x32, x33, x34, x35, x36], []⟩ : Act) := by kernel_rfl
    have l1 : (#[true, true, true, false, true, true, true, true, false, false, false, false] : Array Bool).setIfInBounds 10 true = (#[true, true, true, false, true, true, true, true, false, false, true, false] : Array Bool) := by kernel_rfl
    rw [e1, l1]
    clear e1 l1
    exact fl5_10 s nm vl n (u.heap.size) w R hQ hn hnm hvl HS HT h ((u.alloc (.cells #[.string ⟨#[]⟩, .string ⟨#[]⟩] 57))) hS1 (blk_new _ _ _) (hS.size)
set_option maxHeartbeats 16000000 in
theorem fl5 (s nm vl : ByteArray) (n : Nat) {x1 x2 x3 x5 x6 x7 x8 x9 x10 x11 x12 x13 x14 x15 x16 x17 x18 x19 x20 x21 x22 x23 x24 x25 x26 x27 x28 x29 x30 x31 x32 x33 x34 x35 x36 : Value} (w : World) (R : Exit → Act → World → Prop) (hQ : ∀ c a d v w, R (.panic c) (a.put d v) w → R (.panic c) a w) (hn : n ≤ 140737488355328) (hnm : ∀ W, (Instr.slice 9 (.string s) none (some (.int .i64 (n : Int))) none).run Tryd.prog W = .ok (.string nm) W) (hvl : ∀ W, (Instr.slice 9 (.string s) (some (.int .i64 ((n : Int) + 1))) none none).run Tryd.prog W = .ok (.string vl) W) (HS : ∀ W, Calls Tryd.prog 32 #[.string nm] W fun e w' => ∃ t : ByteArray, e = .returned (.string t) ∧ Q W w') (HT : ∀ W, Calls Tryd.prog 70 #[.string vl] W fun e w' => ∃ t : ByteArray, (vlS t = true ∧ t.size ≤ 140737488355328) ∧ e = .returned (.string t) ∧ Q W w') (hS : (Q w) w)
    (h : ∀ (t1 t2 : ByteArray) (gb : Nat) u, Q w u → (vlS t2 = true ∧ t2.size ≤ 140737488355328) → Blk u gb 57 #[.string t1, .string t2] → w.heap.size ≤ gb → R .normal (⟨#[.string s, x1, x2, x3, .int .i64 (n : Int), .pointer (some ⟨gb, 0, none⟩), x6, x7, x8, x9, x10, x11, x12, x13, x14, x15, .string s, .int .i64 (n : Int), .string nm, .string t1, .string s, .int .i64 (n : Int), .int .i64 ((n : Int) + 1), .string vl, .string t2, .agg #[.string t1, .string t2], x26, x27, x28, x29, x30, x31, x32, x33, x34, x35, x36], []⟩ : Act) u) :
    (Code.region 5 (RofN Tryd.f84 5) true).wp Tryd.prog R (⟨#[.string s, x1, x2, x3, .int .i64 (n : Int), x5, x6, x7, x8, x9, x10, x11, x12, x13, x14, x15, x16, x17, x18, x19, x20, x21, x22, x23, x24, x25, x26, x27, x28, x29, x30, x31, x32, x33, x34, x35, x36], []⟩ : Act) w := by
  refine wp_region_held (S := (Q w)) (by kernel_rfl) ?_
  have hsz : (RofN Tryd.f84 5).size = 12 := by kernel_rfl
  rw [hsz]
  have hS0 : (Q w) w.drew := Q.trans hS ((Q.refl w).drew)
  refine chn_take (by kernel_rfl) hQ hS0 5 (fl5g0z s nm vl n ) _ _ (fl5g0 s nm vl n  w hn hnm hvl HS HT) ?_
  have e0 : putL (RofN Tryd.f84 5) (fl5g0z s nm vl n ) (⟨#[.string s, x1, x2, x3, .int .i64 (n : Int), x5, x6, x7, x8, x9, x10, x11, x12, x13, x14, x15, x16, x17, x18, x19, x20, x21, x22, x23, x24, x25, x26, x27, x28, x29, x30, x31, x32, x33, x34, x35, x36], []⟩ : Act) = (⟨#[.string s, x1, x2, x3, .int .i64 (n : Int), x5, x6, x7, x8, x9, x10, x11, x12, x13, x14, x15, .string s, .int .i64 (n : Int), .string nm, x19, .string s, .int .i64 (n : Int), .int .i64 ((n : Int) + 1), .string vl, x24, x25, x26, x27, x28, x29, x30, x31, x32, x33, x34, x35, x36], []⟩ : Act) := by kernel_rfl
  have l0 : setL (fl5g0z s nm vl n ) (Array.replicate 12 false) = (#[true, true, true, false, true, true, true, true, false, false, false, false] : Array Bool) := by kernel_rfl
  rw [e0, l0]
  clear e0 l0
  exact fl5_o s nm vl n w R hQ hn hnm hvl HS HT h _ hS0 
def fl6z0 (b2 gb : Nat) (s nm t1 t2 : ByteArray) (n : Nat)  : List (Nat × Value) := [(0, .agg #[.string t1, .string t2]), (1, .string s), (2, .int .i64 (n : Int)), (3, .string nm)]
set_option maxHeartbeats 8000000 in
theorem fl6g0 (b2 gb : Nat) (s nm t1 t2 : ByteArray) (n : Nat)  {x1 x3 x6 x7 x8 x9 x10 x11 x12 x13 x14 x15 x16 x17 x18 x19 x20 x21 x22 x23 x24 x25 x26 x27 x28 x29 x30 x31 x32 x33 x34 x35 x36 : Value} (w : World) (hnm : ∀ W, (Instr.slice 9 (.string s) none (some (.int .i64 (n : Int))) none).run Tryd.prog W = .ok (.string nm) W) : Chn Tryd.prog (RofN Tryd.f84 6) (FS w b2 gb t1 t2) (fl6z0 b2 gb s nm t1 t2 n ) (#[false, false, false, false, false, false, false, false, false, false, false, false] : Array Bool) (⟨#[.string s, x1, .pointer (some ⟨b2, 0, none⟩), x3, .int .i64 (n : Int), .pointer (some ⟨gb, 0, none⟩), x6, x7, x8, x9, x10, x11, x12, x13, x14, x15, x16, x17, x18, x19, x20, x21, x22, x23, x24, x25, x26, x27, x28, x29, x30, x31, x32, x33, x34, x35, x36], []⟩ : Act) :=
  ⟨⟨by kernel_rfl, by kernel_rfl, by kernel_rfl, by kernel_rfl, fun u h => ld_any 57 (.tmp 5) gb 0 (by kernel_rfl) (by kernel_rfl) (ld57 h.2.1)⟩,
    ⟨by kernel_rfl, by kernel_rfl, by kernel_rfl, by kernel_rfl, fun u h => by kernel_rfl⟩,
    ⟨by kernel_rfl, by kernel_rfl, by kernel_rfl, by kernel_rfl, fun u h => by kernel_rfl⟩,
    ⟨by kernel_rfl, by kernel_rfl, by kernel_rfl, by kernel_rfl, fun u h => sl_to (.tmp 27) (.tmp 28) s nm n (by kernel_rfl) (by kernel_rfl) (by kernel_rfl) hnm⟩,
    trivial⟩
def fl6z1 (b2 gb : Nat) (s nm t1 t2 : ByteArray) (n : Nat)   : List (Nat × Value) := [(5, .bool true), (6, .pointer (some ⟨gb, 1, none⟩)), (7, .string t2)]
set_option maxHeartbeats 8000000 in
theorem fl6g1 (b2 gb : Nat) (s nm t1 t2 : ByteArray) (n : Nat)   {x1 x3 x6 x7 x8 x9 x10 x11 x12 x13 x14 x15 x16 x17 x18 x19 x20 x21 x22 x23 x24 x25 x31 x32 x33 x34 x35 x36 : Value} (w : World)  : Chn Tryd.prog (RofN Tryd.f84 6) (FS w b2 gb t1 t2) (fl6z1 b2 gb s nm t1 t2 n  ) (#[true, true, true, true, true, false, false, false, false, false, false, false] : Array Bool) (⟨#[.string s, x1, .pointer (some ⟨b2, 0, none⟩), x3, .int .i64 (n : Int), .pointer (some ⟨gb, 0, none⟩), x6, x7, x8, x9, x10, x11, x12, x13, x14, x15, x16, x17, x18, x19, x20, x21, x22, x23, x24, x25, .agg #[.string t1, .string t2], .string s, .int .i64 (n : Int), .string nm, .bool true, x31, x32, x33, x34, x35, x36], []⟩ : Act) :=
  ⟨⟨by kernel_rfl, by kernel_rfl, by kernel_rfl, by kernel_rfl, fun u h => by kernel_rfl⟩,
    ⟨by kernel_rfl, by kernel_rfl, by kernel_rfl, by kernel_rfl, fun u h => by kernel_rfl⟩,
    ⟨by kernel_rfl, by kernel_rfl, by kernel_rfl, by kernel_rfl, fun u h => ld_any 9 (.tmp 32) gb 1 (by kernel_rfl) (by kernel_rfl) (ld9 (h.2.1.cell 1))⟩,
    trivial⟩
def fl6z2 (b2 gb : Nat) (s nm t1 t2 : ByteArray) (n : Nat)    : List (Nat × Value) := [(9, .bool true)]
set_option maxHeartbeats 8000000 in
theorem fl6g2 (b2 gb : Nat) (s nm t1 t2 : ByteArray) (n : Nat)    {x1 x3 x6 x7 x8 x9 x10 x11 x12 x13 x14 x15 x16 x17 x18 x19 x20 x21 x22 x23 x24 x25 x35 x36 : Value} (w : World)  : Chn Tryd.prog (RofN Tryd.f84 6) (FS w b2 gb t1 t2) (fl6z2 b2 gb s nm t1 t2 n   ) (#[true, true, true, true, true, true, true, true, true, false, false, false] : Array Bool) (⟨#[.string s, x1, .pointer (some ⟨b2, 0, none⟩), x3, .int .i64 (n : Int), .pointer (some ⟨gb, 0, none⟩), x6, x7, x8, x9, x10, x11, x12, x13, x14, x15, x16, x17, x18, x19, x20, x21, x22, x23, x24, x25, .agg #[.string t1, .string t2], .string s, .int .i64 (n : Int), .string nm, .bool true, .bool true, .pointer (some ⟨gb, 1, none⟩), .string t2, .bool true, x35, x36], []⟩ : Act) :=
  ⟨⟨by kernel_rfl, by kernel_rfl, by kernel_rfl, by kernel_rfl, fun u h => by kernel_rfl⟩,
    trivial⟩
def fl6z3 (b2 gb : Nat) (s nm t1 t2 : ByteArray) (n : Nat)    : List (Nat × Value) := [(11, .bool true)]
set_option maxHeartbeats 8000000 in
theorem fl6g3 (b2 gb : Nat) (s nm t1 t2 : ByteArray) (n : Nat)    {x1 x3 x6 x7 x8 x9 x10 x11 x12 x13 x14 x15 x16 x17 x18 x19 x20 x21 x22 x23 x24 x25 x36 : Value} (w : World)  : Chn Tryd.prog (RofN Tryd.f84 6) (FS w b2 gb t1 t2) (fl6z3 b2 gb s nm t1 t2 n   ) (#[true, true, true, true, true, true, true, true, true, true, true, false] : Array Bool) (⟨#[.string s, x1, .pointer (some ⟨b2, 0, none⟩), x3, .int .i64 (n : Int), .pointer (some ⟨gb, 0, none⟩), x6, x7, x8, x9, x10, x11, x12, x13, x14, x15, x16, x17, x18, x19, x20, x21, x22, x23, x24, x25, .agg #[.string t1, .string t2], .string s, .int .i64 (n : Int), .string nm, .bool true, .bool true, .pointer (some ⟨gb, 1, none⟩), .string t2, .bool true, .bool true, x36], []⟩ : Act) :=
  ⟨⟨by kernel_rfl, by kernel_rfl, by kernel_rfl, by kernel_rfl, fun u h => by kernel_rfl⟩,
    trivial⟩
set_option maxHeartbeats 16000000 in
theorem fl6 (b2 gb : Nat) (s nm t1 t2 : ByteArray) (n : Nat) {x1 x3 x6 x7 x8 x9 x10 x11 x12 x13 x14 x15 x16 x17 x18 x19 x20 x21 x22 x23 x24 x25 x26 x27 x28 x29 x30 x31 x32 x33 x34 x35 x36 : Value} (w : World) (R : Exit → Act → World → Prop) (hQ : ∀ c a d v w, R (.panic c) (a.put d v) w → R (.panic c) a w)
    (hS : FS w b2 gb t1 t2 w) (hB : Blk w b2 57 #[.string ⟨#[]⟩, .string ⟨#[]⟩]) (hnm : ∀ W, (Instr.slice 9 (.string s) none (some (.int .i64 (n : Int))) none).run Tryd.prog W = .ok (.string nm) W)
    (HK : ∀ W, Calls Tryd.prog 41 #[.string nm] W fun e w' => e = .returned (.bool true) ∧ Q W w') (HV : ∀ W, Calls Tryd.prog 56 #[.string t2] W fun e w' => e = .returned (.bool true) ∧ Q W w')
    (h : ∀ (w2 : World), Q w w2 → R .normal (⟨#[.string s, x1, .pointer (some ⟨b2, 0, none⟩), .bool true, .int .i64 (n : Int), .pointer (some ⟨gb, 0, none⟩), x6, x7, x8, x9, x10, x11, x12, x13, x14, x15, x16, x17, x18, x19, x20, x21, x22, x23, x24, x25, .agg #[.string t1, .string t2], .string s, .int .i64 (n : Int), .string nm, .bool true, .bool true, .pointer (some ⟨gb, 1, none⟩), .string t2, .bool true, .bool true, x36], []⟩ : Act) (w2.setRow b2 #[.string t1, .string t2])) :
    (Code.region 6 (RofN Tryd.f84 6) true).wp Tryd.prog R (⟨#[.string s, x1, .pointer (some ⟨b2, 0, none⟩), x3, .int .i64 (n : Int), .pointer (some ⟨gb, 0, none⟩), x6, x7, x8, x9, x10, x11, x12, x13, x14, x15, x16, x17, x18, x19, x20, x21, x22, x23, x24, x25, x26, x27, x28, x29, x30, x31, x32, x33, x34, x35, x36], []⟩ : Act) w := by
  refine wp_region_held (S := (FS w b2 gb t1 t2)) (by kernel_rfl) ?_
  have hsz : (RofN Tryd.f84 6).size = 12 := by kernel_rfl
  rw [hsz]
  have hS0 : (FS w b2 gb t1 t2) w.drew := fs_q hS ((Q.refl w).drew)
  refine chn_take (by kernel_rfl) hQ hS0 8 (fl6z0 b2 gb s nm t1 t2 n ) _ _ (fl6g0 b2 gb s nm t1 t2 n  w hnm) ?_
  have e0 : putL (RofN Tryd.f84 6) (fl6z0 b2 gb s nm t1 t2 n ) (⟨#[.string s, x1, .pointer (some ⟨b2, 0, none⟩), x3, .int .i64 (n : Int), .pointer (some ⟨gb, 0, none⟩), x6, x7, x8, x9, x10, x11, x12, x13, x14, x15, x16, x17, x18, x19, x20, x21, x22, x23, x24, x25, x26, x27, x28, x29, x30, x31, x32, x33, x34, x35, x36], []⟩ : Act) = (⟨#[.string s, x1, .pointer (some ⟨b2, 0, none⟩), x3, .int .i64 (n : Int), .pointer (some ⟨gb, 0, none⟩), x6, x7, x8, x9, x10, x11, x12, x13, x14, x15, x16, x17, x18, x19, x20, x21, x22, x23, x24, x25, .agg #[.string t1, .string t2], .string s, .int .i64 (n : Int), .string nm, x30, x31, x32, x33, x34, x35, x36], []⟩ : Act) := by kernel_rfl
  have l0 : setL (fl6z0 b2 gb s nm t1 t2 n ) (Array.replicate 12 false) = (#[true, true, true, true, false, false, false, false, false, false, false, false] : Array Bool) := by kernel_rfl
  rw [e0, l0]
  clear e0 l0
  refine wpAnyH_one (i := 4) (by kernel_rfl) ?_
  refine wpOp_callx (some 30) (by kernel_rfl) (by kernel_rfl) (by kernel_rfl) 41 #[.string nm] (by kernel_rfl) (HK w.drew) ?_
  rintro e w1 ⟨rfl, q1⟩
  have hS1 : (FS w b2 gb t1 t2) w1 := fs_q hS0 (q1)
  refine ⟨_, rfl, hS1, ?_⟩
  have e0 : (⟨#[.string s, x1, .pointer (some ⟨b2, 0, none⟩), x3, .int .i64 (n : Int), .pointer (some ⟨gb, 0, none⟩), x6, x7, x8, x9, x10, x11, x12, x13, x14, x15, x16, x17, x18, x19, x20, x21, x22, x23, x24, x25, .agg #[.string t1, .string t2], .string s, .int .i64 (n : Int), .string nm, x30, x31, x32, x33, x34, x35, x36], []⟩ : Act).put (some 30) (.bool true) = (⟨#[.string s, x1, .pointer (some ⟨b2, 0, none⟩), x3, .int .i64 (n : Int), .pointer (some ⟨gb, 0, none⟩), x6, x7, x8, x9, x10, x11, x12, x13, x14, x15, x16, x17, x18, x19, x20, x21, x22, x23, x24, x25, .agg #[.string t1, .string t2], .string s, .int .i64 (n : Int), .string nm, .bool true, x31, x32, x33, x34, x35, x36], []⟩ : Act) := by kernel_rfl
  have l0 : (#[true, true, true, true, false, false, false, false, false, false, false, false] : Array Bool).setIfInBounds 4 true = (#[true, true, true, true, true, false, false, false, false, false, false, false] : Array Bool) := by kernel_rfl
  rw [e0, l0]
  clear e0 l0
  refine chn_take (by kernel_rfl) hQ hS1 4 (fl6z1 b2 gb s nm t1 t2 n  ) _ _ (fl6g1 b2 gb s nm t1 t2 n   w ) ?_
  have e0 : putL (RofN Tryd.f84 6) (fl6z1 b2 gb s nm t1 t2 n  ) (⟨#[.string s, x1, .pointer (some ⟨b2, 0, none⟩), x3, .int .i64 (n : Int), .pointer (some ⟨gb, 0, none⟩), x6, x7, x8, x9, x10, x11, x12, x13, x14, x15, x16, x17, x18, x19, x20, x21, x22, x23, x24, x25, .agg #[.string t1, .string t2], .string s, .int .i64 (n : Int), .string nm, .bool true, x31, x32, x33, x34, x35, x36], []⟩ : Act) = (⟨#[.string s, x1, .pointer (some ⟨b2, 0, none⟩), x3, .int .i64 (n : Int), .pointer (some ⟨gb, 0, none⟩), x6, x7, x8, x9, x10, x11, x12, x13, x14, x15, x16, x17, x18, x19, x20, x21, x22, x23, x24, x25, .agg #[.string t1, .string t2], .string s, .int .i64 (n : Int), .string nm, .bool true, .bool true, .pointer (some ⟨gb, 1, none⟩), .string t2, x34, x35, x36], []⟩ : Act) := by kernel_rfl
  have l0 : setL (fl6z1 b2 gb s nm t1 t2 n  ) (#[true, true, true, true, true, false, false, false, false, false, false, false] : Array Bool) = (#[true, true, true, true, true, true, true, true, false, false, false, false] : Array Bool) := by kernel_rfl
  rw [e0, l0]
  clear e0 l0
  refine wpAnyH_one (i := 8) (by kernel_rfl) ?_
  refine wpOp_callx (some 34) (by kernel_rfl) (by kernel_rfl) (by kernel_rfl) 56 #[.string t2] (by kernel_rfl) (HV w1) ?_
  rintro e w2 ⟨rfl, q2⟩
  have hS2 : (FS w b2 gb t1 t2) w2 := fs_q hS1 (q2)
  refine ⟨_, rfl, hS2, ?_⟩
  have e0 : (⟨#[.string s, x1, .pointer (some ⟨b2, 0, none⟩), x3, .int .i64 (n : Int), .pointer (some ⟨gb, 0, none⟩), x6, x7, x8, x9, x10, x11, x12, x13, x14, x15, x16, x17, x18, x19, x20, x21, x22, x23, x24, x25, .agg #[.string t1, .string t2], .string s, .int .i64 (n : Int), .string nm, .bool true, .bool true, .pointer (some ⟨gb, 1, none⟩), .string t2, x34, x35, x36], []⟩ : Act).put (some 34) (.bool true) = (⟨#[.string s, x1, .pointer (some ⟨b2, 0, none⟩), x3, .int .i64 (n : Int), .pointer (some ⟨gb, 0, none⟩), x6, x7, x8, x9, x10, x11, x12, x13, x14, x15, x16, x17, x18, x19, x20, x21, x22, x23, x24, x25, .agg #[.string t1, .string t2], .string s, .int .i64 (n : Int), .string nm, .bool true, .bool true, .pointer (some ⟨gb, 1, none⟩), .string t2, .bool true, x35, x36], []⟩ : Act) := by kernel_rfl
  have l0 : (#[true, true, true, true, true, true, true, true, false, false, false, false] : Array Bool).setIfInBounds 8 true = (#[true, true, true, true, true, true, true, true, true, false, false, false] : Array Bool) := by kernel_rfl
  rw [e0, l0]
  clear e0 l0
  refine chn_take (by kernel_rfl) hQ hS2 2 (fl6z2 b2 gb s nm t1 t2 n   ) _ _ (fl6g2 b2 gb s nm t1 t2 n    w ) ?_
  have e0 : putL (RofN Tryd.f84 6) (fl6z2 b2 gb s nm t1 t2 n   ) (⟨#[.string s, x1, .pointer (some ⟨b2, 0, none⟩), x3, .int .i64 (n : Int), .pointer (some ⟨gb, 0, none⟩), x6, x7, x8, x9, x10, x11, x12, x13, x14, x15, x16, x17, x18, x19, x20, x21, x22, x23, x24, x25, .agg #[.string t1, .string t2], .string s, .int .i64 (n : Int), .string nm, .bool true, .bool true, .pointer (some ⟨gb, 1, none⟩), .string t2, .bool true, x35, x36], []⟩ : Act) = (⟨#[.string s, x1, .pointer (some ⟨b2, 0, none⟩), x3, .int .i64 (n : Int), .pointer (some ⟨gb, 0, none⟩), x6, x7, x8, x9, x10, x11, x12, x13, x14, x15, x16, x17, x18, x19, x20, x21, x22, x23, x24, x25, .agg #[.string t1, .string t2], .string s, .int .i64 (n : Int), .string nm, .bool true, .bool true, .pointer (some ⟨gb, 1, none⟩), .string t2, .bool true, .bool true, x36], []⟩ : Act) := by kernel_rfl
  have l0 : setL (fl6z2 b2 gb s nm t1 t2 n   ) (#[true, true, true, true, true, true, true, true, true, false, false, false] : Array Bool) = (#[true, true, true, true, true, true, true, true, true, true, false, false] : Array Bool) := by kernel_rfl
  rw [e0, l0]
  clear e0 l0
  have hb2 : Blk w2 b2 57 #[.string ⟨#[]⟩, .string ⟨#[]⟩] := hB.drew.q (q1.trans q2)
  have hst := run_storeVar_row (P := Tryd.prog) w2 b2 57 57 #[.string ⟨#[]⟩, .string ⟨#[]⟩] #[.string t1, .string t2] hb2 (info57s t1 t2) rfl (by kernel_rfl)
  refine wpAnyH_one (i := 10) (by kernel_rfl) ?_
  refine wpOp_skip (w' := w2.setRow b2 #[.string t1, .string t2]) none (by kernel_rfl) (by kernel_rfl) (by kernel_rfl) (st_any 57 (.tmp 2) (.tmp 26) b2 0 (by kernel_rfl) (by kernel_rfl) (by kernel_rfl) hst) ?_
  have hS9 : (FS w b2 gb t1 t2) (w2.setRow b2 #[.string t1, .string t2]) := ⟨hS2.1.setRow b2 _ (.inl rfl), Keep.blk hS2.2.1 ((Keep.refl (fun i => i = b2) w2).setRow b2 _ (.inl rfl)) (fun e => hS2.2.2 e.symm), hS2.2.2⟩
  refine ⟨hS9, ?_⟩
  have e0 : (⟨#[.string s, x1, .pointer (some ⟨b2, 0, none⟩), x3, .int .i64 (n : Int), .pointer (some ⟨gb, 0, none⟩), x6, x7, x8, x9, x10, x11, x12, x13, x14, x15, x16, x17, x18, x19, x20, x21, x22, x23, x24, x25, .agg #[.string t1, .string t2], .string s, .int .i64 (n : Int), .string nm, .bool true, .bool true, .pointer (some ⟨gb, 1, none⟩), .string t2, .bool true, .bool true, x36], []⟩ : Act).put none undef = (⟨#[.string s, x1, .pointer (some ⟨b2, 0, none⟩), x3, .int .i64 (n : Int), .pointer (some ⟨gb, 0, none⟩), x6, x7, x8, x9, x10, x11, x12, x13, x14, x15, x16, x17, x18, x19, x20, x21, x22, x23, x24, x25, .agg #[.string t1, .string t2], .string s, .int .i64 (n : Int), .string nm, .bool true, .bool true, .pointer (some ⟨gb, 1, none⟩), .string t2, .bool true, .bool true, x36], []⟩ : Act) := by kernel_rfl
  have l0 : (#[true, true, true, true, true, true, true, true, true, true, false, false] : Array Bool).setIfInBounds 10 true = (#[true, true, true, true, true, true, true, true, true, true, true, false] : Array Bool) := by kernel_rfl
  rw [e0, l0]
  clear e0 l0
  refine chn_take (by kernel_rfl) hQ hS9 0 (fl6z3 b2 gb s nm t1 t2 n   ) _ _ (fl6g3 b2 gb s nm t1 t2 n    w ) ?_
  have e0 : putL (RofN Tryd.f84 6) (fl6z3 b2 gb s nm t1 t2 n   ) (⟨#[.string s, x1, .pointer (some ⟨b2, 0, none⟩), x3, .int .i64 (n : Int), .pointer (some ⟨gb, 0, none⟩), x6, x7, x8, x9, x10, x11, x12, x13, x14, x15, x16, x17, x18, x19, x20, x21, x22, x23, x24, x25, .agg #[.string t1, .string t2], .string s, .int .i64 (n : Int), .string nm, .bool true, .bool true, .pointer (some ⟨gb, 1, none⟩), .string t2, .bool true, .bool true, x36], []⟩ : Act) = (⟨#[.string s, x1, .pointer (some ⟨b2, 0, none⟩), .bool true, .int .i64 (n : Int), .pointer (some ⟨gb, 0, none⟩), x6, x7, x8, x9, x10, x11, x12, x13, x14, x15, x16, x17, x18, x19, x20, x21, x22, x23, x24, x25, .agg #[.string t1, .string t2], .string s, .int .i64 (n : Int), .string nm, .bool true, .bool true, .pointer (some ⟨gb, 1, none⟩), .string t2, .bool true, .bool true, x36], []⟩ : Act) := by kernel_rfl
  have l0 : setL (fl6z3 b2 gb s nm t1 t2 n   ) (#[true, true, true, true, true, true, true, true, true, true, true, false] : Array Bool) = (#[true, true, true, true, true, true, true, true, true, true, true, true] : Array Bool) := by kernel_rfl
  rw [e0, l0]
  clear e0 l0
  refine wpAnyH_done (by kernel_rfl) ?_ _
  exact h w2 ((Q.refl w).drew.trans (q1.trans q2))

end Go.Proofs.YtclapheglgiokaaDoor

/-
  The grammar's field, at a line that a field's writing made: a contract that the statements' walks use.
-/
namespace Go.Proofs.YtclapheglgiokaaDoor
open Go.RowKit
set_option linter.unusedVariables false
set_option maxRecDepth 20000

theorem str_from (t : ByteArray) (k : Nat) (h : k + 1 ≤ t.size) (W : World) : (Instr.slice 9 (.string t) (some (.int .i64 ((k : Int) + 1))) none none).run Tryd.prog W = .ok (.string (t.extract (k + 1) t.size)) W := by
  have h1 : ((k + 1 : Nat) : Int) ≤ (t.size : Int) := by omega
  have h2 : (k : Int) + 1 = ((k + 1 : Nat) : Int) := by omega
  rw [h2]
  generalize k + 1 = m at *
  simp [Instr.slice, go_sem, run_underlying Tryd.underlying9, h1]
theorem res84 (tmps : Array Value) (w : World) (g : Nat) (e : Bool) (t1 t2 : ByteArray) (h4 : tmps.getD 2 undef = .pointer (some ⟨g, 0, none⟩)) (h5 : tmps.getD 3 undef = .bool e) (hb : w.heap[g]? = some (.cells #[.string t1, .string t2] 57 (0, 0))) :
    (results Tryd.f84 tmps).run Tryd.prog w = .ok (.tuple #[.agg #[.string t1, .string t2], .bool e]) w := by
  have h4' : tmps[2]?.getD undef = .pointer (some ⟨g, 0, none⟩) := by simpa using h4
  have h5' : tmps[3]?.getD undef = .bool e := by simpa using h5
  have hl := run_loadVar_row w g 57 57 _ (0, 0) _ hb Tryd.underlying57 rfl (info57s t1 t2)
  simp [results, Tryd.results84, h4', h5', asAddr, hl]
theorem fl_at (n v : ByteArray) (h : Fok (n, v)) : (⟨(flL n v).toArray⟩ : ByteArray).size = n.size + 2 + v.size ∧ (∀ k (hk : k < (⟨(flL n v).toArray⟩ : ByteArray).size), (k < n.size → ((⟨(flL n v).toArray⟩ : ByteArray)[k]'hk).toNat ≠ 58) ∧ (k = n.size → ((⟨(flL n v).toArray⟩ : ByteArray)[k]'hk).toNat = 58)) ∧
    (⟨(flL n v).toArray⟩ : ByteArray).extract 0 n.size = n ∧ allB insB ((⟨(flL n v).toArray⟩ : ByteArray).extract (n.size + 1) (⟨(flL n v).toArray⟩ : ByteArray).size) = true := by
  have hns : n.data.toList.length = n.size := rfl
  have hvs : v.data.toList.length = v.size := rfl
  have h1 : (⟨(flL n v).toArray⟩ : ByteArray).size = n.size + 2 + v.size := by
    show (flL n v).toArray.size = _
    unfold flL
    simp only [List.size_toArray, List.length_append, List.length_cons, List.length_nil, hns, hvs]
  refine ⟨h1, fun k hk => ?_, ?_, ?_⟩
  · have e : (⟨(flL n v).toArray⟩ : ByteArray)[k]'hk = (flL n v)[k]'(show k < (flL n v).length from hk) := by rfl
    rw [e]
    have hg : (flL n v)[k]? = some ((flL n v)[k]'(show k < (flL n v).length from hk)) := List.getElem?_eq_getElem _
    generalize (flL n v)[k]'(show k < (flL n v).length from hk) = x at hg
    unfold flL at hg
    rw [List.append_assoc] at hg
    constructor
    · intro hlt hx
      rw [List.getElem?_append_left (by rw [hns]; exact hlt)] at hg
      have hx' : x = 58 := UInt8.toNat_inj.1 hx
      subst hx'
      exact tk_no h.1 (.inl rfl) (List.mem_of_getElem? hg)
    · rintro rfl
      rw [List.getElem?_append_right (by rw [hns]; exact Nat.le_refl _), hns, Nat.sub_self] at hg
      simp at hg
      rw [← hg]; rfl
  · apply ByteArray.ext
    apply Array.toList_inj.1
    have e : ((⟨(flL n v).toArray⟩ : ByteArray).extract 0 n.size).data.toList = (flL n v).take n.size := by simp
    rw [e]
    unfold flL
    rw [List.append_assoc, ← hns, List.take_left]
  · refine allB_of fun b hb => ?_
    have e : ((⟨(flL n v).toArray⟩ : ByteArray).extract (n.size + 1) (⟨(flL n v).toArray⟩ : ByteArray).size).data.toList = (flL n v).drop (n.size + 1) := by
      rw [h1]
      simp only [ByteArray.data_extract, Array.toList_extract, List.extract_eq_take_drop, List.toList_toArray]
      rw [List.take_of_length_le]
      rw [List.length_drop]
      unfold flL
      simp only [List.length_append, List.length_cons, List.length_nil, hns, hvs]
      omega
    rw [e] at hb
    unfold flL at hb
    rw [List.append_assoc, ← hns, List.drop_length_add_append] at hb
    simp at hb
    rcases hb with rfl | hb
    · decide
    · exact allB_mem h.2 (by simpa using hb)
theorem sb_vl {s t : ByteArray} (h : allB insB s = true) (ht : Sb s t ∧ fsS t = true ∧ lsS t = true) : vlS t = true := by
  unfold vlS
  rw [allB_of (fun b hb => allB_mem h (ht.1.2 b hb)), ht.2.1, ht.2.2]
  rfl
set_option maxHeartbeats 8000000 in
theorem field84_any (n v : ByteArray) (h : Fok (n, v)) (w : World) (hs : n.size + 2 + v.size ≤ 140737488355328) : Calls Tryd.prog 84 #[.string ⟨(flL n v).toArray⟩] w fun e w' => (∃ t1 t2, e = .returned (.tuple #[.agg #[.string t1, .string t2], .bool true])) ∧ Q w w' := by
  obtain ⟨hz, hat, hnm, hvl⟩ := fl_at n v h
  have htk : tkS n = true := h.1
  generalize (⟨(flL n v).toArray⟩ : ByteArray) = s at *
  have HAT := hid hat
  have HS := hid hs
  have HZ := hid hz
  have HN := hid (fun W => str_to s n.size (by omega) W)
  have HV := hid (fun W => str_from s n.size (by omega) W)
  rw [hnm] at HN
  have HSM := hid (fun W => small32_any n W (by omega))
  have htr : ∀ W, Calls Tryd.prog 70 #[.string (s.extract (n.size + 1) s.size)] W fun e w' => ∃ t : ByteArray, (vlS t = true ∧ t.size ≤ 140737488355328) ∧ e = .returned (.string t) ∧ Q W w' := fun W => by
    have hz' : (s.extract (n.size + 1) s.size).size ≤ 140737488355328 := by rw [ByteArray.size_extract]; omega
    refine (trim70_any (s.extract (n.size + 1) s.size) W hz').mono (fun e w' h => ?_)
    obtain ⟨t, h1, h2, rfl⟩ := h
    exact ⟨t, ⟨sb_vl hvl h1, Nat.le_trans h1.1.1 hz'⟩, h2, Q.refl _⟩
  have HTR := hid htr
  have htk' : ∀ W, Calls Tryd.prog 41 #[.string n] W fun e w' => e = .returned (.bool true) ∧ Q W w' := fun W => by
    refine (rtoken_any n W (by omega)).mono (fun e w' h => ?_)
    obtain ⟨h2, rfl⟩ := h
    rw [htk] at h2
    exact ⟨h2, Q.refl _⟩
  have HTK := hid htk'
  clear htr htk'
  have HNB := hid (show n.size ≤ 140737488355328 from by omega)
  generalize s.extract (n.size + 1) s.size = vl at *
  clear hat hnm hvl htk h hs hz
  have HQ0 := hid ((Q.refl w).alloc (.cells #[.string ⟨#[]⟩, .string ⟨#[]⟩] 57))
  have HB0 := hid (blk_new w #[.string ⟨#[]⟩, .string ⟨#[]⟩] 57)
  go_enter Tryd.func84, Tryd.ntmps84
  go_upto_region 1 with fail
  generalize hW : World.alloc w _ = W0 at *
  clear hW
  generalize hbb : w.heap.size = b2 at HB0 ⊢
  have HBE := hid hbb
  clear hbb
  go_wp2_with fail
  go_loop [4] (fun i => ∃ k : Nat, k ≤ n.size ∧ i = .int .i64 (k : Int)) (fun i => n.size - (intOf i).toNat)
  case atStart => exact ⟨0, Nat.zero_le _, rfl⟩
  case round =>
    obtain ⟨k, hk, rfl⟩ := hrel
    have hks : k < s.size := by have := HZ.out; omega
    have hix := fun W => str_ix s k hks W
    have hki : (k : Int) < (s.size : Int) := by omega
    have hk0 : (0 : Int) ≤ (k : Int) := by omega
    have hkb : (k : Int) < 140737488355328 := by have := HS.out; have := HZ.out; omega
    have HA := hid (HAT.out k hks)
    have hcb : (s[k]'hks).toNat < 256 := UInt8.toNat_lt _
    generalize (s[k]'hks).toNat = c at *
    by_cases hlt : k < n.size
    · have a1 : ((c : Int) == 58) = false := by have := HA.out.1 hlt; simp; omega
      have HLT := hid hlt
      clear HA hlt
      go_wp2
      go_round
      case rel => exact ⟨k + 1, by have := HLT.out; omega, by go_num⟩
      case measure => have := HLT.out; simp [intOf]; omega
    · have hkn : k = n.size := by omega
      subst hkn
      have a1 : ((c : Int) == 58) = true := by have := HA.out.2 rfl; simp [this]
      clear HA hlt hk
      go_upto_region 5 with fail
      generalize hR : Code.region 5 _ true = CC
      have eR : CC = Code.region 5 (RofN Tryd.f84 5) true := hR.symm.trans (by kernel_rfl)
      clear hR
      subst eR
      refine wp_region_noPanic ?_
      refine fl5 s n vl n.size W0 _ (fun _ _ _ _ _ h => h) HNB.out HN.out HV.out HSM.out HTR.out (Q.refl _) ?_
      intro t1 t2 gb w1 q1 hv2 b1 hg1
      have B1 := hid b1
      have Q1 := hid q1
      have HG := hid hg1
      have HB1 := hid (HB0.out.q q1)
      have HVV := hid hv2
      clear q1 b1 hg1 hv2
      refine NoPanic.normal ?_
      refine ‹∀ a w, Code.wp Tryd.prog _ _ a w → _› _ _ ?_
      dsimp only
      go_upto_region 6 with fail
      generalize hR : Code.region 6 _ true = CC
      have eR : CC = Code.region 6 (RofN Tryd.f84 6) true := hR.symm.trans (by kernel_rfl)
      clear hR
      subst eR
      refine wp_region_noPanic ?_
      refine fl6 b2 gb s n t1 t2 n.size w1 _ (fun _ _ _ _ _ h => h) ⟨Keep.refl _ _, B1.out, by have := HB0.out.lt; have := HG.out; omega⟩ HB1.out HN.out HTK.out (fun W => ?_) ?_
      · refine (rvalue_any t2 W HVV.out.2).mono (fun e w' h => ?_)
        obtain ⟨h2, rfl⟩ := h
        rw [HVV.out.1] at h2
        exact ⟨h2, Q.refl _⟩
      intro w2 q2
      refine NoPanic.normal ?_
      refine ‹∀ a w, Code.wp Tryd.prog _ _ a w → _› _ _ ?_
      dsimp only
      have hb5 := HB1.out.q q2
      have BZ := hid (show (w2.setRow b2 #[.string t1, .string t2]).heap[b2]? = some (.cells #[.string t1, .string t2] 57 (0, 0)) from setRow_heap _ _ _ _ 57 _ hb5)
      have QZ := hid (show Q w (w2.setRow b2 #[.string t1, .string t2]) from ((Keep.refl (fun i => i = b2) w2).setRow b2 _ (.inl rfl)).below (HQ0.out.trans (Q1.out.trans q2)) (HQ0.out.trans (Q1.out.trans q2)).size (fun i e => by have := HBE.out; omega))
      generalize hWZ : World.setRow _ _ _ = WZ at *
      clear hWZ hb5 q2
      go_wp2
      refine bodyPost_ret (res84 _ _ b2 _ t1 t2 rfl rfl BZ.out) rfl ?_
      exact ⟨⟨t1, t2, rfl⟩, QZ.out⟩
end Go.Proofs.YtclapheglgiokaaDoor

/-
  The grammar's fields, at a beginning of a head: a contract that the statements' walks use.
-/
namespace Go.Proofs.YtclapheglgiokaaDoor
open Go.RowKit
set_option linter.unusedVariables false
set_option maxRecDepth 20000

/-- Where a field's line begins. -/
def atF (rq : List UInt8) (F : List Fd) (k : Nat) : Nat := (ln2 ((rq :: F.map fun q : Fd => flL q.1 q.2).take (k + 1))).length
theorem fline_any (s : ByteArray) (rq : List UInt8) (F : List Fd) (c : Nat) (hs : s.data.toList = (ln2 (rq :: F.map fun q : Fd => flL q.1 q.2) ++ [13, 10]).take c) (hc : c < (ln2 (rq :: F.map fun q : Fd => flL q.1 q.2)).length + 2)
    (hr : 13 ∉ rq) (hF : ∀ p ∈ F, Fok p) (hb : s.size ≤ 140737488355328) (k : Nat) (hk : k ≤ F.length) (hkb : atF rq F k ≤ s.size) (W : World) :
    Calls Tryd.prog 71 #[.string s, .int .i64 (atF rq F k : Int)] W fun e w' => ((∃ l, e = .returned (.tuple #[.string l, .int .i64 (-1)])) ∨ ∃ p, k < F.length ∧ Fok p ∧ p.1.size + 2 + p.2.size ≤ 140737488355328 ∧ e = .returned (.tuple #[.string ⟨(flL p.1 p.2).toArray⟩, .int .i64 (atF rq F (k + 1) : Int)]) ∧ atF rq F k < atF rq F (k + 1) ∧ atF rq F (k + 1) ≤ s.size) ∧ w' = W := by
  have hsz : s.size = c := by
    have h1 : s.data.toList.length = c := by
      rw [hs, List.length_take, List.length_append]
      simp only [List.length_cons, List.length_nil]
      omega
    exact h1
  refine (line71_any s (atF rq F k) W hb hkb).mono (fun e w' h => ?_)
  obtain ⟨l, f, hln, rfl, rfl⟩ := h
  refine ⟨?_, rfl⟩
  rcases lnA_at hs hc (fun x hx => by
    rcases List.mem_cons.1 hx with rfl | hx
    · exact hr
    · obtain ⟨p, hp, rfl⟩ := List.mem_map.1 hx
      exact fl_no13 (hF p hp)) (i := k + 1) (by simp; omega) hln with h | ⟨x, hx, hl, hf, hle⟩
  · subst h
    exact .inl ⟨l, rfl⟩
  · rw [List.getElem?_cons_succ, List.getElem?_map] at hx
    obtain ⟨p, hp, rfl⟩ := Option.map_eq_some_iff.1 hx
    have hkl := (List.getElem?_eq_some_iff.1 hp).1
    have hx' : (rq :: F.map fun q : Fd => flL q.1 q.2)[k + 1]? = some (flL p.1 p.2) := by
      rw [List.getElem?_cons_succ, List.getElem?_map, hp]; rfl
    have h2 := congrArg List.length (ln2_take hx')
    rw [List.length_append, List.length_append] at h2
    simp only [List.length_cons, List.length_nil] at h2
    have h3 : (flL p.1 p.2).length = p.1.size + 2 + p.2.size := by
      unfold flL
      simp only [List.length_append, List.length_cons, List.length_nil]
      rfl
    unfold atF
    refine .inr ⟨p, hkl, hF p (List.mem_of_getElem? hp), ?_, ?_, ?_, ?_⟩
    · omega
    · rw [hl, hf]
    · omega
    · omega
theorem fl_ne (n v : ByteArray) : (⟨(flL n v).toArray⟩ : ByteArray).data.toList ≠ [] := by
  unfold flL
  simp
set_option maxHeartbeats 8000000 in
theorem fields73_any (s : ByteArray) (rq : List UInt8) (F : List Fd) (c : Nat) (w : World) (hs : s.data.toList = (ln2 (rq :: F.map fun q : Fd => flL q.1 q.2) ++ [13, 10]).take c) (hc : c < (ln2 (rq :: F.map fun q : Fd => flL q.1 q.2)).length + 2)
    (hr : 13 ∉ rq) (hF : ∀ p ∈ F, Fok p) (hb : s.size ≤ 140737488355328) (hl : F.length ≤ 4398046511104) (h0 : atF rq F 0 ≤ s.size) :
    Calls Tryd.prog 73 #[.string s, .int .i64 (atF rq F 0 : Int)] w fun e w' => e = .returned (.tuple #[.slice none 0 0, .int .i64 (-1)]) ∧ Q w w' := by
  have HL := hid (fline_any s rq F c hs hc hr hF hb)
  have HB := hid hb
  have HFL := hid hl
  have H0 := hid h0
  clear hs hc hr hF hb hl h0
  generalize atF rq F = B at *
  go_enter Tryd.func73, Tryd.ntmps73
  go_wp2_with fail
  go_loopw [1, 6] (fun a r wr => ∃ (k : Nat) (y : Sv) (l : List Fd), k ≤ F.length ∧ a = .int .i64 (B k : Int) ∧ B k ≤ s.size ∧ r = .slice y.a y.n y.c ∧ l.length = k ∧ Q w wr ∧ RowG wr y l ∧ New w.heap.size y) (fun a _ _ => s.size - (intOf a).toNat)
  case atStart => exact ⟨0, ⟨none, 0, 0⟩, [], Nat.zero_le _, rfl, H0.out, rfl, rfl, Q.refl _, sub_nil _ _ _, (fun b e => by cases e)⟩
  case round =>
    obtain ⟨k, ⟨ya, yn, yc⟩, l, hk, rfl, hkb, rfl, hlk, hq, hrow, hnew⟩ := hrel
    have HQ := hid hq
    have HR := hid hrow
    have HN := hid hnew
    have HK := hid hk
    have HLK := hid hlk
    have HC := hid (HL.out k hk hkb)
    clear hq hrow hnew hk hlk hkb
    go_wp2_with fail
    refine (HC.out wr).mono ?_
    rintro e w1 ⟨⟨x, rfl⟩ | ⟨p, hkl, hf, hz, rfl, hlt, hle⟩, h1⟩
    · have h1' := h1.symm
      subst h1'
      clear h1
      go_wp2
      go_ret2
      exact ⟨rfl, HQ.out⟩
    · have h1' := h1.symm
      subst h1'
      clear h1
      have HKL := hid hkl
      have HLT := hid hlt
      have HLE := hid hle
      have HFD := hid (fun W => field84_any p.1 p.2 hf W hz)
      have hne := fl_ne p.1 p.2
      generalize (⟨(flL p.1 p.2).toArray⟩ : ByteArray) = x at *
      have hxe : (x.toList == []) = false := by
        simp only [beq_eq_false_iff_ne, ne_eq]
        rw [ByteArray.toList_eq]
        exact hne
      have hn0 : ¬ (B (k + 1) : Int) < 0 := by omega
      clear hkl hlt hle hf hz HC hne
      go_wp2_with fail
      refine (HFD.out _).mono ?_
      rintro e w2 ⟨⟨t1, t2, rfl⟩, q2⟩
      have Q2 := hid (HQ.out.trans q2)
      have R2 := hid (HR.out.q q2)
      have q3 : Q w2 (w2.alloc (.cells #[.string t1, .string t2] 57)) := (Q.refl w2).alloc _
      obtain ⟨⟨za, zn, zc⟩, w6, run6, row6, k6, b6⟩ := rowG_one (t1, t2) (R2.out.q q3) (by have h1 := R2.out.len; have := HLK.out; have := HKL.out; have := HFL.out; dsimp only at h1 ⊢; omega)
      rw [show (w2.alloc (.cells #[.string t1, .string t2] 57)).heap.size = w2.heap.size + 1 from by simp] at run6 b6
      dsimp only at run6
      have HST := hid (new_step' (B := w.heap.size) (y := ⟨za, zn, zc⟩) rfl (Q2.out.trans q3) HN.out k6 (fun b e => by
        rcases b6 b e with h | h
        · exact .inl h
        · exact .inr (by rw [show (w2.alloc (.cells #[.string t1, .string t2] 57)).heap.size = w2.heap.size + 1 from by simp]; exact h)))
      have R6 := hid row6
      clear q2 q3 row6 k6 b6
      go_wp2_with (first
        | (at_builtin; refine Lib.wpList_append_run _ rfl _ _ _ _ rfl _ _ rfl rfl _ _ run6 ?_; clear run6))
      go_roundw
      case rel => exact ⟨k + 1, ⟨za, zn, zc⟩, _, HKL.out, rfl, HLE.out, rfl, by rw [List.length_append, HLK.out]; rfl, HST.out.1, R6.out, HST.out.2⟩
      case measure => have := HLT.out; have := HLE.out; simp [intOf]; omega
end Go.Proofs.YtclapheglgiokaaDoor

/-
  The grammar's start at a request line: a contract that the statements' walks use.
-/
namespace Go.Proofs.YtclapheglgiokaaDoor
open Go.RowKit
set_option linter.unusedVariables false
set_option maxRecDepth 20000

def rqQ (m p : ByteArray) : ByteArray := ⟨(m.data.toList ++ [32] ++ p.data.toList).toArray⟩
def visB (n : Nat) : Bool := decide (33 ≤ n) && decide (n ≤ 126)
theorem ext_l (s : ByteArray) (a b : Nat) : (s.extract a b).data.toList = (s.data.toList.take b).drop a := by simp [List.drop_take]
theorem ba_eq {s t : ByteArray} (h : s.data.toList = t.data.toList) : s = t := by
  apply ByteArray.ext
  exact Array.toList_inj.1 h
theorem rq_at (m p : ByteArray) (hm : tkS m = true) : (⟨(rqL m p).toArray⟩ : ByteArray).size = (rqQ m p).size + 9 ∧ (rqQ m p).size = m.size + 1 + p.size ∧ (⟨(rqL m p).toArray⟩ : ByteArray).extract (rqQ m p).size (⟨(rqL m p).toArray⟩ : ByteArray).size = sHTTP ∧ (⟨(rqL m p).toArray⟩ : ByteArray).extract 0 (rqQ m p).size = rqQ m p ∧
    (∀ k (hk : k < (rqQ m p).size), (k < m.size → ((rqQ m p)[k]'hk).toNat ≠ 32) ∧ (k = m.size → ((rqQ m p)[k]'hk).toNat = 32)) ∧ (rqQ m p).extract 0 m.size = m ∧ (rqQ m p).extract (m.size + 1) (rqQ m p).size = p := by
  have hms : m.data.toList.length = m.size := rfl
  have hps : p.data.toList.length = p.size := rfl
  have hqd : (rqQ m p).data.toList = m.data.toList ++ [32] ++ p.data.toList := by simp [rqQ]
  have hql : (rqQ m p).data.toList.length = (rqQ m p).size := rfl
  have hq : (rqQ m p).size = m.size + 1 + p.size := by
    rw [← hql, hqd]
    simp only [List.length_append, List.length_cons, List.length_nil, hms, hps]
  have hrl : rqL m p = (rqQ m p).data.toList ++ sHTTP.data.toList := by rw [hqd]; unfold rqL; rfl
  have hsl : (⟨(rqL m p).toArray⟩ : ByteArray).data.toList = (rqQ m p).data.toList ++ sHTTP.data.toList := by rw [← hrl]
  have hss : (⟨(rqL m p).toArray⟩ : ByteArray).size = (rqQ m p).size + 9 := by
    have : (⟨(rqL m p).toArray⟩ : ByteArray).data.toList.length = (⟨(rqL m p).toArray⟩ : ByteArray).size := rfl
    rw [← this, hsl, List.length_append, hql]
    rfl
  refine ⟨hss, hq, ?_, ?_, fun k hk => ?_, ?_, ?_⟩
  · apply ba_eq
    rw [ext_l, hss, hsl, List.take_of_length_le (by rw [List.length_append, hql]; exact Nat.le_refl _), ← hql, List.drop_left]
  · apply ba_eq
    rw [ext_l, hsl, ← hql, List.take_left]
    rfl
  · have hg : (rqQ m p).data.toList[k]? = some ((rqQ m p)[k]'hk) := List.getElem?_eq_getElem (show k < (rqQ m p).data.toList.length from hk)
    generalize (rqQ m p)[k]'hk = x at hg
    rw [hqd, List.append_assoc] at hg
    constructor
    · intro hlt hx
      rw [List.getElem?_append_left (by rw [hms]; exact hlt)] at hg
      have hx' : x = 32 := UInt8.toNat_inj.1 hx
      subst hx'
      exact tk_no hm (.inr (.inr rfl)) (List.mem_of_getElem? hg)
    · rintro rfl
      rw [List.getElem?_append_right (by rw [hms]; exact Nat.le_refl _), hms, Nat.sub_self] at hg
      simp at hg
      rw [← hg]; rfl
  · apply ba_eq
    rw [ext_l, hqd, List.append_assoc, ← hms, List.take_left]
    rfl
  · apply ba_eq
    rw [ext_l, List.take_of_length_le (by rw [hql]; exact Nat.le_refl _), hqd, List.append_assoc, ← hms, List.drop_length_add_append]
    rfl
theorem allB_at {f : Nat → Bool} {s : ByteArray} (h : allB f s = true) (k : Nat) (hk : k < s.size) : f (s[k]'hk).toNat = true := allB_mem h (List.mem_of_getElem? (List.getElem?_eq_getElem (show k < s.data.toList.length from hk)))
set_option maxHeartbeats 8000000 in
theorem start72_any (m p : ByteArray) (w : World) (hm : tkS m = true) (hp : neS p = true) (hv : allB visB p = true) (hb : m.size + p.size + 10 ≤ 140737488355328) : Calls Tryd.prog 72 #[.string ⟨(rqL m p).toArray⟩] w fun e w' => e = .returned (.tuple #[.string m, .string p, .bool true]) ∧ Q w w' := by
  obtain ⟨hss, hqs, h1, h2, hat, h3, h4⟩ := rq_at m p hm
  have hm1 : 1 ≤ m.size := by
    unfold tkS at hm
    rw [Bool.and_eq_true] at hm
    have := hm.1
    unfold neS at this
    have hl : m.data.toList.length = m.size := rfl
    cases hd : m.data.toList with
    | nil => rw [hd] at this; cases this
    | cons a b => rw [hd] at hl; simp at hl; omega
  have hp0 : p.data.toList ≠ [] := by
    intro h
    unfold neS at hp
    rw [h] at hp
    cases hp
  have hp1 : 1 ≤ p.size := by
    have hl : p.data.toList.length = p.size := rfl
    cases hd : p.data.toList with
    | nil => exact absurd hd hp0
    | cons a b => rw [hd] at hl; simp at hl; omega
  have HTK := hid (fun W => (rtoken_any m W (by omega)))
  rw [hm] at HTK
  generalize rqQ m p = q at *
  generalize (⟨(rqL m p).toArray⟩ : ByteArray) = s at *
  have hsl1 : ∀ W, (Instr.slice 9 (.string s) (some (.int .i64 ((s.size : Int) - 9))) none none).run Tryd.prog W = .ok (.string sHTTP) W := fun W => by
    have e : (s.size : Int) - 9 = ((q.size : Nat) : Int) := by omega
    have e2 := str_from s (q.size - 1) (by omega) W
    rw [show ((q.size - 1 : Nat) : Int) + 1 = ((q.size : Nat) : Int) from by omega, show q.size - 1 + 1 = q.size from by omega, h1] at e2
    rw [e]
    exact e2
  have hsl2 : ∀ W, (Instr.slice 9 (.string s) none (some (.int .i64 ((s.size : Int) - 9))) none).run Tryd.prog W = .ok (.string q) W := fun W => by
    have e : (s.size : Int) - 9 = ((q.size : Nat) : Int) := by omega
    rw [e, str_to s q.size (by omega), h2]
  have hsl3 : ∀ W, (Instr.slice 9 (.string q) (some (.int .i64 ((m.size : Int) + 1))) none none).run Tryd.prog W = .ok (.string p) W := fun W => by rw [str_from q m.size (by omega), h4]
  have hsl4 : ∀ W, (Instr.slice 9 (.string q) none (some (.int .i64 (m.size : Int))) none).run Tryd.prog W = .ok (.string m) W := fun W => by rw [str_to q m.size (by omega), h3]
  have HS1 := hid hsl1
  have HS2 := hid hsl2
  have HS3 := hid hsl3
  have HS4 := hid hsl4
  have HAT := hid hat
  have HV := hid hv
  have HQS := hid hqs
  have HSS := hid hss
  have HB := hid hb
  have HM1 := hid hm1
  have HP1 := hid hp1
  have hpe : (p.toList == []) = false := by
    simp only [beq_eq_false_iff_ne, ne_eq]
    rw [ByteArray.toList_eq]
    exact hp0
  have HPE := hid hpe
  clear hsl1 hsl2 hsl3 hsl4 hat h1 h2 h3 h4 hm hp hv hp0 hpe
  have hl11 : ¬ (s.size : Int) < 11 := by omega
  have hsb : (s.size : Int) ≤ 140737488355328 := by omega
  have hs9 : (0 : Int) ≤ (s.size : Int) - 9 := by omega
  clear hss hqs hb hm1 hp1
  go_enter Tryd.func72, Tryd.ntmps72
  have hsl1 := HS1.out
  have hsl2 := HS2.out
  have hcmp : (sHTTP.toList == [32, 72, 84, 84, 80, 47, 49, 46, 49]) = true := by decide +kernel
  generalize sHTTP = ht at *
  go_wp2_with fail
  clear hsl1 hsl2 hl11 hsb hs9 hcmp
  go_loop [6] (fun i => ∃ k : Nat, k ≤ m.size ∧ i = .int .i64 (k : Int)) (fun i => m.size - (intOf i).toNat)
  case atStart => exact ⟨0, Nat.zero_le _, rfl⟩
  case round =>
    obtain ⟨k, hk, rfl⟩ := hrel
    have hks : k < q.size := by have := HQS.out; omega
    have hix := fun W => str_ix q k hks W
    have hki : (k : Int) < (q.size : Int) := by omega
    have hk0 : (0 : Int) ≤ (k : Int) := by omega
    have hkb : (k : Int) < 140737488355328 := by have := HQS.out; have := HB.out; omega
    have HA := hid (HAT.out k hks)
    have hcb : (q[k]'hks).toNat < 256 := UInt8.toNat_lt _
    generalize (q[k]'hks).toNat = c at *
    by_cases hlt : k < m.size
    · have a1 : ((c : Int) == 32) = false := by have := HA.out.1 hlt; simp; omega
      have HLT := hid hlt
      clear HA hlt
      go_wp2
      go_round
      case rel => exact ⟨k + 1, by have := HLT.out; omega, by go_num⟩
      case measure => have := HLT.out; simp [intOf]; omega
    · have hkn : k = m.size := by omega
      subst hkn
      have a1 : ((c : Int) == 32) = true := by have := HA.out.2 rfl; simp [this]
      have hsl3 := HS3.out
      clear HA hlt hk
      go_wp2_with fail
      clear hix a1
      go_loop [8] (fun i => ∃ j : Nat, j ≤ p.size ∧ i = .int .i64 (j : Int)) (fun i => p.size - (intOf i).toNat)
      case atStart => exact ⟨0, Nat.zero_le _, rfl⟩
      case round =>
        obtain ⟨j, hj, rfl⟩ := hrel
        by_cases hlt : j < p.size
        · have hix := fun W => str_ix p j hlt W
          have hji : (j : Int) < (p.size : Int) := by omega
          have hj0 : (0 : Int) ≤ (j : Int) := by omega
          have hjb : (j : Int) < 140737488355328 := by have := HB.out; omega
          have hvis := allB_at HV.out j hlt
          have hcb : (p[j]'hlt).toNat < 256 := UInt8.toNat_lt _
          generalize (p[j]'hlt).toNat = c at *
          have h33 : 33 ≤ c ∧ c ≤ 126 := by simpa [visB] using hvis
          have a1 : ¬ (c : Int) ≤ 32 := by omega
          have a2 : ¬ (127 : Int) ≤ (c : Int) := by omega
          have HLT := hid hlt
          clear hvis h33 hlt
          go_wp2
          go_round
          case rel => exact ⟨j + 1, by have := HLT.out; omega, by go_num⟩
          case measure => have := HLT.out; simp [intOf]; omega
        · have hji : ¬ (j : Int) < (p.size : Int) := by omega
          have hsl4 := HS4.out
          have hpe := HPE.out
          go_wp2_with fail
          go_quiet ((go_at_call 41; exact Calls.quiet_of_same (HTK.out _)))
          go_wp2
          go_ret3
          exact ⟨rfl, (Q.refl w).drewN _⟩
end Go.Proofs.YtclapheglgiokaaDoor

/-
  The grammar's Read at a beginning of a head: a contract that the statements' walks use.
-/
namespace Go.Proofs.YtclapheglgiokaaDoor
open Go.RowKit
set_option linter.unusedVariables false
set_option maxRecDepth 20000

/-- A text is a beginning of a head, short of its end. -/
structure Beg (s m p : ByteArray) (F : List Fd) (c : Nat) : Prop where
  hs : s.data.toList = (ln2 (rqL m p :: F.map fun q : Fd => flL q.1 q.2) ++ [13, 10]).take c
  hc : c < (ln2 (rqL m p :: F.map fun q : Fd => flL q.1 q.2)).length + 2
  hm : tkS m = true
  hn : neS p = true
  hv : allB visB p = true
  hF : ∀ q ∈ F, Fok q
  hb : s.size ≤ 140737488355328
  hmp : m.size + p.size + 10 ≤ 140737488355328
  hl : F.length ≤ 4398046511104
theorem vis_no : ∀ n, n < 256 → visB n = true → n ≠ 13 := by decide +kernel
theorem rqL_no {m p : ByteArray} (hm : tkS m = true) (hv : allB visB p = true) : (13 : UInt8) ∉ rqL m p := by
  unfold rqL
  intro h
  simp only [List.mem_append] at h
  rcases h with ((h | h) | h) | h
  · exact tk_no hm (.inr (.inl rfl)) h
  · revert h; decide
  · exact vis_no _ (by decide) (allB_mem hv h) rfl
  · revert h; decide
theorem Beg.line {s m p : ByteArray} {F : List Fd} {c : Nat} (h : Beg s m p F c) (W : World) :
    Calls Tryd.prog 71 #[.string s, .int .i64 0] W fun e w' => ((∃ l, e = .returned (.tuple #[.string l, .int .i64 (-1)])) ∨ (e = .returned (.tuple #[.string ⟨(rqL m p).toArray⟩, .int .i64 (atF (rqL m p) F 0 : Int)]) ∧ atF (rqL m p) F 0 ≤ s.size)) ∧ w' = W := by
  have hsz : s.size = c := by
    have h1 : s.data.toList.length = c := by
      have := h.hc
      rw [h.hs, List.length_take, List.length_append]
      simp only [List.length_cons, List.length_nil]
      omega
    exact h1
  refine (line71_any s 0 W h.hb (Nat.zero_le _)).mono (fun e w' g => ?_)
  obtain ⟨l, f, hln, rfl, rfl⟩ := g
  refine ⟨?_, rfl⟩
  rcases lnA_at h.hs h.hc (fun x hx => by
    rcases List.mem_cons.1 hx with rfl | hx
    · exact rqL_no h.hm h.hv
    · obtain ⟨q, hq, rfl⟩ := List.mem_map.1 hx
      exact fl_no13 (h.hF q hq)) (i := 0) (Nat.zero_le _) hln with g | ⟨x, hx, hl, hf, hle⟩
  · subst g
    exact .inl ⟨l, rfl⟩
  · rw [List.getElem?_cons_zero] at hx
    have hx := Option.some.inj hx
    subst hx
    exact .inr ⟨by rw [hl, hf]; rfl, by unfold atF; omega⟩
theorem Beg.start {s m p : ByteArray} {F : List Fd} {c : Nat} (h : Beg s m p F c) (W : World) : Calls Tryd.prog 72 #[.string ⟨(rqL m p).toArray⟩] W fun e w' => e = .returned (.tuple #[.string m, .string p, .bool true]) ∧ Q W w' := start72_any m p W h.hm h.hn h.hv h.hmp
theorem Beg.fields {s m p : ByteArray} {F : List Fd} {c : Nat} (h : Beg s m p F c) (h0 : atF (rqL m p) F 0 ≤ s.size) (W : World) : Calls Tryd.prog 73 #[.string s, .int .i64 (atF (rqL m p) F 0 : Int)] W fun e w' => e = .returned (.tuple #[.slice none 0 0, .int .i64 (-1)]) ∧ Q W w' := fields73_any s (rqL m p) F c W h.hs h.hc (rqL_no h.hm h.hv) h.hF h.hb h.hl h0
def whZ : Array Value := #[.string ⟨#[]⟩, .string ⟨#[]⟩, .slice none 0 0, .slice none 0 0, .slice none 0 0, .int .i64 0]
theorem info67 : (Tryd.prog.info? 67).map (·.size) = some whZ.size := by kernel_rfl
theorem res58 (tmps : Array Value) (w : World) (g : Nat) (e : Int) (h4 : tmps.getD 2 undef = .pointer (some ⟨g, 0, none⟩)) (h5 : tmps.getD 3 undef = .int .i64 e) (hb : w.heap[g]? = some (.cells whZ 67 (0, 0))) :
    (results Tryd.f58 tmps).run Tryd.prog w = .ok (.tuple #[.agg whZ, .int .i64 e]) w := by
  have h4' : tmps[2]?.getD undef = .pointer (some ⟨g, 0, none⟩) := by simpa using h4
  have h5' : tmps[3]?.getD undef = .int .i64 e := by simpa using h5
  have hl := run_loadVar_row w g 67 67 _ (0, 0) _ hb Tryd.underlying67 rfl info67
  simp [results, Tryd.results58, h4', h5', asAddr, hl]
set_option maxHeartbeats 8000000 in
theorem read58_any (s m p : ByteArray) (F : List Fd) (c : Nat) (w : World) (h : Beg s m p F c) : Calls Tryd.prog 58 #[.string s] w fun e w' => e = .returned (.tuple #[.agg #[.string ⟨#[]⟩, .string ⟨#[]⟩, .slice none 0 0, .slice none 0 0, .slice none 0 0, .int .i64 0], .int .i64 0]) ∧ Q w w' := by
  have HL := hid h.line
  have HS := hid h.start
  have HF := hid (fun h0 => h.fields h0)
  clear h
  generalize (⟨(rqL m p).toArray⟩ : ByteArray) = x at *
  generalize atF (rqL m p) F 0 = b0 at *
  go_enter Tryd.func58, Tryd.ntmps58
  go_wp2_with fail
  refine (HL.out _).mono ?_
  rintro e w1 ⟨⟨x, rfl⟩ | ⟨rfl, hle⟩, h1⟩
  · have h1' := h1.symm
    subst h1'
    clear h1
    go_wp2_with fail
    refine bodyPost_ret (res58 _ _ w.heap.size _ rfl rfl (blk_new w whZ 67)) rfl ?_
    exact ⟨rfl, (Q.refl w).alloc _⟩
  · have h1' := h1.symm
    subst h1'
    clear h1
    have hn0 : ¬ (b0 : Int) < 0 := by omega
    have HFS := hid (HF.out hle)
    clear HF hle
    go_upto_region 6 with fail
    have HB2 := hid ((blk_new w #[.string ⟨#[]⟩, .string ⟨#[]⟩, .slice none 0 0, .slice none 0 0, .slice none 0 0, .int .i64 0] 67).q ((Q.refl (w.alloc (.cells #[.string ⟨#[]⟩, .string ⟨#[]⟩, .slice none 0 0, .slice none 0 0, .slice none 0 0, .int .i64 0] 67))).alloc (.cells #[.string ⟨#[]⟩, .string ⟨#[]⟩, .slice none 0 0, .slice none 0 0, .slice none 0 0, .int .i64 0] 67)))
    have hB6 := blk_new (w.alloc (.cells #[.string ⟨#[]⟩, .string ⟨#[]⟩, .slice none 0 0, .slice none 0 0, .slice none 0 0, .int .i64 0] 67)) #[.string ⟨#[]⟩, .string ⟨#[]⟩, .slice none 0 0, .slice none 0 0, .slice none 0 0, .int .i64 0] 67
    have HW2 := hid (((Q.refl w).alloc (.cells #[.string ⟨#[]⟩, .string ⟨#[]⟩, .slice none 0 0, .slice none 0 0, .slice none 0 0, .int .i64 0] 67)).alloc (.cells #[.string ⟨#[]⟩, .string ⟨#[]⟩, .slice none 0 0, .slice none 0 0, .slice none 0 0, .int .i64 0] 67))
    rw [show (w.alloc (.cells #[.string ⟨#[]⟩, .string ⟨#[]⟩, .slice none 0 0, .slice none 0 0, .slice none 0 0, .int .i64 0] 67)).heap.size = w.heap.size + 1 from by simp] at hB6
    have HB6 := hid hB6
    clear hB6
    generalize hW : World.alloc (World.alloc w _) _ = W2 at *
    clear hW
    generalize hb6 : w.heap.size + 1 = b6 at *
    generalize hb2 : w.heap.size = b2 at *
    have HE2 := hid hb2
    have HE6 := hid hb6
    clear hb2 hb6
    go_wp2_with fail
    refine (HS.out _).mono ?_
    rintro e w3 ⟨rfl, q3⟩
    have Q3 := hid q3
    have B6 := hid (HB6.out.q q3)
    have c0 : w3.cell? ⟨b6, 0, none⟩ = some (.string ⟨#[]⟩) := B6.out.cell 0
    have c1 : w3.cell? ⟨b6, 1, none⟩ = some (.string ⟨#[]⟩) := B6.out.cell 1
    have f0 : w3.frozen? ⟨b6, 0, none⟩ = false := B6.out.frozen 0
    have f1 : w3.frozen? ⟨b6, 1, none⟩ = false := B6.out.frozen 1
    clear q3
    go_upto_region 9 with fail
    have B7 := hid ((B6.out.set 0 (.string m)).set 1 (.string p))
    have K7 := hid (((Keep.refl (fun i => i = b6) w3).setCell b6 0 (.string m) (.inl rfl)).setCell b6 1 (.string p) (.inl rfl))
    clear c0 c1 f0 f1
    generalize hW : World.setCell (World.setCell w3 _ _) _ _ = W7 at *
    clear hW
    go_wp2_with fail
    refine (HFS.out _).mono ?_
    rintro e w8 ⟨rfl, q8⟩
    have Q8 := hid q8
    have B8 := hid (B7.out.q q8)
    have c2 : w8.cell? ⟨b6, 2, none⟩ = some (.slice none 0 0) := B8.out.cell 2
    have f2 : w8.frozen? ⟨b6, 2, none⟩ = false := B8.out.frozen 2
    clear q8
    go_upto_region 11 with fail
    have K9 := hid (K7.out.trans ((Keep.ofQ Q8.out).trans ((Keep.refl (fun i => i = b6) w8).setCell b6 2 (.slice none 0 0) (.inl rfl))))
    clear c2 f2
    generalize hW : World.setCell w8 _ _ = W9 at *
    clear hW
    have hne : ¬ b2 = b6 := by have := HE2.out; have := HE6.out; omega
    have B9 := hid (Keep.blk (HB2.out.q Q3.out) K9.out hne)
    go_upto_region 11 with fail
    go_wp2_with (refine wpList_store_row rfl 67 _ _ rfl b2 #[.string ⟨#[]⟩, .string ⟨#[]⟩, .slice none 0 0, .slice none 0 0, .slice none 0 0, .int .i64 0] rfl rfl 67 _ B9.out info67 rfl (by kernel_rfl) ?_)
    refine bodyPost_ret (res58 _ _ b2 _ rfl rfl (setRow_heap _ _ _ _ 67 _ B9.out)) rfl ?_
    have Q3' := HW2.out.trans Q3.out
    have Q9 : Q w W9 := K9.out.below Q3' Q3'.size (fun i e => by have := HE2.out; have := HE6.out; omega)
    exact ⟨rfl, ((Keep.refl (fun i => i = b2) W9).setRow b2 _ (.inl rfl)).below Q9 Q9.size (fun i e => by have := HE2.out; omega)⟩
set_option maxHeartbeats 8000000 in
theorem factor30_any (s m p : ByteArray) (F : List Fd) (c : Nat) (w : World) (h : Beg s m p F c) (h1 : 1 ≤ s.size) : Calls Tryd.prog 30 #[.string s] w fun e w' => e = .returned (.tuple #[.slice none 0 0, .string s, .bool true]) ∧ Q w w' := by
  have HR := hid (fun W => read58_any s m p F c W h)
  have hse : (s.toList == []) = false := by
    simp only [beq_eq_false_iff_ne, ne_eq]
    rw [ByteArray.toList_eq]
    intro e
    have hl : s.data.toList.length = s.size := rfl
    rw [e] at hl
    simp at hl
    omega
  clear h h1
  go_enter Tryd.func30, Tryd.ntmps30
  go_wp2_with fail
  go_loopw [0, 5] (fun t r wr => t = .string s ∧ r = .slice none 0 0 ∧ Q w wr) (fun _ _ _ => 0)
  case atStart => exact ⟨rfl, rfl, Q.refl _⟩
  case round =>
    obtain ⟨rfl, rfl, hq⟩ := hrel
    have HQ := hid hq
    clear hq
    go_wp2_with fail
    refine (HR.out _).mono ?_
    rintro e w1 ⟨rfl, q1⟩
    have Q1 := hid (HQ.out.trans q1)
    clear q1
    go_wp2_with fail
    go_ret3
    exact ⟨rfl, Q1.out.alloc _⟩
end Go.Proofs.YtclapheglgiokaaDoor

/-
  What a request that is made holds to; the law on beginnings, walked whole.
-/
namespace Go.Proofs.YtclapheglgiokaaDoor
open Go.RowKit
set_option linter.unusedVariables false
set_option maxRecDepth 100000

theorem pt_vis : ∀ n, n < 256 → ptB n = true → visB n = true := by decide +kernel
theorem beg_facts {l : List Fd} {c s : Int} (h : chE l c s = 0) (hcn : eqS (metO l) kCNT = false) : tkS (metO l) = true ∧ neS (patO l) = true ∧ allB visB (patO l) = true ∧ allB insB (autO l) = true ∧ ∀ q ∈ plnL l, Fok q := by
  have h1 := (orE_zero h).2
  obtain ⟨hf, h2⟩ := orE_zero h1
  obtain ⟨hm, h3⟩ := orE_zero h2
  obtain ⟨hd, ha⟩ := orE_zero h3
  have hpa : paS (metO l) (patO l) = true := by
    unfold midE at hd
    rw [hcn] at hd
    unfold tarE at hd
    simp only [Bool.false_eq_true, if_false] at hd
    split at hd
    · split at hd
      · rename_i g
        rw [Bool.and_eq_true] at g
        exact g.2
      · exact absurd hd (by decide)
    · exact absurd hd (by decide)
  refine ⟨?_, ?_, ?_, ?_, ?_⟩
  · unfold metE at hm
    unfold metO
    cases hx : fnd l kMet with
    | none => rw [hx] at hm; exact absurd hm (by decide)
    | some m =>
      rw [hx] at hm
      dsimp only at hm
      split at hm
      · rename_i g; exact g
      · exact absurd hm (by decide)
  · unfold paS at hpa
    rw [Bool.or_eq_true] at hpa
    rcases hpa with g | g
    · rw [Bool.and_eq_true] at g
      rw [(eqS_iff _ _).1 g.2]
      decide
    · rw [Bool.and_eq_true] at g
      have g1 := g.1
      unfold slS at g1
      unfold neS
      cases hx : (patO l).data.toList with
      | nil => rw [hx] at g1; cases g1
      | cons a b => rfl
  · unfold paS at hpa
    rw [Bool.or_eq_true] at hpa
    rcases hpa with g | g
    · rw [Bool.and_eq_true] at g
      rw [(eqS_iff _ _).1 g.2]
      decide
    · rw [Bool.and_eq_true] at g
      exact allB_of fun b hb => pt_vis _ (UInt8.toNat_lt b) (allB_mem g.2 hb)
  · unfold autE at ha
    unfold autO
    cases hx : autW l with
    | none => rw [hx] at ha; exact absurd (show (183 : Int) = 0 from ha) (by decide)
    | some a =>
      rw [hx] at ha
      dsimp only at ha
      split at ha
      · rename_i g
        rw [Bool.and_eq_true] at g
        have g1 := g.1
        unfold auS at g1
        rw [Bool.and_eq_true] at g1
        exact allB_of fun b hb => (aut_no _ (UInt8.toNat_lt b) (allB_mem g1.2 hb)).2
      · exact absurd ha (by decide)
  · intro q hq
    obtain ⟨hq1, hq2⟩ := List.mem_filter.1 hq
    obtain ⟨k, hk⟩ := List.mem_iff_getElem?.1 hq1
    have h9 := one_zero hf hk
    have h8 := (orE_zero (orE_zero h9).2).1
    have hps : psS q.1 = false := by
      rw [Bool.and_eq_true] at hq2
      simpa using hq2.1
    unfold txE at h8
    rw [hps] at h8
    split at h8
    · exact absurd h8 (by decide)
    · rename_i g1
      split at h8
      · exact absurd h8 (by decide)
      · rename_i g2
        have g1' : nmS q.1 = true := by simpa using g1
        have g2' : vlS q.2 = true := by simpa using g2
        unfold nmS at g1'
        rw [Bool.and_eq_true] at g1'
        unfold vlS at g2'
        rw [Bool.and_eq_true] at g2'
        exact ⟨g1'.1, g2'.1⟩
theorem hdP_len (J : ByteArray) (l : List Fd) : (hdP J l).2.length ≤ l.length := by
  have key : ∀ (l : List Fd) (st : Bool × List Fd), (l.foldl (hdN' J) st).2.length ≤ st.2.length + l.length := by
    intro l
    induction l with
    | nil => intro st; simp
    | cons f r ih =>
      intro st
      rw [List.foldl_cons, List.length_cons]
      refine Nat.le_trans (ih _) ?_
      have : (hdN' J st f).2.length ≤ st.2.length + 1 := by
        unfold hdN'
        split
        · omega
        · split
          · split
            · omega
            · simp
          · simp
      omega
  have := key l (false, [])
  simpa [hdP] using this
theorem hdF_len (a : ByteArray) (l : List Fd) (m : ByteArray) (n : Int) (b : Bool) : (hdF a l m n b).length ≤ l.length + 3 := by
  unfold hdF
  have h1 := hdP_len (ckJ l) l
  have h2 : (frmP m n b).length ≤ 1 := by
    unfold frmP
    split
    · simp
    · split <;> simp
  simp only [List.length_cons, List.length_append, List.length_nil]
  omega
theorem hdF_ok {a : ByteArray} {l : List Fd} (ha : allB insB a = true) (hl : ∀ q ∈ l, Fok q) (m : ByteArray) (n : Int) (b : Bool) : ∀ q ∈ hdF a l m n b, Fok q := by
  intro q hq
  unfold hdF at hq
  rcases List.mem_cons.1 hq with rfl | hq
  · exact ⟨show tkS sHost = true by decide +kernel, ha⟩
  · rcases List.mem_append.1 hq with hq | hq
    · rcases List.mem_append.1 hq with hq | hq
      · exact hdP_ok _ (ckJ_ins hl) l hl q hq
      · exact frmP_ok m n b q hq
    · rw [List.mem_singleton] at hq
      subst hq
      exact ⟨by decide +kernel, by decide +kernel⟩
theorem headB_len (m p a : ByteArray) (l : List Fd) (n : Int) (b : Bool) (hb : totF l + 4 * l.length ≤ 17592186044416) (hs : m.size + p.size + a.size ≤ 8796093022208) (h1 : n ≤ 9223372036854775807) : (headB m p a l n b).length ≤ 70368744177664 := by
  have e1 := hdB_len l hb
  have e2 := frmB_len m n b h1
  unfold headB
  rw [List.length_append, List.length_append, List.length_append]
  have e3 : (topB m p a).length = m.size + 1 + p.size + 9 + 2 + (4 + a.size + 4) := by
    unfold topB
    rw [List.length_append, List.length_append, fldB_len]
    have : (catB [m, ⟨#[32]⟩, p, sHTTP]).length = m.size + 1 + p.size + 9 := by
      simp only [catB, List.flatMap_cons, List.flatMap_nil, List.length_append, List.length_nil]
      have h1 : m.data.toList.length = m.size := rfl
      have h2 : p.data.toList.length = p.size := rfl
      rw [h1, h2]
      show m.size + (1 + (p.size + (9 + 0))) = _
      omega
    rw [this]
    show _ + 2 + (4 + a.size + 4) = _
    omega
  have e4 : endB.length ≤ 40 := by decide
  omega
theorem beg_of {m p a : ByteArray} {l : List Fd} {n : Int} {b : Bool} (hm : tkS m = true) (hp : neS p = true) (hv : allB visB p = true) (ha : allB insB a = true) (hl : ∀ q ∈ l, Fok q) (hll : l.length ≤ 1048576) (hmp : m.size + p.size ≤ 8796093022208) (c : Nat) (hc : c < (headB m p a l n b).length) (hcb : c ≤ 70368744177664) :
    Beg ⟨((headB m p a l n b).take c).toArray⟩ m p (hdF a l m n b) c := by
  have hh := headB_ln m p a l n b
  have hlen : (headB m p a l n b).length = (ln2 (hdLN m p a l n b)).length + 2 := by rw [hh, List.length_append]; rfl
  refine ⟨?_, ?_, hm, hp, hv, hdF_ok ha hl m n b, ?_, by omega, by have := hdF_len a l m n b; omega⟩
  · rw [hh]
    rfl
  · rw [hlen] at hc
    exact hc
  · show ((headB m p a l n b).take c).toArray.size ≤ _
    rw [List.size_toArray, List.length_take]
    omega
theorem seg_takeB {w : World} {a : Option Addr} {bs : List UInt8} (h : SegB w a bs) (c : Nat) : SegB w a (bs.take c) := by
  intro hne
  obtain ⟨g, off, ha, hc⟩ := h (by intro e; rw [e] at hne; simp at hne)
  refine ⟨g, off, ha, fun j v hj => hc j v ?_⟩
  have e : Lib.byteCells (bs.take c) = (Lib.byteCells bs).take c := by simp [Lib.byteCells]
  rw [e, List.getElem?_take] at hj
  split at hj
  · exact hj
  · cases hj
set_option maxHeartbeats 16000000 in
theorem begins_walk (x : Sv) (l : List Fd) (cut : Int) (w : World) (h : Fin w x l) (hb : totF l + l.length ≤ 1048576) (hcr : -9223372036854775808 ≤ cut ∧ cut < 9223372036854775808) (ht : Tb w) (hp : Tp w) :
    Calls Tryd.prog 7 #[.slice x.a x.n x.c, .int .i64 cut] w fun e w' => e = .returned (.bool true) ∧ Q w w' := by
  obtain ⟨xa, xn, xc⟩ := x
  have HAW := hid (fun W (q : Q w W) => awake_any W (ht.q q))
  have HMD := hid (made_any ⟨xa, xn, xc⟩ l w h)
  have HTP := hid hp
  have HLB := hid h.b
  have HBD := hid h.d
  have HB := hid hb
  have HCR := hid hcr
  dsimp only at HMD
  clear h ht hp hb hcr
  by_cases hce : chE l 1048576 1073741824 = 0
  · have HR := hid (show chR l 1048576 1073741824 = rqO l from by unfold chR; rw [if_pos hce])
    have HM := hid (show ∀ y, (Value.tuple #[rqV (chR l 1048576 1073741824) y, .bool (chE l 1048576 1073741824 == 0)]) = .tuple #[.agg (rqC (metO l) (schO l) (autO l) (patO l) y (lenL l)), .bool true] from fun y => by rw [HR.out, hce]; rfl)
    have HFS := hid (show (chR l 1048576 1073741824).fs = plnL l from by rw [HR.out]; rfl)
    have HFA := hid (beg_facts hce)
    clear hce
    have HSZ := hid (show (metO l).size + (patO l).size + (autO l).size ≤ 8796093022208 from by
      have h1 := fnd_le l kMet
      have h2 := fnd_le l kPat
      have h3 := autO_le l
      have h4 := HB.out
      have e1 : (metO l).size = ((fnd l kMet).getD ⟨#[]⟩).size := rfl
      have e2 : (patO l).size = ((fnd l kPat).getD ⟨#[]⟩).size := rfl
      omega)
    have HTF := hid (show totF (plnL l) + 4 * (plnL l).length ≤ 17592186044416 from by
      have h1 := totF_pln l
      have h2 := pln_len l
      have h3 := HB.out
      omega)
    have HPL := hid (show (plnL l).length ≤ 1048576 from by
      have h2 := pln_len l
      have h3 := HB.out
      omega)
    have HLN := hid (lenL_le l)
    have HPB := hid (show (plnL l).length ≤ 4398046511104 ∧ BdF (plnL l) from ⟨Nat.le_trans (pln_len l) HLB.out, fun p hp => HBD.out p (List.mem_filter.1 hp).1⟩)
    rw [HFS.out] at HMD
    clear HR HFS
    generalize metO l = m at *
    generalize schO l = sc at *
    generalize autO l = a at *
    generalize patO l = p at *
    generalize lenL l = n at *
    generalize plnL l = pl at *
    go_enter Tryd.func7, Tryd.ntmps7
    go_wp2_with fail
    refine HMD.out.mono ?_
    rintro e w1 ⟨⟨ya, yn, yc⟩, rfl, q1, r1, n1, m1⟩
    rw [HM.out]
    have Q1 := hid q1
    have R1 := hid r1
    clear q1 r1 n1 m1 HMD HM
    go_upto_region 2 with fail
    have q2 : Q w1 (w1.alloc (.cells #[.string m, .string sc, .string a, .string p, .slice ya yn yc, .int .i64 n] 24)) := (Q.refl w1).alloc _
    have BA0 := hid (blk_new w1 #[.string m, .string sc, .string a, .string p, .slice ya yn yc, .int .i64 n] 24)
    have Q2 := hid (Q1.out.trans q2)
    have R2 := hid (R1.out.q q2)
    clear q2 Q1 R1
    generalize hW : World.alloc w1 _ = W2 at *
    clear hW
    generalize w1.heap.size = bA at *
    have BA := hid (show Blk W2 bA 24 (rqC m sc a p ⟨ya, yn, yc⟩ n) from BA0.out)
    clear BA0
    have c0 : W2.cell? ⟨bA, 0, none⟩ = some (.string m) := BA.out.cell 0
    have c5 : W2.cell? ⟨bA, 5, none⟩ = some (.int .i64 n) := BA.out.cell 5
    have HLB2 := hid HLN.out
    have HA2 := hid (HAW.out W2 Q2.out)
    cases hcn : eqS m kCNT with
    | true =>
      have hmc : (m.toList == [67, 79, 78, 78, 69, 67, 84]) = true := (beq_lit m _).trans hcn
      clear hcn HFA
      go_wp2_with (go_at_call 10; refine HA2.out.mono ?_; rintro e w2 ⟨rfl, q2⟩; have Q3 := hid (Q2.out.trans q2); clear q2)
      go_ret
      exact ⟨rfl, Q3.out⟩
    | false =>
      have hmc : (m.toList == [67, 79, 78, 78, 69, 67, 84]) = false := (beq_lit m _).trans hcn
      by_cases hn : 0 < n
      · clear hcn HFA
        go_wp2_with (go_at_call 10; refine HA2.out.mono ?_; rintro e w2 ⟨rfl, q2⟩; have Q3 := hid (Q2.out.trans q2); clear q2)
        go_ret
        exact ⟨rfl, Q3.out⟩
      · have HFT := hid (HFA.out hcn)
        have HHD := hid (head_any m sc a p ⟨ya, yn, yc⟩ pl n false W2 hcn (R2.out.fin' HPB.out.1 HPB.out.2) HTF.out HSZ.out (by have := HLN.out; omega) (by have := HLN.out; omega) (HTP.out.q Q2.out))
        clear hcn HFA
        go_wp2_with (refine wpList_load_row rfl 24 _ rfl bA rfl 24 _ (0, 0) _ BA.out Tryd.underlying24 rfl (info24 m sc a p ⟨ya, yn, yc⟩ n) ?_)
        refine HHD.out.mono ?_
        rintro e w3 ⟨⟨za, zn, zc⟩, rfl, q3, r3, n3⟩
        have Q3 := hid (Q2.out.trans q3)
        have HA3 := hid (fun W (q : Q w3 W) => HAW.out W (Q3.out.trans q))
        clear q3 n3 HHD c0 c5
        by_cases hc1 : cut < 1
        · clear r3
          go_wp2_with (go_at_call 10; refine (HA3.out _ (Q.refl _)).mono ?_; rintro e w2 ⟨rfl, q2⟩; have Q4 := hid (Q3.out.trans q2); clear q2)
          go_ret
          exact ⟨rfl, Q4.out⟩
        · obtain ⟨c, rfl⟩ : ∃ c : Nat, cut = (c : Int) := ⟨cut.toNat, by omega⟩
          by_cases hc2 : (zn : Int) ≤ (c : Int)
          · clear r3
            go_wp2_with (go_at_call 10; refine (HA3.out _ (Q.refl _)).mono ?_; rintro e w2 ⟨rfl, q2⟩; have Q4 := hid (Q3.out.trans q2); clear q2)
            go_ret
            exact ⟨rfl, Q4.out⟩
          · have hlz := r3.len
            dsimp only at hlz
            have hlb := headB_len m p a pl n false HTF.out HSZ.out (by have := HLN.out; omega)
            have hcb : c ≤ 70368744177664 := by omega
            have hbg := beg_of (n := n) (b := false) HFT.out.1 HFT.out.2.1 HFT.out.2.2.1 HFT.out.2.2.2.1 HFT.out.2.2.2.2 HPL.out (by have := HSZ.out; omega) c (by omega) hcb
            have hsg := seg_takeB r3.seg c
            have hzc : zn ≤ zc := by
              rcases r3.2 with ⟨_, h2, h3⟩ | ⟨g, off, cur, _, _, h1, _⟩
              · dsimp only at h2 h3; omega
              · exact h1
            have htl : ((headB m p a pl n false).take c).length = c := by rw [List.length_take]; omega
            have hcv : ∀ cc W, Q w3 W → (convert 28 9 (.slice za c cc)).run Tryd.prog W = .ok (.string ⟨((headB m p a pl n false).take c).toArray⟩) W := fun cc W q => seg_strB (seg_takeB (r3.q q).seg c) htl (by omega)
            have hss : (⟨((headB m p a pl n false).take c).toArray⟩ : ByteArray).size = c := by
              show ((headB m p a pl n false).take c).toArray.size = c
              rw [List.size_toArray, htl]
            have HFC := hid (fun W => factor30_any _ m p _ c W hbg (by rw [hss]; omega))
            obtain ⟨g, off, hza, _⟩ := r3.seg (by intro e; rw [e] at hlz; simp at hlz; omega)
            dsimp only at hza
            subst hza
            have HCV := hid (fun cc => hcv cc w3 (Q.refl _))
            have HSS := hid hss
            clear hlz hlb hbg hsg htl hcv hss r3 HFT
            generalize (⟨((headB m p a pl n false).take c).toArray⟩ : ByteArray) = s at *
            have hcc : (c : Int) ≤ (zc : Int) := by omega
            have hc0 : (0 : Int) ≤ (c : Int) := by omega
            have hcvv := HCV.out
            go_wp2_with fail
            refine (HFC.out _).mono ?_
            rintro e w4 ⟨rfl, q4⟩
            have Q4 := hid (Q3.out.trans q4)
            have K4 := hid q4
            clear q4
            have hsi : (s.size : Int) = (c : Int) := by have := HSS.out; omega
            go_wp2_with (go_at_call 10; refine (HA3.out _ K4.out).mono ?_; rintro e w2 ⟨rfl, q2⟩; have Q5 := hid (Q4.out.trans q2); clear q2)
            go_ret
            exact ⟨rfl, Q5.out⟩
  · have HM := hid (show ∀ y, (Value.tuple #[rqV (chR l 1048576 1073741824) y, .bool (chE l 1048576 1073741824 == 0)]) = .tuple #[.agg (rqC ⟨#[]⟩ ⟨#[]⟩ ⟨#[]⟩ ⟨#[]⟩ y 0), .bool false] from fun y => by
      have e : chR l 1048576 1073741824 = rq0 := by unfold chR; rw [if_neg hce]
      have e2 : (chE l 1048576 1073741824 == 0) = false := by simpa using hce
      rw [e, e2]; rfl)
    clear hce
    go_enter Tryd.func7, Tryd.ntmps7
    go_wp2_with fail
    refine HMD.out.mono ?_
    rintro e w1 ⟨⟨ya, yn, yc⟩, rfl, q1, r1, n1, m1⟩
    rw [HM.out]
    have Q1 := hid q1
    clear q1 r1 n1 m1 HMD HM
    go_wp2_with (go_at_call 10; refine (HAW.out _ (Q1.out.alloc _)).mono ?_; rintro e w2 ⟨rfl, q2⟩; have Q2 := hid ((Q1.out.alloc _).trans q2); clear q2)
    go_ret
    exact ⟨rfl, Q2.out⟩
end Go.Proofs.YtclapheglgiokaaDoor

/-
  How the second statement of a row that lists variables is built: a contract under the condition on the input's bulk.
-/
namespace Go.Proofs.YtclapheglgiokaaDoor
open Go
set_option linter.unusedVariables false

theorem handed_cond_and {H : Type} {enc : TypeId × Value → H} {a : Assume} {C : Checked} {os : Os} {f : FuncId} {fn : Func} {s : OpenSpec} {k : (H : Type) → List (DataW H) → Bool} (hk : s.cond = some k) {F : Stop.Interp} {conds : List PathCond} {apart fresh handsOn again : Bool} {X : World → Prop}
    (hX : ∀ w w' : World, w.heap = w'.heap → X w → X w')
    (own : ownKnob C.prog.godebug = none) (started : os.Started) (noInit : C.prog.inits.idxOf? f = none) (hfn : C.prog.funcs[f]? = some fn)
    (witness : ∃ (w : World) (tape : Tape) (i : Input), w.os = os ∧ (w.forCall tape i).Shaped C.prog ∧ i.vars = [] ∧ Input.okWide C.prog (w.forCall tape i) .any w.heap.size f i ∧
      ((s.pre enc C.prog fn conds apart (w.forCall tape i).memory i.args ∧ X (w.forCall tape i).memory) ∧ sizedMet enc C.prog fn s apart (w.forCall tape i).memory i.args) ∧ a.holds C.prog (lone (Frame.enter C.prog f i.args .normal) [] (w.forCall tape i)))
    (contract : ∀ (W : World) (base : Nat) (args : Array Value) (ds gs : List (DataW H)) (before : List MemPlace),
      (∀ (j : Nat) t v, fn.params[j]? = some t → args[j]? = some v → Value.okWide C.prog W .any base t v) →
      DataW.Whole enc C.prog fn.params.toList s.vars apart W args.toList ds gs before →
      k H (ds ++ gs) = true → X W →
      Calls C.prog f args W fun e W' => ∃ v, e = .returned v ∧ (s.at F).post enc C.prog fn apart fresh handsOn again W args v W') :
    ReturnsInHanded a C os f .any (fun w args => (s.pre enc C.prog fn conds apart w args ∧ X w) ∧ sizedMet enc C.prog fn s apart w args) ((s.at F).post enc C.prog fn apart fresh handsOn again) := by
  refine returnsInHanded_of_calls own started noInit witness ?_
  intro w tape i _ _ _ hok hpre hholds
  obtain ⟨_, _, _, fn', hfn', _, _, _, _, hval⟩ := hok
  have e : fn' = fn := Option.some.inj (hfn'.symm.trans hfn)
  subst e
  obtain ⟨ds, gs, before, hw, hc, hkk⟩ := (OpenSpec.pre_some hk conds apart _ _).1 hpre.1.1
  have hw' := DataW.Whole.of_heap (w' := w.forCall tape i) (by rfl) hw
  refine (contract (w.forCall tape i) w.heap.size i.args ds gs before hval hw' hkk (hX (w.forCall tape i).memory (w.forCall tape i) rfl hpre.1.2)).mono fun e W' ⟨v, he, hp⟩ => ?_
  subst he
  exact ChangeSpec.post_blind hp
theorem witness_cond {H : Type} {enc : TypeId × Value → H} {C : Checked} {os : Os} {f : FuncId} {fn : Func} {s : OpenSpec} {k : (H : Type) → List (DataW H) → Bool} (hk : s.cond = some k) {conds : List PathCond} {apart : Bool} {X : World → Prop} (modest : Bool) (w0 : World) (args : Array Value) (fuel : Nat) (hos : w0.os = os)
    (hsh : (w0.forCall (fun _ _ => 0) ⟨#[], args, []⟩).Shaped C.prog)
    (hok : Input.okWideB C.prog (w0.forCall (fun _ _ => 0) ⟨#[], args, []⟩) f ⟨#[], args, []⟩ = true)
    {x : List (DataW H) × List (DataW H) × List MemPlace} (hx : DataW.whole enc C.prog (w0.forCall (fun _ _ => 0) ⟨#[], args, []⟩).memory fn.params.toList s.vars apart args.toList fuel = some x)
    (hconds : conds.all (PathCond.test C.prog ⟨fn.params.toList, x.1, s.bare.plain.varTypes C.prog, x.2.1⟩) = true) (hkk : k H (x.1 ++ x.2.1) = true)
    (hsz : s.bare.sizedB enc C.prog fn apart (w0.forCall (fun _ _ => 0) ⟨#[], args, []⟩).memory args fuel = true)
    (hX : X (w0.forCall (fun _ _ => 0) ⟨#[], args, []⟩).memory) :
    ∃ (w : World) (tape : Tape) (i : Input), w.os = os ∧ (w.forCall tape i).Shaped C.prog ∧ i.vars = [] ∧ Input.okWide C.prog (w.forCall tape i) .any w.heap.size f i ∧
      ((s.pre enc C.prog fn conds apart (w.forCall tape i).memory i.args ∧ X (w.forCall tape i).memory) ∧ sizedMet enc C.prog fn s apart (w.forCall tape i).memory i.args) ∧ ({ modest := modest } : Assume).holds C.prog (lone (Frame.enter C.prog f i.args .normal) [] (w.forCall tape i)) :=
  ⟨w0, fun _ _ => 0, ⟨#[], args, []⟩, hos, hsh, (Input.okWide_of_okWideB (base := 0) hok).1, (Input.okWide_of_okWideB hok).2,
    ⟨⟨(OpenSpec.pre_some hk conds apart _ _).2 ⟨x.1, x.2.1, x.2.2, DataW.Whole_of_whole hx, hconds, hkk⟩, hX⟩, sizedMet_of_sizedB hsz⟩, by
    simp only [Assume.holds]
    exact ⟨by simp, by simp, fun _ => Modest.zero, by simp, by simp⟩⟩
end Go.Proofs.YtclapheglgiokaaDoor

/-
  How an argument that is a slice of bytes is opened under the condition on the input's bulk; what the row's list of variables gives.
-/
namespace Go.Proofs.YtclapheglgiokaaDoor
open Go.ChangeShapes Go.WideShapes Go.ChangeAt Go.RowKit Go.Deep
set_option linter.unusedVariables false
set_option maxRecDepth 20000

theorem cells5b : Tryd.prog.cellsOf 5 = 1 := by kernel_rfl
theorem wf_u8 {n : Int} (h : (Lit.int .u8 n).wf = true) : 0 ≤ n ∧ n < 256 := by
  have : 0 ≤ n ∧ n ≤ 255 := by simpa [Lit.wf, IntKind.min, IntKind.max, IntKind.signed, IntKind.bits] using h
  omega
theorem bulk_all {H : Type} (l : List (DataW H)) : l.length ≤ Rows.uptoBulkAll l := by
  induction l with
  | nil => exact Nat.zero_le _
  | cons x r ih =>
    have : 1 ≤ Rows.uptoBulk x := by
      cases x
      case lit l => cases l <;> simp [Rows.uptoBulk]
      all_goals simp [Rows.uptoBulk]
    rw [Rows.uptoBulkAll, List.length_cons]
    omega
def toB (z : Int) : UInt8 := UInt8.ofNat z.toNat
theorem toB_nat {z : Int} (h : 0 ≤ z ∧ z < 256) : ((toB z).toNat : Int) = z := by
  unfold toB
  rw [UInt8.toNat_ofNat']
  omega
theorem open_bytes_upto {H : Type} {enc : TypeId × Value → H} {W : World} {a : Option Addr} {len cap : Nat} {d : DataW H} {p : List MemPlace} {ds : List (DataW H)}
    (h : DataW.Trod enc Tryd.prog W 0 (fun _ => true) true 28 (.slice a len cap) d p) (hk : Rows.uptoSmall H ds = true) (hd : d ∈ ds) :
    ∃ bs : List UInt8, bs.length = len ∧ SegB W a bs ∧ len ≤ 1048576 := by
  have hb : Rows.uptoBulk d ≤ 1048576 := Nat.le_trans (bulk_mem hd) (by simpa [Rows.uptoSmall] using hk)
  obtain ⟨fuel, hf⟩ := h
  rcases open_ints Tryd.underlying28 Tryd.underlying5 cells5b hf with ⟨hcs, _⟩ | ⟨x, l, c, zs, hcs, _, hl, hm, hz, hx, hcell, hwz⟩
  · simp [Value.cells] at hcs
    obtain ⟨rfl, rfl, rfl⟩ := hcs
    exact ⟨[], rfl, fun h => absurd rfl h, by omega⟩
  · simp [Value.cells] at hcs
    obtain ⟨rfl, rfl, rfl⟩ := hcs
    simp only [Prod.mk.injEq] at hx
    obtain ⟨rfl, _⟩ := hx
    have hz' : zs.length = cap := by simpa using hz
    have hlen : len ≤ 1048576 := by
      rw [Rows.uptoBulk] at hb
      have h1 := bulk_all (H := H) (lits .u8 (zs.take len))
      have h2 : (lits (H := H) .u8 (zs.take len)).length = len := by simp [lits]; omega
      omega
    refine ⟨(zs.take len).map toB, by simp; omega, ?_, hlen⟩
    intro hne
    have hl0 : 0 < len := by
      cases len with
      | zero => simp at hne
      | succ k => omega
    obtain ⟨b, off, spot⟩ := x
    have hc := hcell 0 (by omega)
    have hspot : spot = none := by simpa [Addr.add] using World.cell?_spot hc
    subst hspot
    refine ⟨b, off, rfl, fun i v hv => ?_⟩
    have hi : i < len := by
      have := (List.getElem?_eq_some_iff.1 hv).1
      rw [Lib.byteCells_length] at this
      simp at this
      omega
    have := hcell i (by omega)
    rw [addr_add] at this
    rw [this]
    have hwi := wf_u8 (hwz (zs[i]'(by omega)) (List.getElem_mem _))
    simp [Lib.byteCells, hi, show i < zs.length by omega, toB_nat hwi] at hv ⊢
    exact hv
theorem tab_chunks {W : World} (hL : laidMetH Tryd.prog Rows.normChunksUptoRow.laid W) : Tb W := by
  have h1 : laidMet Tryd.prog Rows.normChunksUptoRow.laid W := by rwa [MakeChecks.laidMetH_plain _ _ _ (by kernel_rfl)] at hL
  have h2 := laidMet.tail h1
  have hg : Tryd.prog.globalNamed "math/bits.deBruijn64tab" = some 5 := by kernel_rfl
  have h4 := Lib.tabIs_of_head (P := Tryd.prog) (W := W) (k := .u8) (zs := [0, 1, 56, 2, 57, 49, 28, 3, 61, 58, 42, 50, 38, 29, 17, 4, 62, 47, 59, 36, 45, 43, 51, 22, 53, 39, 33, 30, 24, 18, 12, 5, 63, 55, 48, 27, 60, 41, 37, 16, 46, 35, 44, 21, 52, 32, 23, 11, 54, 26, 40, 15, 34, 20, 31, 10, 25, 14, 19, 9, 13, 8, 7, 6]) (g := 5) (t := 168) (e := 5) (n := 64) hg (by kernel_rfl) (by kernel_rfl) (by kernel_rfl) (by kernel_rfl) (by kernel_rfl) h2
  exact h4.cell hg 15 (by decide)
end Go.Proofs.YtclapheglgiokaaDoor
namespace Go.Proofs.YtclapheglgiokaaDoor.normBeginsUpto
open Go.ChangeShapes Go.WideShapes Go.ChangeAt Go.RowKit
open Go.ChangeMaps (open_string shut_string)
set_option linter.unusedVariables false

theorem own_knob : ownKnob Tryd.prog.godebug = none := by kernel_rfl
theorem laid_out : laidOutB Tryd.prog = true := by kernel_rfl
theorem wf64 {n : Int} (h : (Lit.int .i64 n).wf = true) : -9223372036854775808 ≤ n ∧ n < 9223372036854775808 := by
  simp only [Lit.wf, IntKind.min, IntKind.max, IntKind.signed, IntKind.bits, Bool.and_eq_true, decide_eq_true_eq, if_true] at h
  omega
theorem tab_begins {W : World} (hL : laidMetH Tryd.prog Rows.normBeginsUptoRow.laid W) : Tb W ∧ Tp W := by
  have h1 : laidMet Tryd.prog Rows.normBeginsUptoRow.laid W := by rwa [MakeChecks.laidMetH_plain _ _ _ (by kernel_rfl)] at hL
  have h2 := laidMet.tail h1
  have h3 := laidMet.tail h2
  have hg : Tryd.prog.globalNamed "math/bits.deBruijn64tab" = some 5 := by kernel_rfl
  have h4 := Lib.tabIs_of_head (P := Tryd.prog) (W := W) (k := .u8) (zs := [0, 1, 56, 2, 57, 49, 28, 3, 61, 58, 42, 50, 38, 29, 17, 4, 62, 47, 59, 36, 45, 43, 51, 22, 53, 39, 33, 30, 24, 18, 12, 5, 63, 55, 48, 27, 60, 41, 37, 16, 46, 35, 44, 21, 52, 32, 23, 11, 54, 26, 40, 15, 34, 20, 31, 10, 25, 14, 19, 9, 13, 8, 7, 6]) (g := 5) (t := 168) (e := 5) (n := 64) hg (by kernel_rfl) (by kernel_rfl) (by kernel_rfl) (by kernel_rfl) (by kernel_rfl) h2
  have hg2 : Tryd.prog.globalNamed "internal/strconv.uint64pow10" = some 2 := by kernel_rfl
  exact ⟨h4.cell hg 15 (by decide), Lib.tabIs_of_head (P := Tryd.prog) (W := W) (k := .u64) (zs := Lib.pow10Tab) (g := 2) (t := 148) (e := 137) (n := 20) hg2 (by kernel_rfl) (by kernel_rfl) (by kernel_rfl) (by kernel_rfl) (by kernel_rfl) h3⟩
set_option maxRecDepth 100000 in
set_option maxHeartbeats 2000000 in
theorem contract (H : Type) (enc : TypeId × Value → H) (W : World) (base : Nat) (args : Array Value) (ds gs : List (DataW H)) (before : List MemPlace)
    (hval : ∀ (j : Nat) t v, Tryd.f7.params[j]? = some t → args[j]? = some v → Value.okWide Tryd.prog W .any base t v)
    (hW : DataW.Whole enc Tryd.prog Tryd.f7.params.toList Rows.normBeginsSpec.vars false W args.toList ds gs before) (hk : Rows.uptoSmall H (ds ++ gs) = true) (hL : laidMetH Tryd.prog Rows.normBeginsUptoRow.laid W) :
    Calls Tryd.prog 7 args W fun e W' => ∃ v, e = .returned v ∧ Rows.normBeginsSpec.post enc Tryd.prog Tryd.f7 false true false false W args v W' := by
  have hW' := hW
  obtain ⟨p, q, hA0, hV, rfl, hfz, hnd⟩ := hW
  have hA : DataW.TrodAll enc Tryd.prog W 0 (fun _ => true) true Tryd.f7.params.toList args.toList ds p := hA0
  rw [Tryd.params7] at hA hval
  obtain ⟨v0, vs0, d0, ds0, p0, q0, hargs, rfl, rfl, h0, r0⟩ := trodAll_cons hA
  obtain ⟨v1, vs1, d1, ds1, p1, q1, rfl, rfl, rfl, h1, r1⟩ := trodAll_cons r0
  obtain ⟨rfl, rfl, rfl⟩ := trodAll_nil r1
  obtain rfl : args = #[v0, v1] := by cases args; simp_all
  obtain ⟨rfl, rfl⟩ := trodVars_none hV
  obtain ⟨a0, len0, cap0, rfl⟩ := okWide_slice Tryd.underlying22 (hval 0 22 v0 rfl rfl)
  have k0 := h0
  have lt0 : ∀ x ∈ p0, x.block < W.heap.size := by obtain ⟨m, hm⟩ := k0; exact DataW.trod_lt m _ _ _ hm
  obtain ⟨l0, fn0, bk0⟩ := open_fields_upto h0 hk (by simp)
  have k1 := h1
  have lt1 : ∀ x ∈ p1, x.block < W.heap.size := by obtain ⟨m, hm⟩ := k1; exact DataW.trod_lt m _ _ _ hm
  obtain ⟨a1, rfl, rfl, rfl, w1⟩ := open_int Tryd.underlying3 (hval 1 3 v1 rfl rfl) h1
  clear hA0
  refine (begins_walk ⟨a0, len0, cap0⟩ l0 a1 W fn0 bk0 (wf64 w1) (tab_begins hL).1 (tab_begins hL).2).mono fun e W' ⟨he, bel⟩ => ?_
  subst he
  exact ⟨_, rfl, _, _, _, [], _, [], hW', trodAll_mk1 (shut_bool Tryd.underlying4 _), (trodAll_cons_mk (Below.trod laid_out (by kernel_rfl) (of_decide_eq_true (by kernel_rfl)) k0 bel lt0) (trodAll_cons_mk (Below.trod laid_out (by kernel_rfl) (of_decide_eq_true (by kernel_rfl)) k1 bel lt1) trodAll_mk0)), rfl, bel.frame _, fun h => by cases h⟩

set_option maxRecDepth 100000 in
set_option maxHeartbeats 2000000 in
theorem lifted (os : Os) (started : os.Started) (H : Type) (enc : TypeId × Value → H) (F : Stop.Interp) :
    ReturnsInHanded {} Tryd.checked os 7 .any (fun w args => ((Rows.OpenSpec.upto Rows.normBeginsSpec).pre enc Tryd.prog Tryd.f7 Rows.normBeginsUptoRow.domain false w args ∧ laidMetH Tryd.prog Rows.normBeginsUptoRow.laid w) ∧ sizedMet enc Tryd.prog Tryd.f7 (Rows.OpenSpec.upto Rows.normBeginsSpec) false w args)
      (((Rows.OpenSpec.upto Rows.normBeginsSpec).at F).post enc Tryd.prog Tryd.f7 false true false false) := by
  refine handed_cond_and (C := Tryd.checked) (s := Rows.OpenSpec.upto Rows.normBeginsSpec) (k := Rows.uptoSmall) rfl (X := fun w => laidMetH Tryd.prog Rows.normBeginsUptoRow.laid w) (fun _ _ hh h => h.of_heap hh) own_knob started (by kernel_rfl) Tryd.func7
    (witness_cond (enc := enc) (C := Tryd.checked) (os := os) (s := Rows.OpenSpec.upto Rows.normBeginsSpec) (k := Rows.uptoSmall) rfl (X := fun w => laidMetH Tryd.prog Rows.normBeginsUptoRow.laid w) false (World.laidAll Tryd.prog os Rows.normBeginsUptoRow.laid) #[.slice none 0 0, .int .i64 0] 8 (World.laidAll_os _ _ _)
      (World.shaped_of_ZipB (by kernel_rfl) (by kernel_rfl)) (by kernel_rfl) (x := ([.nil, .lit (.int .i64 0)], [], [])) (by kernel_rfl) rfl (by kernel_rfl) (by kernel_rfl)
      (by show laidMetH _ _ _; rw [MakeChecks.laidMetH_plain _ _ _ (by kernel_rfl)]; exact laidMet_laidAll _ (by kernel_rfl) (by kernel_rfl))) ?_
  intro W base args ds gs before hval hW hk hL
  exact contract H enc W base args ds gs before hval hW hk hL

theorem over : Rows.normBeginsUptoRow.holds Tryd.pinned (Rows.OpenSpec.upto Rows.normBeginsSpec) :=
  OpenClaim.holds_of_cond 7 Tryd.f7 rfl rfl rfl rfl rfl rfl rfl ⟨rfl, rfl, rfl, rfl, rfl⟩ rfl rfl rfl rfl rfl (by kernel_rfl) Tryd.func7 (by kernel_rfl)
    (of_decide_eq_true (by kernel_rfl)) (by unfold Func.isWrapper; first | (rw [if_pos (by decide +kernel)]; kernel_rfl) | (rw [if_neg (by decide +kernel)]; exact ⟨rfl, rfl⟩))
    (fun os started H enc _ F => lifted os started H enc F)

theorem card : Rows.NormBeginsUptoCardSaid :=
  Claim7.holds_tied_plain_at .later [] [.data, .data, .data, .sentinel] true (true, "299db00d9d5b3762d4d23ea3d687508cf92a82608498c21b757fb7c62bd14af7") false
    over (fun _ h => by cases h) (by kernel_rfl) (fun _ h => by cases h) normBeginsUpto_row_tie rfl ⟨rfl, rfl⟩ (by kernel_rfl) rfl
    (fun f fn hf hfn => by
      obtain rfl : f = 7 := Option.some.inj ((show Tryd.prog.funcNamed "turnpike/turnpikelaw19.NormBegins" = some 7 by kernel_rfl).symm.trans hf) |>.symm
      obtain rfl : fn = Tryd.f7 := (Option.some.inj (Tryd.func7.symm.trans hfn)).symm
      exact ⟨by kernel_rfl, fun j t ht => by
        rw [Tryd.params7] at ht
        have hm : t ∈ [22, 3] := by simpa using Array.mem_of_getElem? ht
        have hall : ([22, 3].all fun u => !Tryd.prog.wantsStandIn u) = true := by kernel_rfl
        exact (show Tryd.prog.wantsStandIn t = false by simpa using List.all_eq_true.1 hall t hm)⟩)
    (by kernel_rfl)
end Go.Proofs.YtclapheglgiokaaDoor.normBeginsUpto
namespace Go.Proofs.YtclapheglgiokaaDoor

/-- The statement. -/
theorem normBeginsUpto_holds : Rows.NormBeginsUptoCardSaid := normBeginsUpto.card
#print axioms normBeginsUpto_holds
end Go.Proofs.YtclapheglgiokaaDoor
