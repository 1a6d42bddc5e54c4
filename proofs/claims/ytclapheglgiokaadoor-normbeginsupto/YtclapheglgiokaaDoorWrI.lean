/-
  The fixed answer that a program which does nothing doesn't give: a contract that the statements' walks use.
-/
import Derived.Test.YtclapheglgiokaaDoorWrG
import Derived.Lib.SlBytesConst
namespace Go.Proofs.YtclapheglgiokaaDoor
open Go.RowKit
set_option linter.unusedVariables false
set_option maxRecDepth 20000

def sGET : ByteArray := ⟨#[71, 69, 84]⟩
def sAB : ByteArray := ⟨#[97, 46, 98]⟩
def sX : ByteArray := ⟨#[47, 120]⟩
def hel : List UInt8 := [104, 101, 108, 108, 111]
theorem head_lit : ((⟨(topB sGET sX sAB ++ endB).toArray⟩ : ByteArray).toList == [71, 69, 84, 32, 47, 120, 32, 72, 84, 84, 80, 47, 49, 46, 49, 13, 10, 104, 111, 115, 116, 58, 32, 97, 46, 98, 13, 10, 118, 105, 97, 58, 32, 51, 32, 116, 117, 114, 110, 112, 105, 107, 101, 13, 10, 13, 10]) = true := by
  rw [beq_lit]
  exact (eqS_iff _ _).2 rfl
theorem chunk_lit : ((⟨(chkB hel).toArray⟩ : ByteArray).toList == [53, 13, 10, 104, 101, 108, 108, 111, 13, 10]) = true := by
  have e : chkB hel = [53, 13, 10, 104, 101, 108, 108, 111, 13, 10] := by
    unfold chkB
    rw [show hel.length = 5 from rfl, hexG_lt (by decide)]
    rfl
  rw [beq_lit, e]
  exact (eqS_iff _ _).2 rfl
set_option maxHeartbeats 8000000 in
theorem awake_any (w : World) (h : Tb w) : Calls Tryd.prog 10 #[] w fun e w' => e = .returned (.bool true) ∧ Q w w' := by
  have HH := hid (head_nil sGET ⟨#[]⟩ sAB sX (-1) w (by decide) (by decide) (by decide))
  have HT := hid h
  have HCK := hid (fun W (q : Q w W) => chunk_any ⟨some ⟨W.heap.size, 0, none⟩, 5, 5⟩ hel (W.alloc (.cells #[.int .u8 104, .int .u8 101, .int .u8 108, .int .u8 108, .int .u8 111] 5 (5, 6))) (fun _ => ⟨W.heap.size, 0, rfl, fun j v hj => by
    rw [Nat.zero_add]
    have hh := heap_alloc_new W (.cells #[.int .u8 104, .int .u8 101, .int .u8 108, .int .u8 108, .int .u8 111] 5 (5, 6))
    unfold World.cell?
    rw [hh]
    rw [← hj]
    show (#[.int .u8 104, .int .u8 101, .int .u8 108, .int .u8 108, .int .u8 111] : Array Value)[j]? = _
    rw [← Array.getElem?_toList]; rfl⟩) rfl (fun b e => by cases e; show W.heap.size < _; rw [World.size_alloc]; omega) (h.q (q.alloc _)) (by decide) (by decide))
  have HS1 := hid head_lit
  have HS2 := hid chunk_lit
  unfold sGET sAB sX at HH
  dsimp only at HCK
  clear h
  go_enter Tryd.func10, Tryd.ntmps10
  go_wp2_with fail
  refine HH.out.mono ?_
  rintro e w1 ⟨⟨ya, yn, yc⟩, rfl, q1, r1, n1⟩
  have Q1 := hid q1
  have R1 := hid r1
  clear q1 r1 n1 HH
  have kcv := Lib.run_convert_bytes_const (P := Tryd.prog) w1 28 5 #[.int .u8 104, .int .u8 101, .int .u8 108, .int .u8 108, .int .u8 111] 5 5 Tryd.underlying28 Tryd.underlying5
  go_wp2_with fail
  refine (HCK.out w1 Q1.out).mono ?_
  rintro e w2 ⟨⟨za, zn, zc⟩, rfl, q2, r2, n2⟩
  have Q2 := hid (Q1.out.trans (((Q.refl w1).alloc _).trans q2))
  have hs1 := br_str (R1.out.q (((Q.refl w1).alloc _).trans q2))
  have hs2 := br_str r2
  have e1 := HS1.out
  have e2 := HS2.out
  change (convert 28 9 (.slice ya yn yc)).run Tryd.prog w2 = .ok (.string (⟨(topB sGET sX sAB ++ endB).toArray⟩ : ByteArray)) w2 at hs1
  change (convert 28 9 (.slice za zn zc)).run Tryd.prog w2 = .ok (.string (⟨(chkB hel).toArray⟩ : ByteArray)) w2 at hs2
  generalize (⟨(topB sGET sX sAB ++ endB).toArray⟩ : ByteArray) = S1 at *
  generalize (⟨(chkB hel).toArray⟩ : ByteArray) = S2 at *
  clear q2 r2 n2 HCK R1 HS1 HS2
  go_wp2_with fail
  go_ret
  exact ⟨rfl, Q2.out⟩
end Go.Proofs.YtclapheglgiokaaDoor
