/-
  What a list of fields says, as plain functions on lists.
-/
import Derived.Test.YtclapheglgiokaaDoorMsA
import Derived.RowKit
namespace Go.Proofs.YtclapheglgiokaaDoor
open Go
set_option linter.unusedVariables false

abbrev Fd := ByteArray × ByteArray
def smB (n : Nat) : Bool := decide (97 ≤ n) && decide (n ≤ 122)
def cpB (n : Nat) : Bool := decide (65 ≤ n) && decide (n ≤ 90)
def dgB (n : Nat) : Bool := decide (48 ≤ n) && decide (n ≤ 57)
def alB (n : Nat) : Bool := smB n || cpB n || dgB n
def tokM : List Nat := [33, 35, 36, 37, 38, 39, 42, 43, 45, 46, 94, 95, 124, 126, 96]
def autM : List Nat := [45, 46, 95, 126, 58, 91, 93, 37]
def tokB (n : Nat) : Bool := alB n || tokM.contains n
def autB (n : Nat) : Bool := alB n || autM.contains n
def ncB (n : Nat) : Bool := !cpB n
def insB (n : Nat) : Bool := decide (n = 9) || (decide (32 ≤ n) && decide (n ≠ 127))
def ptB (n : Nat) : Bool := decide (33 ≤ n) && decide (n ≤ 126) && decide (n ≠ 35)
theorem flat_tok : Flat tokB := ⟨false, fun r h => by
  have : ¬ r ∈ tokM := by simp [tokM]; omega
  simp [tokB, alB, smB, cpB, dgB, this]; omega⟩
theorem flat_aut : Flat autB := ⟨false, fun r h => by
  have : ¬ r ∈ autM := by simp [autM]; omega
  simp [autB, alB, smB, cpB, dgB, this]; omega⟩
theorem flat_nc : Flat ncB := ⟨true, fun r h => by simp [ncB, cpB]; omega⟩
theorem flat_ins : Flat insB := ⟨true, fun r h => by simp [insB]; omega⟩
theorem flat_dg : Flat dgB := ⟨false, fun r h => by simp [dgB]; omega⟩
theorem flat_pt : Flat ptB := ⟨false, fun r h => by simp [ptB]; omega⟩

def neS (s : ByteArray) : Bool := !s.data.toList.isEmpty
def tkS (s : ByteArray) : Bool := neS s && allB tokB s
def nmS (s : ByteArray) : Bool := tkS s && allB ncB s
def auS (s : ByteArray) : Bool := neS s && allB autB s
def dgS (s : ByteArray) : Bool := neS s && allB dgB s
def blk1 (n : Nat) : Bool := decide (n = 32) || decide (n = 9)
/-- The first byte, the last byte is no blank. -/
def fsS (s : ByteArray) : Bool := match s.data.toList with | [] => true | b :: _ => !blk1 b.toNat
def lsS (s : ByteArray) : Bool := match s.data.toList.getLast? with | none => true | some b => !blk1 b.toNat
def vlS (s : ByteArray) : Bool := allB insB s && (fsS s && lsS s)
/-- A name that begins with a colon. -/
def psS (s : ByteArray) : Bool := match s.data.toList with | [] => false | b :: _ => decide (b.toNat = 58)

def kMet : ByteArray := ⟨#[58, 109, 101, 116, 104, 111, 100]⟩
def kSch : ByteArray := ⟨#[58, 115, 99, 104, 101, 109, 101]⟩
def kAut : ByteArray := ⟨#[58, 97, 117, 116, 104, 111, 114, 105, 116, 121]⟩
def kPat : ByteArray := ⟨#[58, 112, 97, 116, 104]⟩
def kHos : ByteArray := ⟨#[104, 111, 115, 116]⟩
def kLen : ByteArray := ⟨#[99, 111, 110, 116, 101, 110, 116, 45, 108, 101, 110, 103, 116, 104]⟩
def kTe : ByteArray := ⟨#[116, 101]⟩
def kCon : ByteArray := ⟨#[99, 111, 110, 110, 101, 99, 116, 105, 111, 110]⟩
def kKee : ByteArray := ⟨#[107, 101, 101, 112, 45, 97, 108, 105, 118, 101]⟩
def kPro : ByteArray := ⟨#[112, 114, 111, 120, 121, 45, 99, 111, 110, 110, 101, 99, 116, 105, 111, 110]⟩
def kTra : ByteArray := ⟨#[116, 114, 97, 110, 115, 102, 101, 114, 45, 101, 110, 99, 111, 100, 105, 110, 103]⟩
def kUpg : ByteArray := ⟨#[117, 112, 103, 114, 97, 100, 101]⟩
def kTrl : ByteArray := ⟨#[116, 114, 97, 105, 108, 101, 114, 115]⟩
def kCNT : ByteArray := ⟨#[67, 79, 78, 78, 69, 67, 84]⟩
def kOPT : ByteArray := ⟨#[79, 80, 84, 73, 79, 78, 83]⟩
def kStar : ByteArray := ⟨#[42]⟩
def kHttp : ByteArray := ⟨#[104, 116, 116, 112]⟩
def kHttps : ByteArray := ⟨#[104, 116, 116, 112, 115]⟩
/-- Two texts are one. -/
def eqS (a b : ByteArray) : Bool := a.data.toList == b.data.toList
theorem eqS_iff (a b : ByteArray) : eqS a b = true ↔ a = b := by
  unfold eqS
  rw [beq_iff_eq]
  constructor
  · intro h; exact ByteArray.ext (Array.toList_inj.1 h)
  · intro h; rw [h]
theorem eqS_rfl (a : ByteArray) : eqS a a = true := (eqS_iff a a).2 rfl

def hopS (f : Fd) : Bool := eqS f.1 kCon || eqS f.1 kKee || eqS f.1 kPro || eqS f.1 kTra || eqS f.1 kUpg || (eqS f.1 kTe && !eqS f.2 kTrl)
/-- The number of a text of digits. -/
def numL (l : List UInt8) : Nat := l.foldl (fun n b => n * 10 + (b.toNat - 48)) 0
def lenO (s : ByteArray) : Int := if neS s && decide (s.size ≤ 15) && allB dgB s then (numL s.data.toList : Int) else -1
def fnd (l : List Fd) (n : ByteArray) : Option ByteArray := (l.find? fun f => eqS f.1 n).map (·.2)
def orE (a b : Int) : Int := if a ≠ 0 then a else b
def knS (n : ByteArray) : Bool := eqS n kMet || eqS n kSch || eqS n kAut || eqS n kPat
/-- The first thing that is wrong with a pseudo field behind others. -/
def plE (pre : List Fd) (n : ByteArray) : Int := if knS n && !(pre.any fun g => !psS g.1 || eqS g.1 n) then 0 else 182
def txE (f : Fd) : Int := if !psS f.1 && !nmS f.1 then 180 else if !vlS f.2 then 181 else 0
def lnE (pre : List Fd) (f : Fd) : Int :=
  if eqS f.1 kLen then (match fnd (pre ++ [f]) kLen with | some v => if decide (lenO f.2 < 0) || decide (lenO f.2 ≠ lenO v) then 186 else 0 | none => 0) else 0
/-- The first thing that is wrong with a field behind others. -/
def oneE (pre : List Fd) (f : Fd) : Int :=
  orE (if psS f.1 then plE pre f.1 else 0) (orE (txE f) (orE (if hopS f then 184 else 0) (lnE pre f)))
def fstS (l : List Fd) : List Fd × Int := l.foldl (fun st f => (st.1 ++ [f], orE st.2 (oneE st.1 f))) ([], 0)
def fstE (l : List Fd) : Int := (fstS l).2
theorem fstS_one (l : List Fd) : (fstS l).1 = l := by
  have : ∀ (l a : List Fd) (x : Int), (l.foldl (fun (st : List Fd × Int) f => (st.1 ++ [f], orE st.2 (oneE st.1 f))) (a, x)).1 = a ++ l := by
    intro l
    induction l with
    | nil => intro a x; simp
    | cons f r ih => intro a x; rw [List.foldl_cons, ih]; simp
  simpa [fstS] using this l [] 0
theorem fstE_snoc (l : List Fd) (f : Fd) : fstE (l ++ [f]) = orE (fstE l) (oneE l f) := by
  have h := fstS_one l
  unfold fstE
  unfold fstS at h ⊢
  rw [List.foldl_append]
  simp only [List.foldl_cons, List.foldl_nil]
  rw [h]
def sizS (l : List Fd) : Int := l.foldl (fun n f => RowKit.wrap64 (n + ((f.1.size : Int) + (f.2.size : Int)))) 0
theorem sizS_snoc (l : List Fd) (f : Fd) : sizS (l ++ [f]) = RowKit.wrap64 (sizS l + ((f.1.size : Int) + (f.2.size : Int))) := by simp [sizS, List.foldl_append]
def muc (l : List Fd) (c s : Int) : Bool := decide (c < (l.length : Int)) || decide (s < sizS l)
structure Rq where
  m : ByteArray
  s : ByteArray
  a : ByteArray
  p : ByteArray
  fs : List Fd
  len : Int
def rq0 : Rq := ⟨⟨#[]⟩, ⟨#[]⟩, ⟨#[]⟩, ⟨#[]⟩, [], 0⟩
def plnL (l : List Fd) : List Fd := l.filter fun f => !psS f.1 && !eqS f.1 kHos
def lenL (l : List Fd) : Int := match fnd l kLen with | none => -1 | some v => lenO v
/-- A path begins with a slash. -/
def slS (s : ByteArray) : Bool := match s.data.toList with | [] => false | b :: _ => decide (b.toNat = 47)
def paS (m p : ByteArray) : Bool := (eqS m kOPT && eqS p kStar) || (slS p && allB ptB p)
def metE (l : List Fd) : Int := match fnd l kMet with | none => 183 | some m => if tkS m then 0 else 182
def metO (l : List Fd) : ByteArray := (fnd l kMet).getD ⟨#[]⟩
def schO (l : List Fd) : ByteArray := (fnd l kSch).getD ⟨#[]⟩
def patO (l : List Fd) : ByteArray := (fnd l kPat).getD ⟨#[]⟩
def tunE (l : List Fd) : Int := if (fnd l kSch).isSome || (fnd l kPat).isSome then 182 else if (fnd l kAut).isSome then 0 else 183
def tarE (l : List Fd) : Int := if (fnd l kSch).isSome && (fnd l kPat).isSome then (if (eqS (schO l) kHttp || eqS (schO l) kHttps) && paS (metO l) (patO l) then 0 else 182) else 183
def midE (l : List Fd) : Int := if eqS (metO l) kCNT then tunE l else tarE l
def autW (l : List Fd) : Option ByteArray := match fnd l kAut with | some a => some a | none => fnd l kHos
def autE (l : List Fd) : Int := match autW l with | none => 183 | some a => if auS a && !(l.any fun f => eqS f.1 kHos && !eqS f.2 a) then 0 else 182
def autO (l : List Fd) : ByteArray := (autW l).getD ⟨#[]⟩
def rqO (l : List Fd) : Rq := ⟨metO l, schO l, autO l, patO l, plnL l, lenL l⟩
def chE (l : List Fd) (c s : Int) : Int := orE (if muc l c s then 185 else 0) (orE (fstE l) (orE (metE l) (orE (midE l) (autE l))))
def chR (l : List Fd) (c s : Int) : Rq := if chE l c s = 0 then rqO l else rq0
/-- The first thing that is wrong with a field of trailers. -/
def trE (f : Fd) : Int := orE (if psS f.1 then 182 else 0) (orE (txE f) (if hopS f || eqS f.1 kLen || eqS f.1 kHos || eqS f.1 kTe then 184 else 0))
def trsE (l : List Fd) : Int := l.foldl (fun e f => orE e (trE f)) 0
theorem trsE_snoc (l : List Fd) (f : Fd) : trsE (l ++ [f]) = orE (trsE l) (trE f) := by simp [trsE, List.foldl_append]
def traE (l : List Fd) (c s : Int) : Int := orE (if muc l c s then 185 else 0) (trsE l)
theorem orE_ok {a b : Int} (h : a = 0) : orE a b = b := by simp [orE, h]
theorem orE_no {a b : Int} (h : a ≠ 0) : orE a b = a := by simp [orE, h]
theorem orE_zero {a b : Int} (h : orE a b = 0) : a = 0 ∧ b = 0 := by
  by_cases e : a = 0
  · rw [orE_ok e] at h; exact ⟨e, h⟩
  · rw [orE_no e] at h; exact absurd h e
def lineL : List Fd := [(kMet, ⟨#[71, 69, 84]⟩), (kSch, kHttps), (kAut, ⟨#[97, 46, 98]⟩), (kPat, ⟨#[47, 120]⟩)]
theorem line_ok : chE lineL 1048576 1073741824 = 0 := by decide +kernel
theorem line_rq : rqO lineL = ⟨⟨#[71, 69, 84]⟩, kHttps, ⟨#[97, 46, 98]⟩, ⟨#[47, 120]⟩, [], -1⟩ := rfl
end Go.Proofs.YtclapheglgiokaaDoor
