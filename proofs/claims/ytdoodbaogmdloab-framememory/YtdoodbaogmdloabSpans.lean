/-
  What frame.spansHold, fieldsHold and Check do: contracts that the statements' walks use.
-/
import Derived.Test.YtdoodbaogmdloabNums
namespace Go.Proofs.Ytdoodbaogmdloab
open Go.RowKit
set_option linter.unusedVariables false
set_option maxRecDepth 20000

/-- The spans that a slice holds. -/
def SegS (w : World) (a : Option Addr) (l : List (Int × Int)) : Prop :=
  l ≠ [] → ∃ b off, a = some ⟨b, off, none⟩ ∧ ∀ i, i < l.length → w.cell? ⟨b, off + i * 2, none⟩ = some (.int .i64 (l.getD i (0, 0)).1) ∧ w.cell? ⟨b, off + i * 2 + 1, none⟩ = some (.int .i64 (l.getD i (0, 0)).2)
theorem SegS.q {w w' : World} {a : Option Addr} {l : List (Int × Int)} (h : SegS w a l) (hq : Q w w') : SegS w' a l := by
  intro hne
  obtain ⟨b, off, ha, hc⟩ := h hne
  refine ⟨b, off, ha, fun i hi => ?_⟩
  have := hc i hi
  rw [hq.cell (lt_of_cell this.1), hq.cell (lt_of_cell this.2)]
  exact this
theorem SegS.keep {F : Nat → Prop} {w w' : World} {a : Option Addr} {l : List (Int × Int)} (h : SegS w a l) (k : Keep F w w') (hF : ∀ b, blk a = some b → ¬ F b) : SegS w' a l := by
  intro hne
  obtain ⟨b, off, ha, hc⟩ := h hne
  exact ⟨b, off, ha, fun i hi => ⟨k.cell (hc i hi).1 (hF b (by rw [ha]; rfl)), k.cell (hc i hi).2 (hF b (by rw [ha]; rfl))⟩⟩

def spOk : Int → List (Int × Int) → Bool
  | _, [] => true
  | low, x :: r => decide (low ≤ x.1 ∧ x.1 ≤ x.2 ∧ x.2 ≤ 4611686018427387903) && spOk (x.2 + 2) r
def spansB (l : List (Int × Int)) : Bool := decide (1 ≤ l.length ∧ l.length ≤ 64) && spOk 0 l

theorem spOk_drop {low : Int} {l : List (Int × Int)} {j : Nat} (hj : j < l.length) : spOk low (l.drop j) = (decide (low ≤ (l.getD j (0, 0)).1 ∧ (l.getD j (0, 0)).1 ≤ (l.getD j (0, 0)).2 ∧ (l.getD j (0, 0)).2 ≤ 4611686018427387903) && spOk ((l.getD j (0, 0)).2 + 2) (l.drop (j + 1))) := by
  rw [List.drop_eq_getElem_cons hj, spOk, List.getD_eq_getElem?_getD, List.getElem?_eq_getElem hj]; rfl

set_option maxHeartbeats 1600000 in
theorem spansHold_any (s : Sv) (l : List (Int × Int)) (w : World) (hl : l.length = s.n) (hs : SegS w s.a l) : Calls Try.prog 58 #[.slice s.a s.n s.c] w fun e w' => e = .returned (.bool (spansB l)) ∧ Q w w' := by
  obtain ⟨a, n, c⟩ := s
  dsimp only at hl hs
  by_cases h1 : n < 1
  · have HR := hid (show spansB l = false from by unfold spansB; rw [decide_eq_false (by omega)]; rfl)
    have hi : decide ((n : Int) < 1) = true := by simp; omega
    have hi' : (n : Int) < 1 := by omega
    clear hl hs
    go_enter Try.func58, Try.ntmps58
    go_wp2
    go_ret
    exact ⟨ret_bool HR.out.symm, Q.refl _⟩
  by_cases h2 : 64 < n
  · have HR := hid (show spansB l = false from by unfold spansB; rw [decide_eq_false (by omega)]; rfl)
    have hi : decide ((n : Int) < 1) = false := by simp; omega
    have hi' : ¬ (n : Int) < 1 := by omega
    have hk : (64 : Int) < n := by omega
    clear hl hs
    go_enter Try.func58, Try.ntmps58
    go_wp2
    go_ret
    exact ⟨ret_bool HR.out.symm, Q.refl _⟩
  have HR := hid (show spansB l = spOk 0 (l.drop 0) from by unfold spansB; rw [decide_eq_true (by omega)]; rfl)
  have hi : decide ((n : Int) < 1) = false := by simp; omega
  have hi' : ¬ (n : Int) < 1 := by omega
  have hk : ¬ (64 : Int) < n := by omega
  have HL := hid hl
  have HS := hid hs
  clear hl hs
  go_enter Try.func58, Try.ntmps58
  go_wp2
  go_loopw [3, 16] (fun lo i wr => Q w wr ∧ ∃ (j : Nat) (low : Int), j ≤ n ∧ i = .int .i64 j ∧ lo = .int .i64 low ∧ spOk 0 (l.drop 0) = spOk low (l.drop j) ∧ 0 ≤ low ∧ low ≤ 4611686018427387905) (fun _ i _ => ((n : Int) - intOf i).toNat)
  case atStart => exact ⟨Q.refl _, 0, 0, Nat.zero_le _, rfl, rfl, rfl, by omega, by omega⟩
  case round =>
    obtain ⟨hq, j, low, hj, rfl, rfl, he, hl0, hl1⟩ := hrel
    have HQ := hid hq
    have HE := hid he
    clear hq he
    by_cases hjn : j < n
    · obtain ⟨b, off, rfl, hc⟩ := HS.out (by intro e; have := HL.out; rw [e] at this; simp at this; omega)
      have hc := (hc j (by rw [HL.out]; exact hjn))
      obtain ⟨hc0, hc1⟩ := hc
      have hb := lt_of_cell hc0
      rw [← HQ.out.cell (by exact hb)] at hc0 hc1
      have hbr : b < wr.heap.size := Nat.lt_of_lt_of_le hb HQ.out.size
      have HD := hid (spOk_drop (low := low) (l := l) (j := j) (by rw [HL.out]; exact hjn))
      generalize (l.getD j (0, 0)).1 = x at *
      generalize (l.getD j (0, 0)).2 = y at *
      have hji : (j : Int) < (n : Int) := by omega
      by_cases hx : x < low
      · have HF := hid (show spOk low (l.drop j) = false from by rw [HD.out, decide_eq_false (by omega)]; rfl)
        have hxb : decide (x < low) = true := by simp [hx]
        go_wp2
        go_ret
        exact ⟨ret_bool (by rw [HR.out, HE.out, HF.out]), HQ.out.alloc _⟩
      by_cases hy : y < x
      · have HF := hid (show spOk low (l.drop j) = false from by rw [HD.out, decide_eq_false (by omega)]; rfl)
        have hxb : decide (x < low) = false := by simp; omega
        have hyb : decide (y < x) = true := by simp [hy]
        go_wp2
        go_ret
        exact ⟨ret_bool (by rw [HR.out, HE.out, HF.out]), HQ.out.alloc _⟩
      by_cases hz : 4611686018427387903 < y
      · have HF := hid (show spOk low (l.drop j) = false from by rw [HD.out, decide_eq_false (by omega)]; rfl)
        have hxb : decide (x < low) = false := by simp; omega
        have hyb : decide (y < x) = false := by simp; omega
        go_wp2
        go_ret
        exact ⟨ret_bool (by rw [HR.out, HE.out, HF.out]), HQ.out.alloc _⟩
      · have HF := hid (show spOk low (l.drop j) = spOk (y + 2) (l.drop (j + 1)) from by rw [HD.out, decide_eq_true (by omega)]; rfl)
        have hxb : decide (x < low) = false := by simp; omega
        have hyb : decide (y < x) = false := by simp; omega
        have hw : IntKind.i64.wrap (y + 2) = y + 2 := by rw [IntKind.wrap_i64]; omega
        go_wp2
        go_roundw
        case rel => exact ⟨HQ.out.alloc _, j + 1, y + 2, by omega, by go_num, rfl, by rw [HE.out, HF.out], by omega, by omega⟩
        case measure => simp [intOf]; omega
    · have HF := hid (show spOk low (l.drop j) = true from by rw [List.drop_of_length_le (by rw [HL.out]; omega)]; rfl)
      have hji : ¬ (j : Int) < (n : Int) := by omega
      go_wp2
      go_ret
      exact ⟨ret_bool (by rw [HR.out, HE.out, HF.out]), HQ.out⟩

/-- What must hold of the fields of a kind. -/
def fieldsB (f : Fr) : Bool :=
  if f.kind = 0 then decide (1 ≤ f.num ∧ f.num ≤ 16384) else if f.kind = 2 ∨ f.kind = 3 then spansB f.sp
  else if f.kind = 6 ∨ f.kind = 8 then decide (f.pl ≤ 4611686018427387903 - (f.data.length : Int)) else if f.kind = 7 then decide (0 < f.data.length)
  else if f.kind = 18 ∨ f.kind = 19 ∨ f.kind = 22 ∨ f.kind = 23 then decide (f.num ≤ 1152921504606846976)
  else if f.kind = 24 then decide (f.pl ≤ f.num ∧ 1 ≤ f.cid.length ∧ f.cid.length ≤ 20 ∧ f.data.length = 16)
  else if f.kind = 26 ∨ f.kind = 27 then decide (f.data.length = 8) else true

/-- What is wrong in a frame. -/
def chk (f : Fr) : Int := if isK f.kind = false then 50 else if 16384 < f.data.length then 52 else if (numsB f && fieldsB f) = false then 51 else 0

/-- A frame's words hold it. -/
structure Holds (w : World) (f : Fr) (d c s : Sv) : Prop where
  dl : f.data.length = d.n
  ds : Seg w d.a f.data
  cl : f.cid.length = c.n
  cs : Seg w c.a f.cid
  sl : f.sp.length = s.n
  ss : SegS w s.a f.sp
theorem Holds.q {w w' : World} {f : Fr} {d c s : Sv} (h : Holds w f d c s) (hq : Q w w') : Holds w' f d c s := ⟨h.dl, h.ds.q hq, h.cl, h.cs.q hq, h.sl, h.ss.q hq⟩
theorem Holds.keep {F : Nat → Prop} {w w' : World} {f : Fr} {d c s : Sv} (h : Holds w f d c s) (k : Keep F w w') (hF : ∀ b, blk d.a = some b ∨ blk c.a = some b ∨ blk s.a = some b → ¬ F b) : Holds w' f d c s :=
  ⟨h.dl, h.ds.keep k (fun b hb => hF b (.inl hb)), h.cl, h.cs.keep k (fun b hb => hF b (.inr (.inl hb))), h.sl, h.ss.keep k (fun b hb => hF b (.inr (.inr hb)))⟩
end Go.Proofs.Ytdoodbaogmdloab
