/-
  What frame.numbers and join do: contracts that the statements' walks use.
-/
import Derived.Test.YtdoodbaogmdloabStep
import Derived.Lib.BytesEntry
namespace Go.Proofs.Ytdoodbaogmdloab
open Go.RowKit
set_option linter.unusedVariables false
set_option maxRecDepth 20000

theorem Own.row {w : World} {base : Nat} {a : Option Addr} {n cap : Nat} {zs : List Int} (h : Own w base a n cap zs) (hc : a = none → cap = 0) : Row w ⟨a, n, cap⟩ zs := by
  refine ⟨by simpa using h.1, ?_⟩
  rcases h.2 with ⟨h2, h3⟩ | ⟨g, cap', cur, hv, hb, hg, h1, h2, h3, h4⟩
  · simp only [Value.slice.injEq] at h2
    exact .inl ⟨h2.1, h3, h2.2.2⟩
  · simp only [Value.slice.injEq] at hv
    obtain ⟨rfl, _, rfl⟩ := hv
    refine .inr ⟨g, 0, cur, rfl, hg, h1, h2, by show 0 + cap * 1 ≤ cur.size; omega, fun j hj => ?_⟩
    rw [Nat.zero_add]
    show _ = (List.map (Value.int IntKind.u8) zs)[j]?
    rw [← h4, List.getElem?_take, if_pos hj]; simp
theorem Row.seg {w : World} {d : Sv} {zs : List Int} (h : Row w d zs) : Seg w d.a zs := by
  intro hne
  have hl := Row.len h
  have hp : 0 < d.n := by
    cases zs with
    | nil => exact absurd rfl hne
    | cons x r => simp at hl; omega
  obtain ⟨g, off, ha, _, hc⟩ := h.some_ hp
  refine ⟨g, off, ha, fun i hi => hc i _ ?_⟩
  rw [List.getElem?_map, List.getD_eq_getElem?_getD, List.getElem?_eq_getElem hi]; rfl

theorem put_any (n : Int) (w : World) : Calls Try.prog 47 #[.int .i64 n] w fun e w' => ∃ (p : Sv) (x : Int), e = .returned (.tuple #[.slice p.a p.n p.c, .int .i64 x]) ∧ Q w w' ∧ Row w' p (form n) := by
  by_cases h : n < 0 ∨ 4611686018427387903 < n
  · refine (put_no n w h).mono ?_
    rintro e w' ⟨rfl, rfl⟩
    exact ⟨⟨none, 0, 0⟩, 10, rfl, Q.refl _, by rw [form_nil h]; exact sub_nil _ _ _⟩
  · refine (put_ok n w _ (by omega) (by omega) (hid rfl)).mono ?_
    rintro e w' ⟨g, rfl, hq, ho⟩
    exact ⟨⟨some ⟨g, 0, none⟩, _, _⟩, 0, rfl, hq, ho.row (by simp)⟩

/-- The ints that a slice of ints holds. -/
def SegN (w : World) (a : Option Addr) (zs : List Int) : Prop :=
  zs ≠ [] → ∃ b off, a = some ⟨b, off, none⟩ ∧ ∀ i, i < zs.length → w.cell? ⟨b, off + i, none⟩ = some (.int .i64 (zs.getD i 0))
theorem SegN.q {w w' : World} {a : Option Addr} {zs : List Int} (h : SegN w a zs) (hq : Q w w') : SegN w' a zs := by
  intro hne
  obtain ⟨b, off, ha, hc⟩ := h hne
  refine ⟨b, off, ha, fun i hi => ?_⟩
  rw [hq.cell (lt_of_cell (hc i hi))]
  exact hc i hi

/-- Forms one behind the other. -/
def forms (ns : List Int) : List Int := ns.flatMap form
theorem form_len8 (n : Int) : (form n).length ≤ 8 := by rw [form_length]; exact sz_le n
theorem forms_len (ns : List Int) : (forms ns).length ≤ 8 * ns.length := by
  induction ns with
  | nil => simp [forms]
  | cons x r ih => have := form_len8 x; simp [forms] at ih ⊢; omega
theorem forms_snoc {ns : List Int} {j : Nat} (hj : j < ns.length) : forms (ns.take (j + 1)) = forms (ns.take j) ++ form (ns.getD j 0) := by
  rw [List.getD_eq_getElem?_getD, List.getElem?_eq_getElem hj]
  unfold forms
  rw [List.take_succ_eq_append_getElem hj, List.flatMap_append]
  simp

/-- What is new: a slice that was made since the heap had B blocks. -/
def New (B : Nat) (x : Sv) : Prop := ∀ b, blk x.a = some b → B ≤ b
theorem New.mono {B B' : Nat} {x : Sv} (h : New B x) (hb : B' ≤ B) : New B' x := fun b e => Nat.le_trans hb (h b e)
theorem new_step {B : Nat} {w wr w' : World} {x y : Sv} (hB : B = w.heap.size) (hq : Q w wr) (hx : New B x) (k : Keep (fun b => blk x.a = some b) wr w') (h : blk y.a = blk x.a ∨ blk y.a = some wr.heap.size) : Q w w' ∧ New B y := by
  subst hB
  refine ⟨k.below hq hq.size (fun i hi => hx i hi), fun b hb => ?_⟩
  rcases h with h | h
  · exact hx b (by rw [← h]; exact hb)
  · rw [h] at hb; cases hb; exact hq.size

set_option maxHeartbeats 1600000 in
theorem numbers_any (a : Option Addr) (n c : Nat) (ns : List Int) (w : World) (hl : ns.length = n) (hs : SegN w a ns) (hn : n ≤ 1000) :
    Calls Try.prog 27 #[.slice a n c] w fun e w' => ∃ x : Sv, e = .returned (.slice x.a x.n x.c) ∧ Q w w' ∧ Row w' x (forms ns) ∧ New w.heap.size x := by
  have HL := hid hl
  have HS := hid hs
  clear hl hs
  go_enter Try.func27, Try.ntmps27
  go_wp2
  go_loopw [3, 10] (fun fo i wr => Q w wr ∧ ∃ (j : Nat) (x : Sv), j ≤ n ∧ i = .int .i64 j ∧ fo = .slice x.a x.n x.c ∧ Row wr x (forms (ns.take j)) ∧ New w.heap.size x) (fun _ i _ => ((n : Int) - intOf i).toNat)
  case atStart => exact ⟨Q.refl _, 0, ⟨none, 0, 0⟩, Nat.zero_le _, rfl, rfl, by simp [forms]; exact sub_nil _ _ _, by intro b hb; cases hb⟩
  case round =>
    obtain ⟨hq, j, ⟨xa, xn, xc⟩, hj, rfl, rfl, hr, hnew⟩ := hrel
    have HQ := hid hq
    have HR := hid hr
    have HN := hid hnew
    clear hq hr hnew
    by_cases hjn : j < n
    · obtain ⟨b, off, rfl, hc⟩ := HS.out (by intro e; have := HL.out; rw [e] at this; simp at this; omega)
      have hc := hc j (by rw [HL.out]; exact hjn)
      rw [← HQ.out.cell (lt_of_cell hc)] at hc
      have hji : (j : Int) < (n : Int) := by omega
      have HF := hid (forms_snoc (ns := ns) (j := j) (by rw [HL.out]; exact hjn))
      generalize ns.getD j 0 = z at *
      go_wp2_with fail
      refine (put_any z _).mono ?_
      rintro e w1 ⟨⟨pa, pn, pc⟩, er, rfl, hq1, hp1⟩
      have hpl := Row.len hp1
      have hxl := Row.len HR.out
      dsimp only at hpl hxl
      have h8 := form_len8 z
      have hfl := forms_len (ns.take j)
      rw [List.length_take] at hfl
      obtain ⟨⟨ya, yn, yc⟩, w2, hrun, hrow, hk, hb⟩ := row_append (ty := 22) (d := ⟨xa, xn, xc⟩) (x := .slice pa pn pc) (m := pn) (ys := form z) (HR.out.q hq1) (src_seg hp1.seg hpl) (by dsimp only; omega)
      have hns := new_step rfl (HQ.out.trans hq1) HN.out hk hb
      have HX := hid hns
      have HY := hid hrow
      clear hq1 hp1 hpl hxl h8 hfl hk hb hns hrow
      go_wp2_with (at_builtin; refine Lib.wpList_append_run _ rfl _ _ _ _ rfl _ _ rfl rfl _ _ hrun ?_)
      go_roundw
      case rel => exact ⟨HX.out.1, j + 1, ⟨ya, yn, yc⟩, by omega, by go_num, rfl, by rw [HF.out]; exact HY.out, HX.out.2⟩
      case measure => simp [intOf]; omega
    · have hji : ¬ (j : Int) < (n : Int) := by omega
      go_wp2
      go_ret
      exact ⟨⟨xa, xn, xc⟩, rfl, HQ.out, by have := HR.out; rwa [List.take_of_length_le (by rw [HL.out]; omega)] at this, HN.out⟩

/-- The first j pieces one behind the other. -/
def cat (Z : Nat → List Int) : Nat → List Int
  | 0 => []
  | j + 1 => cat Z j ++ Z j

theorem cat_le {Z : Nat → List Int} {m : Nat} : ∀ {j : Nat}, j ≤ m → (cat Z j).length ≤ (cat Z m).length := by
  intro j hj
  induction m with
  | zero => obtain rfl : j = 0 := by omega
            exact Nat.le_refl _
  | succ m ih =>
    rcases Nat.lt_or_ge j (m + 1) with h | h
    · have := ih (by omega); simp only [cat, List.length_append]; omega
    · obtain rfl : j = m + 1 := by omega
      exact Nat.le_refl _

set_option maxHeartbeats 1600000 in
theorem join_any (pb m c : Nat) (P : Nat → Sv) (Z : Nat → List Int) (w : World) (hp : ∀ j, j < m → w.cell? ⟨pb, j, none⟩ = some (.slice (P j).a (P j).n (P j).c)) (hz : ∀ j, j < m → Seg w (P j).a (Z j) ∧ (Z j).length = (P j).n) (hm : m ≤ 100) (ht : (cat Z m).length ≤ 1000000) :
    Calls Try.prog 26 #[.slice (some ⟨pb, 0, none⟩) m c] w fun e w' => ∃ x : Sv, e = .returned (.slice x.a x.n x.c) ∧ Q w w' ∧ Row w' x (cat Z m) ∧ New w.heap.size x := by
  have HP := hid hp
  have HZ := hid hz
  have HT := hid ht
  clear hp hz ht
  go_enter Try.func26, Try.ntmps26
  go_wp2
  go_loopw [3, 8] (fun fo i wr => Q w wr ∧ ∃ (j : Nat) (x : Sv), j ≤ m ∧ i = .int .i64 j ∧ fo = .slice x.a x.n x.c ∧ Row wr x (cat Z j) ∧ New w.heap.size x) (fun _ i _ => ((m : Int) - intOf i).toNat)
  case atStart => exact ⟨Q.refl _, 0, ⟨none, 0, 0⟩, Nat.zero_le _, rfl, rfl, sub_nil _ _ _, by intro b hb; cases hb⟩
  case round =>
    obtain ⟨hq, j, ⟨xa, xn, xc⟩, hj, rfl, rfl, hr, hnew⟩ := hrel
    have HQ := hid hq
    have HR := hid hr
    have HN := hid hnew
    clear hq hr hnew
    by_cases hjn : j < m
    · have hc := HP.out j hjn
      rw [← HQ.out.cell (lt_of_cell hc)] at hc
      have hz := HZ.out j hjn
      have hji : (j : Int) < (m : Int) := by omega
      have hle := cat_le (Z := Z) (j := j + 1) (m := m) (by omega)
      have hT := HT.out
      have hxl := Row.len HR.out
      rw [show cat Z (j + 1) = cat Z j ++ Z j from rfl, List.length_append] at hle
      obtain ⟨⟨ya, yn, yc⟩, w2, hrun, hrow, hk, hb⟩ := row_append (ty := 22) (d := ⟨xa, xn, xc⟩) (x := .slice (P j).a (P j).n (P j).c) (m := (P j).n) (ys := Z j) HR.out (src_seg (hz.1.q HQ.out) hz.2) (by rw [← hz.2, ← hxl]; omega)
      have hns := new_step rfl HQ.out HN.out hk hb
      have HX := hid hns
      have HY := hid (show Row w2 ⟨ya, yn, yc⟩ (cat Z (j + 1)) from hrow)
      clear hz hle hT hxl hk hb hns hrow
      generalize P j = p at *
      go_wp2_with (at_builtin; refine Lib.wpList_append_run _ rfl _ _ _ _ rfl _ _ rfl rfl _ _ hrun ?_)
      go_roundw
      case rel => exact ⟨HX.out.1, j + 1, ⟨ya, yn, yc⟩, by omega, by go_num, rfl, HY.out, HX.out.2⟩
      case measure => simp [intOf]; omega
    · obtain rfl : j = m := by omega
      have hji : ¬ (j : Int) < (j : Int) := by omega
      go_wp2
      go_ret
      exact ⟨⟨xa, xn, xc⟩, rfl, HQ.out, HR.out, HN.out⟩
end Go.Proofs.Ytdoodbaogmdloab
