/-
  Small laws for the statement FrameOnce: sizes, frames in a row read one by one, append of many bytes. Nothing is proved of a statement here.
-/
import Derived.Test.YtdoodbaogmdloabRt
import Derived.Test.YtdoodbaogmdloabAwake
namespace Go.Proofs.Ytdoodbaogmdloab
open Go.RowKit
set_option linter.unusedVariables false
set_option maxRecDepth 20000

theorem dec_count {zs : List Int} : ∀ {n P : Nat} {acc : List Fr}, (dec zs n P acc).1.length ≤ acc.length + n := by
  intro n
  induction n with
  | zero => intro P acc; rw [dec]; simp
  | succ n ih =>
    intro P acc
    rw [dec]
    split
    · simp
    · cases frameO zs P with
      | cut => simp
      | bad x => simp
      | ok f q => have := ih (P := q.toNat) (acc := acc ++ [f]); simp at this ⊢; omega
theorem decA_count (zs : List Int) : (decA zs).1.length ≤ 16384 := by
  unfold decA
  split
  · simp
  split
  · simp
  · have := dec_count (zs := zs) (n := zs.length) (P := 0) (acc := [])
    simp at this
    omega
theorem enc_len {f : Fr} (hc : chk f = 0) : (enc f).length ≤ 40000 := by
  obtain ⟨h1, h2, h3, h4⟩ := chk_ok hc
  unfold enc
  by_cases k0 : f.kind = 0
  · rw [if_pos k0]
    unfold fieldsB at h4; rw [if_pos k0] at h4; simp only [decide_eq_true_eq] at h4
    simp; omega
  rw [if_neg k0]
  by_cases k2 : f.kind = 2 ∨ f.kind = 3
  · rw [if_pos k2]
    have hsp : spansB f.sp = true := by unfold fieldsB at h4; rw [if_neg k0, if_pos k2] at h4; exact h4
    obtain ⟨s1, s2, s3⟩ := spans_parts hsp
    have hm : (marks f).length ≤ 3 := by unfold marks; split <;> simp
    have hr : f.sp.reverse.length ≤ 64 := by simpa using s2
    have ha : (ackN f).length ≤ 1000 := by
      unfold ackN
      split
      · omega
      · rename_i t r hh
        rw [hh] at hr
        simp only [List.length_append, downs_len, List.length_cons, List.length_nil] at hr ⊢
        omega
    have l1 := forms_len [f.kind]
    have l2 := forms_len (ackN f)
    simp only [List.length_append, List.length_cons, List.length_nil] at l1 ⊢
    omega
  rw [if_neg k2]
  have l0 := form_len8 f.data.length
  by_cases k8 : f.kind = 8
  · rw [if_pos k8]
    have hsh : (shead f).length ≤ 24 := by
      unfold shead
      split
      · exact forms_len _
      · exact Nat.le_trans (forms_len _) (by simp)
    simp only [List.length_append]
    omega
  rw [if_neg k8]
  have l1 := forms_len [f.kind]
  have l2 := forms_len (leads f)
  have l3 := lead_len f.kind
  have l5 : (leads f).length = (lead f.kind).length := by simp [leads]
  have l4 : (last f).length ≤ 20000 := by
    unfold last
    split
    · simp only [List.length_append]; omega
    split
    · rename_i h24
      unfold fieldsB at h4
      rw [if_neg k0, if_neg k2, if_neg (by omega), if_neg (by omega), if_neg (by omega), if_pos h24] at h4
      simp only [decide_eq_true_eq] at h4
      simp only [List.length_append, List.length_cons, List.length_nil]; omega
    split
    · omega
    · simp
  simp only [List.length_append, List.length_cons, List.length_nil] at l1 ⊢
  omega

/-- append of any number of bytes. -/
theorem row_append_big {w : World} {d : Sv} {zs ys : List Int} {x : Value} {m : Nat} {ty : TypeId} (h : Row w d zs) (hs : Src Try.prog 1 22 x m (u8s ys) w) (hn : d.n + m ≤ 1000000000000) :
    ∃ d' w', (Builtin.append_ #[22, 22] ty #[.slice d.a d.n d.c, x]).run Try.prog w = .ok (.slice d'.a d'.n d'.c) w' ∧ Row w' d' (zs ++ ys) ∧ Keep (fun b => blk d.a = some b) w w' ∧ (blk d'.a = blk d.a ∨ blk d'.a = some w.heap.size) := by
  obtain ⟨i0, hi, hz0, hz1, hz2⟩ := info_parts info5
  obtain ⟨a', c', w', h1, h2, h3, h4⟩ := sub_append (P := Try.prog) (ty := ty) Try.underlying22 hi hz0 hz1 hz2 rfl h hs (by unfold maxLen; omega) (by omega)
  exact ⟨⟨a', d.n + m, c'⟩, w', h1, by show Sub _ _ _ _ _ _ (u8s _); rw [show u8s (zs ++ ys) = u8s zs ++ u8s ys from List.map_append]; exact h2, h3, h4⟩

/-- A frame's words from a place of a block on. -/
def El (w : World) (g o : Nat) (f : Fr) (d c s : Sv) : Prop := ∀ i v, (fcells f d c s).toList[i]? = some v → w.cell? ⟨g, o + i, none⟩ = some v
theorem El.q {w w' : World} {g o : Nat} {f : Fr} {d c s : Sv} (h : El w g o f d c s) (q : Q w w') : El w' g o f d c s := fun i v hi => by
  have := h i v hi
  rw [q.cell (lt_of_cell this)]; exact this
theorem El.all {w : World} {g o : Nat} {f : Fr} {d c s : Sv} (h : El w g o f d c s) :
    w.cell? ⟨g, o, none⟩ = some (.int .i64 f.kind) ∧ w.cell? ⟨g, o + 1, none⟩ = some (.int .i64 f.id) ∧ w.cell? ⟨g, o + 2, none⟩ = some (.int .i64 f.pl) ∧ w.cell? ⟨g, o + 3, none⟩ = some (.int .i64 f.num) ∧ w.cell? ⟨g, o + 4, none⟩ = some (.int .i64 f.code) ∧ w.cell? ⟨g, o + 5, none⟩ = some (.bool f.fin) ∧ w.cell? ⟨g, o + 6, none⟩ = some (.slice d.a d.n d.c) ∧ w.cell? ⟨g, o + 7, none⟩ = some (.slice c.a c.n c.c) ∧ w.cell? ⟨g, o + 8, none⟩ = some (.slice s.a s.n s.c) ∧ w.cell? ⟨g, o + 9, none⟩ = some (.int .i64 f.dl) ∧ w.cell? ⟨g, o + 10, none⟩ = some (.int .i64 f.e0) ∧ w.cell? ⟨g, o + 11, none⟩ = some (.int .i64 f.e1) ∧ w.cell? ⟨g, o + 12, none⟩ = some (.int .i64 f.e2) :=
  ⟨h 0 _ rfl, h 1 _ rfl, h 2 _ rfl, h 3 _ rfl, h 4 _ rfl, h 5 _ rfl, h 6 _ rfl, h 7 _ rfl, h 8 _ rfl, h 9 _ rfl, h 10 _ rfl, h 11 _ rfl, h 12 _ rfl⟩
theorem flatF_get : ∀ {l : List Fd} {j i : Nat} {v : Value}, j < l.length → (fcells (l.getD j (zf, nilS, nilS, nilS)).1 (l.getD j (zf, nilS, nilS, nilS)).2.1 (l.getD j (zf, nilS, nilS, nilS)).2.2.1 (l.getD j (zf, nilS, nilS, nilS)).2.2.2).toList[i]? = some v → (flatF l)[j * 13 + i]? = some v := by
  intro l
  induction l with
  | nil => intro j i v hj; simp at hj
  | cons t r ih =>
    intro j i v hj hv
    have e : flatF (t :: r) = (fcells t.1 t.2.1 t.2.2.1 t.2.2.2).toList ++ flatF r := rfl
    have h13 : (fcells t.1 t.2.1 t.2.2.1 t.2.2.2).toList.length = 13 := rfl
    cases j with
    | zero =>
      have hv' : (fcells t.1 t.2.1 t.2.2.1 t.2.2.2).toList[i]? = some v := hv
      have hi : i < 13 := by
        rcases Nat.lt_or_ge i 13 with hh | hh
        · exact hh
        · rw [List.getElem?_eq_none (by rw [h13]; exact hh)] at hv'; cases hv'
      rw [e, List.getElem?_append_left (by rw [h13]; omega), Nat.zero_mul, Nat.zero_add]
      exact hv'
    | succ j =>
      rw [e, List.getElem?_append_right (by rw [h13]; omega), h13]
      rw [show (j + 1) * 13 + i - 13 = j * 13 + i by omega]
      exact ih (by simpa using hj) hv
/-- One frame of a row. -/
theorem Frs.el {B : Nat} {w : World} {x : Sv} {fds : List Fd} (h : Frs B w x fds) {j : Nat} (hj : j < fds.length) : ∃ g off f d c s, x.a = some ⟨g, off, none⟩ ∧ El w g (off + j * 13) f d c s ∧ (f, d, c, s) ∈ fds ∧ (fds.map (·.1)).getD j zf = f := by
  obtain ⟨g, off, ha, _, hc⟩ := h.sub.some_ (by rw [← h.len]; omega)
  refine ⟨g, off, (fds.getD j (zf, nilS, nilS, nilS)).1, (fds.getD j (zf, nilS, nilS, nilS)).2.1, (fds.getD j (zf, nilS, nilS, nilS)).2.2.1, (fds.getD j (zf, nilS, nilS, nilS)).2.2.2, ha, fun i v hv => ?_, ?_, ?_⟩
  · have := hc _ _ (flatF_get hj hv)
    rw [Nat.add_assoc]; exact this
  · show fds.getD j (zf, nilS, nilS, nilS) ∈ fds
    rw [List.getD_eq_getElem?_getD, List.getElem?_eq_getElem hj]
    exact List.getElem_mem _
  · simp [List.getD_eq_getElem?_getD, hj]
end Go.Proofs.Ytdoodbaogmdloab
