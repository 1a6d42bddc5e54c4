/-
  A reading in memory, and what its refuseIf, mustGoOn, number, one, some, version and id do: contracts that the statements' walks use.
-/
import Derived.Test.YtnnjogfpapndaaaHd
namespace Go.Proofs.Ytnnjogfpapndaaa
open Go.RowKit
set_option linter.unusedVariables false
set_option maxRecDepth 20000

/-- A reading: its reader, its bytes, its place. -/
structure Rg (w : World) (rk rb g n : Nat) (zs : List Int) (cid p : Int) : Prop where
  hd : w.heap[rk]? = some (.cells #[.pointer (some ⟨rb, 0, none⟩), .int .i64 cid] 119 (0, 0))
  rdr : Rdr w 128 rb (some ⟨g, 0, none⟩) n n p 0
  row : w.heap[g]? = some (.cells (u8s zs).toArray 5 (0, 0))
  len : zs.length = n
  by_ : ∀ y ∈ zs, 0 ≤ y ∧ y < 256
  small : n ≤ 140737488355328
  d1 : rk ≠ rb
  d2 : g ≠ rb
  d3 : g ≠ rk
  p0 : 0 ≤ p
  p1 : p ≤ n
section
variable {w w' : World} {rk rb g n : Nat} {zs : List Int} {cid p : Int}
theorem Rg.c0 (h : Rg w rk rb g n zs cid p) : w.cell? ⟨rk, 0, none⟩ = some (.pointer (some ⟨rb, 0, none⟩)) := by rw [cell_of_row w rk 0 _ 119 (0, 0) h.hd]; rfl
theorem Rg.c1 (h : Rg w rk rb g n zs cid p) : w.cell? ⟨rk, 1, none⟩ = some (.int .i64 cid) := by rw [cell_of_row w rk 1 _ 119 (0, 0) h.hd]; rfl
theorem Rg.lt (h : Rg w rk rb g n zs cid p) : rk < w.heap.size := lt_of_block h.hd
theorem Rg.pl_ (h : Rg w rk rb g n zs cid p) : Pl zs p := ⟨h.by_, h.p0, by rw [h.len]; exact h.p1⟩
theorem Rg.keep {F : Nat → Prop} (h : Rg w rk rb g n zs cid p) (k : Keep F w w') (f1 : ¬ F rk) (f2 : ¬ F rb) (f3 : ¬ F g) : Rg w' rk rb g n zs cid p :=
  ⟨(k.block rk h.lt f1).trans h.hd, (k.block rb h.rdr.lt f2).trans h.rdr, (k.block g (lt_of_block h.row) f3).trans h.row, h.len, h.by_, h.small, h.d1, h.d2, h.d3, h.p0, h.p1⟩
theorem Rg.q (h : Rg w rk rb g n zs cid p) (k : Q w w') : Rg w' rk rb g n zs cid p := h.keep (Keep.ofQ (F := fun _ => False) k) id id id
theorem Only.keep {rb : Nat} {a c : World} (h : Only rb a c) : Keep (fun k => k = rb) a c := Keep.ofGrown h (fun k e => by cases e; rfl)
theorem Rg.turn (h : Rg w rk rb g n zs cid p) (o : Keep (fun k => k = rb) w w') {q : Int} (r : Rdr w' 128 rb (some ⟨g, 0, none⟩) n n q 0) (q0 : 0 ≤ q) (q1 : q ≤ n) : Rg w' rk rb g n zs cid q :=
  ⟨(o.block rk h.lt h.d1).trans h.hd, r, (o.block g (lt_of_block h.row) h.d2).trans h.row, h.len, h.by_, h.small, h.d1, h.d2, h.d3, q0, q1⟩
/-- .. where blocks turn that are newer than the reading. -/
theorem Rg.keepNew {F : Nat → Prop} {w0 : World} {p' : Int} (h : Rg w rk rb g n zs cid p) (k : Keep F w w') (h0 : Rg w0 rk rb g n zs cid p') (hF : ∀ i, F i → w0.heap.size ≤ i) : Rg w' rk rb g n zs cid p :=
  h.keep k (fun f => by have := hF _ f; have := h0.lt; omega) (fun f => by have := hF _ f; have := h0.rdr.lt; omega) (fun f => by have := hF _ f; have := lt_of_block h0.row; omega)
theorem Rg.off (h : Rg w rk rb g n zs cid p) : SegOff rb w (some ⟨g, 0, none⟩) zs := by
  refine ⟨fun hne => ⟨g, 0, rfl, fun i hi => ?_⟩, fun _ ad e => by cases e; exact h.d2⟩
  rw [cell_of_row w g (0 + i) _ 5 (0, 0) h.row, Nat.zero_add]
  simp [List.getD_eq_getElem?_getD, hi]
end
theorem Keep.old {rb : Nat} {F : Nat → Prop} {w w1 w2 : World} (h : Keep (fun k => k = rb) w w1) (k : Keep F w1 w2) (hF : ∀ i, F i → i = rb ∨ w.heap.size ≤ i) : Keep (fun k => k = rb) w w2 :=
  h.trans' k (fun i hi f => by rcases hF i f with h | h; exact h; omega)

/-- What a call of a reading tells. -/
def Ans {α : Type} (w : World) (rk rb g n : Nat) (zs : List Int) (cid : Int) (V : α → World → Value → Prop) (o : Out α) (e : Ending) (w' : World) : Prop :=
  Keep (fun k => k = rb) w w' ∧ ((∃ a q v, o = .ok a q ∧ e = .returned v ∧ V a w' v ∧ Rg w' rk rb g n zs cid q) ∨ (o.stop ∧ e = .panicked o.ends))

theorem rd_fault {zs : List Int} {p : Int} (hp : 0 ≤ p) (hpl : p ≤ zs.length) (hf : (rd zs p).2.2 ≠ 0) : (rd zs p).2.2 = 12 := by
  unfold rd at hf ⊢
  rw [if_neg (by omega)] at hf ⊢
  unfold rdAt at hf ⊢
  revert hf
  repeat' split
  all_goals first | (intro _; rfl) | (intro h; exact absurd rfl h) | (intro h; simp at h)

set_option maxHeartbeats 400000 in
theorem refuse_ok (x : Int) (w : World) : Calls Try.prog 86 #[.bool false, .int .i64 x] w fun e w' => e = .returned (.tuple #[]) ∧ w = w' := by
  go_enter Try.func86, Try.ntmps86
  go_wp2
  go_end0
  exact ⟨rfl, rfl⟩
set_option maxHeartbeats 400000 in
theorem refuse_no (x : Int) (w : World) : Calls Try.prog 86 #[.bool true, .int .i64 x] w fun e w' => e = .panicked [refP x] ∧ w = w' := by
  go_enter Try.func86, Try.ntmps86
  go_wp2
  exact ⟨rfl, rfl, rfl⟩

section
variable (rk rb g n : Nat) (zs : List Int) (cid p : Int) (w : World)
set_option maxHeartbeats 400000 in
theorem must_ok (hc : w.cell? ⟨rk, 0, none⟩ = some (.pointer (some ⟨rb, 0, none⟩))) (a : Option Addr) (n c : Nat) (hr : Rdr w 128 rb a n c p 0) : Calls Try.prog 95 #[.pointer (some ⟨rk, 0, none⟩)] w fun e w' => e = .returned (.tuple #[]) ∧ w = w' := by
  have HR := hid hr
  clear hr
  go_enter Try.func95, Try.ntmps95
  go_wp2_with fail
  refine (fault_any rb a n c p 0 _ HR.out).mono ?_
  rintro e w' ⟨rfl, rfl⟩
  go_wp2_with fail
  refine (refuse_ok 0 _).mono ?_
  rintro e w' ⟨rfl, rfl⟩
  go_wp2
  go_end0
  exact ⟨rfl, rfl⟩
set_option maxHeartbeats 400000 in
theorem must_no (f : Int) (hf : f ≠ 0) (hc : w.cell? ⟨rk, 0, none⟩ = some (.pointer (some ⟨rb, 0, none⟩))) (a : Option Addr) (n c : Nat) (hr : Rdr w 128 rb a n c p f) : Calls Try.prog 95 #[.pointer (some ⟨rk, 0, none⟩)] w fun e w' => e = .panicked [refP f] ∧ w = w' := by
  have HR := hid hr
  have hb : (f != 0) = true := by simp [hf]
  clear hr hf
  go_enter Try.func95, Try.ntmps95
  go_wp2_with fail
  refine (fault_any rb a n c p f _ HR.out).mono ?_
  rintro e w' ⟨rfl, rfl⟩
  go_wp2_with fail
  refine (refuse_no f _).mono ?_
  rintro e w' ⟨rfl, rfl⟩
  exact ⟨rfl, rfl, rfl⟩

set_option maxHeartbeats 400000 in
theorem number_at (h : Rg w rk rb g n zs cid p) : Calls Try.prog 103 #[.pointer (some ⟨rk, 0, none⟩)] w fun e w' => Ans w rk rb g n zs cid (fun m w' v => v = .int .i64 m) (numO zs p) e w' := by
  have c0 := h.c0
  have HH := hid h
  clear h
  go_enter Try.func103, Try.ntmps103
  go_wp2_with fail
  refine (vnumber_any rb _ n n zs p 0 w HH.out.len (by have := HH.out.small; omega) HH.out.by_ HH.out.off HH.out.rdr).mono ?_
  rintro e w1 ⟨rfl, ho, hr⟩
  have hk := ho.keep
  have c0' : w1.cell? ⟨rk, 0, none⟩ = some (.pointer (some ⟨rb, 0, none⟩)) := hk.cell c0 HH.out.d1
  unfold numR at hr ⊢
  rw [if_pos rfl] at hr ⊢
  have HF := hid (rd_fault (zs := zs) HH.out.p0 (by rw [HH.out.len]; exact HH.out.p1))
  obtain ⟨⟨m, q, f⟩, hx⟩ : ∃ x, rd zs p = x := ⟨_, rfl⟩
  rw [hx] at hr HF ⊢
  dsimp only at hr HF ⊢
  by_cases hf : f = 0
  · rw [if_pos hf] at hr ⊢
    dsimp only at hr ⊢
    have hrange := rd_range HH.out.by_ HH.out.p0 (by rw [HH.out.len]; exact HH.out.p1) hx hf
    rw [HH.out.len] at hrange
    have HA := hid (show Ans w rk rb g n zs cid (fun m w' v => v = .int .i64 m) (numO zs p) (.returned (.int .i64 m)) w1 from
      ⟨hk, .inl ⟨m, q, _, by unfold numO; rw [hx]; dsimp only; rw [if_pos hf], rfl, rfl, HH.out.turn hk hr (by have := HH.out.p0; omega) hrange.2.1⟩⟩)
    have HR := hid hr
    clear ho hr hk hx hf hrange
    go_wp2_with fail
    refine (must_ok rk rb q _ c0' _ _ _ HR.out).mono ?_
    rintro e w2 ⟨rfl, rfl⟩
    go_wp2
    go_ret
    exact HA.out
  · have h12 : f = 12 := HF.out hf
    rw [if_neg hf] at hr ⊢
    dsimp only at hr ⊢
    have HA := hid (show Ans w rk rb g n zs cid (fun m w' v => v = .int .i64 m) (numO zs p) (.panicked [refP 12]) w1 from
      ⟨hk, .inr (by have e : numO zs p = .bad 12 := by unfold numO; rw [hx]; dsimp only; rw [if_neg hf]
                    rw [e]; exact ⟨stop_bad _, rfl⟩)⟩)
    rw [h12] at hr
    have HR := hid hr
    clear ho hr hk hx hf h12 HF
    go_wp2_with fail
    refine (must_no rk rb p _ 12 (by omega) c0' _ _ _ HR.out).mono ?_
    rintro e w2 ⟨rfl, rfl⟩
    exact ⟨rfl, HA.out⟩
theorem take_small {zs : List Int} {p k : Int} (hk : 0 ≤ k) : takeR zs p 0 k = if (zs.length : Int) - p < k then ([], p, 12) else ((zs.drop p.toNat).take k.toNat, p + k, 0) := by
  unfold takeR; rw [if_neg (by simp), if_neg (by omega)]
set_option maxHeartbeats 400000 in
theorem one_at (h : Rg w rk rb g n zs cid p) : Calls Try.prog 87 #[.pointer (some ⟨rk, 0, none⟩)] w fun e w' => Ans w rk rb g n zs cid (fun m w' v => v = .int .i64 m) (oneO zs p) e w' := by
  have c0 := h.c0
  have HH := hid h
  clear h
  go_enter Try.func87, Try.ntmps87
  go_wp2_with fail
  refine (byte_any rb _ n n zs p 0 w HH.out.len (by have := HH.out.small; omega) (Nat.le_refl _) HH.out.p0 HH.out.p1 HH.out.by_ HH.out.off HH.out.rdr).mono ?_
  rintro e w1 ⟨rfl, ho, hr⟩
  have hk := ho.keep
  have c0' : w1.cell? ⟨rk, 0, none⟩ = some (.pointer (some ⟨rb, 0, none⟩)) := hk.cell c0 HH.out.d1
  rw [take_small (by omega)] at hr ⊢
  by_cases hf : (zs.length : Int) - p < 1
  · rw [if_pos hf] at hr ⊢
    dsimp only at hr ⊢
    have HA := hid (show Ans w rk rb g n zs cid (fun m w' v => v = .int .i64 m) (oneO zs p) (.panicked [refP 12]) w1 from
      ⟨hk, .inr (by have e : oneO zs p = .bad 12 := by unfold oneO; rw [if_pos hf]
                    rw [e]; exact ⟨stop_bad _, rfl⟩)⟩)
    have HR := hid hr
    clear ho hr hk hf
    go_wp2_with fail
    refine (must_no rk rb p _ 12 (by omega) c0' _ _ _ HR.out).mono ?_
    rintro e w2 ⟨rfl, rfl⟩
    exact ⟨rfl, HA.out⟩
  · rw [if_neg hf] at hr ⊢
    dsimp only at hr ⊢
    have e0 : (List.take (Int.toNat 1) (zs.drop p.toNat)).getD 0 0 = zs.getD p.toNat 0 := by simp [List.getD_eq_getElem?_getD]
    rw [e0]
    have HA := hid (show Ans w rk rb g n zs cid (fun m w' v => v = .int .i64 m) (oneO zs p) (.returned (.int .i64 (zs.getD p.toNat 0))) w1 from
      ⟨hk, .inl ⟨_, p + 1, _, by unfold oneO; rw [if_neg hf], rfl, rfl, HH.out.turn hk hr (by have := HH.out.p0; omega) (by rw [← HH.out.len]; omega)⟩⟩)
    have HR := hid hr
    clear ho hr hk hf e0
    go_wp2_with fail
    refine (must_ok rk rb (p + 1) _ c0' _ _ _ HR.out).mono ?_
    rintro e w2 ⟨rfl, rfl⟩
    go_wp2
    go_ret
    exact HA.out
/-- A slice that a call made, with these bytes. -/
def NewB (B : Nat) (zs : List Int) (w' : World) (v : Value) : Prop := ∃ r : Sv, v = .slice r.a r.n r.c ∧ Row w' r zs ∧ New B r
set_option maxHeartbeats 400000 in
theorem some_at (k : Int) (hk0 : 0 ≤ k) (h : Rg w rk rb g n zs cid p) : Calls Try.prog 89 #[.pointer (some ⟨rk, 0, none⟩), .int .i64 k] w fun e w' => Ans w rk rb g n zs cid (NewB w.heap.size) (someO zs p k) e w' := by
  have c0 := h.c0
  have HH := hid h
  clear h
  go_enter Try.func89, Try.ntmps89
  go_wp2_with fail
  refine (bytes_any rb _ n n zs p 0 k w HH.out.len (by have := HH.out.small; omega) (Nat.le_refl _) HH.out.p0 HH.out.p1 HH.out.off HH.out.rdr).mono ?_
  rintro e w1 ⟨g', m', rfl, ho, hr, hown, hm⟩
  have hk := ho.keep
  have c0' : w1.cell? ⟨rk, 0, none⟩ = some (.pointer (some ⟨rb, 0, none⟩)) := hk.cell c0 HH.out.d1
  rw [take_small hk0] at hr hown
  by_cases hf : (zs.length : Int) - p < k
  · rw [if_pos hf] at hr hown
    dsimp only at hr hown
    have HA := hid (show Ans w rk rb g n zs cid (NewB w.heap.size) (someO zs p k) (.panicked [refP 12]) w1 from
      ⟨hk, .inr (by have e : someO zs p k = .bad 12 := by unfold someO; rw [if_pos hf]
                    rw [e]; exact ⟨stop_bad _, rfl⟩)⟩)
    have HR := hid hr
    clear ho hr hk hf hown
    go_wp2_with fail
    refine (must_no rk rb p _ 12 (by omega) c0' _ _ _ HR.out).mono ?_
    rintro e w2 ⟨rfl, rfl⟩
    exact ⟨rfl, HA.out⟩
  · rw [if_neg hf] at hr hown
    dsimp only at hr hown
    have HA := hid (show Ans w rk rb g n zs cid (NewB w.heap.size) (someO zs p k) (.returned (.slice (some ⟨g', 0, none⟩) m' m')) w1 from
      ⟨hk, .inl ⟨_, p + k, _, by unfold someO; rw [if_neg hf], rfl, ⟨⟨some ⟨g', 0, none⟩, m', m'⟩, rfl, hown.row (by simp), by intro x hx; cases hx; exact (hown.lt g' rfl).1⟩, HH.out.turn hk hr (by have := HH.out.p0; omega) (by rw [← HH.out.len]; omega)⟩⟩)
    have HR := hid hr
    clear ho hr hk hf hown
    go_wp2_with fail
    refine (must_ok rk rb (p + k) _ c0' _ _ _ HR.out).mono ?_
    rintro e w2 ⟨rfl, rfl⟩
    go_wp2
    go_ret
    exact HA.out
set_option maxHeartbeats 400000 in
theorem id_at (h : Rg w rk rb g n zs cid p) : Calls Try.prog 97 #[.pointer (some ⟨rk, 0, none⟩)] w fun e w' => Ans w rk rb g n zs cid (NewB w.heap.size) (idO zs p) e w' := by
  have HH := hid h
  clear h
  go_enter Try.func97, Try.ntmps97
  go_wp2_with fail
  refine (one_at rk rb g n zs cid p w HH.out).mono ?_
  rintro e w1 ⟨hk, ⟨m, q, v, ho, rfl, rfl, hr⟩ | ⟨hs, rfl⟩⟩
  rotate_left
  · have := Out.bind_stop hs (fun m q => if 20 < m then Out.bad 61 else someO zs q m)
    exact ⟨rfl, hk, .inr ⟨this.1, by unfold idO; rw [this.2]⟩⟩
  have hpl := oneO_pl HH.out.pl_ ho
  have HO := hid (show idO zs p = if 20 < m then .bad 61 else someO zs q m from by unfold idO; rw [ho]; rfl)
  have HM := hid hpl.2.2.2.2.1
  have K1 := hid hk
  have R1 := hid hr
  clear hk hr ho hpl
  by_cases h20 : 20 < m
  · go_wp2_with fail
    refine (refuse_no 61 w1).mono ?_
    rintro e w2 ⟨rfl, rfl⟩
    exact ⟨rfl, K1.out, .inr (by rw [HO.out, if_pos h20]; exact ⟨stop_bad _, rfl⟩)⟩
  · have h20' : decide (20 < m) = false := by simp; omega
    go_wp2_with fail
    refine (refuse_ok 61 w1).mono ?_
    rintro e w2 ⟨rfl, rfl⟩
    go_wp2_with fail
    refine (some_at rk rb g n zs cid q w1 m HM.out R1.out).mono ?_
    rintro e w3 ⟨hk, ⟨a, q3, v, ho, rfl, ⟨r, rfl, hrow, hnew⟩, hr⟩ | ⟨hs, rfl⟩⟩
    rotate_left
    · exact ⟨rfl, K1.out.trans hk, .inr (by rw [HO.out, if_neg (by omega)]; exact ⟨hs, rfl⟩)⟩
    have HX := hid (show Ans w rk rb g n zs cid (NewB w.heap.size) (idO zs p) (.returned (.slice r.a r.n r.c)) w3 from ⟨K1.out.trans hk, .inl ⟨a, q3, _, by rw [HO.out, if_neg (by omega)]; exact ho, rfl, ⟨r, rfl, hrow, hnew.mono K1.out.size⟩, hr⟩⟩)
    clear hk ho hrow hnew hr
    go_wp2
    go_ret
    exact HX.out
end
end Go.Proofs.Ytnnjogfpapndaaa
