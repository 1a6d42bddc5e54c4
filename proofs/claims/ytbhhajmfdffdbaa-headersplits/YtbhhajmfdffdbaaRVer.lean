/-
  The versions as the document reads them: a contract that the statements' walks use.
-/
import Derived.Test.YtbhhajmfdffdbaaRLen
import Derived.Lib.BytesEntry
import Derived.Deep.RegionLaw
namespace Go.Proofs.Ytbhhajmfdffdbaa
open Go.RowKit
set_option linter.unusedVariables false
set_option maxRecDepth 20000

/-- append of one int that lies in a block of its own. -/
theorem rowN_push {w : World} {x : Sv} {zs : List Int} {y : Int} (h : RowN w x zs) (hn : x.n ≤ 1000000) :
    ∃ r w', (Builtin.append_ #[24, 24] 24 #[.slice x.a x.n x.c, .slice (some ⟨w.heap.size, 0, none⟩) 1 1]).run Try.prog (w.alloc (.cells #[.int .i64 y] 3)) = .ok (.slice r.a r.n r.c) w' ∧ RowN w' r (zs ++ [y]) ∧ Keep (fun b => blk x.a = some b) w w' ∧ (blk r.a = blk x.a ∨ ∃ b, blk r.a = some b ∧ w.heap.size < b) := by
  obtain ⟨i0, hi, hz0, hz1, hz2⟩ := info_parts info3
  have hq : Q w (w.alloc (.cells #[.int .i64 y] 3)) := (Q.refl w).alloc _
  have hg : (w.alloc (.cells #[.int .i64 y] 3)).heap[w.heap.size]? = some (.cells #[.int .i64 y] 3 (0, 0)) := heap_alloc_new w _
  have hsrc : ∀ j u, [Value.int .i64 y][j]? = some u → (w.alloc (.cells #[.int .i64 y] 3)).cell? ((⟨w.heap.size, 0, none⟩ : Addr).add j) = some u := by
    intro j u hj
    rw [addr_add, cell_of_row _ _ _ _ 3 (0, 0) hg, Nat.zero_add]
    rw [← hj]; simp
  obtain ⟨a', cap', w', hr, h1, h2, h3⟩ := sub_append (P := Try.prog) (ty := 24) Try.underlying24 hi hz0 hz1 hz2 rfl (h.q hq) (Src.ofSlice _ Try.underlying24 ⟨w.heap.size, 0, none⟩ 1 1 [Value.int .i64 y] (by simp) hsrc (by intro u hu; simp at hu; rw [hu]; rfl)) (by unfold maxLen; omega) (by omega)
  refine ⟨⟨a', x.n + 1, cap'⟩, w', hr, ?_, (Keep.ofQ hq).trans h2, ?_⟩
  · show Sub _ _ _ _ _ _ (i64s _)
    rw [show i64s (zs ++ [y]) = i64s zs ++ [.int .i64 y] from by simp]
    exact h1
  · rcases h3 with h3 | h3
    · exact .inl h3
    · exact .inr ⟨_, h3, by simp⟩
/-- A call in a region that draws, by its contract. -/
theorem step_call29 {ops : Array Oper} {o : Oper} {a : Act} {w : World} {K : Act → World → Prop} {R : Exit → Act → World → Prop} {E : Prop} (hg : o.guard = none) (x : Operand) (y : Operand) (t1 : TypeId) (t2 : TypeId) (hop : o.op = Op.call { callee := Callee.value (Operand.func 29), args := #[x, y], argTypes := #[t1, t2] })
    {xv : Value} (hx : a.eval x = xv) {yv : Value} (hy : a.eval y = yv) {R0 : Ending → World → Prop} (hc : Calls Try.prog 29 #[xv, yv] w R0)
    (hR : ∀ e w', R0 e w' → (∃ v, e = .returned v ∧ K (a.put o.dst v) w') ∨ (∃ ch, e = .panicked ch ∧ R (.panic ch) a w')) :
    if Region.wanted o (yielded ops a.tmps) = true then Oper.wp Try.prog o a w K R else E := by
  have hw : Region.wanted o (yielded ops a.tmps) = true := by simp [Region.wanted, hg]
  rw [if_pos hw]
  have he : (execOp a.eval o).run Try.prog w = .ok (.enter 29 #[xv, yv]) w := by
    have h1 : (Try.f29.name == "runtime.NumGoroutine") = false := by kernel_rfl
    have h1' : ¬ Try.f29.name = "runtime.NumGoroutine" := by simpa using h1
    have h2 : Try.f29.body.isSome = true := by kernel_rfl
    have h2' : ¬ Try.f29.body = none := by intro e; rw [e] at h2; cases h2
    simp [execOp, hop, resolve, invoke, Deferred.ofValue, callFunc, Try.func29, h1', h2', go_sem]
    rw [← hx, ← hy]
    cases x <;> cases y <;> simp [Act.eval]
  exact oper_enter he hc hR
theorem step_call31 {ops : Array Oper} {o : Oper} {a : Act} {w : World} {K : Act → World → Prop} {R : Exit → Act → World → Prop} {E : Prop} (hg : o.guard = none) (x : Operand) (t1 : TypeId) (hop : o.op = Op.call { callee := Callee.value (Operand.func 31), args := #[x], argTypes := #[t1] })
    {xv : Value} (hx : a.eval x = xv) {R0 : Ending → World → Prop} (hc : Calls Try.prog 31 #[xv] w R0)
    (hR : ∀ e w', R0 e w' → (∃ v, e = .returned v ∧ K (a.put o.dst v) w') ∨ (∃ ch, e = .panicked ch ∧ R (.panic ch) a w')) :
    if Region.wanted o (yielded ops a.tmps) = true then Oper.wp Try.prog o a w K R else E := by
  have hw : Region.wanted o (yielded ops a.tmps) = true := by simp [Region.wanted, hg]
  rw [if_pos hw]
  have he : (execOp a.eval o).run Try.prog w = .ok (.enter 31 #[xv]) w := by
    have h1 : (Try.f31.name == "runtime.NumGoroutine") = false := by kernel_rfl
    have h1' : ¬ Try.f31.name = "runtime.NumGoroutine" := by simpa using h1
    have h2 : Try.f31.body.isSome = true := by kernel_rfl
    have h2' : ¬ Try.f31.body = none := by intro e; rw [e] at h2; cases h2
    simp [execOp, hop, resolve, invoke, Deferred.ofValue, callFunc, Try.func31, h1', h2', go_sem]
    rw [← hx]
    cases x <;> simp [Act.eval]
  exact oper_enter he hc hR
section
variable {ops : Array Oper} {rest : List Oper} {o : Oper} {a : Act} {w : World} {K : Act → World → Prop} {R : Exit → Act → World → Prop} {E : Prop}
/-- append and copy by their run's equation, as one step of a region that draws. -/
theorem step_append (hg : o.guard = none) (s x : Operand) (t1 t2 : TypeId) (hop : o.op = Op.call { callee := Callee.builtin Builtin.append, args := #[s, x], argTypes := #[t1, t2] })
    {sv xv v : Value} {w2 : World} (hs : a.eval s = sv) (hx : a.eval x = xv) (hr : (Builtin.append_ #[t1, t2] o.type #[sv, xv]).run Try.prog w = .ok v w2) (hK : K (a.put o.dst v) w2) :
    if Region.wanted o (yielded ops a.tmps) = true then Oper.wp Try.prog o a w K R else E := by
  have hw : Region.wanted o (yielded ops a.tmps) = true := by simp [Region.wanted, hg]
  rw [if_pos hw]
  unfold Oper.wp
  simp [execOp, hop, resolve, invoke, builtin, hs, hx, hr, Result.andThen]
  exact hK
end
def placeD (w : World) (rb : Nat) : Int := match w.cell? ⟨rb, 1, none⟩ with | some (.int _ p) => p | _ => 0
theorem placeD_of {w : World} {rb : Nat} {a : Option Addr} {n c : Nat} {zs : List Int} {p f : Int} (h : Dr w rb a n c zs p f) : placeD w rb = p := by
  unfold placeD; rw [h.rdr.c1]
/-- The state of the reading of the versions. -/
structure VI (w wr : World) (rb : Nat) (a : Option Addr) (n c : Nat) (zs : List Int) (hb : Nat) (dl sl : List Int) (d s v : Sv) (P j : Nat) : Prop where
  k : Keep (fun k => k = rb ∨ k = hb) w wr
  dr : Dr wr rb a n c zs ((P : Int) + 4 * j) 0
  b : Box wr 30 hb ⟨5, 0, dl, sl, [], (List.range j).map (vat zs P), 0⟩ d s nilS v
  r : RowN wr v ((List.range j).map (vat zs P))
  nw : New w.heap.size v
section
variable (rb : Nat) (a : Option Addr) (n c : Nat) (zs : List Int) (first : Int) (P : Nat) (w : World) (hb : Nat) (dl sl : List Int) (d s : Sv)
/-- One version more. -/
theorem VI.next {wr w1 w2 : World} {v : Sv} {j : Nat} {m : Nat} (h : VI w wr rb a n c zs hb dl sl d s v P j) (hne : rb < hb) (hhb : hb < w.heap.size) (hq : Q wr w1) (hj : P + 4 * j + 4 ≤ n) :
    Calls Try.prog 29 #[.pointer (some ⟨rb, 0, none⟩), .int .i64 4] w1 fun e w2 => ∃ r : Sv, e = .returned (.slice r.a r.n r.c) ∧ Keep (fun i => i = rb) w1 w2 ∧ Dr w2 rb a n c zs ((P : Int) + 4 * j + 4) 0 ∧ Row w2 r ((zs.drop (P + 4 * j)).take 4) ∧ New w1.heap.size r := by
  have := rbytes_ok rb a n c zs ((P : Int) + 4 * j) w1 4 (by omega) (by omega) (h.dr.q hq)
  have e : ((P : Int) + 4 * j).toNat = P + 4 * j := by omega
  rw [e] at this
  exact this
end
section
variable (rb : Nat) (a : Option Addr) (n c : Nat) (zs : List Int) (first : Int) (P : Nat) (w : World) (hb : Nat) (dl sl : List Int) (d s : Sv)
/-- The append of one version. -/
theorem VI.app {wr u w2 : World} {v : Sv} {j : Nat} (h : VI w wr rb a n c zs hb dl sl d s v P j) (hne : rb < hb) (hhb : hb < w.heap.size) (hj : j ≤ 1000000) (hq : Q wr u) (hk : Keep (fun i => i = rb) u w2) (hd : Dr w2 rb a n c zs ((P : Int) + 4 * j + 4) 0) :
    ∃ (y : Sv) (w3 : World), (Builtin.append_ #[24, 24] 24 #[.slice v.a v.n v.c, .slice (some ⟨w2.heap.size, 0, none⟩) 1 1]).run Try.prog (w2.alloc (.cells #[.int .i64 (vat zs P j)] 3)) = .ok (.slice y.a y.n y.c) w3 ∧ w2.cell? ⟨hb, 5, none⟩ = some (.slice v.a v.n v.c) ∧ w3.cell? ⟨hb, 5, none⟩ = some (.slice v.a v.n v.c) ∧ w3.frozen? ⟨hb, 5, none⟩ = false ∧ hb < w2.heap.size ∧
      VI w (w3.setCell ⟨hb, 5, none⟩ (.slice y.a y.n y.c)) rb a n c zs hb dl sl d s y P (j + 1) := by
  have hs0 := h.k.size
  have hsq := hq.size
  have hsk := hk.size
  have b2 : Box w2 30 hb _ d s nilS v := (h.b.q hq).keep hk (by omega)
  have r2 : RowN w2 v _ := (h.r.q hq).keep hk (fun b hb' e => by have := h.nw b hb'; omega)
  have hvn : v.n = j := by have := RowN.len r2; simp at this; omega
  obtain ⟨y, w3, hrun, hrow, hk3, hblk⟩ := rowN_push (y := vat zs P j) r2 (by omega)
  have hnv : ∀ i, i < w.heap.size → ¬ blk v.a = some i := fun i hi e => by have := h.nw i e; omega
  have b3 := b2.keep hk3 (hnv _ hhb)
  have ks : Keep (fun k => k = hb) w3 (w3.setCell ⟨hb, 5, none⟩ (.slice y.a y.n y.c)) := (Keep.refl (fun k => k = hb) w3).setCell _ _ _ (.inl rfl)
  have hny : New w.heap.size y := by
    intro b hb'
    rcases hblk with e | ⟨b', e, hlt⟩
    · exact h.nw b (by rw [← e]; exact hb')
    · rw [e] at hb'; cases hb'; omega
  refine ⟨y, w3, hrun, b2.c5, b3.c5, b3.free 5, b2.lt, ⟨?_, ?_, ?_, ?_, hny⟩⟩
  · have k1 : Keep (fun k => k = rb ∨ k = hb) w w2 := (h.k.trans (Keep.ofQ hq)).trans (hk.mono (fun i _ e => .inl e))
    exact (k1.trans' hk3 (fun i hi e => absurd e (hnv i hi))).trans (ks.mono (fun i _ e => .inr e))
  · have e4 : (P : Int) + 4 * ((j + 1 : Nat) : Int) = (P : Int) + 4 * j + 4 := by omega
    rw [e4]
    exact (hd.keep hk3 (fun i e => by have := h.nw i e; omega)).keep ks (fun i e => by omega)
  · have := b3.vers_ y ((List.range (j + 1)).map (vat zs P))
    exact this
  · have e : (List.range (j + 1)).map (vat zs P) = (List.range j).map (vat zs P) ++ [vat zs P j] := by rw [List.range_succ, List.map_append]; rfl
    rw [e]
    exact hrow.keep ks (fun b hb' e => by have := hny b hb'; omega)
set_option maxHeartbeats 4000000 in
/-- Negotiate. -/
theorem rlong_0 (hf0 : 0 ≤ first) (hne : rb < hb) (hB : Box w 30 hb ⟨0, 0, dl, sl, [], [], 0⟩ d s nilS nilS) (h : Dr w rb a n c zs P 0) (hhb : hb < w.heap.size) :
    Calls Try.prog 33 #[.pointer (some ⟨rb, 0, none⟩), .pointer (some ⟨hb, 0, none⟩), .int .i64 first] w fun e w' => AnsT w rb a n c zs hb 0 dl sl d s (tailO zs first 0 P) e w' := by
  have e1 := hB.c1
  have e0 := hB.c0
  have f0 := hB.free 0
  dsimp only at e1 e0
  have hp1 := h.p1
  have hsm := h.small
  have HO := hid (show tailO zs first 0 P = (versO zs P).bind fun vs q => .ok (5, [], vs, 0) q from by unfold tailO; rw [if_pos rfl])
  have HV := hid (show versO zs P = if (n : Int) - P = 0 ∨ ((n : Int) - P) % 4 ≠ 0 then .bad 54 else .ok ((List.range ((n - P) / 4)).map (vat zs P)) n from by unfold versO; rw [h.len]; simp)
  have ks : Keep (fun k => k = hb) w (w.setCell ⟨hb, 0, none⟩ (.int .i64 5)) := (Keep.refl (fun k => k = hb) w).setCell _ _ _ (.inl rfl)
  have HI := hid (show VI w (w.setCell ⟨hb, 0, none⟩ (.int .i64 5)) rb a n c zs hb dl sl d s nilS P 0 from ⟨ks.mono (fun i _ e => .inr e), by have := h.keep ks (fun i e => by omega); simpa using this, hB.kind_ 5, sub_nil _ _ _, new_nil _⟩)
  clear hB h ks
  go_enter Try.func33, Try.ntmps33
  go_wp2_with fail
  generalize w.setCell ⟨hb, 0, none⟩ (.int .i64 5) = w1 at *
  have r1 : Rdr w1 65 rb a n c P 0 := by have := HI.out.dr.rdr; simpa using this
  refine (rleft_any rb a n c P 0 w1 (by omega) (by omega) hp1 r1).mono ?_
  rw [if_pos rfl]
  rintro e w2 ⟨rfl, k2, rfl⟩
  have q2 : Q w1 (w1.drewN k2) := (Q.refl w1).drewN k2
  have HI2 := hid (show VI w (w1.drewN k2) rb a n c zs hb dl sl d s nilS P 0 from ⟨HI.out.k.trans (Keep.ofQ q2), HI.out.dr.q q2, HI.out.b.q q2, HI.out.r.q q2, HI.out.nw⟩)
  have r2 : Rdr (w1.drewN k2) 65 rb a n c P 0 := r1.q q2
  clear q2 HI r1
  generalize w1.drewN k2 = w2 at *
  generalize hleft : (n : Int) - P = left at *
  have hl0 : 0 ≤ left := by omega
  have htm : Int.tmod left 4 = left % 4 := Int.tmod_eq_emod_of_nonneg hl0
  by_cases hz : left = 0
  · have HX := hid (show AnsT w rb a n c zs hb 0 dl sl d s (tailO zs first 0 P) (.returned (.int .i64 54)) w2 from ⟨HI2.out.k, .inr ⟨54, by omega, by rw [HO.out, HV.out, if_pos (.inl hz)]; rfl, rfl⟩⟩)
    have hz' : (left == 0) = true := by simp [hz]
    clear hleft htm hz r2
    go_wp2
    go_ret
    exact HX.out
  have hz' : (left == 0) = false := by simp [hz]
  have HL := hid hleft
  go_wp2_with fail
  refine (rleft_any rb a n c P 0 w2 (by omega) (by omega) hp1 r2).mono ?_
  rw [if_pos rfl, hleft]
  rintro e w3 ⟨rfl, k3, rfl⟩
  have q3 : Q w2 (w2.drewN k3) := (Q.refl w2).drewN k3
  have HI3 := hid (show VI w (w2.drewN k3) rb a n c zs hb dl sl d s nilS P 0 from ⟨HI2.out.k.trans (Keep.ofQ q3), HI2.out.dr.q q3, HI2.out.b.q q3, HI2.out.r.q q3, HI2.out.nw⟩)
  clear q3 HI2 r2 hleft
  generalize w2.drewN k3 = w3 at *
  by_cases hm : left % 4 = 0
  rotate_left
  · have HX := hid (show AnsT w rb a n c zs hb 0 dl sl d s (tailO zs first 0 P) (.returned (.int .i64 54)) w3 from ⟨HI3.out.k, .inr ⟨54, by omega, by rw [HO.out, HV.out, if_pos (.inr hm)]; rfl, rfl⟩⟩)
    have hm' : (left % 4 != 0) = true := by simp [hm]
    have hm'' : (left % 4 == 0) = false := by simp [hm]
    clear hz hm
    go_wp2
    go_ret
    exact HX.out
  have hm' : (left % 4 != 0) = false := by simp [hm]
  have HM := hid (show 4 * ((n - P) / 4) = n - P ∧ 0 < (n - P) / 4 from by have := HL.out; omega)
  have HO2 := hid (show tailO zs first 0 P = .ok (5, [], (List.range ((n - P) / 4)).map (vat zs P), 0) n from by rw [HO.out, HV.out, if_neg (by omega)]; rfl)
  generalize (n - P) / 4 = m at *
  clear HV HO hz
  go_wp2
  go_loopw [] (fun wr => ∃ (j : Nat) (v : Sv), j ≤ m ∧ VI w wr rb a n c zs hb dl sl d s v P j) (fun wr => ((n : Int) - placeD wr rb).toNat)
  case atStart => exact ⟨0, nilS, Nat.zero_le _, HI3.out⟩
  case round =>
    obtain ⟨j, ⟨va, vn, vc⟩, hj, hI⟩ := hrel
    have HI := hid hI
    have HPC := hid (placeD_of hI.dr)
    clear hI
    go_wp2_with fail
    refine (rleft_any rb a n c ((P : Int) + 4 * j) 0 wr (by omega) HI.out.dr.p0 HI.out.dr.p1 HI.out.dr.rdr).mono ?_
    rw [if_pos rfl]
    rintro e w4 ⟨rfl, k4, rfl⟩
    have q4 : Q wr (wr.drewN k4) := (Q.refl wr).drewN k4
    have HI4 := hid (show VI w (wr.drewN k4) rb a n c zs hb dl sl d s ⟨va, vn, vc⟩ P j from ⟨HI.out.k.trans (Keep.ofQ q4), HI.out.dr.q q4, HI.out.b.q q4, HI.out.r.q q4, HI.out.nw⟩)
    clear q4 HI
    generalize wr.drewN k4 = w4 at *
    by_cases hjm : j < m
    · have hd1 : decide ((0 : Int) < (n : Int) - ((P : Int) + 4 * j)) = true := by have := HM.out; simp; omega
      have e5 : w4.cell? ⟨hb, 5, none⟩ = some (.slice va vn vc) := HI4.out.b.c5
      have hlt4 : hb < w4.heap.size := HI4.out.b.lt
      have hj4 : P + 4 * j + 4 ≤ n := by have := HM.out; omega
      have HB := hid (fun u (hu : Q w4 u) => HI4.out.next (w1 := u) (w2 := u) (m := m) rb a n c zs P w hb dl sl d s hne hhb hu hj4)
      have HA := hid (fun u w2 (hu : Q w4 u) (hk : Keep (fun i => i = rb) u w2) hd => HI4.out.app (u := u) (w2 := w2) rb a n c zs P w hb dl sl d s hne hhb (by omega) hu hk hd)
      have HBY := hid HI4.out.dr.by_
      go_wp2
      go_region_law (first
        | (refine step_call29 rfl _ _ _ _ rfl (xv := .pointer (some ⟨rb, 0, none⟩)) (by kernel_rfl) (yv := .int .i64 4) (by kernel_rfl) (HB.out _ (by repeat (first | exact Q.refl _ | apply Q.drewN | apply Q.drew))) ?_; rintro e w5 ⟨⟨ra, rn, rc⟩, rfl, hk5, hr5, hrow5, hnew5⟩; refine .inl ⟨_, rfl, ?_⟩; (obtain ⟨⟨ya, yn, yc⟩, w6, hrun, y2, y3, y4, hlt5, hN⟩ := HA.out _ w5 (by repeat (first | exact Q.refl _ | apply Q.drewN | apply Q.drew)) hk5 hr5); have HN := hid hN; (have HW := hid (show Calls Try.prog 31 #[.slice ra rn rc] w5 fun e w' => e = .returned (.int .i64 (vat zs P j)) ∧ w5 = w' from word_any ⟨ra, rn, rc⟩ _ w5 hrow5 (by have := List.length_take_le 4 (zs.drop (P + 4 * j)); omega) (fun y hy => HBY.out y (List.mem_of_mem_drop (List.mem_of_mem_take hy))))); clear hN hk5 hr5 hrow5 hnew5)
        | (refine step_call31 rfl _ _ rfl (xv := .slice ra rn rc) (by kernel_rfl) HW.out ?_; rintro e w' ⟨rfl, rfl⟩; refine .inl ⟨_, rfl, ?_⟩)
        | (refine step_append rfl _ _ _ _ rfl (by kernel_rfl) (by kernel_rfl) hrun ?_))
      all_goals
        have HMS := hid (placeD_of HN.out.dr)
        clear hrun y2 y3 y4 HW HB HA e5
        go_wp2
        go_roundw
        case rel => exact ⟨j + 1, ⟨ya, yn, yc⟩, by omega, HN.out⟩
        case measure =>
          have h1 := HMS.out
          have h2 := HPC.out
          first
            | (rw [h1, h2]; omega)
            | (simp only [h1, h2]; omega)
            | (simp [h1, h2]; omega)
    · obtain rfl : j = m := by omega
      have hd1 : decide ((0 : Int) < (n : Int) - ((P : Int) + 4 * j)) = false := by have := HM.out; simp; omega
      have hd2 : ¬ (0 : Int) < (n : Int) - ((P : Int) + 4 * j) := by have := HM.out; omega
      have e4 : (P : Int) + 4 * j = n := by have := HM.out; have := HL.out; omega
      have HX := hid (show AnsT w rb a n c zs hb 0 dl sl d s (tailO zs first 0 P) (.returned (.int .i64 0)) w4 from ⟨HI4.out.k, .inl ⟨(5, [], (List.range j).map (vat zs P), 0), n, nilS, ⟨va, vn, vc⟩, HO2.out, rfl, HI4.out.b, sub_nil _ _ _, new_nil _, HI4.out.r, HI4.out.nw, by have := HI4.out.dr; rwa [e4] at this⟩⟩)
      clear e4
      go_wp2
      go_ret
      exact HX.out
end
theorem rlong_any (rb : Nat) (a : Option Addr) (n c : Nat) (zs : List Int) (first p : Int) (w : World) (hb : Nat) (ve : Int) (dl sl : List Int) (d s : Sv) (hf0 : 0 ≤ first) (hf1 : first < 256) (hne : rb < hb) (hB : Box w 30 hb ⟨0, ve, dl, sl, [], [], 0⟩ d s nilS nilS) (h : Dr w rb a n c zs p 0) :
    Calls Try.prog 33 #[.pointer (some ⟨rb, 0, none⟩), .pointer (some ⟨hb, 0, none⟩), .int .i64 first] w fun e w' => AnsT w rb a n c zs hb ve dl sl d s (tailO zs first ve p) e w' := by
  by_cases h0 : ve = 0
  · subst h0
    have hp := h.p0
    obtain ⟨P, rfl⟩ := Int.eq_ofNat_of_zero_le hp
    exact rlong_0 rb a n c zs first P w hb dl sl d s hf0 hne hB h hB.lt
  by_cases h1 : ve = 1
  · subst h1
    by_cases hx : first / 64 % 2 = 0
    · exact rlong_f rb a n c zs first p w hb dl sl d s hx hf0 hf1 hne hB h
    have hx1 : first / 64 % 2 = 1 := by omega
    by_cases k3 : first / 16 % 4 = 3
    · exact rlong_4 rb a n c zs first p w hb dl sl d s hx1 k3 hf0 hf1 hne hB h
    by_cases k0 : first / 16 % 4 = 0
    · exact rlong_1 rb a n c zs first p w hb dl sl d s hx1 k0 hf0 hf1 hne hB h
    · exact rlong_n rb a n c zs first p w hb dl sl d s (1 + first / 16 % 4) (by omega) hx1 (by omega) hf0 hf1 hne hB h
  · exact rlong_o rb a n c zs first p w hb ve dl sl d s h0 h1 hne hB h
end Go.Proofs.Ytbhhajmfdffdbaa
