/-
  What a reading's version and versions do: contracts that the statements' walks use.
-/
import Derived.Test.YtnnjogfpapndaaaRd
namespace Go.Proofs.Ytnnjogfpapndaaa
open Go.RowKit
set_option linter.unusedVariables false
set_option maxRecDepth 20000

theorem val32 {l : List Int} (h : ∀ y ∈ l, 0 ≤ y ∧ y < 256) (hl : l.length ≤ 4) : 0 ≤ val 0 l ∧ val 0 l < 4294967296 := by
  have := val_bound l 0 (by omega) h
  refine ⟨this.1, ?_⟩
  have hc : l.length = 0 ∨ l.length = 1 ∨ l.length = 2 ∨ l.length = 3 ∨ l.length = 4 := by omega
  rcases hc with e | e | e | e | e <;> (rw [e] at this; omega)
section
variable (rk rb g n : Nat) (zs : List Int) (cid p : Int) (w : World)
set_option maxHeartbeats 1000000 in
theorem version_at (h : Rg w rk rb g n zs cid p) : Calls Try.prog 96 #[.pointer (some ⟨rk, 0, none⟩)] w fun e w' => Ans w rk rb g n zs cid (fun m w' v => v = .int .i64 m) (verO zs p) e w' := by
  have HH := hid h
  clear h
  go_enter Try.func96, Try.ntmps96
  go_wp2_with fail
  refine (some_at rk rb g n zs cid p w 4 (by omega) HH.out).mono ?_
  rintro e w1 ⟨hk, ⟨l, q, v, ho, rfl, ⟨⟨ra, rn, rc⟩, rfl, hrow, hnew⟩, hr⟩ | ⟨hs, rfl⟩⟩
  rotate_left
  · have := Out.bind_stop hs (fun bs q => Out.ok (val 0 bs) q)
    exact ⟨rfl, hk, .inr ⟨this.1, by unfold verO; rw [this.2]⟩⟩
  have hpl := someO_pl HH.out.pl_ (by omega) ho
  have HX := hid (show Ans w rk rb g n zs cid (fun m w' v => v = .int .i64 m) (verO zs p) (.returned (.int .i64 (val 0 l))) w1 from ⟨hk, .inl ⟨_, q, _, by unfold verO; rw [ho]; rfl, rfl, rfl, hr⟩⟩)
  have hl4 : l.length = 4 := by have := hpl.2.2.2.1; omega
  have hb : ∀ y ∈ l, 0 ≤ y ∧ y < 256 := by
    intro y hy
    rw [hpl.2.2.1] at hy
    exact HH.out.by_ y (List.mem_of_mem_drop (List.mem_of_mem_take hy))
  have hn4 : rn = 4 := by have := Row.len hrow; dsimp only at this; omega
  subst hn4
  obtain ⟨gg, off, ha, _, hc⟩ := hrow.some_ (by show 0 < 4; omega)
  dsimp only at ha
  subst ha
  have HC := hid (show ∀ k, k < 4 → w1.cell? ⟨gg, off + k, none⟩ = some (.int .u8 (l.getD k 0)) from fun k hk' => hc k _ (by rw [List.getElem?_map, List.getD_eq_getElem?_getD, List.getElem?_eq_getElem (by omega)]; rfl))
  have HB := hid hb
  have HL := hid hl4
  clear hk hr ho hpl hrow hnew hc hb hl4 HH
  go_wp2
  go_loop [3, 9] (fun m i => ∃ k : Nat, k ≤ 4 ∧ i = .int .i64 k ∧ m = .int .i64 (val 0 (l.take k))) (fun _ i => (4 - intOf i).toNat)
  case atStart => exact ⟨0, by omega, rfl, rfl⟩
  case round =>
    obtain ⟨k, hk, rfl, rfl⟩ := hrel
    by_cases hlt : k < 4
    · have hcell := HC.out k hlt
      have hy := getD_bound HB.out k (by have := HL.out; omega)
      have hv := val32 (l := l.take k) (take_bound HB.out k) (by have := List.length_take_le k l; omega)
      have HN := hid (show val 0 (l.take (k + 1)) = val 0 (l.take k) * 256 + l.getD k 0 from by rw [take_snoc l k (by have := HL.out; omega), val_snoc])
      obtain ⟨hy0, hy1⟩ := hy
      obtain ⟨hv0, hv1⟩ := hv
      have hki : (k : Int) < 4 := by omega
      generalize l.getD k 0 = y at *
      generalize val 0 (l.take k) = v at *
      have hor := i64_or_low v y hv0 (by omega) hy0 hy1
      go_wp2
      go_round
      case rel => exact ⟨k + 1, by omega, by go_num, by rw [HN.out]⟩
      case measure => simp [intOf]; omega
    · obtain rfl : 4 = k := by omega
      go_wp2
      go_ret
      have := HX.out
      rwa [← List.take_of_length_le (i := 4) (l := l) (by rw [HL.out]; omega)] at this

theorem owns_sub {w : World} {base e : Nat} {a : Option Addr} {n cap : Nat} {vs : List Value} (h : w.ownsRow base e 1 (.slice a n cap) n vs) (hc : a = none → cap = 0) : Sub w e 1 a n cap vs := by
  refine ⟨by simpa using h.1, ?_⟩
  rcases h.2 with ⟨h2, h3⟩ | ⟨g, cap', cur, hv, hb, hg, h1, h2, h3, h4⟩
  · simp only [Value.slice.injEq] at h2
    exact .inl ⟨h2.1, h3, h2.2.2⟩
  · simp only [Value.slice.injEq] at hv
    obtain ⟨rfl, _, rfl⟩ := hv
    refine .inr ⟨g, 0, cur, rfl, hg, h1, h2, by show 0 + cap * 1 ≤ cur.size; omega, fun j hj => ?_⟩
    rw [Nat.zero_add, ← h4, List.getElem?_take, if_pos hj]; simp
theorem made_zeroN (s : Nat) : (madeCells (Value.int IntKind.i64 0).cells (s * 1)).toList = i64s (List.replicate s 0) := by
  simp [Value.cells, toList_madeCells_one]
/-- The first j versions, and zeros behind them. -/
def vrow (zs : List Int) (P m j : Nat) : List Int := (List.range j).map (vat zs P) ++ List.replicate (m - j) 0
theorem vrow_set (zs : List Int) (P m j : Nat) (hj : j < m) : (i64s (vrow zs P m j)).set j (.int .i64 (vat zs P j)) = i64s (vrow zs P m (j + 1)) := by
  unfold vrow i64s
  have e : m - j = (m - (j + 1)) + 1 := by omega
  rw [e, List.replicate_succ, List.range_succ]
  simp
theorem verO_at {zs : List Int} {P j : Nat} (h : P + 4 * j + 4 ≤ zs.length) : verO zs ((P : Int) + 4 * j) = .ok (vat zs P j) ((P : Int) + 4 * j + 4) := by
  unfold verO someO vat
  rw [if_neg (by omega)]
  have e : ((P : Int) + 4 * j).toNat = P + 4 * j := by omega
  rw [e]; rfl
/-- Ints that a call made. -/
def NewN (B : Nat) (zs : List Int) (w' : World) (v : Value) : Prop := ∃ r : Sv, v = .slice r.a r.n r.c ∧ RowN w' r zs ∧ New B r
set_option maxHeartbeats 2000000 in
theorem versions_at (P : Nat) (h : Rg w rk rb g n zs cid P) : Calls Try.prog 98 #[.pointer (some ⟨rk, 0, none⟩)] w fun e w' => Ans w rk rb g n zs cid (NewN w.heap.size) (versO zs P) e w' := by
  have c0 := h.c0
  have HH := hid h
  have hsm := h.small
  have hpn : (P : Int) ≤ n := h.p1
  have HV := hid (show versO zs P = if (n : Int) - P = 0 ∨ ((n : Int) - P) % 4 ≠ 0 then .bad 54 else .ok ((List.range ((n - P) / 4)).map (vat zs P)) n from by unfold versO; rw [h.len]; simp)
  clear h
  go_enter Try.func98, Try.ntmps98
  go_wp2_with fail
  refine (left_any rb _ n n P 0 w (by omega) (by omega) hpn HH.out.rdr).mono ?_
  rw [if_pos rfl]
  rintro e w1 ⟨rfl, k1, rfl⟩
  have R1 := hid (HH.out.q ((Q.refl w).drewN k1))
  have K1 := hid (show Keep (fun k => k = rb) w (w.drewN k1) from (Keep.refl _ _).drewN k1)
  have S1 := hid (show (w.drewN k1).heap.size = w.heap.size from rfl)
  generalize w.drewN k1 = w1 at *
  generalize hleft : (n : Int) - P = left at *
  have hl0 : 0 ≤ left := by omega
  have htm : Int.tmod left 4 = left % 4 := Int.tmod_eq_emod_of_nonneg hl0
  by_cases hz : left = 0
  · have HX := hid (show Ans w rk rb g n zs cid (NewN w.heap.size) (versO zs P) (.panicked [refP 54]) w1 from ⟨K1.out, .inr (by rw [HV.out, if_pos (.inl hz)]; exact ⟨stop_bad _, rfl⟩)⟩)
    have hz' : (left == 0) = true := by simp [hz]
    clear hleft htm hz
    go_wp2_with fail
    refine (refuse_no 54 w1).mono ?_
    rintro e w2 ⟨rfl, rfl⟩
    exact ⟨rfl, HX.out⟩
  have hz' : (left == 0) = false := by simp [hz]
  by_cases hm : left % 4 = 0
  rotate_left
  · have HX := hid (show Ans w rk rb g n zs cid (NewN w.heap.size) (versO zs P) (.panicked [refP 54]) w1 from ⟨K1.out, .inr (by rw [HV.out, if_pos (.inr hm)]; exact ⟨stop_bad _, rfl⟩)⟩)
    have hm' : (left % 4 != 0) = true := by simp [hm]
    have hm'' : (left % 4 == 0) = false := by simp [hm]
    clear hleft hz
    go_wp2_with fail
    refine (refuse_no 54 w1).mono ?_
    rintro e w2 ⟨rfl, rfl⟩
    exact ⟨rfl, HX.out⟩
  have hm' : (left % 4 != 0) = false := by simp [hm]
  have htd : Int.tdiv left 4 = (((n - P) / 4 : Nat) : Int) := by rw [Int.tdiv_eq_ediv_of_nonneg hl0]; omega
  have HM := hid (show 4 * ((n - P) / 4) = n - P ∧ 0 < (n - P) / 4 from by omega)
  have HV2 := hid (show versO zs P = .ok ((List.range ((n - P) / 4)).map (vat zs P)) n from by rw [HV.out, if_neg (by omega)])
  have HLF := hid hleft
  generalize (n - P) / 4 = m at *
  clear hleft HV
  have hmb : (m : Int) ≤ 35184372088832 := by have := HM.out; omega
  have HI := hid (info_parts info3)
  go_wp2_with fail
  refine (refuse_ok 54 w1).mono ?_
  rintro e w2 ⟨rfl, rfl⟩
  obtain ⟨i0, hi, hz0, hz1, hz2⟩ := HI.out
  go_wp2_with (at_make; (refine wpList_make_full _ rfl _ _ 78 rfl w1.heap.size 3 i0 (.int .i64 0) 1 Try.underlying78 hi hz0 hz1 .i64 .i64 (m : Int) (m : Int) m rfl rfl rfl rfl (by rw [hz2]; have := HM.out; omega) (by unfold maxLen; have := HM.out; omega) (Nat.le_refl _) ?_; intro w2 hown hgr))
  have q2 : Q w1 w2 := (Q.refl w1).grown hgr
  rw [made_zeroN] at hown
  have lt2 := (hown.lt w1.heap.size rfl).2
  have row2 : RowN w2 ⟨some ⟨w1.heap.size, 0, none⟩, m, m⟩ (vrow zs P m 0) := by
    rw [show vrow zs P m 0 = List.replicate m 0 from by simp [vrow]]; exact owns_sub hown (by simp)
  have R2 := hid (R1.out.q q2)
  have K2 := hid (K1.out.trans (Keep.ofQ q2))
  have RW2 := hid row2
  have S2 := hid lt2
  clear hown hgr q2 row2 lt2
  go_wp2
  go_loopw [24] (fun i wr => ∃ j : Nat, j ≤ m ∧ i = .int .i64 j ∧ Keep (fun k => k = rb) w wr ∧ Rg wr rk rb g n zs cid ((P : Int) + 4 * j) ∧ RowN wr ⟨some ⟨w1.heap.size, 0, none⟩, m, m⟩ (vrow zs P m j)) (fun i _ => ((m : Int) - intOf i).toNat)
  case atStart => exact ⟨0, Nat.zero_le _, rfl, K2.out, by have := R2.out; simpa using this, RW2.out⟩
  case round =>
    obtain ⟨j, hj, rfl, hk, hr, hrow⟩ := hrel
    have HK := hid hk
    have HR := hid hr
    have HRW := hid hrow
    clear hk hr hrow
    by_cases hjm : j < m
    · have hji : (j : Int) < (m : Int) := by omega
      have HVA := hid (verO_at (zs := zs) (P := P) (j := j) (by have := HM.out; have := HH.out.len; omega))
      go_wp2_with fail
      refine (version_at rk rb g n zs cid _ wr HR.out).mono ?_
      rw [HVA.out]
      rintro e w3 ⟨hk, ⟨a, q, v, ho, rfl, rfl, hr⟩ | ⟨hs, rfl⟩⟩
      rotate_left
      · exact absurd rfl (hs _ _)
      cases ho
      have hlb : w1.heap.size ≠ rb := by have := HH.out.rdr.lt; have := S1.out; omega
      have row3 : RowN w3 ⟨some ⟨w1.heap.size, 0, none⟩, m, m⟩ (vrow zs P m j) := HRW.out.keep hk (fun b hb e => by cases hb; exact hlb e)
      obtain ⟨gg, off, ha, hfz, hc⟩ := row3.some_ (by show 0 < m; omega)
      simp only [Option.some.injEq, Addr.mk.injEq, and_true] at ha
      obtain ⟨rfl, rfl⟩ := ha
      have hlen := RowN.len row3
      dsimp only at hlen
      have hcell : w3.cell? ⟨w1.heap.size, j, none⟩ = some (.int .i64 ((vrow zs P m j).getD j 0)) := by
        have := hc j (.int .i64 ((vrow zs P m j).getD j 0)) (by rw [List.getElem?_map, List.getD_eq_getElem?_getD, List.getElem?_eq_getElem (by omega)]; rfl)
        rwa [Nat.zero_add] at this
      have hfr := hfz j
      have HX := hid (show Keep (fun k => k = rb) w (w3.setCell ⟨w1.heap.size, j, none⟩ (.int .i64 (vat zs P j))) ∧ Rg (w3.setCell ⟨w1.heap.size, j, none⟩ (.int .i64 (vat zs P j))) rk rb g n zs cid ((P : Int) + 4 * (j + 1 : Nat)) ∧ RowN (w3.setCell ⟨w1.heap.size, j, none⟩ (.int .i64 (vat zs P j))) ⟨some ⟨w1.heap.size, 0, none⟩, m, m⟩ (vrow zs P m (j + 1)) from by
        refine ⟨(HK.out.trans hk).setCell _ _ _ (.inr (by have := S1.out; omega)), ?_, ?_⟩
        · have hr' := hr.keepNew (F := fun i => i = w1.heap.size) ((Keep.refl (fun i => i = w1.heap.size) w3).setCell w1.heap.size j (.int .i64 (vat zs P j)) (.inl rfl)) HH.out (fun i e => by have := S1.out; omega)
          have e4 : (P : Int) + 4 * (j + 1 : Nat) = (P : Int) + 4 * j + 4 := by omega
          rw [e4]; exact hr'
        · have := row3.set (g := w1.heap.size) (off := 0) (j := j) rfl (by show j < m * 1; omega) (.int .i64 (vat zs P j))
          rw [vrow_set zs P m j hjm, Nat.zero_add] at this
          exact this)
      clear hk hr row3 hfz hc hlen
      generalize vat zs P j = vv at *
      go_wp2
      go_roundw
      case rel => exact ⟨j + 1, by omega, by go_num, HX.out.1, HX.out.2.1, HX.out.2.2⟩
      case measure => simp [intOf]; omega
    · obtain rfl : j = m := by omega
      have hji : ¬ (j : Int) < (j : Int) := by omega
      go_wp2
      go_ret
      refine ⟨HK.out, .inl ⟨_, _, _, HV2.out, rfl, ⟨⟨some ⟨w1.heap.size, 0, none⟩, j, j⟩, rfl, ?_, ?_⟩, ?_⟩⟩
      · have := HRW.out
        rwa [show vrow zs P j j = (List.range j).map (vat zs P) from by simp [vrow]] at this
      · intro b hb; cases hb; show w.heap.size ≤ w1.heap.size; have := S1.out; omega
      · have := HR.out
        have e : (P : Int) + 4 * j = n := by have := HM.out; have := HLF.out; omega
        rwa [e] at this
end
end Go.Proofs.Ytnnjogfpapndaaa
