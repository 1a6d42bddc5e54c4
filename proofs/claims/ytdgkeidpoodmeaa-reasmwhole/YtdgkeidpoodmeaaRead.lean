/-
  What the program's Read (and the inner drop) answers and does to a buffer: a contract that the statements' walks use.
-/
import Derived.Test.YtdgkeidpoodmeaaPut
namespace Go.Proofs.Ytdgkeidpoodmeaa
open Go.RowKit
set_option linter.unusedVariables false

theorem made_zero (s : Nat) : (madeCells (Value.int IntKind.u8 0).cells (s * 1)).toList = (List.replicate s 0).map (Value.int .u8) := by
  simp [Value.cells, toList_madeCells_one]

theorem sub_of_own {w : World} {base e size n cap : Nat} {a : Option Addr} {vs : List Value} (h : w.ownsRow base e size (.slice a n cap) n vs) : Sub w e size a n cap vs := by
  refine ⟨h.1, ?_⟩
  rcases h.2 with ⟨h2, h3⟩ | ⟨g, cap', cur, hv, hb, hg, h1, h2, h3, h4⟩
  · simp only [Value.slice.injEq] at h2
    obtain ⟨rfl, _, rfl⟩ := h2
    exact .inl ⟨rfl, h3, rfl⟩
  · simp only [Value.slice.injEq] at hv
    obtain ⟨rfl, _, rfl⟩ := hv
    refine .inr ⟨g, 0, cur, rfl, hg, h1, h2, by omega, fun j hj => ?_⟩
    rw [← h4, List.getElem?_take, if_pos hj, Nat.zero_add]; simp

theorem Sub.seg {w : World} {a : Option Addr} {n cap : Nat} {zs : List Int} (h : Sub w 5 1 a n cap (zs.map (Value.int .u8))) : Seg w a zs := by
  intro hne
  have hl : zs.length = n := by simpa using h.1
  have hp : 0 < n := by
    cases zs with
    | nil => exact absurd rfl hne
    | cons x r => simp at hl; omega
  obtain ⟨g, off, rfl, _, hc⟩ := h.some_ hp
  refine ⟨g, off, rfl, fun i hi => hc i _ ?_⟩
  rw [List.getElem?_map, List.getD_eq_getElem?_getD, List.getElem?_eq_getElem hi]; rfl

set_option maxHeartbeats 2000000 in
theorem drop_any (rb : Nat) (room : Int) (s : S) (a : Option Addr) (n c m : Nat) (w : World) (hB : Bf w rb a n c room s) (hO : Ok room s) (hm : m ≤ rdy s.xs) :
    Calls Try.prog 25 #[.pointer (some ⟨rb, 0, none⟩), .int .i64 m] w fun r w' => ∃ a' n' c', r = .returned (.tuple #[]) ∧ Bf w' rb a' n' c' room ⟨s.off + m, s.high, s.fin, s.known, s.xs.drop m⟩ ∧ Keep (Fp rb a) w w' ∧ (∀ b, blk a' = some b → blk a = some b) := by
  have hlen := hB.len
  obtain ⟨r0, r1, o0, len, hi, h1, f0, f1, kn, un⟩ := hO
  have hrl := rdy_le s.xs
  have hrh := rdy_held s.xs
  have hhl := held_le s.xs
  have hr := hB.hd
  have c1 := hr.c1
  have c5 := hr.c5
  have c6 := hr.c6
  have c7 := hr.c7
  have g1 := hr.free 1
  have g5 := hr.free 5
  have g6 := hr.free 6
  have g7 := hr.free 7
  have hw1 : IntKind.i64.wrap (s.off + m) = s.off + m := by rw [IntKind.wrap_i64]; omega
  have hw5 : IntKind.i64.wrap ((rdy s.xs : Int) - m) = (rdy s.xs : Int) - m := by rw [IntKind.wrap_i64]; omega
  have hw6 : IntKind.i64.wrap ((heldN s.xs : Int) - m) = (heldN s.xs : Int) - m := by rw [IntKind.wrap_i64]; omega
  have e5 : (rdy s.xs : Int) - m = (rdy (s.xs.drop m) : Int) := by rw [rdy_drop hm]; omega
  have e6 : (heldN s.xs : Int) - m = (heldN (s.xs.drop m) : Int) := by rw [held_drop hm]; omega
  have HS := hid hB.sub
  have hsep := hB.sep
  have hmn : m ≤ n := by omega
  have HW := hid (show ∀ (a' : Option Addr) (n' c' : Nat) (w4 : World), Hd w4 rb room (s.off + m) s.high s.fin s.known ((rdy s.xs : Int) - m) ((heldN s.xs : Int) - m) a' n' c' → Sub w4 62 2 a' n' c' (flat2 (s.xs.drop m)) → blk a' ≠ some rb → Bf w4 rb a' n' c' room ⟨s.off + m, s.high, s.fin, s.known, s.xs.drop m⟩ from fun a' n' c' w4 k1 k2 k3 => ⟨by rw [e5, e6] at k1; exact k1, k2, k3⟩)
  have HR := hid hr
  have hcap : n ≤ c := by
    rcases hB.sub.2 with ⟨_, h1, h2⟩ | ⟨g, off, cur, _, _, h1, _⟩ <;> omega
  have HKA := hid (show ∀ a', Keep (Fp rb a) w ((((w.setCell ⟨rb, 1, none⟩ (.int .i64 (s.off + m))).setCell ⟨rb, 5, none⟩ (.int .i64 ((rdy s.xs : Int) - m))).setCell ⟨rb, 6, none⟩ (.int .i64 ((heldN s.xs : Int) - m))).setCell ⟨rb, 7, none⟩ a') from fun a' =>
    (((((Keep.refl (Fp rb a) w).setCell rb 1 _ (.inl (.inl rfl))).setCell rb 5 _ (.inl (.inl rfl))).setCell rb 6 _ (.inl (.inl rfl))).setCell rb 7 _ (.inl (.inl rfl))))
  have HKB := hid (show ∀ a', Keep (fun k => k = rb) w ((((w.setCell ⟨rb, 1, none⟩ (.int .i64 (s.off + m))).setCell ⟨rb, 5, none⟩ (.int .i64 ((rdy s.xs : Int) - m))).setCell ⟨rb, 6, none⟩ (.int .i64 ((heldN s.xs : Int) - m))).setCell ⟨rb, 7, none⟩ a') from fun a' =>
    (((((Keep.refl (fun k => k = rb) w).setCell rb 1 _ (.inl rfl)).setCell rb 5 _ (.inl rfl)).setCell rb 6 _ (.inl rfl)).setCell rb 7 _ (.inl rfl)))
  have HLN := hid hlen
  clear hr hB e5 e6 len hi h1 f0 f1 kn un hrl hrh hhl hlen hm
  generalize (rdy s.xs : Int) = rd at *
  generalize (heldN s.xs : Int) = hl at *
  by_cases hz : m = n
  · subst hz
    go_enter Try.func25, Try.ntmps25
    go_wp2
    all_goals go_end0
    all_goals
      refine ⟨rfl, none, ⟨0, 0, HW.out none 0 0 _ (((((HR.out.off_ _).ready_ _).held_ _).list_ _ _ _).list_ none 0 0) ?_ (by simp [blk])⟩, (HKA.out _).setCell rb 7 _ (.inl (.inl rfl)), fun b hb => by cases hb⟩
      rw [List.drop_of_length_le (by rw [HLN.out]; exact Nat.le_refl _)]
      exact sub_nil _ _ _
  · have hne : ¬ c = m := by omega
    have hnm : ((n - m : Nat) : Int) ≠ 0 := by omega
    have hnm' : (((n - m : Nat) : Int) == 0) = false := by simp; omega
    obtain ⟨g, o, rfl, _⟩ := HS.out.some_ (show 0 < n by omega)
    have HSB := hid (HS.out.slice hmn (some ⟨g, o + m * 2, none⟩) (by rw [if_neg hne]; simp only [Option.map_some, addr_add]))
    go_enter Try.func25, Try.ntmps25
    go_wp2
    go_end0
    refine ⟨some ⟨g, o + m * 2, none⟩, n - m, c - m, rfl, HW.out _ _ _ _ ((((HR.out.off_ _).ready_ _).held_ _).list_ _ _ _) ?_ hsep, HKA.out _, fun b hb => hb⟩
    rw [← flat2_drop]
    exact HSB.out.keep (HKB.out _) (fun b hb e => hsep (by rw [← e]; exact hb))

theorem vals_take (xs : Sl) (k : Nat) : vals (xs.take k) = (vals xs).take k := by simp [vals]

/-- The bytes that are read so far, and noughts behind them. -/
def part (xs : Sl) (m i : Nat) : List Int := (vals xs).take i ++ List.replicate (m - i) 0
theorem part_zero (xs : Sl) (m : Nat) : part xs m 0 = List.replicate m 0 := by simp [part]
theorem part_full (xs : Sl) (m : Nat) : part xs m m = vals (xs.take m) := by simp [part, vals_take]
theorem part_step {xs : Sl} {m i : Nat} (hi : i < m) (hx : m ≤ xs.length) : (part xs m i).set i ((at_ xs i).getD 0) = part xs m (i + 1) := by
  have hl : ((vals xs).take i).length = i := by rw [List.length_take, vals_len]; omega
  unfold part
  rw [List.set_append_right _ _ (by omega)]
  rw [hl, Nat.sub_self, show m - i = (m - (i + 1)) + 1 by omega, List.replicate_succ, List.set_cons_zero]
  have hg : (vals xs)[i]? = some ((at_ xs i).getD 0) := by
    rw [List.getElem?_eq_getElem (by rw [vals_len]; omega), ← vals_get, List.getD_eq_getElem?_getD, List.getElem?_eq_getElem (by rw [vals_len]; omega)]; rfl
  rw [show List.take (i + 1) (vals xs) = List.take i (vals xs) ++ [(at_ xs i).getD 0] from by rw [List.take_add_one, hg]; rfl, List.append_assoc]
  rfl

set_option maxHeartbeats 4000000 in
theorem read_any (rb : Nat) (room : Int) (s : S) (a : Option Addr) (n c : Nat) (q : Int) (w : World) (hB : Bf w rb a n c room s) (hO : Ok room s) :
    Calls Try.prog 11 #[.pointer (some ⟨rb, 0, none⟩), .int .i64 q] w fun r w' => ∃ a' n' c' D, r = .returned (.tuple #[.slice (some ⟨D, 0, none⟩) (readM s q) (readM s q), .bool (endOf (readSt s q))]) ∧ Bf w' rb a' n' c' room (readSt s q) ∧ Sub w' 5 1 (some ⟨D, 0, none⟩) (readM s q) (readM s q) ((vals (s.xs.take (readM s q))).map (.int .u8)) ∧ w.heap.size ≤ D ∧ Keep (Fp rb a) w w' ∧ (∀ b, blk a' = some b → blk a = some b) := by
  obtain ⟨i0, hi, hz0, hz1, hz2⟩ := info_parts info5
  have hlen := hB.len
  have hrl := rdy_le s.xs
  have hml := readM_le s q
  have hm : min (max 0 q) (rdy s.xs : Int) = (readM s q : Int) := by unfold readM; omega
  have HE := hid (show readSt s q = ⟨s.off + readM s q, s.high, s.fin, s.known, s.xs.drop (readM s q)⟩ from rfl)
  have hn : n ≤ 65536 := by have := hO.len; have := hO.r1; omega
  have c5 := hB.hd.c5
  have HB := hid hB
  have HO := hid hO
  generalize hM : readM s q = m at *
  have hmn : m ≤ n := by omega
  have HML := hid hml
  have HLN := hid hlen
  clear hB hO hml hlen hrl hM
  go_enter Try.func11, Try.ntmps11
  go_wp2_with (at_make; refine wpList_make_full _ rfl _ _ 28 rfl w.heap.size 5 i0 (.int .u8 0) 1 Try.underlying28 hi hz0 hz1 .i64 .i64 _ _ m rfl rfl rfl rfl (by rw [hz2]; omega) (by unfold maxLen; omega) (Nat.le_refl _) ?_; intro w1 hown hgr)
  rw [made_zero] at hown
  have HS1 := hid (sub_of_own hown)
  have HQ1 := hid ((Q.refl w).grown hgr)
  clear hown hgr
  go_loopw [18, 6] (fun i _ wr => ∃ j : Nat, j ≤ m ∧ i = .int .i64 j ∧ Sub wr 5 1 (some ⟨w.heap.size, 0, none⟩) m m ((part s.xs m j).map (.int .u8)) ∧ Keep (fun k => k = w.heap.size) w1 wr) (fun i _ _ => m - (intOf i).toNat)
  case atStart => exact ⟨0, Nat.zero_le _, rfl, by rw [part_zero]; exact HS1.out, Keep.refl _ _⟩
  case round =>
    obtain ⟨j, hj, rfl, hsj, hkj⟩ := hrel
    have HBJ := hid ((HB.out.q HQ1.out).keep hkj (fun i hi e => by have := HB.out.lt i hi; omega))
    by_cases hlt : j < m
    · have hlt' : (j : Int) < (m : Int) := by omega
      have hjn : j < n := by omega
      have hjn' : (j : Int) < (n : Int) := by omega
      have hwi : IntKind.i64.wrap ((j : Int) + 1) = ((j + 1 : Nat) : Int) := by rw [IntKind.wrap_i64]; omega
      have c7 := HBJ.out.hd.c7
      obtain ⟨g, o, rfl, hfz, d0, d1⟩ := slot_cells HBJ.out.sub hjn
      obtain ⟨g', o', e', hfz', hc'⟩ := hsj.some_ (show 0 < m by omega)
      cases e'
      have hcj : wr.cell? ⟨w.heap.size, 0 + j, none⟩ = some (.int .u8 ((part s.xs m j).getD j 0)) := hc' j _ (by
        have : j < (part s.xs m j).length := by simp [part, vals_len, HLN.out]; omega
        rw [List.getElem?_map, List.getD_eq_getElem?_getD, List.getElem?_eq_getElem this]; rfl)
      have fj := hfz' (0 + j)
      have HS2 := hid (hsj.set rfl (show j < m * 1 by omega) (.int .u8 ((at_ s.xs j).getD 0)))
      have HK2 := hid (hkj.setCell w.heap.size (0 + j) (.int .u8 ((at_ s.xs j).getD 0)) (.inl rfl))
      rw [← List.map_set, part_step hlt (by rw [HLN.out]; exact hmn)] at HS2
      simp only [Nat.zero_add] at hcj fj HS2 HK2
      clear hfz hfz' hc' hsj hkj d1 HBJ hj
      generalize (part s.xs m j).getD j 0 = y0 at *
      generalize (at_ s.xs j).getD 0 = y at *
      go_wp2
      go_roundw
      case rel => exact ⟨j + 1, by omega, by go_num, HS2.out, HK2.out⟩
      case measure => simp [intOf]; omega
    · obtain rfl : j = m := by omega
      have HSJ := hid hsj
      have HKJ := hid hkj
      clear hsj hkj hj hlt
      rw [part_full] at HSJ
      go_wp2_with fail
      refine (drop_any rb room s a n c j wr HBJ.out HO.out HML.out).mono ?_
      rintro e w2 ⟨a', n', c', rfl, hb2, hk2, hbb⟩
      have c1 := hb2.hd.c1
      have c3 := hb2.hd.c3
      have c4 := hb2.hd.c4
      have FIN := hid (show ∀ k, Bf (w2.drewN k) rb a' n' c' room ⟨s.off + j, s.high, s.fin, s.known, s.xs.drop j⟩ ∧ Sub (w2.drewN k) 5 1 (some ⟨w.heap.size, 0, none⟩) j j ((vals (s.xs.take j)).map (.int .u8)) ∧ Keep (Fp rb a) w (w2.drewN k) from fun k => ⟨hb2.q ((Q.refl w2).drewN k), (HSJ.out.keep hk2 (fun b hb e => by
          have e' : w.heap.size = b := by simpa [blk] using hb
          have := HB.out.lt b e; omega)).q ((Q.refl w2).drewN k), ((((Keep.ofQ HQ1.out).trans' HKJ.out (fun i hi e => by omega)).trans hk2).drewN k)⟩)
      have HBB := hid hbb
      clear hb2 hk2 hbb
      simp only at c1 c3 c4
      cases hkn : s.known
      · rw [hkn] at c4
        go_wp2
        go_quiet (fail)
        go_wp2
        go_ret2
        rw [HE.out]
        exact ⟨a', n', c', w.heap.size, by simp [endOf, hkn], (FIN.out nq).1, (FIN.out nq).2.1, Nat.le_refl _, (FIN.out nq).2.2, HBB.out⟩
      · rw [hkn] at c4
        go_wp2
        go_quiet (fail)
        go_wp2
        go_ret2
        rw [HE.out]
        exact ⟨a', n', c', w.heap.size, by simp [endOf, hkn]; rfl, (FIN.out nq).1, (FIN.out nq).2.1, Nat.le_refl _, (FIN.out nq).2.2, HBB.out⟩
end Go.Proofs.Ytdgkeidpoodmeaa
