/-
  What the program's Write answers and does: a contract that the statements' walks use.
-/
import Derived.Test.YtppemfdoogmeeaaStep
import Derived.BigRegion
namespace Go.Proofs.Ytppemfdoogmeeaa
open Go.RowKit
set_option linter.unusedVariables false

theorem run_zeros_none {w : World} {a : Option Addr} {n c : Nat} {ty : TypeId} (hn : n ≤ c) : (Builtin.append_ #[27, 3] ty #[.slice a n c, .int .i64 0]).run Try.prog w = .ok (.slice a n c) w := by
  obtain ⟨i0, hi, hz0, hz1, hz2⟩ := info_parts info5
  have hw : IntKind.i64.wrap 0 = 0 := by rw [IntKind.wrap_i64]; omega
  cases a <;> simp [Builtin.append_, run_underlying Try.underlying27, run_underlying Try.underlying3, sizeOf, typeInfo, zeroValue, hi, hz0, asInt, asIntOf, hw, hn, storeCells]

/-- .. of any number of zeros. -/
theorem row_zeros_any {w : World} {d : Sv} {zs : List Int} {m : Nat} {ty : TypeId} (h : Row w d zs) (hn : d.n + m ≤ 1000000) :
    ∃ d' w', (Builtin.append_ #[27, 3] ty #[.slice d.a d.n d.c, .int .i64 m]).run Try.prog w = .ok (.slice d'.a d'.n d'.c) w' ∧ Row w' d' (zs ++ List.replicate m 0) ∧ Keep (fun b => blk d.a = some b) w w' ∧ (blk d'.a = blk d.a ∨ blk d'.a = some w.heap.size) := by
  rcases Nat.eq_zero_or_pos m with rfl | hm
  · exact ⟨d, w, run_zeros_none h.cap, by simpa using h, Keep.refl _ _, .inl rfl⟩
  · exact row_zeros h hm hn

theorem wrS_fin {room : Int} {s : S} (h : s.fin = true) (zs : List Int) : wrS room s zs = s := by
  have : wrN room s zs.length = 0 := by unfold wrN; rw [if_pos h]
  unfold wrS
  rw [this]
  simp

set_option maxHeartbeats 4000000 in
theorem write_any (rb : Nat) (d m : Sv) (room : Int) (s : S) (da : Option Addr) (dn dc : Nat) (zs : List Int) (w : World) (hB : Bf w rb d m room s) (hO : Ok room s)
    (hz : Seg w da zs) (hl : zs.length = dn) (hdc : dn ≤ dc) (hdn : dn ≤ 140737488355328) (hd : zs ≠ [] → ∀ b, blk da = some b → ¬ Fp rb d m b) :
    Calls Try.prog 18 #[.pointer (some ⟨rb, 0, none⟩), .slice da dn dc] w fun e w' => ∃ d' m', e = .returned (.tuple #[.int .i64 (wrN room s dn), .int .i64 (wrE s)]) ∧ Bf w' rb d' m' room (wrS room s zs) ∧ Keep (Fp rb d m) w w' ∧ (∀ b, Fp rb d' m' b → Fp rb d m b ∨ w.heap.size ≤ b) := by
  have c5 := hB.hd.c5
  cases hf : s.fin
  · rw [hf] at c5
    have hbl := bas_le s
    have hE : wrE s = 0 := by unfold wrE; rw [hf]; rfl
    have hN : min (dn : Int) (room - ((s.ms.length : Int) - bas s)) = wrN room s dn := by
      unfold wrN; rw [hf]; have := hO.room; simp; omega
    have hb0 := hB.dn
    have hb1 := hB.mn
    have hb2 := hO.len
    have hle := wrN_le room s dn
    have hNr : wrN room s dn ≤ room - ((s.ms.length : Int) - bas s) := by omega
    have hr1 := hO.r1
    have hSz : d.n + wrN room s dn ≤ 1000000 := by omega
    have hSm : m.n + wrN room s dn ≤ 1000000 := by omega
    have hWS : wrS room s zs = { s with bs := s.bs ++ zs.take (wrN room s dn), ms := s.ms ++ List.replicate (wrN room s dn) 0 } := by rw [← hl]; rfl
    have hBW := bas_wr room s zs
    have hdb : (s.bs ++ zs.take (wrN room s dn)).drop (bas s) = s.bs.drop (bas s) ++ zs.take (wrN room s dn) := List.drop_append_of_le_length (by omega)
    have hdm : (s.ms ++ List.replicate (wrN room s dn) 0).drop (bas s) = s.ms.drop (bas s) ++ List.replicate (wrN room s dn) 0 := List.drop_append_of_le_length (by omega)
    have HRM := hid (room_any rb d m room s w hB hO)
    have HB := hid hB
    have HZ := hid hz
    have HD := hid hd
    have HWS := hid hWS
    have HBW := hid hBW
    have HDB := hid hdb
    have HDM := hid hdm
    have HE := hid hE
    have HTL := hid (show (zs.take (wrN room s dn)).length = wrN room s dn from by rw [List.length_take]; omega)
    clear hB hO hz hd hWS hBW hdb hdm hE hf hb0 hb1 hb2 hNr hr1 hbl hl hdn
    generalize wrN room s dn = n at *
    have hnc : n ≤ dc := by omega
    go_enter Try.func18, Try.ntmps18
    go_wp2_with fail
    refine HRM.out.mono ?_
    rintro e w1 ⟨rfl, k, rfl⟩
    have hB1 := HB.out.q ((Q.refl w).drewN k)
    have HK1 := hid ((Keep.refl (Fp rb d m) w).drewN k)
    have HS1 := hid (show w.heap.size ≤ (w.drewN k).heap.size from Nat.le_refl _)
    have hZ1 := HZ.out.q ((Q.refl w).drewN k)
    generalize w.drewN k = w1 at *
    obtain ⟨d', w2, hr2, hrow2, hk2, hb2⟩ := row_append (ty := 27) (hB1.q ((Q.refl w1).drew)).rs.sd (src_seg (c := dc) (seg_take (hZ1.q ((Q.refl w1).drew)) n) HTL.out) hSz
    have hh2 := (hB1.q ((Q.refl w1).drew)).hd.keep hk2 hB1.rs.e1
    have hm2 := (hB1.q ((Q.refl w1).drew)).rs.sm.keep hk2 (fun b hb e => hB1.rs.e3 b e hb)
    have hlt1 : rb < w1.heap.size := hB1.hd.lt
    have hd'rb : blk d'.a ≠ some rb := by
      rcases hb2 with h | h
      · rw [h]; exact hB1.rs.e1
      · rw [h]; intro e; simp at e; omega
    have hd'm : ∀ b, blk d'.a = some b → blk m.a ≠ some b := by
      intro b hb
      rcases hb2 with h | h
      · rw [h] at hb; exact hB1.rs.e3 b hb
      · rw [h] at hb; simp at hb; intro e; have := hB1.rs.sm.lt b e; omega
    have hh3 := hh2.data_ d'
    have hm3 := hm2.keep ((Keep.refl (fun k => k = rb) w2).setCell rb 3 (.slice d'.a d'.n d'.c) (.inl rfl)) (fun b hb e => hB1.rs.e2 (by rw [hb, e]))
    have hd3 := hrow2.keep ((Keep.refl (fun k => k = rb) w2).setCell rb 3 (.slice d'.a d'.n d'.c) (.inl rfl)) (fun b hb e => hd'rb (by rw [hb, e]))
    obtain ⟨m', w4, hr4, hrow4, hk4, hb4⟩ := row_zeros_any (ty := 27) (m := n) hm3 hSm
    have hh4 := hh3.keep hk4 hB1.rs.e2
    have hd4 := hd3.keep hk4 (fun b hb e => hd'm b hb e)
    have hm'rb : blk m'.a ≠ some rb := by
      rcases hb4 with h | h
      · rw [h]; exact hB1.rs.e2
      · rw [h]; intro e; simp only [Option.some.injEq] at e; have := hh3.lt; omega
    have hd'm' : ∀ b, blk d'.a = some b → blk m'.a ≠ some b := by
      intro b hb
      rcases hb4 with h | h
      · rw [h]; exact hd'm b hb
      · rw [h]; intro e; simp only [Option.some.injEq] at e; have := hd3.lt b hb; omega
    have FIN := hid (show Bf (w4.setCell ⟨rb, 4, none⟩ (.slice m'.a m'.n m'.c)) rb d' m' room (wrS room s zs) ∧ Keep (Fp rb d m) w (w4.setCell ⟨rb, 4, none⟩ (.slice m'.a m'.n m'.c)) ∧ (∀ b, Fp rb d' m' b → Fp rb d m b ∨ w.heap.size ≤ b) from by
      refine ⟨⟨?_, ?_⟩, ?_, ?_⟩
      · rw [HBW.out, HWS.out]; exact hh4.marks_ m'
      · rw [HBW.out, HWS.out]
        have h1 := hrow4.keep ((Keep.refl (fun k => k = rb) w4).setCell rb 4 (.slice m'.a m'.n m'.c) (.inl rfl)) (fun b hb e => hm'rb (by rw [hb, e]))
        have h2 := hd4.keep ((Keep.refl (fun k => k = rb) w4).setCell rb 4 (.slice m'.a m'.n m'.c) (.inl rfl)) (fun b hb e => hd'rb (by rw [hb, e]))
        refine ⟨?_, ?_, hd'rb, hm'rb, hd'm'⟩
        · show Row _ d' (List.drop _ (s.bs ++ _)); rw [HDB.out]; exact h2
        · show Row _ m' (List.drop _ (s.ms ++ _)); rw [HDM.out]; exact h1
      · have k2 := HK1.out.trans' (Keep.ofDrew hk2) (fun i hi e => .inr (.inl e))
        have k3 := k2.setCell rb 3 (.slice d'.a d'.n d'.c) (.inl (.inl rfl))
        have k4 := k3.trans' hk4 (fun i hi e => .inr (.inr e))
        exact k4.setCell rb 4 _ (.inl (.inl rfl))
      · have hz3 : w1.heap.size ≤ (w2.setCell ⟨rb, 3, none⟩ (.slice d'.a d'.n d'.c)).heap.size := by have := hk2.size; simpa [World.setCell] using this
        rintro b (rfl | h | h)
        · exact .inl (.inl rfl)
        · rcases hb2 with h' | h'
          · exact .inl (.inr (.inl (by rw [← h']; exact h)))
          · rw [h'] at h
            have e' : w1.heap.size = b := by simpa using h
            have := HS1.out; exact .inr (by omega)
        · rcases hb4 with h' | h'
          · exact .inl (.inr (.inr (by rw [← h']; exact h)))
          · rw [h'] at h
            simp only [Option.some.injEq] at h
            have := HS1.out; exact .inr (by omega))
    have c3 := hB1.hd.c3
    have c3' := hh2.c3
    have f3' := hh2.free 3
    have c4 := hh3.c4
    have c4' := hh4.c4
    have f4' := hh4.free 4
    have HR2 := hid hr2
    clear hB1 hZ1 hr2 hrow2 hk2 hb2 hh2 hm2 hlt1 hd'rb hd'm hm3 hd3 hrow4 hk4 hb4 hh4 hd4 hm'rb hd'm' HK1 HS1 hh3
    go_wp2
    go_region_law (refine step_append rfl _ _ _ _ rfl (by simp [Act.eval]) (by simp [Act.eval]) HR2.out ?_)
    all_goals
      go_wp2_with (at_builtin; refine Lib.wpList_append_run _ rfl _ _ _ _ rfl _ _ rfl rfl _ _ hr4 ?_)
      go_ret2
      exact ⟨d', m', by rw [HE.out]; rfl, FIN.out.1, FIN.out.2.1, FIN.out.2.2⟩
  · rw [hf] at c5
    have HE := hid (show wrE s = 40 from by unfold wrE; rw [hf]; rfl)
    have HN := hid (show wrN room s dn = 0 from by unfold wrN; rw [if_pos hf])
    have HS := hid (wrS_fin (room := room) hf zs)
    have HB := hid hB
    clear hB hO hz hd hf
    go_enter Try.func18, Try.ntmps18
    go_wp2
    go_ret2
    exact ⟨d, m, by rw [HE.out, HN.out]; rfl, by rw [HS.out]; exact HB.out, Keep.refl _ _, fun b h => .inl h⟩
end Go.Proofs.Ytppemfdoogmeeaa
