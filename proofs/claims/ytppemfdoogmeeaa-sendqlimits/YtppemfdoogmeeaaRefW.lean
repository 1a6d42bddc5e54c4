/-
  What the document's own Write answers and does: a contract that the walk of the law SendqPlays uses.
-/
import Derived.Test.YtppemfdoogmeeaaRef
import Derived.Test.YtppemfdoogmeeaaStep
import Derived.Test.YtppemfdoogmeeaaWrite
import Derived.Test.YtppemfdoogmeeaaLaw
import Derived.BigRegion
namespace Go.Proofs.Ytppemfdoogmeeaa
open Go.RowKit
set_option linter.unusedVariables false

/-- append of one cell out of a new block of its own. -/
theorem app_one {w : World} {t e : TypeId} {z v : Value} {a : Option Addr} {n cap by_ : Nat} {vs : List Value} {i0 : TypeInfo} (ht : Try.prog.underlying t = some (.slice e)) (hi : Try.prog.info? e = some i0) (hz0 : i0.zero = some z) (hz1 : i0.size = 1) (hz2 : i0.bytes = by_) (hby : by_ ≤ 8) (hzs : z.cells.size = 1) (hv : v.oneCell' = true)
    (hs : Sub w e 1 a n cap vs) (hn : n ≤ 1099511627776) :
    ∃ a' cap' w', (Builtin.append_ #[t, t] t #[.slice a n cap, .slice (some ⟨w.heap.size, 0, none⟩) 1 1]).run Try.prog (w.alloc (.cells #[v] e)) = .ok (.slice a' (n + 1) cap') w' ∧ Sub w' e 1 a' (n + 1) cap' (vs ++ [v]) ∧ Keep (fun b => blk a = some b) w w' ∧ (∀ b, blk a' = some b → blk a = some b ∨ w.heap.size ≤ b) := by
  have hq : Q w (w.alloc (.cells #[v] e)) := (Q.refl w).alloc _
  have hg : (w.alloc (.cells #[v] e)).heap[w.heap.size]? = some (.cells #[v] e (0, 0)) := heap_alloc_new w _
  have hsrc : ∀ j u, [v][j]? = some u → (w.alloc (.cells #[v] e)).cell? ((⟨w.heap.size, 0, none⟩ : Addr).add j) = some u := by
    intro j u hj
    rw [addr_add, cell_of_row _ _ _ _ e (0, 0) hg, Nat.zero_add]
    simpa using hj
  have hmul : (n + 1 + (n + 1) / 4 + 192) * by_ ≤ 281474976710656 := Nat.le_trans (Nat.mul_le_mul_left _ hby) (by omega)
  obtain ⟨a', cap', w', hr, h1, h2, h3⟩ := sub_append (P := Try.prog) (ty := t) ht hi hz0 hz1 hz2 hzs (hs.q hq) (Src.ofSlice _ ht ⟨w.heap.size, 0, none⟩ 1 1 [v] (by simp) hsrc (by intro u hu; rw [List.mem_singleton.1 hu]; exact hv)) (by unfold maxLen; omega) hmul
  refine ⟨a', cap', w', hr, h1, (Keep.ofQ hq).trans h2, fun b hb => ?_⟩
  rcases h3 with h | h
  · exact .inl (by rw [← h]; exact hb)
  · rw [h] at hb
    simp at hb
    right
    have := hq.size
    omega
theorem row_one {w : World} {d : Sv} {zs : List Int} (v : Int) (h : Row w d zs) (hn : d.n ≤ 1099511627776) :
    ∃ d' w', (Builtin.append_ #[27, 27] 27 #[.slice d.a d.n d.c, .slice (some ⟨w.heap.size, 0, none⟩) 1 1]).run Try.prog (w.alloc (.cells #[.int .u8 v] 5)) = .ok (.slice d'.a d'.n d'.c) w' ∧ Row w' d' (zs ++ [v]) ∧ Keep (fun b => blk d.a = some b) w w' ∧ (∀ b, blk d'.a = some b → blk d.a = some b ∨ w.heap.size ≤ b) := by
  obtain ⟨i0, hi, hz0, hz1, hz2⟩ := info_parts info5
  obtain ⟨a', c', w', h1, h2, h3, h4⟩ := app_one (v := .int .u8 v) Try.underlying27 hi hz0 hz1 hz2 (by omega) rfl rfl h hn
  exact ⟨⟨a', d.n + 1, c'⟩, w', h1, by show Sub _ _ _ _ _ _ (u8s _); rw [show u8s (zs ++ [v]) = u8s zs ++ [.int .u8 v] from List.map_append]; exact h2, h3, h4⟩
theorem rown_one {w : World} {d : Sv} {zs : List Int} (v : Int) (h : RowN w d zs) (hn : d.n ≤ 1099511627776) :
    ∃ d' w', (Builtin.append_ #[34, 34] 34 #[.slice d.a d.n d.c, .slice (some ⟨w.heap.size, 0, none⟩) 1 1]).run Try.prog (w.alloc (.cells #[.int .i64 v] 3)) = .ok (.slice d'.a d'.n d'.c) w' ∧ RowN w' d' (zs ++ [v]) ∧ Keep (fun b => blk d.a = some b) w w' ∧ (∀ b, blk d'.a = some b → blk d.a = some b ∨ w.heap.size ≤ b) := by
  obtain ⟨i0, hi, hz0, hz1, hz2⟩ := info_parts info3
  obtain ⟨a', c', w', h1, h2, h3, h4⟩ := app_one (v := .int .i64 v) Try.underlying34 hi hz0 hz1 hz2 (by omega) rfl rfl h hn
  exact ⟨⟨a', d.n + 1, c'⟩, w', h1, by show Sub _ _ _ _ _ _ (i64s _); rw [show i64s (zs ++ [v]) = i64s zs ++ [.int .i64 v] from List.map_append]; exact h2, h3, h4⟩

theorem take_succ_at {zs : List Int} {j : Nat} (h : j < zs.length) : zs.take (j + 1) = zs.take j ++ [at_ zs j] := by
  rw [List.take_add_one, at_get h]; rfl

set_option maxHeartbeats 8000000 in
theorem rwrite_any (rd : Nat) (x y : Sv) (room : Int) (s : S) (da : Option Addr) (dn dc : Nat) (zs : List Int) (w : World) (hR : Rw w rd x y room s) (hO : Ok room s) (hL : s.ms.length + 65536 ≤ 1099511627776)
    (hz : Seg w da zs) (hl : zs.length = dn) (hdn : dn ≤ 140737488355328) (hd : zs ≠ [] → ∀ b, blk da = some b → ¬ Fp rd x y b) :
    Calls Try.prog 28 #[.pointer (some ⟨rd, 0, none⟩), .slice da dn dc] w fun e w' => ∃ x' y', e = .returned (.tuple #[.int .i64 (wrN room s dn), .int .i64 (wrE s)]) ∧ Rw w' rd x' y' room (wrS room s zs) ∧ Keep (Fp rd x y) w w' ∧ (∀ b, Fp rd x' y' b → Fp rd x y b ∨ w.heap.size ≤ b) := by
  have c4 := hR.hd.c4
  cases hf : s.fin
  · rw [hf] at c4
    have hbl := bas_le s
    have hle := wrN_le room s dn
    have hN : (wrN room s dn : Int) = min (dn : Int) (room - ((s.ms.length : Int) - bas s)) := by
      unfold wrN; rw [hf]; have := hO.room; simp; omega
    have HE := hid (show wrE s = 0 by unfold wrE; rw [hf]; rfl)
    have HWS := hid (show wrS room s zs = { s with bs := s.bs ++ zs.take (wrN room s dn), ms := s.ms ++ List.replicate (wrN room s dn) 0 } by rw [← hl]; rfl)
    have LF := hid (fun (w1 : World) (h : Rw w1 rd x y room s) => rleft_any rd x y room s w1 h hO (by omega))
    have hr1 := hO.r1
    have hroom := hO.room
    have hn6 : wrN room s dn ≤ 65536 := by omega
    have HR := hid hR
    have HZ := hid hz
    have HD := hid hd
    have HL := hid hl
    have HLN := hid hL
    have HOL := hid hO.len
    obtain ⟨left, hleft⟩ : ∃ left : Int, left = room - ((s.ms.length : Int) - bas s) := ⟨_, rfl⟩
    rw [← hleft] at LF hN
    generalize wrN room s dn = n at *
    have hn0 : n ≤ dn := hle
    clear hR hO hz hl hd hf hbl hroom hr1 hL hleft hle
    by_cases hg : left < (dn : Int)
    · have hg' : decide (left < (dn : Int)) = true := by simp [hg]
      obtain rfl : left = n := by omega
      clear hN
      go_enter Try.func28, Try.ntmps28
      go_wp2_with fail
      refine (LF.out w HR.out).mono ?_
      rintro e wa ⟨rfl, k, rfl⟩
      have HRa := hid (HR.out.q ((Q.refl w).drewN k))
      have HKa := hid ((Keep.refl (Fp rd x y) w).drewN k)
      generalize w.drewN k = wa at *
      go_wp2_with fail
      refine (LF.out wa HRa.out).mono ?_
      rintro e wb ⟨rfl, k2, rfl⟩
      have HR1 := hid (HRa.out.q ((Q.refl wa).drewN k2))
      have HK1 := hid (HKa.out.drewN k2)
      clear HRa HKa
      generalize wa.drewN k2 = w1 at *
      go_wp2
      go_loopw [7] (fun i wr => ∃ j : Nat, ∃ x1 y1 : Sv, j ≤ n ∧ i = .int .i64 j ∧ Hr wr rd room s.sent x1 y1 s.fin s.en ∧ Rr wr rd x1 y1 (s.bs ++ zs.take j) (s.ms ++ List.replicate j 0) ∧ Keep (Fp rd x y) w wr ∧ (∀ b, Fp rd x1 y1 b → Fp rd x y b ∨ w.heap.size ≤ b)) (fun i _ => n - (intOf i).toNat)
      case atStart => exact ⟨0, x, y, Nat.zero_le _, rfl, HR1.out.hd, by have := HR1.out.rs; simpa using this, HK1.out, fun b h => .inl h⟩
      case round =>
        obtain ⟨j, x1, y1, hj, rfl, hhj, hrj, hkj, hfj⟩ := hrel
        by_cases hlt : j < n
        · have hlt' : (j : Int) < (n : Int) := by omega
          have hjd' : (j : Int) < (dn : Int) := by omega
          have hjd : j < dn := by omega
          have hwi : IntKind.i64.wrap ((j : Int) + 1) = ((j + 1 : Nat) : Int) := by rw [IntKind.wrap_i64]; omega
          obtain ⟨db, doff, rfl, dz⟩ := seg_at (HZ.out.keep' hkj HD.out) HL.out hjd
          have hx1 : x1.n = s.ms.length + j := by have := hrj.sd.len; simp only [List.length_append, List.length_take] at this; have := HL.out; have := HOL.out; omega
          have hy1 : y1.n = s.ms.length + j := by have := hrj.sm.len; simp only [List.length_append, List.length_replicate] at this; omega
          have hdr := (Q.refl wr).drew
          obtain ⟨x2, w2, hr2, hrow2, hk2, hb2⟩ := row_one (zs.getD j 0) (hrj.q hdr).sd (by have := HLN.out; omega)
          have hh2 := (hhj.q hdr).keep hk2 hrj.e1
          have hy2 := (hrj.q hdr).sm.keep hk2 (fun b hb e => hrj.e3 b e hb)
          have hlt2 : rd < wr.heap.size := hhj.lt
          have hx2rd : blk x2.a ≠ some rd := fun e => by
            rcases hb2 rd e with h | h
            · exact hrj.e1 h
            · have : wr.drew.heap.size = wr.heap.size := rfl
              omega
          have hx2y : ∀ b, blk x2.a = some b → blk y1.a ≠ some b := fun b hb e => by
            rcases hb2 b hb with h | h
            · exact hrj.e3 b h e
            · have := (hrj.q hdr).sm.lt b e; omega
          have hh3 := hh2.data_ x2
          have hy3 := hy2.keep ((Keep.refl (fun k => k = rd) w2).setCell rd 2 (.slice x2.a x2.n x2.c) (.inl rfl)) (fun b hb e => hrj.e2 (by rw [hb, e]))
          have hx3 := hrow2.keep ((Keep.refl (fun k => k = rd) w2).setCell rd 2 (.slice x2.a x2.n x2.c) (.inl rfl)) (fun b hb e => hx2rd (by rw [hb, e]))
          obtain ⟨y2, w4, hr4, hrow4, hk4, hb4⟩ := rown_one 0 hy3 (by have := HLN.out; omega)
          have hh4 := hh3.keep hk4 hrj.e2
          have hx4 := hx3.keep hk4 (fun b hb e => hx2y b hb e)
          have hy2rd : blk y2.a ≠ some rd := fun e => by
            rcases hb4 rd e with h | h
            · exact hrj.e2 h
            · have := hh3.lt; omega
          have hx2y2 : ∀ b, blk x2.a = some b → blk y2.a ≠ some b := fun b hb e => by
            rcases hb4 b e with h | h
            · exact hx2y b hb h
            · have := hx3.lt b hb; omega
          have REL := hid (show Hr (w4.setCell ⟨rd, 3, none⟩ (.slice y2.a y2.n y2.c)) rd room s.sent x2 y2 s.fin s.en ∧ Rr (w4.setCell ⟨rd, 3, none⟩ (.slice y2.a y2.n y2.c)) rd x2 y2 (s.bs ++ zs.take (j + 1)) (s.ms ++ List.replicate (j + 1) 0) ∧ Keep (Fp rd x y) w (w4.setCell ⟨rd, 3, none⟩ (.slice y2.a y2.n y2.c)) ∧ (∀ b, Fp rd x2 y2 b → Fp rd x y b ∨ w.heap.size ≤ b) from by
            have hsz : w.heap.size ≤ wr.heap.size := hkj.size
            have hz3 : wr.heap.size ≤ (w2.setCell ⟨rd, 2, none⟩ (.slice x2.a x2.n x2.c)).heap.size := by have := hk2.size; simpa [World.setCell] using this
            refine ⟨hh4.state_ y2, ⟨?_, ?_, hx2rd, hy2rd, hx2y2⟩, ?_, ?_⟩
            · rw [take_succ_at (by rw [HL.out]; exact hjd), ← List.append_assoc]
              exact hx4.keep ((Keep.refl (fun k => k = rd) w4).setCell rd 3 _ (.inl rfl)) (fun b hb e => hx2rd (by rw [hb, e]))
            · rw [List.replicate_succ', ← List.append_assoc]
              exact hrow4.keep ((Keep.refl (fun k => k = rd) w4).setCell rd 3 _ (.inl rfl)) (fun b hb e => hy2rd (by rw [hb, e]))
            · have k2 := hkj.trans' (Keep.ofDrew hk2) (fun i hi e => by
                rcases hfj i (.inr (.inl e)) with h | h
                · exact h
                · omega)
              have k3 := k2.setCell rd 2 (.slice x2.a x2.n x2.c) (.inl (.inl rfl))
              have k4 := k3.trans' hk4 (fun i hi e => by
                rcases hfj i (.inr (.inr e)) with h | h
                · exact h
                · omega)
              exact k4.setCell rd 3 _ (.inl (.inl rfl))
            · rintro b (rfl | h | h)
              · exact .inl (.inl rfl)
              · rcases hb2 b h with h' | h'
                · exact hfj b (.inr (.inl h'))
                · have : wr.drew.heap.size = wr.heap.size := rfl
                  exact .inr (by omega)
              · rcases hb4 b h with h' | h'
                · exact hfj b (.inr (.inr h'))
                · exact .inr (by omega))
          have c2 := hhj.c2
          have c2a := (hhj.q ((Q.refl wr).alloc (.cells #[.int .u8 (zs.getD j 0)] 5))).c2
          have c2' := hh2.c2
          have f2' := hh2.free 2
          have c3 := hh3.c3
          have c3' := hh4.c3
          have f3' := hh4.free 3
          have HR2 := hid hr2
          rw [show (w2.setCell ⟨rd, 2, none⟩ (.slice x2.a x2.n x2.c)).heap.size = w2.heap.size from by simp [World.setCell]] at hr4
          clear hhj hrj hkj hfj hr2 hrow2 hk2 hb2 hh2 hy2 hlt2 hx2rd hx2y hh3 hy3 hx3 hrow4 hk4 hb4 hh4 hx4 hy2rd hx2y2 hdr hx1 hy1 hj hlt hjd
          generalize zs.getD j 0 = z at *
          go_wp2
          go_region_law (refine step_append rfl _ _ _ _ rfl (by simp [Act.eval]) (by simp [Act.eval]) HR2.out ?_)
          all_goals
            go_wp2_with (at_builtin; refine Lib.wpList_append_run _ rfl _ _ _ _ rfl _ _ rfl rfl _ _ hr4 ?_)
            go_roundw
            case rel => exact ⟨j + 1, x2, y2, by omega, by go_num, REL.out⟩
            case measure => simp [intOf]; omega
        · obtain rfl : j = n := by omega
          have FIN := hid (show Rw wr rd x1 y1 room (wrS room s zs) from by rw [HWS.out]; exact ⟨hhj, hrj⟩)
          have HKJ := hid hkj
          have HFJ := hid hfj
          clear hhj hrj hkj hfj hj hlt
          go_wp2
          go_ret2
          exact ⟨x1, y1, by rw [HE.out]; rfl, FIN.out, HKJ.out, HFJ.out⟩
    · have hg' : decide (left < (dn : Int)) = false := by simp; omega
      obtain rfl : dn = n := by omega
      clear hN
      go_enter Try.func28, Try.ntmps28
      go_wp2_with fail
      refine (LF.out w HR.out).mono ?_
      rintro e wa ⟨rfl, k, rfl⟩
      have HR1 := hid (HR.out.q ((Q.refl w).drewN k))
      have HK1 := hid ((Keep.refl (Fp rd x y) w).drewN k)
      generalize w.drewN k = w1 at *
      go_wp2
      go_loopw [7] (fun i wr => ∃ j : Nat, ∃ x1 y1 : Sv, j ≤ dn ∧ i = .int .i64 j ∧ Hr wr rd room s.sent x1 y1 s.fin s.en ∧ Rr wr rd x1 y1 (s.bs ++ zs.take j) (s.ms ++ List.replicate j 0) ∧ Keep (Fp rd x y) w wr ∧ (∀ b, Fp rd x1 y1 b → Fp rd x y b ∨ w.heap.size ≤ b)) (fun i _ => dn - (intOf i).toNat)
      case atStart => exact ⟨0, x, y, Nat.zero_le _, rfl, HR1.out.hd, by have := HR1.out.rs; simpa using this, HK1.out, fun b h => .inl h⟩
      case round =>
        obtain ⟨j, x1, y1, hj, rfl, hhj, hrj, hkj, hfj⟩ := hrel
        by_cases hlt : j < dn
        · have hlt' : (j : Int) < (dn : Int) := by omega
          have hjd : j < dn := hlt
          have hwi : IntKind.i64.wrap ((j : Int) + 1) = ((j + 1 : Nat) : Int) := by rw [IntKind.wrap_i64]; omega
          obtain ⟨db, doff, rfl, dz⟩ := seg_at (HZ.out.keep' hkj HD.out) HL.out hjd
          have hx1 : x1.n = s.ms.length + j := by have := hrj.sd.len; simp only [List.length_append, List.length_take] at this; have := HL.out; have := HOL.out; omega
          have hy1 : y1.n = s.ms.length + j := by have := hrj.sm.len; simp only [List.length_append, List.length_replicate] at this; omega
          have hdr := (Q.refl wr).drew
          obtain ⟨x2, w2, hr2, hrow2, hk2, hb2⟩ := row_one (zs.getD j 0) (hrj.q hdr).sd (by have := HLN.out; omega)
          have hh2 := (hhj.q hdr).keep hk2 hrj.e1
          have hy2 := (hrj.q hdr).sm.keep hk2 (fun b hb e => hrj.e3 b e hb)
          have hlt2 : rd < wr.heap.size := hhj.lt
          have hx2rd : blk x2.a ≠ some rd := fun e => by
            rcases hb2 rd e with h | h
            · exact hrj.e1 h
            · have : wr.drew.heap.size = wr.heap.size := rfl
              omega
          have hx2y : ∀ b, blk x2.a = some b → blk y1.a ≠ some b := fun b hb e => by
            rcases hb2 b hb with h | h
            · exact hrj.e3 b h e
            · have := (hrj.q hdr).sm.lt b e; omega
          have hh3 := hh2.data_ x2
          have hy3 := hy2.keep ((Keep.refl (fun k => k = rd) w2).setCell rd 2 (.slice x2.a x2.n x2.c) (.inl rfl)) (fun b hb e => hrj.e2 (by rw [hb, e]))
          have hx3 := hrow2.keep ((Keep.refl (fun k => k = rd) w2).setCell rd 2 (.slice x2.a x2.n x2.c) (.inl rfl)) (fun b hb e => hx2rd (by rw [hb, e]))
          obtain ⟨y2, w4, hr4, hrow4, hk4, hb4⟩ := rown_one 0 hy3 (by have := HLN.out; omega)
          have hh4 := hh3.keep hk4 hrj.e2
          have hx4 := hx3.keep hk4 (fun b hb e => hx2y b hb e)
          have hy2rd : blk y2.a ≠ some rd := fun e => by
            rcases hb4 rd e with h | h
            · exact hrj.e2 h
            · have := hh3.lt; omega
          have hx2y2 : ∀ b, blk x2.a = some b → blk y2.a ≠ some b := fun b hb e => by
            rcases hb4 b e with h | h
            · exact hx2y b hb h
            · have := hx3.lt b hb; omega
          have REL := hid (show Hr (w4.setCell ⟨rd, 3, none⟩ (.slice y2.a y2.n y2.c)) rd room s.sent x2 y2 s.fin s.en ∧ Rr (w4.setCell ⟨rd, 3, none⟩ (.slice y2.a y2.n y2.c)) rd x2 y2 (s.bs ++ zs.take (j + 1)) (s.ms ++ List.replicate (j + 1) 0) ∧ Keep (Fp rd x y) w (w4.setCell ⟨rd, 3, none⟩ (.slice y2.a y2.n y2.c)) ∧ (∀ b, Fp rd x2 y2 b → Fp rd x y b ∨ w.heap.size ≤ b) from by
            have hsz : w.heap.size ≤ wr.heap.size := hkj.size
            have hz3 : wr.heap.size ≤ (w2.setCell ⟨rd, 2, none⟩ (.slice x2.a x2.n x2.c)).heap.size := by have := hk2.size; simpa [World.setCell] using this
            refine ⟨hh4.state_ y2, ⟨?_, ?_, hx2rd, hy2rd, hx2y2⟩, ?_, ?_⟩
            · rw [take_succ_at (by rw [HL.out]; exact hjd), ← List.append_assoc]
              exact hx4.keep ((Keep.refl (fun k => k = rd) w4).setCell rd 3 _ (.inl rfl)) (fun b hb e => hx2rd (by rw [hb, e]))
            · rw [List.replicate_succ', ← List.append_assoc]
              exact hrow4.keep ((Keep.refl (fun k => k = rd) w4).setCell rd 3 _ (.inl rfl)) (fun b hb e => hy2rd (by rw [hb, e]))
            · have k2 := hkj.trans' (Keep.ofDrew hk2) (fun i hi e => by
                rcases hfj i (.inr (.inl e)) with h | h
                · exact h
                · omega)
              have k3 := k2.setCell rd 2 (.slice x2.a x2.n x2.c) (.inl (.inl rfl))
              have k4 := k3.trans' hk4 (fun i hi e => by
                rcases hfj i (.inr (.inr e)) with h | h
                · exact h
                · omega)
              exact k4.setCell rd 3 _ (.inl (.inl rfl))
            · rintro b (rfl | h | h)
              · exact .inl (.inl rfl)
              · rcases hb2 b h with h' | h'
                · exact hfj b (.inr (.inl h'))
                · have : wr.drew.heap.size = wr.heap.size := rfl
                  exact .inr (by omega)
              · rcases hb4 b h with h' | h'
                · exact hfj b (.inr (.inr h'))
                · exact .inr (by omega))
          have c2 := hhj.c2
          have c2a := (hhj.q ((Q.refl wr).alloc (.cells #[.int .u8 (zs.getD j 0)] 5))).c2
          have c2' := hh2.c2
          have f2' := hh2.free 2
          have c3 := hh3.c3
          have c3' := hh4.c3
          have f3' := hh4.free 3
          have HR2 := hid hr2
          rw [show (w2.setCell ⟨rd, 2, none⟩ (.slice x2.a x2.n x2.c)).heap.size = w2.heap.size from by simp [World.setCell]] at hr4
          clear hhj hrj hkj hfj hr2 hrow2 hk2 hb2 hh2 hy2 hlt2 hx2rd hx2y hh3 hy3 hx3 hrow4 hk4 hb4 hh4 hx4 hy2rd hx2y2 hdr hx1 hy1 hj hlt hjd
          generalize zs.getD j 0 = z at *
          go_wp2
          go_region_law (refine step_append rfl _ _ _ _ rfl (by simp [Act.eval]) (by simp [Act.eval]) HR2.out ?_)
          all_goals
            go_wp2_with (at_builtin; refine Lib.wpList_append_run _ rfl _ _ _ _ rfl _ _ rfl rfl _ _ hr4 ?_)
            go_roundw
            case rel => exact ⟨j + 1, x2, y2, by omega, by go_num, REL.out⟩
            case measure => simp [intOf]; omega
        · obtain rfl : j = dn := by omega
          have FIN := hid (show Rw wr rd x1 y1 room (wrS room s zs) from by rw [HWS.out]; exact ⟨hhj, hrj⟩)
          have HKJ := hid hkj
          have HFJ := hid hfj
          clear hhj hrj hkj hfj hj hlt
          go_wp2
          go_ret2
          exact ⟨x1, y1, by rw [HE.out]; rfl, FIN.out, HKJ.out, HFJ.out⟩
  · rw [hf] at c4
    have HE := hid (show wrE s = 40 from by unfold wrE; rw [hf]; rfl)
    have HN := hid (show wrN room s dn = 0 from by unfold wrN; rw [if_pos hf])
    have HS := hid (wrS_fin (room := room) hf zs)
    have HR := hid hR
    clear hR hO hz hd hf
    go_enter Try.func28, Try.ntmps28
    go_wp2
    go_ret2
    exact ⟨x, y, by rw [HE.out, HN.out]; rfl, by rw [HS.out]; exact HR.out, Keep.refl _ _, fun b h => .inl h⟩
end Go.Proofs.Ytppemfdoogmeeaa
