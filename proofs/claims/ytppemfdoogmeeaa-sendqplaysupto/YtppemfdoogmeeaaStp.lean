/-
  What the law's own step answers and leaves, for each call of a script: for the walk of the law SendqPlays.
-/
import Derived.Test.YtppemfdoogmeeaaPair
import Derived.Test.YtppemfdoogmeeaaRefW
import Derived.Test.YtppemfdoogmeeaaRefN
import Derived.Test.YtppemfdoogmeeaaRefT
import Derived.Test.YtppemfdoogmeeaaLose
import Derived.Test.YtppemfdoogmeeaaThr
import Derived.Deep.RegionHeld3
namespace Go.Proofs.Ytppemfdoogmeeaa
open Go.RowKit
set_option linter.unusedVariables false

theorem pair_step4 {w w2 w3 : World} {rb : Nat} {d m d' m' : Sv} {rd : Nat} {x y x' y' : Sv} {room : Int} {s s' : S} (h : Inv2 w rb d m rd x y room s) (k2 : Keep (Fp rb d m) w w2) (b2 : Bf w2 rb d' m' room s') (f2 : ∀ i, Fp rb d' m' i → Fp rb d m i ∨ w.heap.size ≤ i)
    (k3 : Keep (Fp rd x y) w2 w3) (r3 : Rw w3 rd x' y' room s') (f3 : ∀ i, Fp rd x' y' i → Fp rd x y i ∨ w2.heap.size ≤ i) (o : Ok room s') : Inv2 w3 rb d' m' rd x' y' room s' ∧ Keep (fun i => Fp rb d m i ∨ Fp rd x y i) w w3 := by
  have z2 := k2.size
  have d2 : ∀ i, Fp rb d' m' i → ¬ Fp rd x y i := fun i hi hF => by
    rcases f2 i hi with hh | hh
    · exact h.ap i hh hF
    · have := h.rw.lt i hF; omega
  refine ⟨⟨b2.keep k3 d2, r3, o, fun i hi hF => ?_⟩, (k2.mono (fun i _ e => .inl e)).trans (k3.mono (fun i _ e => .inr e))⟩
  rcases f3 i hF with hh | hh
  · exact d2 i hi hh
  · have := b2.lt i hi; omega

/-- The state behind a call. -/
def stS (room : Int) (s : S) (z : Cl) : S :=
  if z.kd = 1 then wrS room s z.zs else if z.kd = 2 then fiS s else if z.kd = 3 then nxS s z.p z.q else if z.kd = 4 then tuS s true z.p z.q z.f else if z.kd = 5 then tuS s false z.p z.q z.f else s
theorem stS_len {room : Int} {s : S} (h : Ok room s) (z : Cl) : (stS room s z).ms.length ≤ s.ms.length + 65536 := by
  unfold stS
  split
  · rw [wr_len]
    have h1 := h.r1
    have h2 := bas_le s
    unfold wrN
    split
    · omega
    · omega
  · split
    · show s.ms.length ≤ _; omega
    · split
      · rw [nxS_ms, rg_len]; omega
      · split
        · rw [tu_len]; omega
        · split
          · rw [tu_len]; omega
          · omega

def agg (z : Cl) : Value := .agg #[.int .i64 z.kd, .int .i64 z.p, .int .i64 z.q, .slice z.da z.dn z.dc, .bool z.f]
/-- What the step answers and leaves. -/
def StAns (w : World) (rb : Nat) (d m : Sv) (rd : Nat) (x y : Sv) (room : Int) (s' : S) (e : Ending) (w' : World) : Prop := e = .returned (.bool true) ∧ Both w w' rb d m rd x y room s'

set_option maxHeartbeats 8000000 in
set_option maxRecDepth 100000 in
theorem step_write (rb : Nat) (d m : Sv) (rd : Nat) (x y : Sv) (room : Int) (s : S) (z : Cl) (w : World) (h : Inv2 w rb d m rd x y room s) (hL : s.ms.length + 65536 ≤ 1099511627776) (hz : Good w z) (hn : z.dn ≤ 140737488351232) (hd : z.zs ≠ [] → ∀ b, blk z.da = some b → ¬ Fp rb d m b ∧ ¬ Fp rd x y b) (hk : z.kd = 1) :
    Calls Try.prog 16 #[.pointer (some ⟨rb, 0, none⟩), .pointer (some ⟨rd, 0, none⟩), .agg #[.int .i64 z.kd, .int .i64 z.p, .int .i64 z.q, .slice z.da z.dn z.dc, .bool z.f]] w fun e w' => StAns w rb d m rd x y room (stS room s z) e w'  := by
  have HST := hid (show stS room s z = wrS room s z.zs by unfold stS; rw [if_pos hk])
  have HWW := hid (h.bf.lt)
  have HWR := hid (h.rw.lt)
  have QX := hid ((Q.refl w).alloc (.cells #[.int .i64 z.kd, .int .i64 z.p, .int .i64 z.q, .slice z.da z.dn z.dc, .bool z.f] 38))
  have X1 := hid (show Thr (w.alloc (.cells #[.int .i64 z.kd, .int .i64 z.p, .int .i64 z.q, .slice z.da z.dn z.dc, .bool z.f] 38)) w.heap.size z from heap_alloc_new w _)
  have IX := hid (h.q QX.out)
  have XF := hid (show ¬ Fp rb d m w.heap.size from fun e => by have := h.bf.lt _ e; omega)
  have XR := hid (show ¬ Fp rd x y w.heap.size from fun e => by have := h.rw.lt _ e; omega)
  have x0 := X1.out.c0
  have GG := hid hz
  have GD := hid hd
  have HL := hid hL
  have HN := hid hn
  clear h hL hz hd hn
  rw [hk] at x0
  go_enter Try.func16, Try.ntmps16
  have x3 := X1.out.c3
  go_wp2_with fail
  rw [← hk]
  generalize w.alloc (.cells #[.int .i64 z.kd, .int .i64 z.p, .int .i64 z.q, .slice z.da z.dn z.dc, .bool z.f] 38) = w0 at *
  refine (copy_any z.da z.dn z.dc z.zs w0 GG.out.len (by have := HN.out; omega) (GG.out.seg.q QX.out)).mono ?_
  rintro e w1 ⟨g, rfl, hq1, hs1, hg⟩
  have X2 := hid (show Thr w1 w.heap.size z from (Below.block hq1 w.heap.size (lt_of_block X1.out)).trans X1.out)
  have I1 := hid (IX.out.q hq1)
  have HG := hid (show w.heap.size < g from by have := lt_of_block X1.out; omega)
  have HG1 := hid (show g < w1.heap.size from hs1.lt g rfl)
  have HS1 := hid hs1
  have HQ01 := hid (QX.out.trans hq1)
  have Z1 := hid (GG.out.seg.q HQ01.out)
  have NP := hid (show ¬ Fp rb d m g from fun e => by have := HWW.out g e; have := HG.out; omega)
  clear hq1 hs1 hg IX X1 x0 x3
  go_wp2_with fail
  refine (write_any rb d m room s (some ⟨g, 0, none⟩) z.dn z.dn z.zs w1 I1.out.bf I1.out.ok HS1.out.seg GG.out.len (Nat.le_refl _) (by have := HN.out; omega) (fun _ b hb e => by
    have e' : g = b := by simpa [blk] using hb
    exact NP.out (by rw [e']; exact e))).mono ?_
  rintro e w2 ⟨d1, m1, rfl, hb2, hk2, hf2⟩
  have X3 := hid (X2.out.keep hk2 XF.out)
  have x3 := X3.out.c3
  have HB2 := hid hb2
  have HK2 := hid hk2
  have HF2 := hid hf2
  have HR2 := hid (I1.out.mid hk2)
  have HS2 := hid (HS1.out.keep hk2 (fun b hb e => by
    have e' : g = b := by simpa [blk] using hb
    exact NP.out (by rw [e']; exact e)))
  have Z2 := hid (Z1.out.keep' hk2 (fun hne b hb => (GD.out hne b hb).1))
  clear hb2 hk2 hf2
  go_wp2_with fail
  refine (rwrite_any rd x y room s z.da z.dn z.dc z.zs w2 HR2.out I1.out.ok HL.out Z2.out GG.out.len (by have := HN.out; omega) (fun hne b hb => (GD.out hne b hb).2)).mono ?_
  rintro e wr3 ⟨x1, y1, rfl, hr3, hk3, hf3⟩
  have NR := hid (show ¬ Fp rd x y g from fun e => by have := HWR.out g e; have := HG.out; omega)
  have X4 := hid (X3.out.keep hk3 XR.out)
  have x3b := X4.out.c3
  obtain ⟨i3, k3⟩ := pair_step4 I1.out HK2.out HB2.out HF2.out hk3 hr3 hf3 (ok_wr I1.out.ok z.zs)
  rw [← HST.out] at i3
  have hsz1 := HQ01.out.size
  have hsz2 := HK2.out.size
  have F1 := hid (show ∀ i, Fp rb d1 m1 i → Fp rb d m i ∨ w.heap.size ≤ i from fun i hi => or_right (HF2.out i hi) (fun h => by omega))
  have F2 := hid (show ∀ i, Fp rd x1 y1 i → Fp rd x y i ∨ w.heap.size ≤ i from fun i hi => or_right (hf3 i hi) (fun h => by omega))
  have NG1 := hid (show ¬ Fp rb d1 m1 g from fun e => by
    rcases HF2.out g e with h | h
    · exact NP.out h
    · have := HG1.out; omega)
  have NG2 := hid (show ¬ Fp rd x1 y1 g from fun e => by
    rcases hf3 g e with h | h
    · exact NR.out h
    · have := HG1.out; omega)
  have GW := hid (show w.heap.size ≤ g from by have := HG.out; omega)
  have KW := hid (show Keep (fun i => Fp rb d m i ∨ Fp rd x y i) w wr3 from (Keep.ofQ HQ01.out).trans k3)
  have I2 := hid i3
  have HSA := hid (HS2.out.keep hk3 (fun b hb e => by
    have e' : g = b := by simpa [blk] using hb
    exact NR.out (by rw [e']; exact e)))
  have Z3 := hid (Z2.out.keep' hk3 (fun hne b hb => (GD.out hne b hb).2))
  have HLN := hid (show z.dn ≤ 140737488351232 from HN.out)
  clear hr3 hk3 hf3 i3 k3 hsz1 hsz2 HB2 HK2 HF2 HR2 HS2 Z2 X2 X3 X4 NP NR HS1 Z1 HG HG1
  go_wp2_with fail
  refine (same_any (some ⟨g, 0, none⟩) z.da z.dn z.dn z.dc z.zs wr3 HSA.out.seg Z3.out GG.out.len (by have := HN.out; omega)).mono ?_
  rintro e w3 ⟨rfl, k, rfl⟩
  have I3 := hid (I2.out.q ((Q.refl wr3).drewN k))
  have K3 := hid (KW.out.drewN k)
  have HS3 := hid (HSA.out.q ((Q.refl wr3).drewN k))
  clear I2 KW HSA Z3 x3 x3b
  generalize wr3.drewN k = w3 at *
  have q1 : ((wrN room s z.dn : Int) == (wrN room s z.dn : Int)) = true := by simp
  have q2 : (wrE s == wrE s) = true := by simp
  generalize wrN room s z.dn = n5 at *
  generalize wrE s = e5 at *
  go_wp2
  go_loopw [50, 13] (fun i _ wr => ∃ j : Nat, j ≤ z.dn ∧ i = .int .i64 j ∧ (∃ us : List Int, Sub wr 5 1 (some ⟨g, 0, none⟩) z.dn z.dn (us.map (.int .u8))) ∧ Keep (fun k => k = g) w3 wr) (fun i _ _ => z.dn - (intOf i).toNat)
  case atStart => exact ⟨0, Nat.zero_le _, rfl, ⟨_, HS3.out⟩, Keep.refl _ _⟩
  case round =>
    obtain ⟨j, hj, rfl, ⟨us, hsj⟩, hkj⟩ := hrel
    by_cases hlt : j < z.dn
    · have hlt' : (j : Int) < (z.dn : Int) := by omega
      have hul : us.length = z.dn := by simpa using hsj.1
      have hwi : IntKind.i64.wrap ((j : Int) + 1) = ((j + 1 : Nat) : Int) := by rw [IntKind.wrap_i64]; have := HLN.out; omega
      obtain ⟨g', o', e', hfz', hc'⟩ := hsj.some_ (show 0 < z.dn by omega)
      cases e'
      have hcj : wr.cell? ⟨g, j, none⟩ = some (.int .u8 (us.getD j 0)) := (by have := hc' j (.int .u8 (us.getD j 0)) (by
        rw [List.getElem?_map, List.getD_eq_getElem?_getD, List.getElem?_eq_getElem (by omega)]; rfl); rwa [Nat.zero_add] at this)
      have fj := hfz' j
      have HSS := hid (show ∀ y, Sub (wr.setCell ⟨g, j, none⟩ (.int .u8 y)) 5 1 (some ⟨g, 0, none⟩) z.dn z.dn ((us.set j y).map (.int .u8)) from fun y => by
        have := hsj.set rfl (show j < z.dn * 1 by omega) (.int .u8 y)
        rw [Nat.zero_add] at this
        rwa [List.map_set])
      have HKK := hid (show ∀ y, Keep (fun k => k = g) w3 (wr.setCell ⟨g, j, none⟩ (.int .u8 y)) from fun y => hkj.setCell g j _ (.inl rfl))
      clear hfz' hc' hsj hkj hj
      generalize us.getD j 0 = y0 at *
      go_wp2
      go_roundw
      case rel => exact ⟨j + 1, by omega, by go_num, ⟨_, HSS.out _⟩, HKK.out _⟩
      case measure => simp [intOf]; omega
    · have hge : decide ((z.dn : Int) < (z.dn : Int)) = false := by simp
      obtain rfl : j = z.dn := by omega
      have FB := hid (show Both w wr rb d m rd x y room (stS room s z) from
        ⟨d1, m1, x1, y1, ⟨I3.out.bf.keep hkj (fun i hi e => NG1.out (by rw [← e]; exact hi)), I3.out.rw.keep hkj (fun i hi e => NG2.out (by rw [← e]; exact hi)), I3.out.ok, I3.out.ap⟩, K3.out.trans' hkj (fun i hi e => by have := GW.out; omega), F1.out, F2.out⟩)
      clear hsj hkj hj hlt
      go_wp2
      go_ret
      exact ⟨by first | rfl | simp, FB.out⟩

set_option maxHeartbeats 8000000 in
set_option maxRecDepth 100000 in
theorem step_fin (rb : Nat) (d m : Sv) (rd : Nat) (x y : Sv) (room : Int) (s : S) (z : Cl) (w : World) (h : Inv2 w rb d m rd x y room s) (hL : s.ms.length + 65536 ≤ 1099511627776) (hz : Good w z) (hn : z.dn ≤ 140737488351232) (hd : z.zs ≠ [] → ∀ b, blk z.da = some b → ¬ Fp rb d m b ∧ ¬ Fp rd x y b) (hk : z.kd = 2) :
    Calls Try.prog 16 #[.pointer (some ⟨rb, 0, none⟩), .pointer (some ⟨rd, 0, none⟩), .agg #[.int .i64 z.kd, .int .i64 z.p, .int .i64 z.q, .slice z.da z.dn z.dc, .bool z.f]] w fun e w' => StAns w rb d m rd x y room (stS room s z) e w'  := by
  have HST := hid (show stS room s z = fiS s by unfold stS; rw [if_neg (by omega), if_pos hk])
  have HWW := hid (h.bf.lt)
  have HWR := hid (h.rw.lt)
  have QX := hid ((Q.refl w).alloc (.cells #[.int .i64 z.kd, .int .i64 z.p, .int .i64 z.q, .slice z.da z.dn z.dc, .bool z.f] 38))
  have X1 := hid (show Thr (w.alloc (.cells #[.int .i64 z.kd, .int .i64 z.p, .int .i64 z.q, .slice z.da z.dn z.dc, .bool z.f] 38)) w.heap.size z from heap_alloc_new w _)
  have IX := hid (h.q QX.out)
  have XF := hid (show ¬ Fp rb d m w.heap.size from fun e => by have := h.bf.lt _ e; omega)
  have XR := hid (show ¬ Fp rd x y w.heap.size from fun e => by have := h.rw.lt _ e; omega)
  have x0 := X1.out.c0
  have GG := hid hz
  have GD := hid hd
  have HL := hid hL
  have HN := hid hn
  clear h hL hz hd hn
  rw [hk] at x0
  go_enter Try.func16, Try.ntmps16
  go_wp2_with fail
  rw [← hk]
  generalize w.alloc (.cells #[.int .i64 z.kd, .int .i64 z.p, .int .i64 z.q, .slice z.da z.dn z.dc, .bool z.f] 38) = w0 at *
  refine (finish_any rb d m room s w0 IX.out.bf).mono ?_
  rintro e w1 ⟨rfl, hb1, hk1⟩
  have HB1 := hid hb1
  have HK1 := hid (show Keep (Fp rb d m) w0 w1 from hk1.mono (fun i _ e => .inl e))
  have HR1 := hid (IX.out.mid HK1.out)
  clear hb1 hk1 x0
  go_wp2_with fail
  refine (rfinish_any rd x y room s w1 HR1.out).mono ?_
  rintro e w2 ⟨rfl, hr2, hk2⟩
  have FIN := hid (show Both w w2 rb d m rd x y room (stS room s z) from by
    rw [HST.out]
    exact Both.pre QX.out (pair_step IX.out HK1.out HB1.out (fun i hi => .inl hi) (hk2.mono (fun i _ e => .inl e)) hr2 (fun i hi => .inl hi) (ok_fi IX.out.ok)))
  clear hr2 hk2
  have q2 : (wrE s == wrE s) = true := by simp
  generalize wrE s = e5 at *
  go_wp2
  go_ret
  exact ⟨by first | rfl | simp, FIN.out⟩

set_option maxHeartbeats 8000000 in
set_option maxRecDepth 100000 in
theorem step_none (rb : Nat) (d m : Sv) (rd : Nat) (x y : Sv) (room : Int) (s : S) (z : Cl) (w : World) (h : Inv2 w rb d m rd x y room s) (hL : s.ms.length + 65536 ≤ 1099511627776) (hz : Good w z) (hn : z.dn ≤ 140737488351232) (hd : z.zs ≠ [] → ∀ b, blk z.da = some b → ¬ Fp rb d m b ∧ ¬ Fp rd x y b) (h1 : ¬ z.kd = 1) (h2 : ¬ z.kd = 2) (h3 : ¬ z.kd = 3) (h4 : ¬ z.kd = 4) (h5 : ¬ z.kd = 5) :
    Calls Try.prog 16 #[.pointer (some ⟨rb, 0, none⟩), .pointer (some ⟨rd, 0, none⟩), .agg #[.int .i64 z.kd, .int .i64 z.p, .int .i64 z.q, .slice z.da z.dn z.dc, .bool z.f]] w fun e w' => StAns w rb d m rd x y room (stS room s z) e w'  := by
  have HST := hid (show stS room s z = s by unfold stS; rw [if_neg h1, if_neg h2, if_neg h3, if_neg h4, if_neg h5])
  have b1 : (z.kd == 1) = false := by simpa using h1
  have b2 : (z.kd == 2) = false := by simpa using h2
  have b3 : (z.kd == 3) = false := by simpa using h3
  have b4 : (z.kd == 4) = false := by simpa using h4
  have b5 : (z.kd == 5) = false := by simpa using h5
  have HWW := hid (h.bf.lt)
  have HWR := hid (h.rw.lt)
  have QX := hid ((Q.refl w).alloc (.cells #[.int .i64 z.kd, .int .i64 z.p, .int .i64 z.q, .slice z.da z.dn z.dc, .bool z.f] 38))
  have X1 := hid (show Thr (w.alloc (.cells #[.int .i64 z.kd, .int .i64 z.p, .int .i64 z.q, .slice z.da z.dn z.dc, .bool z.f] 38)) w.heap.size z from heap_alloc_new w _)
  have IX := hid (h.q QX.out)
  have XF := hid (show ¬ Fp rb d m w.heap.size from fun e => by have := h.bf.lt _ e; omega)
  have XR := hid (show ¬ Fp rd x y w.heap.size from fun e => by have := h.rw.lt _ e; omega)
  have x0 := X1.out.c0
  have GG := hid hz
  have GD := hid hd
  have HL := hid hL
  have HN := hid hn
  clear h hL hz hd hn
  have FIN := hid (show Both w (w.alloc (.cells #[.int .i64 z.kd, .int .i64 z.p, .int .i64 z.q, .slice z.da z.dn z.dc, .bool z.f] 38)) rb d m rd x y room (stS room s z) from by
    rw [HST.out]
    exact Both.pre QX.out (both_same IX.out (Q.refl _)))
  clear h1 h2 h3 h4 h5
  generalize z.kd = kd at *
  go_enter Try.func16, Try.ntmps16
  go_wp2
  go_ret
  exact ⟨rfl, FIN.out⟩

set_option maxHeartbeats 8000000 in
set_option maxRecDepth 100000 in
theorem step_next (rb : Nat) (d m : Sv) (rd : Nat) (x y : Sv) (room : Int) (s : S) (z : Cl) (w : World) (h : Inv2 w rb d m rd x y room s) (hL : s.ms.length + 65536 ≤ 1099511627776) (hz : Good w z) (hn : z.dn ≤ 140737488351232) (hd : z.zs ≠ [] → ∀ b, blk z.da = some b → ¬ Fp rb d m b ∧ ¬ Fp rd x y b) (hk : z.kd = 3) :
    Calls Try.prog 16 #[.pointer (some ⟨rb, 0, none⟩), .pointer (some ⟨rd, 0, none⟩), .agg #[.int .i64 z.kd, .int .i64 z.p, .int .i64 z.q, .slice z.da z.dn z.dc, .bool z.f]] w fun e w' => StAns w rb d m rd x y room (stS room s z) e w'  := by
  have HST := hid (show stS room s z = nxS s z.p z.q by unfold stS; rw [if_neg (by omega), if_neg (by omega), if_pos hk])
  have HWW := hid (h.bf.lt)
  have HWR := hid (h.rw.lt)
  have QX := hid ((Q.refl w).alloc (.cells #[.int .i64 z.kd, .int .i64 z.p, .int .i64 z.q, .slice z.da z.dn z.dc, .bool z.f] 38))
  have X1 := hid (show Thr (w.alloc (.cells #[.int .i64 z.kd, .int .i64 z.p, .int .i64 z.q, .slice z.da z.dn z.dc, .bool z.f] 38)) w.heap.size z from heap_alloc_new w _)
  have IX := hid (h.q QX.out)
  have XF := hid (show ¬ Fp rb d m w.heap.size from fun e => by have := h.bf.lt _ e; omega)
  have XR := hid (show ¬ Fp rd x y w.heap.size from fun e => by have := h.rw.lt _ e; omega)
  have x0 := X1.out.c0
  have GG := hid hz
  have GD := hid hd
  have HL := hid hL
  have HN := hid hn
  clear h hL hz hd hn
  rw [hk] at x0
  go_enter Try.func16, Try.ntmps16
  have x1 := X1.out.c1
  have x2 := X1.out.c2
  go_wp2_with fail
  rw [← hk]
  generalize w.alloc (.cells #[.int .i64 z.kd, .int .i64 z.p, .int .i64 z.q, .slice z.da z.dn z.dc, .bool z.f] 38) = w0 at *
  refine (next_any rb d m room s z.p z.q w0 IX.out.bf IX.out.ok (by have := HL.out; omega)).mono ?_
  rintro e w1 ⟨D, rfl, hb1, hr1, hD1, hk1⟩
  have X2 := hid (X1.out.keep hk1 XF.out)
  have x1b := X2.out.c1
  have x2b := X2.out.c2
  have HB1 := hid hb1
  have HK1 := hid hk1
  have HR1 := hid (IX.out.mid hk1)
  have HD1 := hid hr1
  have HDF := hid hD1
  have HDL := hid (show D.n ≤ 1099511627776 from by
    have h1 := hr1.len
    have h2 := nx_len IX.out.ok z.p z.q
    have h3 := nx_in IX.out.ok z.p z.q
    have := HL.out
    omega)
  clear hb1 hr1 hD1 hk1 x0 x1 x2
  go_wp2_with fail
  refine (rnext_any rd x y room s z.p z.q w1 HR1.out IX.out.ok (by have := HL.out; omega)).mono ?_
  rintro e w2 ⟨E, rfl, hr2, hE2, hF2, hk2⟩
  obtain ⟨i2, k2⟩ := pair_step4 IX.out HK1.out HB1.out (fun i hi => .inl hi) hk2 hr2 (fun i hi => .inl hi) (ok_nx IX.out.ok z.p z.q)
  rw [← HST.out] at i2
  have I2 := hid i2
  have KW := hid (show Keep (fun i => Fp rb d m i ∨ Fp rd x y i) w w2 from (Keep.ofQ QX.out).trans k2)
  have HE2 := hid hE2
  have HDB := hid (show ∀ b, blk D.a = some b → w.heap.size ≤ b ∧ ¬ Fp rb d m b ∧ ¬ Fp rd x y b from fun b hb => by
    have h1 := HDF.out b hb
    have h2 := QX.out.size
    exact ⟨by omega, fun e => by have := HWW.out b e; omega, fun e => by have := HWR.out b e; omega⟩)
  have HD2 := hid (HD1.out.keep hk2 (fun b hb e => (HDB.out b hb).2.2 e))
  have hDE : E.n = D.n := by rw [← hE2.len, ← HD1.out.len]
  clear hr2 hE2 hF2 hk2 i2 k2 x1b x2b HB1 HK1 HR1 HD1 HDF X1 X2 IX
  rw [hDE]
  clear hDE
  obtain ⟨da, dn, dc⟩ := D
  obtain ⟨ea, en, ec⟩ := E
  simp only at HDL
  go_wp2_with fail
  refine (same_any da ea dn dc ec (nxD s z.p z.q) w2 HD2.out.seg HE2.out.seg (by have := HD2.out.1; simpa using this) (by have := HDL.out; omega)).mono ?_
  rintro e w3 ⟨rfl, k, rfl⟩
  have I3 := hid (I2.out.q ((Q.refl w2).drewN k))
  have K3 := hid (KW.out.drewN k)
  have HS3 := hid (HD2.out.q ((Q.refl w2).drewN k))
  clear I2 KW HD2 HE2
  generalize w2.drewN k = w3 at *
  have q1 : ((nxP s z.p z.q : Int) == (nxP s z.p z.q : Int)) = true := by simp
  have q2 : (nxF s z.p z.q == nxF s z.p z.q) = true := by simp
  have q3 : (nxO s z.p z.q == nxO s z.p z.q) = true := by simp
  have HLN := hid (show dn ≤ 1099511627776 from HDL.out)
  generalize nxP s z.p z.q = n5 at *
  generalize nxF s z.p z.q = f5 at *
  generalize nxO s z.p z.q = o5 at *
  by_cases h0 : dn = 0
  · have FB := hid (show Both w w3 rb d m rd x y room (stS room s z) from ⟨d, m, x, y, I3.out, K3.out, fun i hi => .inl hi, fun i hi => .inl hi⟩)
    subst h0
    go_wp2
    go_loopw [109, 23] (fun i _ wr => i = .int .i64 0 ∧ wr = w3) (fun i _ _ => 0)
    case atStart => exact ⟨rfl, rfl⟩
    case round =>
      obtain ⟨rfl, rfl⟩ := hrel
      go_wp2
      go_ret
      exact ⟨by first | rfl | simp, FB.out⟩
  · obtain ⟨g, go, ha, _, _⟩ := row_cells (d := ⟨da, dn, dc⟩) HS3.out (show 0 < dn by omega)
    simp only at ha
    subst ha
    have NG1 := hid (HDB.out g rfl).2.1
    have NG2 := hid (HDB.out g rfl).2.2
    have GW := hid (HDB.out g rfl).1
    have F1 := hid (show ∀ i, Fp rb d m i → Fp rb d m i ∨ w.heap.size ≤ i from fun i hi => .inl hi)
    have F2 := hid (show ∀ i, Fp rd x y i → Fp rd x y i ∨ w.heap.size ≤ i from fun i hi => .inl hi)
    clear h0
    go_wp2
    go_loopw [109, 23] (fun i _ wr => ∃ j : Nat, j ≤ dn ∧ i = .int .i64 j ∧ (∃ us : List Int, Sub wr 5 1 (some ⟨g, go, none⟩) dn dc (us.map (.int .u8))) ∧ Keep (fun k => k = g) w3 wr) (fun i _ _ => dn - (intOf i).toNat)
    case atStart => exact ⟨0, Nat.zero_le _, rfl, ⟨_, HS3.out⟩, Keep.refl _ _⟩
    case round =>
      obtain ⟨j, hj, rfl, ⟨us, hsj⟩, hkj⟩ := hrel
      by_cases hlt : j < dn
      · have hlt' : (j : Int) < (dn : Int) := by omega
        have hul : us.length = dn := by simpa using hsj.1
        have hwi : IntKind.i64.wrap ((j : Int) + 1) = ((j + 1 : Nat) : Int) := by rw [IntKind.wrap_i64]; have := HLN.out; omega
        obtain ⟨g', o', e', hfz', hc'⟩ := hsj.some_ (show 0 < dn by omega)
        cases e'
        have hcj : wr.cell? ⟨g, go + j, none⟩ = some (.int .u8 (us.getD j 0)) := hc' j _ (by
          rw [List.getElem?_map, List.getD_eq_getElem?_getD, List.getElem?_eq_getElem (by omega)]; rfl)
        have fj := hfz' (go + j)
        have HSS := hid (show ∀ y, Sub (wr.setCell ⟨g, go + j, none⟩ (.int .u8 y)) 5 1 (some ⟨g, go, none⟩) dn dc ((us.set j y).map (.int .u8)) from fun y => by
          have := hsj.set rfl (show j < dn * 1 by omega) (.int .u8 y)
          rwa [List.map_set])
        have HKK := hid (show ∀ y, Keep (fun k => k = g) w3 (wr.setCell ⟨g, go + j, none⟩ (.int .u8 y)) from fun y => hkj.setCell g (go + j) _ (.inl rfl))
        clear hfz' hc' hsj hkj hj
        generalize us.getD j 0 = y0 at *
        go_wp2
        go_roundw
        case rel => exact ⟨j + 1, by omega, by go_num, ⟨_, HSS.out _⟩, HKK.out _⟩
        case measure => simp [intOf]; omega
      · have hge : decide ((dn : Int) < (dn : Int)) = false := by simp
        obtain rfl : j = dn := by omega
        have FB := hid (show Both w wr rb d m rd x y room (stS room s z) from
          ⟨d, m, x, y, ⟨I3.out.bf.keep hkj (fun i hi e => NG1.out (by rw [← e]; exact hi)), I3.out.rw.keep hkj (fun i hi e => NG2.out (by rw [← e]; exact hi)), I3.out.ok, I3.out.ap⟩, K3.out.trans' hkj (fun i hi e => by have := GW.out; omega), F1.out, F2.out⟩)
        clear hsj hkj hj hlt
        go_wp2
        go_ret
        exact ⟨by first | rfl | simp, FB.out⟩

set_option maxHeartbeats 8000000 in
set_option maxRecDepth 100000 in
theorem step_ack (rb : Nat) (d m : Sv) (rd : Nat) (x y : Sv) (room : Int) (s : S) (z : Cl) (w : World) (h : Inv2 w rb d m rd x y room s) (hL : s.ms.length + 65536 ≤ 1099511627776) (hz : Good w z) (hn : z.dn ≤ 140737488351232) (hd : z.zs ≠ [] → ∀ b, blk z.da = some b → ¬ Fp rb d m b ∧ ¬ Fp rd x y b) (hk : z.kd = 4) :
    Calls Try.prog 16 #[.pointer (some ⟨rb, 0, none⟩), .pointer (some ⟨rd, 0, none⟩), .agg #[.int .i64 z.kd, .int .i64 z.p, .int .i64 z.q, .slice z.da z.dn z.dc, .bool z.f]] w fun e w' => StAns w rb d m rd x y room (stS room s z) e w'  := by
  have HST := hid (show stS room s z = tuS s true z.p z.q z.f by unfold stS; rw [if_neg (by omega), if_neg (by omega), if_neg (by omega), if_pos hk])
  have HWW := hid (h.bf.lt)
  have HWR := hid (h.rw.lt)
  have QX := hid ((Q.refl w).alloc (.cells #[.int .i64 z.kd, .int .i64 z.p, .int .i64 z.q, .slice z.da z.dn z.dc, .bool z.f] 38))
  have X1 := hid (show Thr (w.alloc (.cells #[.int .i64 z.kd, .int .i64 z.p, .int .i64 z.q, .slice z.da z.dn z.dc, .bool z.f] 38)) w.heap.size z from heap_alloc_new w _)
  have IX := hid (h.q QX.out)
  have XF := hid (show ¬ Fp rb d m w.heap.size from fun e => by have := h.bf.lt _ e; omega)
  have XR := hid (show ¬ Fp rd x y w.heap.size from fun e => by have := h.rw.lt _ e; omega)
  have x0 := X1.out.c0
  have GG := hid hz
  have GD := hid hd
  have HL := hid hL
  have HN := hid hn
  clear h hL hz hd hn
  have bb : ∀ n : Int, n ≠ 4 → (z.kd == n) = false := fun n hn => by rw [hk]; simp; omega
  have b1 := bb 1 (by omega)
  have b2 := bb 2 (by omega)
  have b3 := bb 3 (by omega)
  have bk : (z.kd == 4) = true := by rw [hk]; rfl
  clear bb hk
  have x1 := X1.out.c1
  have x2 := X1.out.c2
  have x4 := X1.out.c4
  have AK := hid (fun (u : World) (hu : Q (w.alloc (.cells #[.int .i64 z.kd, .int .i64 z.p, .int .i64 z.q, .slice z.da z.dn z.dc, .bool z.f] 38)) u) => ack_any rb d m room s z.p z.q z.f u (IX.out.bf.q hu) IX.out.ok (by have := HL.out; omega) GG.out.q0)
  have TU := hid (fun (u : World) (hu : Rw u rd x y room s) => rturn_any rd x y room s true z.p z.q z.f u hu IX.out.ok (by have := HL.out; omega))
  have FIN := hid (show ∀ (u w1 w2 : World) (d1 m1 : Sv), Q (w.alloc (.cells #[.int .i64 z.kd, .int .i64 z.p, .int .i64 z.q, .slice z.da z.dn z.dc, .bool z.f] 38)) u → Bf w1 rb d1 m1 room (tuS s true z.p z.q z.f) → Keep (Fp rb d m) u w1 → (∀ i, Fp rb d1 m1 i → Fp rb d m i) → Rw w2 rd x y room (tuS s true z.p z.q z.f) → Keep (Fp rd x y) w1 w2 → Both w w2 rb d m rd x y room (stS room s z) from fun u w1 w2 d1 m1 hu h1 h2 h3 h4 h5 => by
    rw [HST.out]
    exact Both.pre (QX.out.trans hu) (pair_step (IX.out.q hu) h2 h1 (fun i hi => .inl (h3 i hi)) h5 h4 (fun i hi => .inl hi) (ok_tu IX.out.ok true z.p z.q z.f)))
  have MID := hid (show ∀ (u w1 : World), Q (w.alloc (.cells #[.int .i64 z.kd, .int .i64 z.p, .int .i64 z.q, .slice z.da z.dn z.dc, .bool z.f] 38)) u → Keep (Fp rb d m) u w1 → Rw w1 rd x y room s from fun u w1 hu h2 => (IX.out.q hu).mid h2)
  have CEL := hid (show ∀ (u w1 : World), Q (w.alloc (.cells #[.int .i64 z.kd, .int .i64 z.p, .int .i64 z.q, .slice z.da z.dn z.dc, .bool z.f] 38)) u → Keep (Fp rb d m) u w1 → Thr w1 w.heap.size z from fun u w1 hu h2 => (X1.out.keep (Keep.ofQ (F := Fp rb d m) hu) XF.out).keep h2 XF.out)
  have CEL2 := hid (show ∀ (w1 w2 : World), Thr w1 w.heap.size z → Keep (Fp rd x y) w1 w2 → Thr w2 w.heap.size z from fun w1 w2 h1 h2 => h1.keep h2 XR.out)
  have q2 : (tuE s z.p z.q z.f == tuE s z.p z.q z.f) = true := by simp
  go_enter Try.func16, Try.ntmps16
  go_wp2
  go_region_held3 (fun w' => w'.cell? ⟨w.heap.size, 1, none⟩ = some (.int .i64 z.p) ∧ w'.cell? ⟨w.heap.size, 2, none⟩ = some (.int .i64 z.q) ∧ w'.cell? ⟨w.heap.size, 4, none⟩ = some (.bool z.f)) (simp [go_sem, *])
    (first
      | (go_at_call 23; refine (AK.out _ (by repeat (first | exact Q.refl _ | apply Q.drewN | apply Q.drew))).mono ?_; rintro e wa ⟨da', ma', rfl, hb, hka, hfa⟩; have t0 := CEL.out _ wa (by repeat (first | exact Q.refl _ | apply Q.drewN | apply Q.drew)) hka; have RA := hid (MID.out _ wa (by repeat (first | exact Q.refl _ | apply Q.drewN | apply Q.drew)) hka); have FA := hid (fun w2 h4 h5 => FIN.out _ wa w2 da' ma' (by repeat (first | exact Q.refl _ | apply Q.drewN | apply Q.drew)) hb hka hfa h4 h5); have TA := hid t0; have k1 := t0.c1; have k2 := t0.c2; have k4 := t0.c4; clear hb hka hfa t0)
      | (go_at_call 31; refine (TU.out _ RA.out).mono ?_; rintro e wb ⟨rfl, hrb, hkb⟩; have t1 := CEL2.out _ wb TA.out hkb; have FBB := hid (FA.out wb hrb hkb); have l1 := t1.c1; have l2 := t1.c2; have l4 := t1.c4; clear hrb hkb t1))
  go_wp2
  go_ret
  exact ⟨by first | rfl | simp, FBB.out⟩

set_option maxHeartbeats 8000000 in
set_option maxRecDepth 100000 in
theorem step_lose (rb : Nat) (d m : Sv) (rd : Nat) (x y : Sv) (room : Int) (s : S) (z : Cl) (w : World) (h : Inv2 w rb d m rd x y room s) (hL : s.ms.length + 65536 ≤ 1099511627776) (hz : Good w z) (hn : z.dn ≤ 140737488351232) (hd : z.zs ≠ [] → ∀ b, blk z.da = some b → ¬ Fp rb d m b ∧ ¬ Fp rd x y b) (hk : z.kd = 5) :
    Calls Try.prog 16 #[.pointer (some ⟨rb, 0, none⟩), .pointer (some ⟨rd, 0, none⟩), .agg #[.int .i64 z.kd, .int .i64 z.p, .int .i64 z.q, .slice z.da z.dn z.dc, .bool z.f]] w fun e w' => StAns w rb d m rd x y room (stS room s z) e w'  := by
  have HST := hid (show stS room s z = tuS s false z.p z.q z.f by unfold stS; rw [if_neg (by omega), if_neg (by omega), if_neg (by omega), if_neg (by omega), if_pos hk])
  have HWW := hid (h.bf.lt)
  have HWR := hid (h.rw.lt)
  have QX := hid ((Q.refl w).alloc (.cells #[.int .i64 z.kd, .int .i64 z.p, .int .i64 z.q, .slice z.da z.dn z.dc, .bool z.f] 38))
  have X1 := hid (show Thr (w.alloc (.cells #[.int .i64 z.kd, .int .i64 z.p, .int .i64 z.q, .slice z.da z.dn z.dc, .bool z.f] 38)) w.heap.size z from heap_alloc_new w _)
  have IX := hid (h.q QX.out)
  have XF := hid (show ¬ Fp rb d m w.heap.size from fun e => by have := h.bf.lt _ e; omega)
  have XR := hid (show ¬ Fp rd x y w.heap.size from fun e => by have := h.rw.lt _ e; omega)
  have x0 := X1.out.c0
  have GG := hid hz
  have GD := hid hd
  have HL := hid hL
  have HN := hid hn
  clear h hL hz hd hn
  have bb : ∀ n : Int, n ≠ 5 → (z.kd == n) = false := fun n hn => by rw [hk]; simp; omega
  have b1 := bb 1 (by omega)
  have b2 := bb 2 (by omega)
  have b3 := bb 3 (by omega)
  have b4 := bb 4 (by omega)
  have bk : (z.kd == 5) = true := by rw [hk]; rfl
  clear bb hk
  have x1 := X1.out.c1
  have x2 := X1.out.c2
  have x4 := X1.out.c4
  have AK := hid (fun (u : World) (hu : Q (w.alloc (.cells #[.int .i64 z.kd, .int .i64 z.p, .int .i64 z.q, .slice z.da z.dn z.dc, .bool z.f] 38)) u) => lose_any rb d m room s z.p z.q z.f u (IX.out.bf.q hu) IX.out.ok (by have := HL.out; omega) GG.out.q0)
  have TU := hid (fun (u : World) (hu : Rw u rd x y room s) => rturn_any rd x y room s false z.p z.q z.f u hu IX.out.ok (by have := HL.out; omega))
  have FIN := hid (show ∀ (u w1 w2 : World) (d1 m1 : Sv), Q (w.alloc (.cells #[.int .i64 z.kd, .int .i64 z.p, .int .i64 z.q, .slice z.da z.dn z.dc, .bool z.f] 38)) u → Bf w1 rb d1 m1 room (tuS s false z.p z.q z.f) → Keep (Fp rb d m) u w1 → (∀ i, Fp rb d1 m1 i → Fp rb d m i) → Rw w2 rd x y room (tuS s false z.p z.q z.f) → Keep (Fp rd x y) w1 w2 → Both w w2 rb d m rd x y room (stS room s z) from fun u w1 w2 d1 m1 hu h1 h2 h3 h4 h5 => by
    rw [HST.out]
    exact Both.pre (QX.out.trans hu) (pair_step (IX.out.q hu) h2 h1 (fun i hi => .inl (h3 i hi)) h5 h4 (fun i hi => .inl hi) (ok_tu IX.out.ok false z.p z.q z.f)))
  have MID := hid (show ∀ (u w1 : World), Q (w.alloc (.cells #[.int .i64 z.kd, .int .i64 z.p, .int .i64 z.q, .slice z.da z.dn z.dc, .bool z.f] 38)) u → Keep (Fp rb d m) u w1 → Rw w1 rd x y room s from fun u w1 hu h2 => (IX.out.q hu).mid h2)
  have CEL := hid (show ∀ (u w1 : World), Q (w.alloc (.cells #[.int .i64 z.kd, .int .i64 z.p, .int .i64 z.q, .slice z.da z.dn z.dc, .bool z.f] 38)) u → Keep (Fp rb d m) u w1 → Thr w1 w.heap.size z from fun u w1 hu h2 => (X1.out.keep (Keep.ofQ (F := Fp rb d m) hu) XF.out).keep h2 XF.out)
  have CEL2 := hid (show ∀ (w1 w2 : World), Thr w1 w.heap.size z → Keep (Fp rd x y) w1 w2 → Thr w2 w.heap.size z from fun w1 w2 h1 h2 => h1.keep h2 XR.out)
  have q2 : (tuE s z.p z.q z.f == tuE s z.p z.q z.f) = true := by simp
  go_enter Try.func16, Try.ntmps16
  go_wp2
  go_region_held3 (fun w' => w'.cell? ⟨w.heap.size, 1, none⟩ = some (.int .i64 z.p) ∧ w'.cell? ⟨w.heap.size, 2, none⟩ = some (.int .i64 z.q) ∧ w'.cell? ⟨w.heap.size, 4, none⟩ = some (.bool z.f)) (simp [go_sem, *])
    (first
      | (go_at_call 22; refine (AK.out _ (by repeat (first | exact Q.refl _ | apply Q.drewN | apply Q.drew))).mono ?_; rintro e wa ⟨da', ma', rfl, hb, hka, hfa⟩; have t0 := CEL.out _ wa (by repeat (first | exact Q.refl _ | apply Q.drewN | apply Q.drew)) hka; have RA := hid (MID.out _ wa (by repeat (first | exact Q.refl _ | apply Q.drewN | apply Q.drew)) hka); have FA := hid (fun w2 h4 h5 => FIN.out _ wa w2 da' ma' (by repeat (first | exact Q.refl _ | apply Q.drewN | apply Q.drew)) hb hka hfa h4 h5); have TA := hid t0; have k1 := t0.c1; have k2 := t0.c2; have k4 := t0.c4; clear hb hka hfa t0)
      | (go_at_call 31; refine (TU.out _ RA.out).mono ?_; rintro e wb ⟨rfl, hrb, hkb⟩; have t1 := CEL2.out _ wb TA.out hkb; have FBB := hid (FA.out wb hrb hkb); have l1 := t1.c1; have l2 := t1.c2; have l4 := t1.c4; clear hrb hkb t1))
  go_wp2
  go_ret
  exact ⟨by first | rfl | simp, FBB.out⟩

/-- All together. -/
theorem step_any (rb : Nat) (d m : Sv) (rd : Nat) (x y : Sv) (room : Int) (s : S) (z : Cl) (w : World) (h : Inv2 w rb d m rd x y room s) (hL : s.ms.length + 65536 ≤ 1099511627776) (hz : Good w z) (hn : z.dn ≤ 140737488351232) (hd : z.zs ≠ [] → ∀ b, blk z.da = some b → ¬ Fp rb d m b ∧ ¬ Fp rd x y b) :
    Calls Try.prog 16 #[.pointer (some ⟨rb, 0, none⟩), .pointer (some ⟨rd, 0, none⟩), .agg #[.int .i64 z.kd, .int .i64 z.p, .int .i64 z.q, .slice z.da z.dn z.dc, .bool z.f]] w fun e w' => StAns w rb d m rd x y room (stS room s z) e w'  := by
  by_cases h1 : z.kd = 1
  · exact step_write rb d m rd x y room s z w h hL hz hn hd h1
  · by_cases h2 : z.kd = 2
    · exact step_fin rb d m rd x y room s z w h hL hz hn hd h2
    · by_cases h3 : z.kd = 3
      · exact step_next rb d m rd x y room s z w h hL hz hn hd h3
      · by_cases h4 : z.kd = 4
        · exact step_ack rb d m rd x y room s z w h hL hz hn hd h4
        · by_cases h5 : z.kd = 5
          · exact step_lose rb d m rd x y room s z w h hL hz hn hd h5
          · exact step_none rb d m rd x y room s z w h hL hz hn hd h1 h2 h3 h4 h5
end Go.Proofs.Ytppemfdoogmeeaa
