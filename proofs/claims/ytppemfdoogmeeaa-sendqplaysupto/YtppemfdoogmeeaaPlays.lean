/-
  Proved: for every int and every script of calls that are together of bulk at most 1048576 the law turnpikelaw04.SendqPlays returns true, and its arguments read as they did. The condition is the second form's own: the bulk.
-/
import Derived.Test.YtppemfdoogmeeaaRows
import Derived.Test.YtppemfdoogmeeaaAwake
import Derived.Test.YtppemfdoogmeeaaRim
import Derived.Test.YtppemfdoogmeeaaStp
import Derived.Test.YtppemfdoogmeeaaBulk
import Derived.WalkKit
import Derived.ProofKit
import Derived.OpenShut
import Derived.ShutString
import Derived.ChangeOld
import Derived.Below
import Derived.SizedLaws
namespace Go.Proofs.Ytppemfdoogmeeaa.sendqPlays
open Go.ChangeShapes Go.WideShapes Go.ChangeAt Go.RowKit
open Go.ChangeMaps (open_string shut_string)
set_option linter.unusedVariables false

variable {W : World}

/-- Both queues, apart from all that was there. -/
structure Inv (W w : World) (rb : Nat) (d m : Sv) (rd : Nat) (x y : Sv) (room : Int) (s : S) : Prop where
  i2 : Inv2 w rb d m rd x y room s
  w1 : ∀ i, Fp rb d m i → W.heap.size ≤ i
  w2 : ∀ i, Fp rd x y i → W.heap.size ≤ i
  q : Q W w
theorem Inv.go {w w' : World} {rb : Nat} {d m : Sv} {rd : Nat} {x y : Sv} {room : Int} {s : S} (h : Inv W w rb d m rd x y room s) (k : Q w w') : Inv W w' rb d m rd x y room s := ⟨h.i2.q k, h.w1, h.w2, h.q.trans k⟩
theorem Inv.step {w w' : World} {rb : Nat} {d m : Sv} {rd : Nat} {x y : Sv} {room : Int} {s s' : S} (h : Inv W w rb d m rd x y room s) (b : Both w w' rb d m rd x y room s') : ∃ d' m' x' y', Inv W w' rb d' m' rd x' y' room s' := by
  obtain ⟨d', m', x', y', h1, h2, h3, h4⟩ := b
  have hs := h.q.size
  refine ⟨d', m', x', y', h1, fun i hi => ?_, fun i hi => ?_, ?_⟩
  · rcases h3 i hi with hh | hh
    · exact h.w1 i hh
    · omega
  · rcases h4 i hi with hh | hh
    · exact h.w2 i hh
    · omega
  · exact ((Keep.ofQ (F := fun i => W.heap.size ≤ i) h.q).trans (h2.mono (fun i _ e => by
      rcases e with e | e
      · exact h.w1 i e
      · exact h.w2 i e))).toQ (fun i hi e => by omega)

set_option maxHeartbeats 1000000 in
set_option maxRecDepth 100000 in
theorem walk_bad (room : Int) (a0 : Option Addr) (l0 p0 : Nat) (hb : ¬ (1 ≤ room ∧ room ≤ 65536)) : Calls Try.prog 4 #[.int .i64 room, .slice a0 l0 p0] W fun e w' => e = .returned (.bool true) ∧ Below W.heap.size W w' := by
  have HN := hid hb
  by_cases h1 : room < 1
  · have b1 : decide (room < 1) = true := by simp [h1]
    clear hb
    go_enter Try.func4, Try.ntmps4
    go_wp2_with fail
    refine (new_bad room W HN.out).mono ?_
    rintro e w1 ⟨rfl, rfl⟩
    go_wp2_with fail
    refine (awake_any _).mono ?_
    rintro e w7 ⟨rfl, hq7⟩
    have Q7 := hid hq7
    clear hq7
    go_wp2
    go_ret
    exact ⟨rfl, Q7.out⟩
  · have b1 : decide (room < 1) = false := by simp [h1]
    have b3 : (65536 : Int) < room := by omega
    have b2 : decide ((65536 : Int) < room) = true := by simp; omega
    clear hb
    go_enter Try.func4, Try.ntmps4
    go_wp2_with fail
    refine (new_bad room W HN.out).mono ?_
    rintro e w1 ⟨rfl, rfl⟩
    go_wp2_with fail
    refine (awake_any _).mono ?_
    rintro e w7 ⟨rfl, hq7⟩
    have Q7 := hid hq7
    clear hq7
    go_wp2
    go_ret
    exact ⟨rfl, Q7.out⟩

set_option maxHeartbeats 8000000 in
set_option maxRecDepth 100000 in
theorem walk_good (room : Int) (a0 : Option Addr) (l0 p0 : Nat) (z0 : Nat → Cl) (g0 : ∀ i, i < l0 → Good W (z0 i)) (s0' : SegO W a0 l0 z0)
    (n0 : l0 ≤ 1048576 ∧ ∀ i, i < l0 → (z0 i).dn ≤ 1048576) (r0 : 1 ≤ room) (r1 : room ≤ 65536) :
    Calls Try.prog 4 #[.int .i64 room, .slice a0 l0 p0] W fun e w' => e = .returned (.bool true) ∧ Below W.heap.size W w' := by
  have G0 := hid g0
  have S0 := hid s0'
  have N0 := hid n0
  have hl0 := n0.1
  have b1 : decide (room < 1) = false := by simp; omega
  have b2 : decide ((65536 : Int) < room) = false := by simp; omega
  clear g0 s0' n0
  go_enter Try.func4, Try.ntmps4
  go_wp2_with fail
  refine (new_good room W r0 r1).mono ?_
  rintro e w1 ⟨rfl, hb1, hq1, hlt1⟩
  have B1 := hid hb1
  have Q1 := hid hq1
  clear hb1 hq1
  have hQA : Q w1 (w1.alloc (.cells #[.int .i64 room, .int .i64 0, .slice none 0 0, .slice none 0 0, .bool false, .int .i64 0] 36)) := (Q.refl w1).alloc _
  have IV0 := hid (show Inv W (w1.alloc (.cells #[.int .i64 room, .int .i64 0, .slice none 0 0, .slice none 0 0, .bool false, .int .i64 0] 36)) W.heap.size nilS nilS w1.heap.size nilS nilS room s0 from
    ⟨⟨B1.out.q hQA, ⟨heap_alloc_new w1 _, ⟨sub_nil _ _ _, sub_nil _ _ _, by simp [blk, nilS], by simp [blk, nilS], by simp [blk, nilS]⟩⟩, ok0 r0 r1, (by
      rintro i (rfl | h | h) (h2 | h2 | h2)
      · omega
      · cases h2
      · cases h2
      · cases h
      · cases h
      · cases h
      · cases h
      · cases h
      · cases h)⟩, (by
      rintro i (rfl | h | h)
      · exact Nat.le_refl _
      · cases h
      · cases h), (by
      rintro i (rfl | h | h)
      · omega
      · cases h
      · cases h), Q1.out.trans hQA⟩)
  clear hQA B1 Q1
  go_wp2
  generalize w1.alloc (.cells #[.int .i64 room, .int .i64 0, .slice none 0 0, .slice none 0 0, .bool false, .int .i64 0] 36) = wz at *
  generalize hrb : W.heap.size = rb at *
  have HRB := hid hrb
  clear hrb
  generalize w1.heap.size = rd at *
  go_loopw [41] (fun v wr => ∃ k : Nat, ∃ d m x y : Sv, ∃ s : S, k ≤ l0 ∧ v = .int .i64 k ∧ s.ms.length ≤ k * 65536 ∧ Inv W wr rb d m rd x y room s) (fun i _ => l0 - (intOf i).toNat)
  case atStart => exact ⟨0, nilS, nilS, nilS, nilS, s0, Nat.zero_le _, rfl, Nat.zero_le _, IV0.out⟩
  case round =>
    obtain ⟨k, d, m, x, y, s, hk, rfl, hlen, hiv⟩ := hrel
    have IR := hid hiv
    have LR := hid hlen
    clear hiv hlen IV0
    generalize hws : wr = ws at *
    clear hws
    by_cases hkn : k < l0
    · obtain ⟨b, off, rfl, hcl⟩ := (S0.out.q IR.out.q) (by omega)
      obtain ⟨d0, d1, d2, d3, d4⟩ := hcl k hkn
      have hlt' : (k : Int) < (l0 : Int) := by omega
      have hwk : IntKind.i64.wrap ((k : Int) + 1) = ((k + 1 : Nat) : Int) := by rw [IntKind.wrap_i64]; omega
      have GG := hid (G0.out k hkn)
      have GN := hid (N0.out.2 k hkn)
      clear hcl
      generalize z0 k = z at *
      have QX := hid ((Q.refl ws).alloc (.cells #[.int .i64 z.kd, .int .i64 z.p, .int .i64 z.q, .slice z.da z.dn z.dc, .bool z.f] 38))
      have X1 := hid (show Thr (ws.alloc (.cells #[.int .i64 z.kd, .int .i64 z.p, .int .i64 z.q, .slice z.da z.dn z.dc, .bool z.f] 38)) ws.heap.size z from heap_alloc_new ws _)
      have IX := hid (IR.out.go QX.out)
      have ZF := hid (show z.zs ≠ [] → ∀ b, blk z.da = some b → b < W.heap.size from fun hne b hb => by
        obtain ⟨b', o', e, hc⟩ := GG.out.seg hne
        have e' : b' = b := by rw [e] at hb; simpa [blk] using hb
        have h1 := lt_of_cell (hc 0 (by cases hz : z.zs with | nil => exact absurd hz hne | cons x r => simp))
        omega)
      have ST := hid (fun w (h : Inv W w rb d m rd x y room s) => step_any rb d m rd x y room s z w h.i2 (by have := LR.out; omega) ⟨GG.out.seg.q h.q, GG.out.len, GG.out.cap, GG.out.q0⟩ (by have := GN.out; omega) (fun hne b hb => ⟨fun e => by have := h.w1 b e; have := ZF.out hne b hb; omega, fun e => by have := h.w2 b e; have := ZF.out hne b hb; omega⟩))
      have HLL := hid (stS_len IR.out.i2.ok z)
      have x0 := X1.out.c0
      have x1 := X1.out.c1
      have x2 := X1.out.c2
      have x3 := X1.out.c3
      have x4 := X1.out.c4
      go_wp2_with fail
      generalize ws.alloc (.cells #[.int .i64 z.kd, .int .i64 z.p, .int .i64 z.q, .slice z.da z.dn z.dc, .bool z.f] 38) = wx at *
      refine (ST.out wx IX.out).mono ?_
      rintro e w2 ⟨rfl, hbo⟩
      obtain ⟨d', m', x', y', hi2⟩ := IX.out.step hbo
      have I2 := hid hi2
      clear hbo hi2 x0 x1 x2 x3 x4
      generalize stS room s z = s' at *
      go_wp2_with fail
      refine (rest_any rb d' m' rd x' y' room s' w2 I2.out.i2 (by have := HLL.out; have := LR.out; omega)).mono ?_
      rintro e w3 ⟨rfl, q3, rfl⟩
      have I3 := hid (I2.out.go ((Q.refl w2).drewN q3))
      generalize w2.drewN q3 = w3 at *
      go_wp2
      go_roundw
      case rel => exact ⟨k + 1, d', m', x', y', s', by omega, by go_num, by have := HLL.out; have := LR.out; omega, I3.out⟩
      case measure => simp [intOf]; omega
    · obtain rfl : k = l0 := by omega
      go_wp2_with fail
      refine (awake_any ws).mono ?_
      rintro e w7 ⟨rfl, hq7⟩
      have Q7 := hid (IR.out.q.trans hq7)
      clear hq7
      go_wp2
      go_ret
      exact ⟨rfl, Q7.out⟩

theorem walk (room : Int) (a0 : Option Addr) (l0 p0 : Nat) (z0 : Nat → Cl) (g0 : ∀ i, i < l0 → Good W (z0 i)) (s0' : SegO W a0 l0 z0) (n0 : l0 ≤ 1048576 ∧ ∀ i, i < l0 → (z0 i).dn ≤ 1048576) :
    Calls Try.prog 4 #[.int .i64 room, .slice a0 l0 p0] W fun e w' => e = .returned (.bool true) ∧ Below W.heap.size W w' := by
  by_cases hb : 1 ≤ room ∧ room ≤ 65536
  · exact walk_good room a0 l0 p0 z0 g0 s0' n0 hb.1 hb.2
  · exact walk_bad room a0 l0 p0 hb

theorem contract (H : Type) (enc : TypeId × Value → H) (W : World) (base : Nat) (args : Array Value) (ds gs : List (DataW H)) (before : List MemPlace)
    (hval : ∀ (j : Nat) t v, Try.f4.params[j]? = some t → args[j]? = some v → Value.okWide Try.prog W .any base t v)
    (hW : DataW.Whole enc Try.prog Try.f4.params.toList Rows.sendqPlaysSpec.vars false W args.toList ds gs before) (hk : Rows.uptoSmall H (ds ++ gs) = true) :
    Calls Try.prog 4 args W fun e W' => ∃ v, e = .returned v ∧ Rows.sendqPlaysSpec.post enc Try.prog Try.f4 false true false false W args v W' := by
  have hW' := hW
  obtain ⟨p, q, hA0, hV, rfl, hfz, hnd⟩ := hW
  have hA : DataW.TrodAll enc Try.prog W 0 (fun _ => true) true Try.f4.params.toList args.toList ds p := hA0
  rw [Try.params4] at hA hval
  obtain ⟨v0, vs0, d0, ds0, p0, q0, hargs, rfl, rfl, h0, r0⟩ := trodAll_cons hA
  obtain ⟨v1, vs1, d1, ds1, p1, q1, rfl, rfl, rfl, h1, r1⟩ := trodAll_cons r0
  obtain ⟨rfl, rfl, rfl⟩ := trodAll_nil r1
  obtain rfl : args = #[v0, v1] := by cases args; simp_all
  obtain ⟨rfl, rfl⟩ := trodVars_none hV
  obtain ⟨a0, rfl, rfl, rfl, w0⟩ := open_int Try.underlying3 (hval 0 3 v0 rfl rfl) h0
  obtain ⟨a1, len1, cap1, rfl⟩ := okWide_slice Try.underlying32 (hval 1 32 v1 rfl rfl)
  have k1 := h1
  have lt1 : ∀ x ∈ p1, x.block < W.heap.size := by obtain ⟨m, hm⟩ := k1; exact DataW.trod_lt m _ _ _ hm
  obtain ⟨z1, zl1, zs1, zb1, zc1, ze1, zd1⟩ := open_ops h1
  have zn1 := bulk_len hk (d := d1) (by simp) zd1
  clear hA0
  refine (walk a0 a1 len1 cap1 z1 zl1 zs1 zn1).mono fun e W' ⟨he, bel⟩ => ?_
  subst he
  exact ⟨_, rfl, _, _, _, [], _, [], hW', trodAll_mk1 (shut_bool Try.underlying4 _), (trodAll_cons_mk (shut_int Try.underlying3 w0) (trodAll_cons_mk (Below.trod laid_out (by kernel_rfl) (of_decide_eq_true (by kernel_rfl)) k1 bel lt1) trodAll_mk0)), rfl, bel.frame _, fun h => by cases h⟩

set_option maxRecDepth 100000 in
theorem lifted (os : Os) (started : os.Started) (H : Type) (enc : TypeId × Value → H) (F : Stop.Interp) :
    ReturnsInHanded {} Try.checked os 4 .any ((Rows.OpenSpec.upto Rows.sendqPlaysSpec).pre6 enc Try.prog Try.f4 Rows.sendqPlaysUptoRow.domain false) (((Rows.OpenSpec.upto Rows.sendqPlaysSpec).at F).post enc Try.prog Try.f4 false true false false) := by
  refine returnsInHanded_of_cond (C := Try.checked) (s := Rows.OpenSpec.upto Rows.sendqPlaysSpec) (k := Rows.uptoSmall) rfl own_knob started (by kernel_rfl) Try.func4
    (OpenSpec.witness (enc := enc) (C := Try.checked) (s := Rows.OpenSpec.upto Rows.sendqPlaysSpec) (k := Rows.uptoSmall) rfl false ⟨#[], #[.int .i64 0, .slice none 0 0], []⟩ 8 (by kernel_rfl) (by kernel_rfl) (by kernel_rfl)
      (x := ([.lit (.int .i64 0), .nil], [], [])) (by kernel_rfl) rfl (by kernel_rfl)) ?_
  intro W base args ds gs before hval hW _ hk _
  exact contract H enc W base args ds gs before hval hW hk

theorem over : Rows.sendqPlaysUptoRow.holds Try.pinned (Rows.OpenSpec.upto Rows.sendqPlaysSpec) :=
  OpenClaim.holds_of_cond 4 Try.f4 rfl rfl rfl rfl rfl rfl rfl ⟨rfl, rfl, rfl, rfl, rfl⟩ rfl rfl rfl rfl rfl (by kernel_rfl) Try.func4 (by kernel_rfl)
    (of_decide_eq_true (by kernel_rfl)) (by unfold Func.isWrapper; first | (rw [if_pos (by decide +kernel)]; kernel_rfl) | (rw [if_neg (by decide +kernel)]; exact ⟨rfl, rfl⟩))
    (fun os started H enc _ F => lifted os started H enc F)

end Go.Proofs.Ytppemfdoogmeeaa.sendqPlays
namespace Go.Proofs.Ytppemfdoogmeeaa

/-- The statement. -/
theorem sendqPlaysUpto_holds : Rows.SendqPlaysUptoSaid := sendqPlays.over
#print axioms sendqPlaysUpto_holds
end Go.Proofs.Ytppemfdoogmeeaa
