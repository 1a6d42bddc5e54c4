/-
  What the law's own awake does: a contract that the statements' walks use.
-/
import Derived.Test.YtekpepnonhbkcaaShI
namespace Go.Proofs.Ytekpepnonhbkcaa
open Go.RowKit
set_option linter.unusedVariables false
set_option maxRecDepth 20000

def h3 : ByteArray := ⟨#[104, 51]⟩
theorem h3_ok : okC 5 [h3] 0 = true := by decide +kernel
theorem h3_len : (chL (List.replicate 32 0) 5 [h3] []).length = 50 := by
  unfold chL msgL grL ptL ptB
  simp only [List.length_append, List.length_cons, List.length_nil, be_length, List.length_replicate, List.flatMap_cons, List.flatMap_nil, sb_len]
  rfl
theorem h3_head : (u8s (chL (List.replicate 32 0) 5 [h3] []))[0]? = some (.int .u8 1) := by
  unfold chL msgL
  rfl
theorem con_one {Fs : List Fl} {x : Int × List Int} (h : Fs.map con = [x]) : ∃ d, Fs = [⟨x.1, d, x.2⟩] := by
  match Fs, h with
  | [F], h =>
    simp only [List.map_cons, List.map_nil, List.cons.injEq, and_true] at h
    subst h
    exact ⟨F.d, rfl⟩
theorem eq_pnil (ad : Addr) (w : World) : (binOp .eql 28 (.pointer (some ad)) (.pointer none)).run Try.prog w = .ok (.bool false) w := by kernel_rfl
attribute [local go_sem] eq_pnil
set_option maxHeartbeats 8000000 in
theorem awake_any (w : World) : Calls Try.prog 8 #[] w fun e w' => e = .returned (.bool true) ∧ Q w w' := by
  have hst : SegT (w.alloc (.cells #[.string h3] 9)) (some ⟨w.heap.size, 0, none⟩) [h3] := fun _ => ⟨w.heap.size, 0, rfl, fun i hi => by
    obtain rfl : i = 0 := by simpa using hi
    exact cell_lit w #[.string h3] 9 0⟩
  have NW := new_any false (List.replicate 32 0) 5 ⟨some ⟨w.heap.size, 0, none⟩, 1, 1⟩ nilS [h3] [] (w.alloc (.cells #[.string h3] 9)) rfl hst rfl (fun h => absurd rfl h) rfl
  rw [show (ccells false (List.replicate 32 0) 5 ⟨some ⟨w.heap.size, 0, none⟩, 1, 1⟩ nilS).toArray = #[.bool false, .int .u8 0, .int .u8 0, .int .u8 0, .int .u8 0, .int .u8 0, .int .u8 0, .int .u8 0, .int .u8 0, .int .u8 0, .int .u8 0, .int .u8 0, .int .u8 0, .int .u8 0, .int .u8 0, .int .u8 0, .int .u8 0, .int .u8 0, .int .u8 0, .int .u8 0, .int .u8 0, .int .u8 0, .int .u8 0, .int .u8 0, .int .u8 0, .int .u8 0, .int .u8 0, .int .u8 0, .int .u8 0, .int .u8 0, .int .u8 0, .int .u8 0, .int .u8 0, .int .i64 5, .slice (some ⟨w.heap.size, 0, none⟩) 1 1, .slice none 0 0] from by kernel_rfl] at NW
  have HNW := hid NW
  clear NW hst
  go_enter Try.func8, Try.ntmps8
  go_wp2_with fail
  refine HNW.out.mono ?_
  rintro e w1 (⟨h, _⟩ | ⟨_, sb, t', p', x, o, wb, Fs, rfl, hM⟩)
  · rw [show okC 5 [h3] nilS.n = true from h3_ok] at h
    cases h
  obtain ⟨d, rfl⟩ := con_one hM.fl
  have Q1 := hid (((Q.refl w).alloc (.cells #[.string h3] 9)).trans hM.q)
  have HB := hid (show w.heap.size ≤ sb from Nat.le_trans (((Q.refl w).alloc (.cells #[.string h3] 9))).size hM.sd.hB)
  have HSD := hid hM.sd
  have hln := RowF.len hM.sd.fr
  have HLN := hid (show 1 = o.n from hln)
  obtain ⟨g, off, ho, _, hc⟩ := Sub.some_ hM.sd.fr (by show 0 < o.n; have h : 1 = o.n := hln; omega)
  have hgs := (hM.sd.bo g (by rw [ho]; rfl)).2.1
  have hdr := hM.sd.dr _ (List.mem_singleton.2 rfl)
  have hdn := Row.len hdr
  obtain ⟨g2, off2, hd, _, hc2⟩ := Sub.some_ hdr (by show 0 < d.n; have h : _ = d.n := hdn; rw [h3_len] at h; omega)
  have hgs2 := (hM.sd.bd _ (List.mem_singleton.2 rfl) g2 (by show blk d.a = _; rw [hd]; rfl)).2.1
  have k0 := hc 0 (.int .i64 0) rfl
  have k1 := hc 1 (.slice d.a d.n d.c) rfl
  have k2 := hc2 0 (.int .u8 1) h3_head
  have OA := hid (out_any sb _ w1 hM.sd.at_)
  clear hc hc2 hM hdr hln
  obtain ⟨da, dn, dc⟩ := d
  obtain ⟨oa, on, oc⟩ := o
  dsimp only at *
  rw [h3_len] at hdn
  subst hdn
  subst hd
  subst ho
  obtain rfl : 1 = on := HLN.out
  clear HLN
  rw [Nat.add_zero] at k0 k2
  have K0 := hid k0
  have K1 := hid k1
  have K2 := hid k2
  have HG := hid hgs
  have HG2 := hid hgs2
  clear k0 k1 k2 hgs hgs2
  go_wp2_with fail
  refine OA.out.mono ?_
  rintro e w2 ⟨rfl, _, q2⟩
  have k0 := q2.cell K0.out HG.out
  have k1 := q2.cell K1.out HG.out
  have k2 := q2.cell K2.out HG2.out
  have HE := hid (q2.below Q1.out HB.out Q1.out.size)
  clear q2
  dsimp only
  go_wp2
  go_ret
  exact ⟨rfl, HE.out⟩
end Go.Proofs.Ytekpepnonhbkcaa
