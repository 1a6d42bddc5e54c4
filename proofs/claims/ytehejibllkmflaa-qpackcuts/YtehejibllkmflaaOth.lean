/-
  What the inner others answers: the bytes of the longest class, as a text. A contract that the statements' walks use.
-/
import Derived.Test.YtehejibllkmflaaCat
import Derived.Lib.BytesEntry
import Derived.Lib.Walk
import Derived.Laws.BytesArg
namespace Go.Proofs.Ytehejibllkmflaa
open Go.RowKit
set_option linter.unusedVariables false
set_option maxRecDepth 100000

theorem ixa_any (s : ByteArray) (c : Int) (w : World) : Calls Try.prog 77 #[.string s, .int .u8 c] w fun e w' => e = .returned (.int .i64 (Lib.indexByte s.data.toList c.toNat.toUInt8)) ∧ w = w' := by
  have key := Lib.run_indexByteString (P := Try.prog) s c w
  generalize Lib.indexByte s.data.toList c.toNat.toUInt8 = v at *
  go_enter Try.func77, Try.ntmps77
  go_wp2
  rw [run_callFunc_extern Try.func90 (by kernel_rfl) (by kernel_rfl) (by kernel_rfl) (e := Extern.BytealgIndexByte.indexByte) (by kernel_rfl), key]
  simp only [Result.andThen]
  rw [Oper.upon_value]
  go_wp2
  go_ret
  exact ⟨rfl, rfl⟩
theorem ixb_any (s : ByteArray) (c : Int) (w : World) : Calls Try.prog 100 #[.string s, .int .u8 c] w fun e w' => e = .returned (.int .i64 (Lib.indexByte s.data.toList c.toNat.toUInt8)) ∧ w = w' := by
  have key := hid (ixa_any s c w)
  generalize Lib.indexByte s.data.toList c.toNat.toUInt8 = v at *
  go_enter Try.func100, Try.ntmps100
  go_wp2_with (go_at_call 77; refine key.out.mono ?_; rintro e w1 ⟨rfl, rfl⟩)
  go_ret
  exact ⟨rfl, rfl⟩

/-- The bytes of the longest class among the first k. -/
def ot (k : Nat) : List Int := ((List.range k).map fun (x : Nat) => (x : Int)).filter fun x => decide (x ∈ hq15)
theorem ot_all : ot 256 = hq15 := by decide +kernel
theorem ot_succ (k : Nat) : ot (k + 1) = if (k : Int) ∈ hq15 then ot k ++ [(k : Int)] else ot k := by
  unfold ot
  rw [List.range_succ, List.map_append, List.filter_append]
  by_cases h : (k : Int) ∈ hq15 <;> simp [h]
theorem ot_len (k : Nat) : (ot k).length ≤ k := by
  unfold ot
  have := List.length_filter_le (fun x => decide (x ∈ hq15)) ((List.range k).map fun (x : Nat) => (x : Int))
  simpa using this
theorem new_step' {B : Nat} {w wr w' : World} {x y : Sv} (hB : B = w.heap.size) (hq : Q w wr) (hx : New B x) (k : Keep (fun b => blk x.a = some b) wr w') (h : ∀ b, blk y.a = some b → blk x.a = some b ∨ wr.heap.size ≤ b) : Q w w' ∧ New B y := by
  subst hB
  refine ⟨k.below hq hq.size (fun i hi => hx i hi), fun b hb => ?_⟩
  rcases h b hb with h | h
  · exact hx b h
  · have := hq.size; omega
def sho : ByteArray := strOfNums (hq5 ++ hq6 ++ hq7 ++ hq8)
theorem sho_ok : (List.range 256).all (fun k => decide (Lib.indexByte sho.data.toList ((k : Int).toNat.toUInt8) < 0) == decide ((k : Int) ∈ hq15)) = true := by
  decide +kernel
theorem row_str {w : World} {x : Sv} {zs : List Int} (h : Row w x zs) (hn : 0 < x.n) : (convert 30 9 (.slice x.a x.n x.c)).run Try.prog w = .ok (.string (strOfNums zs)) w := by
  have hl := h.len
  obtain ⟨b, off, e, hc⟩ := h.seg (by intro e; rw [e] at hl; simp at hl; omega)
  rw [e]
  exact run_convert_bytes_arg (P := Try.prog) w 30 5 Try.underlying30 Try.underlying5 b off x.n x.c zs hl (fun i hi => hc i (by omega)) 9 (by kernel_rfl)

set_option maxHeartbeats 1000000 in
theorem others_any (w : World) : Calls Try.prog 94 #[] w fun e w' => e = .returned (.string (strOfNums hq15)) ∧ Q w w' := by
  go_enter Try.func94, Try.ntmps94
  go_wp2
  go_loopw [1, 3] (fun l i wr => Q w wr ∧ ∃ (k : Nat) (x : Sv), k ≤ 256 ∧ i = .int .i64 k ∧ l = .slice x.a x.n x.c ∧ Row wr x (ot k) ∧ New w.heap.size x) (fun _ i _ => ((256 : Int) - intOf i).toNat)
  case atStart => exact ⟨Q.refl _, 0, nilS, Nat.zero_le _, rfl, rfl, sub_nil _ _ _, new_nil _⟩
  case round =>
    obtain ⟨hq, k, ⟨xa, xn, xc⟩, hk, rfl, rfl, hr, hnew⟩ := hrel
    have HQ := hid hq
    have HR := hid hr
    have HN := hid hnew
    clear hq hr hnew
    by_cases hkn : k < 256
    · have hki : (k : Int) < 256 := by omega
      have hwk : IntKind.u8.wrap (k : Int) = k := by rw [IntKind.wrap_u8]; omega
      have hsh : (decide (Lib.indexByte sho.data.toList ((k : Int).toNat.toUInt8) < 0) == decide ((k : Int) ∈ hq15)) = true := List.all_eq_true.1 sho_ok k (List.mem_range.2 hkn)
      have HI := hid (fun W => ixb_any sho (k : Int) W)
      have hl := Row.len HR.out
      have hl2 := ot_len k
      obtain ⟨⟨ya, yn, yc⟩, w2, hrun, hrow, hkp, hb⟩ := row_one (k : Int) HR.out (by simp only at hl ⊢; omega)
      have hns := new_step' rfl HQ.out HN.out hkp hb
      have HX := hid hns
      have HY := hid hrow
      clear hl hl2 hkp hb hns hrow
      generalize Lib.indexByte sho.data.toList ((k : Int).toNat.toUInt8) = v at *
      by_cases hm : (k : Int) ∈ hq15
      · have hv : decide (v < 0) = true := by simpa [hm] using hsh
        have hO := hid (ot_succ k)
        rw [if_pos hm] at hO
        clear hsh hm
        go_wp2_with (first | (go_at_call 100; refine (HI.out _).mono ?_; rintro e w1 ⟨rfl, rfl⟩) | (at_builtin; refine Lib.wpList_append_run _ rfl _ _ _ _ rfl _ _ rfl rfl _ _ hrun ?_))
        go_roundw
        case rel => exact ⟨HX.out.1, k + 1, ⟨ya, yn, yc⟩, by omega, by go_num, rfl, by rw [hO.out]; exact HY.out, HX.out.2⟩
        case measure => simp [intOf]; omega
      · have hv : decide (v < 0) = false := by simpa [hm] using hsh
        have hO := hid (ot_succ k)
        rw [if_neg hm] at hO
        clear hsh hm hrun
        go_wp2_with (go_at_call 100; refine (HI.out _).mono ?_; rintro e w1 ⟨rfl, rfl⟩)
        go_roundw
        case rel => exact ⟨HQ.out, k + 1, ⟨xa, xn, xc⟩, by omega, by go_num, rfl, by rw [hO.out]; exact HR.out, HN.out⟩
        case measure => simp [intOf]; omega
    · obtain rfl : k = 256 := by omega
      have hR := HR.out
      rw [ot_all] at hR
      have hl := Row.len hR
      have cv := row_str hR (by rw [← hl]; decide)
      clear hR hl
      go_wp2
      go_ret
      exact ⟨rfl, HQ.out⟩
end Go.Proofs.Ytehejibllkmflaa
