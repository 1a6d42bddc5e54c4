/-
  makeASCIISet at the blanks, trimLeftASCII, trimRightASCII, Trim: contracts that the statements' walks use.
-/
import Derived.Test.YtclapheglgiokaaDoorRnH
namespace Go.Proofs.YtclapheglgiokaaDoor
open Go.RowKit
set_option linter.unusedVariables false
set_option maxRecDepth 100000

theorem setRow_self {w : World} {g : Nat} {X : Array Value} {t : TypeId} {fr : Nat × Nat} (h : w.heap[g]? = some (.cells X t fr)) : w.setRow g X = w := by
  have hh : (w.setRow g X).heap = w.heap := by
    apply Array.ext_getElem?
    intro i
    by_cases e : i = g
    · subst e
      rw [setRow_heap w i X X t fr h, h]
    · simp [World.setRow, Array.getElem?_modify, Ne.symm e]
  cases w
  simp only [World.setRow] at hh ⊢
  rw [hh]

abbrev asK (k : Nat) : List Nat := if k = 0 then [] else if k = 1 then [32] else [9, 32]
structure AsI (w : World) (l : List Nat) (wr : World) : Prop where
  q : Q w wr
  b : Blk wr w.heap.size 157 (aset l).toArray
theorem AsI.next {w wr : World} {l : List Nat} (h : AsI w l wr) (n : Nat) (hn : n < 256) : AsI w (n :: l) (wr.setCell ⟨w.heap.size, n, none⟩ (.bool true)) := by
  refine ⟨h.q.setCell (p := ⟨w.heap.size, n, none⟩) (Nat.le_refl _) _, ?_⟩
  have := h.b.set n (.bool true)
  rw [aset_set l n hn] at this
  exact this
theorem info79' : (Tryd.prog.info? 157).map (fun i => (i.zero, i.size)) = some (some (.agg (aset []).toArray), 256) := by kernel_rfl
theorem res72 (tmps : Array Value) (w : World) (g : Nat) (h2 : tmps.getD 2 undef = .pointer (some ⟨g, 0, none⟩)) (h3 : tmps.getD 3 undef = .bool true) (hb : w.heap[g]? = some (.cells asB 157 (0, 0))) :
    (results Tryd.f106 tmps).run Tryd.prog w = .ok (.tuple #[.agg asB, .bool true]) w := by
  have h2' : tmps[2]?.getD undef = .pointer (some ⟨g, 0, none⟩) := by simpa using h2
  have h3' : tmps[3]?.getD undef = .bool true := by simpa using h3
  have hl := run_loadVar_row w g 157 157 _ (0, 0) _ hb Tryd.underlying157 rfl (show (Tryd.prog.info? 157).map (·.size) = some asB.size from by kernel_rfl)
  generalize asB = Z at *
  simp [results, Tryd.results106, h2', h3', asAddr, hl]
set_option maxHeartbeats 16000000 in
theorem mk_any (w : World) : Calls Tryd.prog 106 #[.string ⟨#[32, 9]⟩] w fun e w' => e = .returned (.tuple #[.agg asB, .bool true]) ∧ Q w w' := by
  obtain ⟨hz, _⟩ := zero_of_info info79'
  have i0 : ∀ W, (Instr.index 9 (.string ⟨#[32, 9]⟩) (.int .i64 0)).run Tryd.prog W = .ok (.int .u8 32) W := fun W => by kernel_rfl
  have i1 : ∀ W, (Instr.index 9 (.string ⟨#[32, 9]⟩) (.int .i64 1)).run Tryd.prog W = .ok (.int .u8 9) W := fun W => by kernel_rfl
  have hsz : (⟨#[32, 9]⟩ : ByteArray).size = 2 := rfl
  have HS : Hid ((aset []).toArray.size = asB.size) := by refine hid ?_; simp [asB, aset]
  have HI := hid (show (Tryd.prog.info? 157).map (·.size) = some asB.size from by kernel_rfl)
  have HO := hid (show asB.all (·.oneCell') = true from aset_one _)
  have HQ0 := hid (show AsI w [] (w.alloc (.cells (aset []).toArray 157)) from ⟨(Q.refl w).alloc _, blk_new w _ 157⟩)
  generalize hZ : (aset []).toArray = Z at *
  generalize (⟨#[32, 9]⟩ : ByteArray) = s at *
  go_enter Tryd.func106, Tryd.ntmps106
  go_wp2_with fail
  generalize hW : World.alloc w _ = W0 at *
  clear hW hz
  go_loopw [4] (fun i wr => ∃ k : Nat, k ≤ 2 ∧ i = .int .i64 k ∧ AsI w (asK k) wr) (fun i _ => ((2 : Int) - intOf i).toNat)
  case atStart => exact ⟨0, by omega, rfl, HQ0.out⟩
  case round =>
    clear HQ0
    obtain ⟨k, hk2, rfl, hI⟩ := hrel
    have hcs : k = 0 ∨ k = 1 ∨ k = 2 := by omega
    clear hk2
    rcases hcs with rfl | rfl | rfl
    · have c0 : wr.cell? ⟨w.heap.size, 32, none⟩ = some (.bool false) := by rw [hI.b.cell 32]; exact aset_get _ 32 (by omega)
      have f0 : wr.frozen? ⟨w.heap.size, 32, none⟩ = false := hI.b.frozen 32
      have HN := hid (hI.next 32 (by omega))
      clear hI
      go_wp2
      go_roundw
      case rel => exact ⟨1, by omega, rfl, HN.out⟩
      case measure => simp [intOf]
    · have c0 : wr.cell? ⟨w.heap.size, 9, none⟩ = some (.bool false) := by rw [hI.b.cell 9]; exact aset_get _ 9 (by omega)
      have f0 : wr.frozen? ⟨w.heap.size, 9, none⟩ = false := hI.b.frozen 9
      have HN := hid (hI.next 9 (by omega))
      clear hI
      go_wp2
      go_roundw
      case rel => exact ⟨2, by omega, rfl, HN.out⟩
      case measure => simp [intOf]
    · have HQ := hid hI.q
      have HB := hid (show wr.heap[w.heap.size]? = some (.cells asB 157 (0, 0)) from hI.b)
      have HR := hid (setRow_self HB.out)
      clear hI
      have HSS := hid (rfl : asB.size = asB.size)
      go_wp2_with (first
        | (refine wpList_load_row rfl 157 _ rfl w.heap.size rfl 157 _ (0, 0) _ HB.out Tryd.underlying157 rfl HI.out ?_)
        | (refine wpList_store_row rfl 157 _ _ rfl w.heap.size _ rfl rfl 157 _ HB.out HI.out HSS.out HO.out ?_; rw [HR.out]; refine Hid.out ?_))
      refine hid ?_
      go_wp2
      exact bodyPost_ret (res72 _ _ w.heap.size rfl rfl HB.out) rfl ⟨rfl, HQ.out⟩
set_option maxHeartbeats 4000000 in
theorem trl_any (g : Nat) (s : ByteArray) (w : World) (h : Blk w g 157 asB) : Calls Tryd.prog 107 #[.string s, .pointer (some ⟨g, 0, none⟩)] w fun e w' => ∃ t : ByteArray, e = .returned (.string t) ∧ Q w w' ∧ (fsS s = true → t = s) ∧ t.size ≤ s.size ∧ (fsS s = false → t.size < s.size) := by
  have HC := hid (fun (c : Nat) (hc : c < 256) W (q : Q w W) => con_any g c W (h.q q) hc)
  clear h
  go_enter Tryd.func107, Tryd.ntmps107
  go_wp2
  go_loopw [0] (fun x wr => ∃ t : ByteArray, x = .string t ∧ Q w wr ∧ (t = s ∨ (t.size < s.size ∧ fsS s = false))) (fun x _ => match x with | .string b => b.size | _ => 0)
  case atStart => exact ⟨s, rfl, Q.refl w, .inl rfl⟩
  case round =>
    obtain ⟨t, rfl, hq, ht⟩ := hrel
    have HQ := hid hq
    have HT := hid ht
    clear hq ht
    by_cases h0 : t.size = 0
    · have h0I : ¬ (0 : Int) < (t.size : Int) := by omega
      go_wp2
      go_ret
      refine ⟨t, rfl, HQ.out, ?_⟩
      have hf : t.data.toList = [] := List.eq_nil_of_length_eq_zero (by simpa using h0)
      rcases HT.out with rfl | ⟨a, b⟩
      · refine ⟨fun _ => rfl, Nat.le_refl _, fun e => ?_⟩
        unfold fsS at e
        rw [hf] at e
        cases e
      · exact ⟨fun e => by (rw [b] at e; cases e), by omega, fun _ => a⟩
    · have h0I : (0 : Int) < (t.size : Int) := by omega
      have h0' : 0 < t.size := by omega
      have i0 := fun W => str_ix t 0 h0' W
      have hz : ((0 : Nat) : Int) = 0 := rfl
      rw [hz] at i0
      have hcons : fsS t = !blk1 (t[0]'h0').toNat := by
        unfold fsS
        have : t.data.toList = (t[0]'h0') :: t.data.toList.tail := by
          cases hl : t.data.toList with
          | nil => have : t.data.toList.length = 0 := by rw [hl]; rfl
                   have : t.size = 0 := by simpa using this
                   omega
          | cons b r =>
            have : t.data.toList[0]'(by rw [hl]; simp) = b := by simp [hl]
            rw [← this]; rfl
        rw [this]
      have hb : (t[0]'h0').toNat < 256 := UInt8.toNat_lt _
      have HCC := hid (HC.out _ hb wr HQ.out)
      have HF := hid hcons
      clear hcons
      generalize (t[0]'h0').toNat = c at *
      cases hbk : blk1 c with
      | true =>
        rw [hbk] at HCC HF
        have h1l : (1 : Int) ≤ (t.size : Int) := by omega
        have HZ := hid (show (t.extract 1 t.size).size = t.size - 1 from by rw [ByteArray.size_extract]; omega)
        go_wp2_with (go_at_call 116; refine HCC.out.mono ?_; rintro e w1 ⟨rfl, rfl⟩)
        go_roundw
        case rel =>
          refine ⟨_, rfl, HQ.out, .inr ⟨?_, ?_⟩⟩
          · have h1 := HZ.out
            show (t.extract 1 t.size).size < s.size
            rcases HT.out with rfl | ⟨a, b⟩ <;> omega
          · rcases HT.out with rfl | ⟨a, b⟩
            · exact HF.out
            · exact b
        case measure =>
          show (t.extract 1 t.size).size < t.size
          rw [HZ.out]; omega
      | false =>
        rw [hbk] at HCC HF
        go_wp2_with (go_at_call 116; refine HCC.out.mono ?_; rintro e w1 ⟨rfl, rfl⟩)
        go_ret
        refine ⟨t, rfl, HQ.out, ?_⟩
        rcases HT.out with rfl | ⟨a, b⟩
        · exact ⟨fun _ => rfl, Nat.le_refl _, fun e => by rw [HF.out] at e; cases e⟩
        · exact ⟨fun e => by (rw [b] at e; cases e), by omega, fun _ => a⟩
end Go.Proofs.YtclapheglgiokaaDoor
