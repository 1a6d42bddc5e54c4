/-
  The document's Chunk and Last: contracts that the statements' walks use.
-/
import Derived.Test.YtclapheglgiokaaDoorWrG
import Derived.BigQuiet
import Derived.Deep.QuietTactic
namespace Go.Proofs.YtclapheglgiokaaDoor
open Go.RowKit
set_option linter.unusedVariables false
set_option maxRecDepth 20000

theorem rchunk_zero (x : Sv) (w : World) (h : x.n = 0) : Calls Tryd.prog 20 #[.slice x.a x.n x.c] w fun e w' => e = .returned (.tuple #[.string ⟨#[]⟩, .int .i64 0]) ∧ w' = w := by
  obtain ⟨xa, xn, xc⟩ := x
  dsimp only at h
  subst h
  go_enter Tryd.func20, Tryd.ntmps20
  go_wp2
  go_ret2
  exact ⟨rfl, rfl⟩
theorem rchunk_huge (x : Sv) (w : World) (h : 16384 < x.n) : Calls Tryd.prog 20 #[.slice x.a x.n x.c] w fun e w' => e = .returned (.tuple #[.string ⟨#[]⟩, .int .i64 52]) ∧ w' = w := by
  obtain ⟨xa, xn, xc⟩ := x
  dsimp only at h
  have e0 : (16384 : Int) < (xn : Int) := by omega
  go_enter Tryd.func20, Tryd.ntmps20
  go_wp2
  go_ret2
  exact ⟨rfl, rfl⟩
theorem chk_cat (h b : List UInt8) : ((((⟨h.toArray⟩ : ByteArray) ++ ⟨#[13, 10]⟩) ++ ⟨b.toArray⟩) ++ ⟨#[13, 10]⟩) = ⟨(h ++ [13, 10] ++ b ++ [13, 10]).toArray⟩ := by
  apply ByteArray.ext
  simp
set_option maxHeartbeats 8000000 in
theorem rchunk_any (x : Sv) (bs : List UInt8) (w : World) (hx : SegB w x.a bs) (hl : bs.length = x.n) (h0 : 0 < bs.length) (h1 : bs.length ≤ 16384) :
    Calls Tryd.prog 20 #[.slice x.a x.n x.c] w fun e w' => e = .returned (.tuple #[.string ⟨(chkB bs).toArray⟩, .int .i64 0]) ∧ Q w w' := by
  obtain ⟨xa, xn, xc⟩ := x
  dsimp only at hx hl
  have hst := fun (W : World) (q : Q w W) => seg_strB (c := xc) (hx.q q) hl (by omega)
  have hs0 := hst w (Q.refl w)
  have hs1 : ∀ j, (convert 28 9 (.slice xa xn xc)).run Tryd.prog (w.drewN j) = .ok (.string ⟨bs.toArray⟩) (w.drewN j) := fun j => hst _ ((Q.refl w).drewN j)
  have hs2 := hst w.drew (Q.refl w).drew
  subst hl
  have HX := hid (fun W => rhex_any bs.length W h1)
  have e0 : ¬ (16384 : Int) < (bs.length : Int) := by omega
  have e1 : ((bs.length : Int) == 0) = false := by simp; intro e; subst e; simp at h0
  have e1' : ¬ (bs.length : Int) = 0 := by omega
  have HC := hid (chk_cat (hexG bs.length) bs)
  have hg4 := hexG_len h1
  have hgs : (⟨(hexG bs.length).toArray⟩ : ByteArray).size ≤ 4 := hg4
  have hbs : (⟨bs.toArray⟩ : ByteArray).size ≤ 16384 := h1
  have HCH := hid (show chkB bs = hexG bs.length ++ [13, 10] ++ bs ++ [13, 10] from rfl)
  clear hx hst hg4
  generalize chkB bs = CH at *
  generalize (⟨(hexG bs.length).toArray⟩ : ByteArray) = HB at *
  generalize (⟨bs.toArray⟩ : ByteArray) = BB at *
  go_enter Tryd.func20, Tryd.ntmps20
  go_wp2_with fail
  go_quiet ((go_at_call 49; exact Calls.quiet_of_same (HX.out _)))
  go_wp2
  go_ret2
  exact ⟨by rw [HCH.out, ← HC.out]; rfl, by first | exact Q.refl w | exact (Q.refl w).drew | exact (Q.refl w).drewN _⟩
theorem fld_cat (S a b : ByteArray) (X : List UInt8) (h : S = ⟨X.toArray⟩) : S ++ (((a ++ ⟨#[58, 32]⟩) ++ b) ++ ⟨#[13, 10]⟩) = ⟨(X ++ fldB a b).toArray⟩ := by
  subst h
  apply ByteArray.ext
  simp [fldB]
set_option maxHeartbeats 8000000 in
theorem rlast_any (x : Sv) (l : List Fd) (w : World) (h : Fin w x l) (hb : totF l + 4 * l.length ≤ 70368744177664) : Calls Tryd.prog 23 #[.slice x.a x.n x.c] w fun e w' => e = .returned (.string ⟨(lastB l).toArray⟩) ∧ Q w w' := by
  obtain ⟨xa, xn, xc⟩ := x
  have hl := h.len
  dsimp only at hl
  subst hl
  have HX := hid h
  have HL := hid (show (fdsB l).length ≤ 70368744177664 from by rw [fdsB_len]; exact hb)
  clear h hb
  go_enter Tryd.func23, Tryd.ntmps23
  go_wp2_with fail
  go_loopw [3, 4] (fun s i wr => ∃ (k : Nat) (S : ByteArray), k ≤ l.length ∧ i = .int .i64 (k : Int) ∧ s = .string S ∧ S = ⟨([48, 13, 10] ++ fdsB (l.take k)).toArray⟩ ∧ Q w wr) (fun _ i _ => l.length - (intOf i).toNat)
  case atStart => exact ⟨0, _, by omega, rfl, rfl, rfl, Q.refl w⟩
  case round =>
    obtain ⟨k, S, hk, rfl, rfl, hS, hq⟩ := hrel
    have HS := hid hS
    have HQ := hid hq
    have hSl : S.size = 3 + (fdsB (l.take k)).length := by
      rw [hS]
      show ([48, 13, 10] ++ fdsB (l.take k)).toArray.size = _
      rw [List.size_toArray, List.length_append]; rfl
    by_cases hlt : k < l.length
    · obtain ⟨g, off, ⟨p1, p2⟩, ha, hp, c0, c1⟩ := (HX.out.q hq).s.at hlt
      dsimp only at ha
      subst ha
      dsimp only at c0 c1
      have hki : (k : Int) < (l.length : Int) := by omega
      have hk0 : (0 : Int) ≤ (k : Int) := by omega
      have hkb : (k : Int) < 8796093022208 := by have := HX.out.b; omega
      have h1 := fdsB_take l (k + 1)
      have HN := hid (fld_cat S p1 p2 _ hS)
      have HSN := hid (fdsB_snoc hp)
      rw [fdsB_snoc hp, List.length_append, fldB_len] at h1
      dsimp only at h1
      have h3 := HL.out
      have hsz : S.size + p1.size + p2.size ≤ 70368744177680 := by omega
      clear hq hp h1 h3 hS hSl
      go_wp2_with fail
      go_quiet (fail)
      go_wp2
      go_roundw
      case rel => exact ⟨k + 1, _, by omega, by go_num, rfl, by rw [HN.out, HSN.out, List.append_assoc], by first | exact HQ.out | exact HQ.out.drew | exact HQ.out.drewN _⟩
      case measure => simp [intOf]; omega
    · have hki : ¬ (k : Int) < (l.length : Int) := by omega
      have e0 : l.take k = l := List.take_of_length_le (by omega)
      have h3 := HL.out
      rw [e0] at hSl
      have hsz : S.size ≤ 70368744177680 := by omega
      have HE := hid (show S ++ ⟨#[13, 10]⟩ = ⟨(lastB l).toArray⟩ from by
        rw [hS, e0]
        apply ByteArray.ext
        simp [lastB])
      clear hq hS hSl h3 e0
      go_wp2
      go_ret
      exact ⟨by rw [← HE.out]; rfl, HQ.out⟩
end Go.Proofs.YtclapheglgiokaaDoor
