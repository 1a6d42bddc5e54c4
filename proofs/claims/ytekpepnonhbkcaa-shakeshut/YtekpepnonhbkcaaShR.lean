/-
  What the methods of shake's own reader do: contracts that the statements' walks use.
-/
import Derived.Test.YtekpepnonhbkcaaShB
import Derived.Deep.Cut
import Derived.Deep.CutRange
namespace Go.Proofs.Ytekpepnonhbkcaa
open Go.RowKit
set_option linter.unusedVariables false
set_option maxRecDepth 20000

/-- A number of so many bytes, the place and the fault behind it. -/
def rdN (zs : List Int) (p f : Int) : Nat → Int × Int × Int
  | 0 => (0, p, f)
  | k + 1 => (bits .or .i64 (wrap64 ((rdN zs p f k).1 * 256)) ((takeR zs (rdN zs p f k).2.1 (rdN zs p f k).2.2 1).1.getD 0 0), (takeR zs (rdN zs p f k).2.1 (rdN zs p f k).2.2 1).2.1, (takeR zs (rdN zs p f k).2.1 (rdN zs p f k).2.2 1).2.2)
theorem rdN_in (zs : List Int) (p f : Int) (hp : 0 ≤ p) (hpn : p ≤ zs.length) : ∀ k, 0 ≤ (rdN zs p f k).2.1 ∧ (rdN zs p f k).2.1 ≤ zs.length
  | 0 => ⟨hp, hpn⟩
  | k + 1 => by
    have ih := rdN_in zs p f hp hpn k
    exact takeR_len zs _ _ 1 ih.1 ih.2
abbrev rv (rb : Nat) : Value := .agg #[.pointer (some ⟨rb, 0, none⟩)]
set_option maxHeartbeats 4000000 in
theorem rnum_any (rb : Nat) (a : Option Addr) (n c : Nat) (zs : List Int) (p f : Int) (s : Nat) (w : World) (hl : zs.length = n) (hn : n ≤ 140737488355328) (hnc : n ≤ c) (hp : 0 ≤ p) (hpn : p ≤ n) (hz : ∀ y ∈ zs, 0 ≤ y ∧ y < 256) (hs : SegOff rb w a zs) (hr : Rdr w 107 rb a n c p f) (hs8 : s ≤ 8) :
    Calls Try.prog 76 #[rv rb, .int .i64 (s : Int)] w fun e w' => e = .returned (.int .i64 (rdN zs p f s).1) ∧ Only rb w w' ∧ Rdr w' 107 rb a n c (rdN zs p f s).2.1 (rdN zs p f s).2.2 := by
  have HL := hid hl
  have HIN := hid (rdN_in zs p f hp (by omega))
  have HBY := hid (fun (W : World) (p' f' : Int) (h0 : 0 ≤ p') (h1 : p' ≤ n) (h2 : SegOff rb W a zs) (h3 : Rdr W 107 rb a n c p' f') => byte_any rb a n c zs p' f' W hl hn hnc h0 h1 hz h2 h3)
  have HS := hid hs
  have HR := hid hr
  have hrb := hr.lt
  clear hl hz hs hr hp hpn
  go_enter Try.func76, Try.ntmps76
  go_upto_region 1 with fail
  generalize hw1 : World.alloc w _ = w1
  have q1 : Q w w1 := by rw [← hw1]; exact (Q.refl w).alloc _
  have hbx : w1.cell? ⟨w.heap.size, 0, none⟩ = some (.pointer (some ⟨rb, 0, none⟩)) := by rw [← hw1, cell_of_row _ w.heap.size 0 _ 98 (0, 0) (heap_alloc_new w _)]; rfl
  clear hw1
  have S1 := hid (HS.out.q q1)
  have R1 := hid (HR.out.q q1)
  have O1 := hid (Only.q (rb := rb) q1)
  have HBX := hid hbx
  have hne : w.heap.size ≠ rb := by omega
  clear q1 hbx
  generalize w.heap.size = bx at *
  go_wp2_with fail
  go_loopw [5, 7] (fun v i wr => ∃ k : Nat, k ≤ s ∧ i = .int .i64 (k : Int) ∧ v = .int .i64 (rdN zs p f k).1 ∧ Only rb w wr ∧ Rdr wr 107 rb a n c (rdN zs p f k).2.1 (rdN zs p f k).2.2 ∧ SegOff rb wr a zs ∧ wr.cell? ⟨bx, 0, none⟩ = some (.pointer (some ⟨rb, 0, none⟩))) (fun _ i _ => s - (intOf i).toNat)
  case atStart => exact ⟨0, Nat.zero_le _, rfl, rfl, O1.out, R1.out, S1.out, HBX.out⟩
  case round =>
    obtain ⟨k, hk, rfl, rfl, ho, hr, hs, hc⟩ := hrel
    have HO := hid ho
    have HRR := hid hr
    have HSS := hid hs
    clear ho hr hs
    by_cases hlt : k < s
    · have hki : (k : Int) < (s : Int) := by omega
      have HRD := hid (show rdN zs p f (k + 1) = (bits .or .i64 (wrap64 ((rdN zs p f k).1 * 256)) ((takeR zs (rdN zs p f k).2.1 (rdN zs p f k).2.2 1).1.getD 0 0), (takeR zs (rdN zs p f k).2.1 (rdN zs p f k).2.2 1).2.1, (takeR zs (rdN zs p f k).2.1 (rdN zs p f k).2.2 1).2.2) from rfl)
      have HK := hid (HIN.out k)
      generalize (rdN zs p f k).1 = v at *
      generalize (rdN zs p f k).2.1 = p' at *
      generalize (rdN zs p f k).2.2 = f' at *
      go_wp2_with (go_at_call 62; refine (HBY.out _ p' f' HK.out.1 (by have := HK.out.2; have := HL.out; omega) HSS.out HRR.out).mono ?_; rintro e w2 ⟨rfl, o2, r2⟩; have O2 := hid (HO.out.trans o2); have R2 := hid r2; have S2 := hid (HSS.out.only o2); have C2 := hid (o2.cell hc hne); clear o2 r2)
      exact ⟨⟨k + 1, by omega, by go_num, by rw [HRD.out]; simp [List.getD_eq_getElem?_getD], O2.out, by rw [HRD.out]; exact R2.out, S2.out, C2.out⟩, by simp [intOf]; omega⟩
    · have hks : k = s := by omega
      have hki : ¬ (k : Int) < (s : Int) := by omega
      subst hks
      go_wp2
      go_ret
      exact ⟨rfl, HO.out, HRR.out⟩
end Go.Proofs.Ytekpepnonhbkcaa
