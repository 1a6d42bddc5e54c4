/-
  What readServerHello does.
-/
import Derived.Test.YtekpepnonhbkcaaShS
namespace Go.Proofs.Ytekpepnonhbkcaa
open Go.RowKit
set_option linter.unusedVariables false
set_option maxRecDepth 20000

theorem rdG_in (zs : List Int) (p f : Int) (hp : 0 ≤ p) (hpn : p ≤ zs.length) : 0 ≤ (rdG zs p f).2.1 ∧ (rdG zs p f).2.1 ≤ zs.length :=
  rdN_in zs _ _ (takeR_len zs p f 32 hp hpn).1 (takeR_len zs p f 32 hp hpn).2 8
set_option maxHeartbeats 4000000 in
theorem rsh_any (a : Option Addr) (n c : Nat) (zs : List Int) (w : World) (hl : zs.length = n) (hn : n ≤ 140737488355328) (hz : ∀ y ∈ zs, 0 ≤ y ∧ y < 256) (hseg : Seg w a zs) :
    Calls Try.prog 53 #[.slice a n c] w fun e w' => e = .returned (.tuple #[.int .i64 (rdG zs 0 0).1, .bool (decide ((rdG zs 0 0).2.2 = 0 ∧ (rdG zs 0 0).2.1 = n) && okP (rdG zs 0 0).1)]) ∧ Q w w' := by
  have HOP := hid (open_any a n c zs w hl hn hseg)
  have HGR := hid (fun rb g (W : World) (h1 : SegOff rb W (some ⟨g, 0, none⟩) zs) (h2 : Rdr W 107 rb (some ⟨g, 0, none⟩) n n 0 0) => rgreet_any rb (some ⟨g, 0, none⟩) n n zs 0 0 W hl hn (Nat.le_refl _) (by omega) (by omega) hz h1 h2)
  have HL := hid hl
  clear hl hz hseg
  go_enter Try.func53, Try.ntmps53
  go_upto_region 2 with (go_at_call 60; refine HOP.out.mono ?_; rintro e w1 ⟨g, rb, rfl, q1, hb, hg, hne, r1, o1⟩; have Q1 := hid q1; have R1 := hid r1; have O1 := hid o1; clear q1 r1 o1)
  have hrb := R1.out.lt
  generalize hw2 : World.alloc w1 _ = w2
  have q2 : Q w1 w2 := by rw [← hw2]; exact (Q.refl w1).alloc _
  have hbx : w2.cell? ⟨w1.heap.size, 0, none⟩ = some (.pointer (some ⟨rb, 0, none⟩)) := by rw [← hw2, cell_of_row _ w1.heap.size 0 _ 98 (0, 0) (heap_alloc_new w1 _)]; rfl
  clear hw2
  have S2 : Hid (SegOff rb w2 (some ⟨g, 0, none⟩) zs) := hid ⟨(O1.out.seg).q q2, fun _ ad e => by cases e; exact hne⟩
  have R2 := hid (R1.out.q q2)
  have Q2 := hid (Q1.out.trans q2)
  have hbn : w1.heap.size ≠ rb := by omega
  clear q2 R1 O1 Q1 hrb
  generalize w1.heap.size = bx at *
  clear w1
  have HG := hid (rdG_in zs 0 0 (by omega) (by omega))
  generalize ht : rdG zs 0 0 = t at HGR HG
  obtain ⟨tn, tp, tf⟩ := t
  have HT := hid ht
  clear ht
  simp only at HGR HG
  go_upto_region 3 with (go_at_call 61; refine (HGR.out rb g _ S2.out R2.out).mono ?_; rintro e w3 ⟨rfl, o3, r3⟩; have O3 := hid o3; have R3 := hid r3; have C3 := o3.cell hbx hbn; clear o3 r3 hbx)
  have Q3 := hid (show Q w w3 from O3.out.below Q2.out hb Q2.out.size)
  have HW := hid (whole_any rb (some ⟨g, 0, none⟩) n n tp tf w3 hn HG.out.1 (by have := HG.out.2; have := HL.out; omega) R3.out)
  by_cases hk : tf = 0 ∧ tp = n
  · have hd : decide (tf = 0 ∧ tp = (n : Int)) = true := by simp [hk]
    rw [hd] at HW
    clear hk
    go_wp2_with (first
      | (go_at_call 64; refine HW.out.mono ?_; rintro e w4 ⟨rfl, q4⟩; have Q4 := hid (Q3.out.trans q4); clear q4)
      | (go_at_call 65; refine (rightPublic_any tn _).mono ?_; rintro e w5 ⟨rfl, rfl⟩))
    go_ret2
    rw [HT.out, hd]
    exact ⟨by rw [Bool.true_and]; rfl, Q4.out⟩
  · have hd : decide (tf = 0 ∧ tp = (n : Int)) = false := by simp [hk]
    rw [hd] at HW
    clear hk
    go_wp2_with (go_at_call 64; refine HW.out.mono ?_; rintro e w4 ⟨rfl, q4⟩; have Q4 := hid (Q3.out.trans q4); clear q4)
    go_ret2
    rw [HT.out, hd]
    exact ⟨rfl, Q4.out⟩
end Go.Proofs.Ytekpepnonhbkcaa
