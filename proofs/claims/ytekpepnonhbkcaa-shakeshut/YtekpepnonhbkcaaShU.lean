/-
  What readChoice does.
-/
import Derived.Test.YtekpepnonhbkcaaShT
import Derived.Laws.BytesArg
namespace Go.Proofs.Ytekpepnonhbkcaa
open Go.RowKit
set_option linter.unusedVariables false
set_option maxRecDepth 20000

theorem rdS_in (zs : List Int) (p f : Int) (s : Nat) (hp : 0 ≤ p) (hpn : p ≤ zs.length) : 0 ≤ (rdS zs p f s).2.1 ∧ (rdS zs p f s).2.1 ≤ zs.length :=
  takeR_len zs _ _ _ (rdN_in zs p f hp hpn s).1 (rdN_in zs p f hp hpn s).2
theorem own_str {w : World} {base g m : Nat} {zs : List Int} (h : Own w base (some ⟨g, 0, none⟩) m m zs) : (convert 24 9 (.slice (some ⟨g, 0, none⟩) m m)).run Try.prog w = .ok (.string (strOfNums zs)) w := by
  refine run_convert_bytes_arg (P := Try.prog) w 24 5 Try.underlying24 (by kernel_rfl) g 0 m m zs h.len (fun i hi => ?_) 9 (by kernel_rfl)
  have hl := h.len
  have hne : zs ≠ [] := by intro e; rw [e] at hl; simp at hl; omega
  obtain ⟨b, off, e, hc⟩ := h.seg hne
  cases e
  exact hc i (by omega)

set_option maxHeartbeats 4000000 in
theorem rch_any (a : Option Addr) (n c : Nat) (zs : List Int) (w : World) (hl : zs.length = n) (hn : n ≤ 140737488355328) (hz : ∀ y ∈ zs, 0 ≤ y ∧ y < 256) (hseg : Seg w a zs) :
    Calls Try.prog 54 #[.slice a n c] w fun e w' => ∃ g m, e = .returned (.tuple #[.string (strOfNums (rdS zs 0 0 1).1), .slice (some ⟨g, 0, none⟩) m m, .bool (decide ((rdS zs (rdS zs 0 0 1).2.1 (rdS zs 0 0 1).2.2 2).2.2 = 0 ∧ (rdS zs (rdS zs 0 0 1).2.1 (rdS zs 0 0 1).2.2 2).2.1 = n) && okT (strOfNums (rdS zs 0 0 1).1).size && decide (m ≤ 1024))]) ∧ Q w w' ∧ Own w' w.heap.size (some ⟨g, 0, none⟩) m m (rdS zs (rdS zs 0 0 1).2.1 (rdS zs 0 0 1).2.2 2).1 := by
  have HOP := hid (open_any a n c zs w hl hn hseg)
  have HSZ := hid (fun (rb g : Nat) (p f : Int) (s : Nat) (W : World) (hp : 0 ≤ p) (hpn : p ≤ n) (h1 : SegOff rb W (some ⟨g, 0, none⟩) zs) (h2 : Rdr W 107 rb (some ⟨g, 0, none⟩) n n p f) (h8 : s ≤ 8) => rsized_any rb (some ⟨g, 0, none⟩) n n zs p f s W hl hn (Nat.le_refl _) hp hpn hz h1 h2 h8)
  have HL := hid hl
  clear hl hz hseg
  have HI1 := hid (rdS_in zs 0 0 1 (by omega) (by omega))
  have HI2 := hid (rdS_in zs (rdS zs 0 0 1).2.1 (rdS zs 0 0 1).2.2 2 HI1.out.1 HI1.out.2)
  generalize ht : rdS zs 0 0 1 = t at *
  obtain ⟨tb, tp, tf⟩ := t
  simp only at HI1 HI2 ⊢
  generalize hu : rdS zs tp tf 2 = u at *
  obtain ⟨ub, up, uf⟩ := u
  simp only at HI2 ⊢
  have HT := hid ht
  have HU := hid hu
  clear ht hu
  go_enter Try.func54, Try.ntmps54
  go_upto_region 2 with (go_at_call 60; refine HOP.out.mono ?_; rintro e w1 ⟨g, rb, rfl, q1, hb, hg, hne, r1, o1⟩; have Q1 := hid q1; have R1 := hid r1; have O1 := hid o1; clear q1 r1 o1)
  have hrb := R1.out.lt
  generalize hw2 : World.alloc w1 _ = w2
  have q2 : Q w1 w2 := by rw [← hw2]; exact (Q.refl w1).alloc _
  have hbx : w2.cell? ⟨w1.heap.size, 0, none⟩ = some (.pointer (some ⟨rb, 0, none⟩)) := by rw [← hw2, cell_of_row _ w1.heap.size 0 _ 98 (0, 0) (heap_alloc_new w1 _)]; rfl
  clear hw2
  have S2 : Hid (SegOff rb w2 (some ⟨g, 0, none⟩) zs) := hid ⟨(O1.out.seg).q q2, fun _ ad e => by cases e; exact hne⟩
  have R2 := hid (R1.out.q q2)
  have Q2 := hid (Q1.out.trans q2)
  have hbn : w1.heap.size ≠ rb := by omega
  clear q2 R1 O1 Q1 hrb
  generalize w1.heap.size = bx at *
  clear w1
  go_upto_region 3 with (go_at_call 63; refine (HSZ.out rb g 0 0 1 _ (by omega) (by omega) S2.out R2.out (by omega)).mono ?_; rintro e w3 ⟨g3, m3, rfl, o3, r3, n3, hm3⟩; rw [HT.out] at r3 n3; have S3 := hid (S2.out.only o3); have Q3 := hid (show Q w w3 from o3.below Q2.out hb Q2.out.size); have R3 := hid r3; have C3 := o3.cell hbx hbn; have cv := own_str n3; clear o3 r3 hbx n3)
  go_upto_region 4 with (go_at_call 63; refine (HSZ.out rb g tp tf 2 _ HI1.out.1 (by have := HI1.out.2; have := HL.out; omega) S3.out R3.out (by omega)).mono ?_; rintro e w4 ⟨g4, m4, rfl, o4, r4, n4, hm4⟩; rw [HU.out] at r4 n4; have Q4 := hid (show Q w w4 from o4.below Q3.out hb Q3.out.size); have R4 := hid r4; have C4 := o4.cell C3 hbn; have N4 := hid (n4.weak Q3.out.size); clear o4 r4 n4 C3 cv)
  have HW := hid (whole_any rb (some ⟨g, 0, none⟩) n n up uf w4 hn HI2.out.1 (by have := HI2.out.2; have := HL.out; omega) R4.out)
  have HP := hid (rightProto_any (strOfNums tb))
  have HM := hid (rightParams_any (some ⟨g4, 0, none⟩) m4 m4)
  generalize hk : decide (uf = 0 ∧ up = (n : Int)) = k at HW
  generalize hk3 : decide (m4 ≤ 1024) = k3 at HM
  cases k with
  | false =>
    go_wp2_with (go_at_call 64; refine HW.out.mono ?_; rintro e w5 ⟨rfl, q5⟩; have Q5 := hid (Q4.out.trans q5); have N5 := hid (N4.out.q q5); clear q5)
    go_ret3
    exact ⟨g4, m4, by rw [hk]; rfl, Q5.out, N5.out⟩
  | true =>
    cases hk2 : okT (strOfNums tb).size with
    | false =>
      rw [hk2] at HP
      go_wp2_with (first | (go_at_call 64; refine HW.out.mono ?_; rintro e w5 ⟨rfl, q5⟩; have Q5 := hid (Q4.out.trans q5); have N5 := hid (N4.out.q q5); clear q5) | (go_at_call 29; refine (HP.out _).mono ?_; rintro e w6 ⟨rfl, rfl⟩))
      go_ret3
      exact ⟨g4, m4, by rw [hk, hk2]; rfl, Q5.out, N5.out⟩
    | true =>
      rw [hk2] at HP
      go_wp2_with (first | (go_at_call 64; refine HW.out.mono ?_; rintro e w5 ⟨rfl, q5⟩; have Q5 := hid (Q4.out.trans q5); have N5 := hid (N4.out.q q5); clear q5) | (go_at_call 29; refine (HP.out _).mono ?_; rintro e w6 ⟨rfl, rfl⟩) | (go_at_call 21; refine (HM.out _).mono ?_; rintro e w7 ⟨rfl, rfl⟩))
      go_ret3
      exact ⟨g4, m4, by rw [hk, hk2, hk3]; rfl, Q5.out, N5.out⟩
end Go.Proofs.Ytekpepnonhbkcaa
