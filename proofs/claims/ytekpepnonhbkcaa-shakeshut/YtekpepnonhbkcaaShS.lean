/-
  What the other methods of shake's own reader do: greeting, sized, whole.
-/
import Derived.Test.YtekpepnonhbkcaaShR
namespace Go.Proofs.Ytekpepnonhbkcaa
open Go.RowKit
set_option linter.unusedVariables false
set_option maxRecDepth 20000

set_option maxHeartbeats 4000000 in
theorem whole_any (rb : Nat) (a : Option Addr) (n c : Nat) (p f : Int) (w : World) (hn : n ≤ 140737488355328) (hp : 0 ≤ p) (hpn : p ≤ n) (hr : Rdr w 107 rb a n c p f) :
    Calls Try.prog 64 #[rv rb] w fun e w' => e = .returned (.bool (decide (f = 0 ∧ p = n))) ∧ Q w w' := by
  have HR := hid hr
  clear hr
  go_enter Try.func64, Try.ntmps64
  go_upto_region 1 with fail
  generalize hw1 : World.alloc w _ = w1
  have q1 : Q w w1 := by rw [← hw1]; exact (Q.refl w).alloc _
  have hbx : w1.cell? ⟨w.heap.size, 0, none⟩ = some (.pointer (some ⟨rb, 0, none⟩)) := by rw [← hw1, cell_of_row _ w.heap.size 0 _ 98 (0, 0) (heap_alloc_new w _)]; rfl
  clear hw1
  have R1 := hid (HR.out.q q1)
  have Q1 := hid q1
  have HLE := hid (fun W (h : Rdr W 107 rb a n c p f) => left_any rb a n c p f W hn hp hpn h)
  clear q1 HR
  generalize w.heap.size = bx at *
  by_cases hf : f = 0
  · subst hf
    go_wp2_with (first | (go_at_call 78; refine (fault_any rb a n c p 0 _ R1.out).mono ?_; rintro e w2 ⟨rfl, rfl⟩) | (go_at_call 79; refine (HLE.out _ R1.out).mono ?_; rintro e w2 ⟨rfl, k, rfl⟩))
    go_ret
    have he : ((n : Int) - p == 0) = decide (p = (n : Int)) := by rw [Bool.eq_iff_iff]; simp; omega
    exact ⟨by rw [he]; rfl, (Q1.out).drewN k⟩
  · have hb : (f == 0) = false := by simp [hf]
    go_wp2_with (first | (go_at_call 78; refine (fault_any rb a n c p f _ R1.out).mono ?_; rintro e w2 ⟨rfl, rfl⟩) | (go_at_call 79; refine (HLE.out _ R1.out).mono ?_; rintro e w2 ⟨rfl, k, rfl⟩))
    go_ret
    exact ⟨by simp [hf], Q1.out⟩

/-- What a greeting reads. -/
def rdG (zs : List Int) (p f : Int) : Int × Int × Int := rdN zs (takeR zs p f 32).2.1 (takeR zs p f 32).2.2 8

set_option maxHeartbeats 4000000 in
theorem rgreet_any (rb : Nat) (a : Option Addr) (n c : Nat) (zs : List Int) (p f : Int) (w : World) (hl : zs.length = n) (hn : n ≤ 140737488355328) (hnc : n ≤ c) (hp : 0 ≤ p) (hpn : p ≤ n) (hz : ∀ y ∈ zs, 0 ≤ y ∧ y < 256) (hs : SegOff rb w a zs) (hr : Rdr w 107 rb a n c p f) :
    Calls Try.prog 61 #[rv rb] w fun e w' => e = .returned (.int .i64 (rdG zs p f).1) ∧ Only rb w w' ∧ Rdr w' 107 rb a n c (rdG zs p f).2.1 (rdG zs p f).2.2 := by
  have HBS := hid (fun (W : World) (h2 : SegOff rb W a zs) (h3 : Rdr W 107 rb a n c p f) => bytes_any rb a n c zs p f 32 W hl hn hnc hp hpn h2 h3)
  have HT := hid (takeR_len zs p f 32 hp (by omega))
  have HG := hid (show rdG zs p f = rdN zs (takeR zs p f 32).2.1 (takeR zs p f 32).2.2 8 from rfl)
  have HNU := hid (fun (W : World) (p' f' : Int) (h0 : 0 ≤ p') (h1 : p' ≤ n) (h2 : SegOff rb W a zs) (h3 : Rdr W 107 rb a n c p' f') => rnum_any rb a n c zs p' f' 8 W hl hn hnc h0 h1 hz h2 h3 (by omega))
  have HL := hid hl
  have HS := hid hs
  have HR := hid hr
  have hrb := hr.lt
  clear hl hz hs hr
  go_enter Try.func61, Try.ntmps61
  go_upto_region 1 with fail
  generalize hw1 : World.alloc w _ = w1
  have q1 : Q w w1 := by rw [← hw1]; exact (Q.refl w).alloc _
  have hbx : w1.cell? ⟨w.heap.size, 0, none⟩ = some (.pointer (some ⟨rb, 0, none⟩)) := by rw [← hw1, cell_of_row _ w.heap.size 0 _ 98 (0, 0) (heap_alloc_new w _)]; rfl
  clear hw1
  have S1 := hid (HS.out.q q1)
  have R1 := hid (HR.out.q q1)
  have O1 := hid (Only.q (rb := rb) q1)
  have hne : w.heap.size ≠ rb := by omega
  clear q1
  generalize w.heap.size = bx at *
  generalize takeR zs p f 32 = t at *
  obtain ⟨tb, tp, tf⟩ := t
  simp only at *
  go_wp2_with (go_at_call 75; refine (HBS.out _ S1.out R1.out).mono ?_; rintro e w2 ⟨g, m, rfl, o2, r2, n2, m2⟩; have O2 := hid (O1.out.trans o2); have R2 := hid r2; have S2 := hid (S1.out.only o2); have C2 := o2.cell hbx hne; clear o2 r2 hbx n2)
  go_wp2_with (go_at_call 76; refine (HNU.out _ tp tf HT.out.1 (by have := HT.out.2; have := HL.out; omega) S2.out R2.out).mono ?_; rintro e w3 ⟨rfl, o3, r3⟩; have O3 := hid (O2.out.trans o3); have R3 := hid r3; clear o3 r3)
  go_ret
  rw [HG.out]
  exact ⟨rfl, O3.out, R3.out⟩

/-- What sized reads. -/
def rdS (zs : List Int) (p f : Int) (s : Nat) : List Int × Int × Int := takeR zs (rdN zs p f s).2.1 (rdN zs p f s).2.2 (rdN zs p f s).1

set_option maxHeartbeats 4000000 in
theorem rsized_any (rb : Nat) (a : Option Addr) (n c : Nat) (zs : List Int) (p f : Int) (s : Nat) (w : World) (hl : zs.length = n) (hn : n ≤ 140737488355328) (hnc : n ≤ c) (hp : 0 ≤ p) (hpn : p ≤ n) (hz : ∀ y ∈ zs, 0 ≤ y ∧ y < 256) (hs : SegOff rb w a zs) (hr : Rdr w 107 rb a n c p f) (hs8 : s ≤ 8) :
    Calls Try.prog 63 #[rv rb, .int .i64 (s : Int)] w fun e w' => ∃ g m, e = .returned (.slice (some ⟨g, 0, none⟩) m m) ∧ Only rb w w' ∧ Rdr w' 107 rb a n c (rdS zs p f s).2.1 (rdS zs p f s).2.2 ∧ Own w' w.heap.size (some ⟨g, 0, none⟩) m m (rdS zs p f s).1 ∧ m ≤ n := by
  have HBS := hid (fun (W : World) (p' f' k : Int) (h0 : 0 ≤ p') (h1 : p' ≤ n) (h2 : SegOff rb W a zs) (h3 : Rdr W 107 rb a n c p' f') => bytes_any rb a n c zs p' f' k W hl hn hnc h0 h1 h2 h3)
  have HT := hid (rdN_in zs p f hp (by omega) s)
  have HG := hid (show rdS zs p f s = takeR zs (rdN zs p f s).2.1 (rdN zs p f s).2.2 (rdN zs p f s).1 from rfl)
  have HNU := hid (fun (W : World) (h2 : SegOff rb W a zs) (h3 : Rdr W 107 rb a n c p f) => rnum_any rb a n c zs p f s W hl hn hnc hp hpn hz h2 h3 hs8)
  have HL := hid hl
  have HS := hid hs
  have HR := hid hr
  have hrb := hr.lt
  clear hl hz hs hr
  go_enter Try.func63, Try.ntmps63
  go_upto_region 1 with fail
  generalize hw1 : World.alloc w _ = w1
  have q1 : Q w w1 := by rw [← hw1]; exact (Q.refl w).alloc _
  have hbx : w1.cell? ⟨w.heap.size, 0, none⟩ = some (.pointer (some ⟨rb, 0, none⟩)) := by rw [← hw1, cell_of_row _ w.heap.size 0 _ 98 (0, 0) (heap_alloc_new w _)]; rfl
  clear hw1
  have S1 := hid (HS.out.q q1)
  have R1 := hid (HR.out.q q1)
  have O1 := hid (Only.q (rb := rb) q1)
  have hne : w.heap.size ≠ rb := by omega
  clear q1
  generalize hbw : w.heap.size = bx at *
  generalize rdN zs p f s = t at *
  obtain ⟨tn, tp, tf⟩ := t
  simp only at *
  go_region_with (first
    | (go_at_call 76; refine (HNU.out _ (S1.out.q (by repeat (first | exact Q.refl _ | apply Q.drewN | apply Q.drew))) (R1.out.q (by repeat (first | exact Q.refl _ | apply Q.drewN | apply Q.drew)))).mono ?_; rintro e w2 ⟨rfl, o2, r2⟩; have O2 := hid (O1.out.trans (Only.trans (Only.q (by repeat (first | exact Q.refl _ | apply Q.drewN | apply Q.drew))) o2)); have S2 := hid ((S1.out.q (by repeat (first | exact Q.refl _ | apply Q.drewN | apply Q.drew))).only o2); have R2 := hid r2; have C2 := o2.cell hbx hne; clear o2 r2)
    | (go_at_call 75; refine (HBS.out _ tp tf tn HT.out.1 (by have := HT.out.2; have := HL.out; omega) (S2.out.q (by repeat (first | exact Q.refl _ | apply Q.drewN | apply Q.drew))) (R2.out.q (by repeat (first | exact Q.refl _ | apply Q.drewN | apply Q.drew)))).mono ?_; rintro e w3 ⟨g, m, rfl, o3, r3, n3, m3⟩; have O3 := hid (O2.out.trans (Only.trans (Only.q (by repeat (first | exact Q.refl _ | apply Q.drewN | apply Q.drew))) o3)); have R3 := hid r3; have N3 := hid n3; clear o3 r3 n3))
  all_goals (go_wp2; go_ret; rw [HG.out]; exact ⟨g, m, rfl, O3.out, R3.out, N3.out.weak (World.grownBy.size O2.out), m3⟩)
end Go.Proofs.Ytekpepnonhbkcaa
