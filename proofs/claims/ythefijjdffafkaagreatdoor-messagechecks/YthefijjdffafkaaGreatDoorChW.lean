/-
  The law on Check, walked whole.
-/
import Derived.Test.YthefijjdffafkaaGreatDoorDoI
import Derived.Test.YthefijjdffafkaaGreatDoorDoD
import Derived.Test.YthefijjdffafkaaGreatDoorSmF
import Derived.Test.YthefijjdffafkaaGreatDoorTrW
namespace Go.Proofs.YthefijjdffafkaaGreatDoor
open Go.RowKit
set_option linter.unusedVariables false
set_option maxRecDepth 100000

theorem chR_len (l : List Fd) (c s : Int) : (chR l c s).fs.length ≤ l.length := by
  unfold chR
  by_cases h : chE l c s = 0
  · rw [if_pos h]; exact pln_len l
  · rw [if_neg h]; exact Nat.zero_le _
theorem mark_step {w : World} {a : Option Addr} {n c k : Nat} {vs : List Value} (h : Sub w 37 2 a n c vs) (hk : k < n) : ∃ g off v, a = some ⟨g, off, none⟩ ∧ w.cell? ⟨g, off + k * 2, none⟩ = some v ∧ w.frozen? ⟨g, off + k * 2, none⟩ = false ∧ ∀ u, Sub (w.setCell ⟨g, off + k * 2, none⟩ u) 37 2 a n c (vs.set (k * 2) u) := by
  obtain ⟨g, off, ha, hf, hc⟩ := h.some_ (by omega)
  have hl := h.len
  have hlt : k * 2 < vs.length := by omega
  exact ⟨g, off, vs[k * 2], ha, hc _ _ (List.getElem?_eq_getElem hlt), hf _, fun u => h.set ha (by omega) u⟩
set_option maxHeartbeats 16000000 in
theorem checks_walk (x : Sv) (l : List Fd) (c s : Int) (w : World) (h : Fin w x l) : Calls Tryz.prog 3 #[.slice x.a x.n x.c, .agg #[.int .i64 c, .int .i64 s]] w fun e w' => e = .returned (.bool true) ∧ Q w w' := by
  obtain ⟨xa, xn, xc⟩ := x
  have hl := h.len
  dsimp only at hl
  subst hl
  have HX := hid h
  have HB4 := hid h.b
  have HCP := hid (fun W q => copy_any ⟨xa, l.length, xc⟩ l W (h.q (w' := W) q))
  have HDC := hid (fun W (q : Q w W) => (by have := dcheck_any ⟨xa, l.length, xc⟩ l c s W (h.q q); unfold chV rqV at this; exact this : Calls Tryz.prog 7 #[.slice xa l.length xc, .int .i64 c, .int .i64 s] W fun e w' => ∃ y : Sv, e = .returned (.tuple #[.agg (rqC (chR l c s).m (chR l c s).s (chR l c s).a (chR l c s).p y (chR l c s).len), .int .i64 (chE l c s)]) ∧ Q W w' ∧ RowG w' y (chR l c s).fs ∧ New W.heap.size y))
  have HCK := hid (fun a W (f : Fin W ⟨a, l.length, l.length⟩ l) => (by have := check_any ⟨a, l.length, l.length⟩ l c s W f; unfold chV rqV at this; exact this : Calls Tryz.prog 6 #[.slice a l.length l.length, .agg #[.int .i64 c, .int .i64 s]] W fun e w' => ∃ y : Sv, e = .returned (.tuple #[.agg (rqC (chR l c s).m (chR l c s).s (chR l c s).a (chR l c s).p y (chR l c s).len), .int .i64 (chE l c s)]) ∧ Q W w' ∧ RowG w' y (chR l c s).fs ∧ New W.heap.size y))
  have HAW := hid awake_any
  have HFN := hid (fun W a (r : RowG W ⟨a, l.length, l.length⟩ l) => r.fin (Nat.le_refl _) h.b h.d)
  have HRS := hid (fun (x y : Sv) W (hx : RowG W x (chR l c s).fs) (hy : RowG W y (chR l c s).fs) => (by have := req_same (chR l c s) x y W hx hy (by have := chR_len l c s; have := h.b; omega); unfold rqV at this; exact this : Calls Tryz.prog 8 #[.agg (rqC (chR l c s).m (chR l c s).s (chR l c s).a (chR l c s).p x (chR l c s).len), .agg (rqC (chR l c s).m (chR l c s).s (chR l c s).a (chR l c s).p y (chR l c s).len)] W fun e w' => e = .returned (.bool true) ∧ Q W w'))
  have HSM := hid (fun a W (r : RowG W ⟨a, l.length, l.length⟩ l) (q : Q w W) => same_any ⟨a, l.length, l.length⟩ ⟨xa, l.length, xc⟩ l W r.seg (h.q q).s rfl rfl h.b)
  have HFL := hid (chR_len l c s)
  have HQ0 := hid ((Q.refl w).alloc (.cells #[.int .i64 c, .int .i64 s] 24))
  have HB := hid (blk_new w #[.int .i64 c, .int .i64 s] 24)
  have HB0 := hid (Nat.le_refl w.heap.size)
  dsimp only at HCP HDC HCK HRS HSM
  clear h
  generalize (chR l c s).m = m at *
  generalize (chR l c s).s = sc at *
  generalize (chR l c s).a = au at *
  generalize (chR l c s).p = pa at *
  generalize (chR l c s).len = ln at *
  generalize (chR l c s).fs = fs at *
  generalize chE l c s = E at *
  have hEE : (E != E) = false := by simp
  go_enter Tryz.func3, Tryz.ntmps3
  go_wp2_with fail
  generalize hW : World.alloc w _ = W0 at *
  clear hW
  generalize hb0 : w.heap.size = b0 at HB HB0 ⊢
  refine (HCP.out W0 HQ0.out).mono ?_
  rintro e w1 ⟨g, rfl, q1, r1, n1⟩
  have Q1 := hid (HQ0.out.trans q1)
  have B1 := hid (HB.out.q q1)
  have R1 := hid r1
  have LG := hid (show w.heap.size ≤ g from by have := HQ0.out.size; omega)
  have GLT := hid (show g < w1.heap.size from r1.lt g rfl)
  have c10 : w1.cell? ⟨b0, 0, none⟩ = some (.int .i64 c) := B1.out.cell 0
  have c11 : w1.cell? ⟨b0, 1, none⟩ = some (.int .i64 s) := B1.out.cell 1
  clear q1 r1 n1 HQ0 HB HCP
  go_wp2_with fail
  refine (HCK.out _ _ (HFN.out _ _ R1.out)).mono ?_
  rintro e w2 ⟨⟨ya, yn, yc⟩, rfl, q2, ry, ny⟩
  have NY := hid (show ∀ b, blk ya = some b → b ≠ g ∧ w1.heap.size ≤ b from fun b e => by have h1 := ny b e; have h2 := GLT.out; exact ⟨by omega, h1⟩)
  have YL := hid ry.lt
  have YLEN := hid ry.len
  have q3 : Q w2 (w2.alloc (.cells #[.string m, .string sc, .string au, .string pa, .slice ya yn yc, .int .i64 ln] 27)) := (Q.refl w2).alloc _
  have Q3 := hid ((Q1.out.trans q2).trans q3)
  have R3 := hid ((R1.out.q q2).q q3)
  have Y3 := hid (ry.q q3)
  have B3 := hid ((B1.out.q q2).q q3)
  have B6 := hid (show Blk (w2.alloc (.cells #[.string m, .string sc, .string au, .string pa, .slice ya yn yc, .int .i64 ln] 27)) w2.heap.size 27 (rqC m sc au pa ⟨ya, yn, yc⟩ ln) from blk_new w2 _ 27)
  have c30 : (w2.alloc (.cells #[.string m, .string sc, .string au, .string pa, .slice ya yn yc, .int .i64 ln] 27)).cell? ⟨b0, 0, none⟩ = some (.int .i64 c) := B3.out.cell 0
  have c31 : (w2.alloc (.cells #[.string m, .string sc, .string au, .string pa, .slice ya yn yc, .int .i64 ln] 27)).cell? ⟨b0, 1, none⟩ = some (.int .i64 s) := B3.out.cell 1
  have L12 := hid (show w1.heap.size ≤ w2.heap.size from Below.size q2)
  clear q2 q3 ry ny Q1 B1 R1 c10 c11 HCK HFN
  go_wp2_with fail
  generalize hW : World.alloc w2 _ = W3 at *
  clear hW
  generalize w2.heap.size = b6 at *
  refine (HDC.out W3 Q3.out).mono ?_
  rintro e w4 ⟨⟨za, zn, zc⟩, rfl, q4, rz, nz⟩
  have q5 : Q w4 (w4.alloc (.cells #[.string m, .string sc, .string au, .string pa, .slice za zn zc, .int .i64 ln] 31)) := (Q.refl w4).alloc _
  have Q5 := hid ((Q3.out.trans q4).trans q5)
  have R5 := hid ((R3.out.q q4).q q5)
  have Y5 := hid ((Y3.out.q q4).q q5)
  have Z5 := hid (rz.q q5)
  have B65 := hid ((B6.out.q q4).q q5)
  have B8 := hid (show Blk (w4.alloc (.cells #[.string m, .string sc, .string au, .string pa, .slice za zn zc, .int .i64 ln] 31)) w4.heap.size 31 (rqC m sc au pa ⟨za, zn, zc⟩ ln) from blk_new w4 _ 31)
  clear q4 q5 rz nz Q3 R3 Y3 B3 B6 c30 c31 HDC
  go_upto_region 4 with fail
  generalize hW : World.alloc w4 _ = W5 at *
  clear hW
  generalize w4.heap.size = b8 at *
  go_wp2_with (first
    | (refine wpList_load_row rfl 27 _ rfl b6 rfl 27 _ (0, 0) _ B65.out Tryz.underlying27 rfl (info27 m sc au pa ⟨ya, yn, yc⟩ ln) ?_)
    | (refine wpList_load_row rfl 31 _ rfl b8 rfl 31 _ (0, 0) _ B8.out Tryz.underlying31 rfl (info31 m sc au pa ⟨za, zn, zc⟩ ln) ?_)
    | (go_at_call 8; refine (HRS.out ⟨ya, yn, yc⟩ ⟨za, zn, zc⟩ _ Y5.out Z5.out).mono ?_; rintro e w6 ⟨rfl, q6⟩; have Q6 := hid (Q5.out.trans q6); have R6 := hid (R5.out.q q6); have Y6 := hid (Y5.out.q q6); have B66 := hid (B65.out.q q6); clear q6)
    | (go_at_call 9; refine (HSM.out _ _ R6.out Q6.out).mono ?_; rintro e w7 ⟨rfl, q7⟩; have Q7 := hid (Q6.out.trans q7); have R7 := hid (R6.out.q q7); have Y7 := hid (Y6.out.q q7); have B67 := hid (B66.out.q q7); have c74 : w7.cell? ⟨b6, 4, none⟩ = some (.slice ya yn yc) := B67.out.cell 4; clear q7))
  have HY7 := hid Y7.out
  have LB6 := hid (show ∀ b, blk ya = some b → b ≠ b6 from fun b e => by have h1 := YL.out b e; omega)
  go_loopw [10, 46] (fun b i wr => ∃ (k : Nat) (vs : List Value), k ≤ yn ∧ i = .int .i64 (k : Int) ∧ Keep (fun b => blk ya = some b) w7 wr ∧ Sub wr 37 2 ya yn yc vs) (fun _ i _ => yn - (intOf i).toNat)
  case atStart => exact ⟨0, _, by omega, rfl, Keep.refl _ _, HY7.out⟩
  case round =>
    obtain ⟨k, vs, hk, rfl, hkp, hs⟩ := hrel
    have HKP := hid hkp
    have HS := hid hs
    have hyn : yn ≤ 4398046511104 := by
      have h1 := YLEN.out
      have h2 := HFL.out
      have h3 := HB4.out
      omega
    by_cases hlt : k < yn
    · obtain ⟨gy, off, v, ha, hcv, hfv, hset⟩ := mark_step hs hlt
      subst ha
      have hki : (k : Int) < (yn : Int) := by omega
      have hk0 : (0 : Int) ≤ (k : Int) := by omega
      have hkb : (k : Int) < 8796093022208 := by omega
      have cr4 : wr.cell? ⟨b6, 4, none⟩ = some (.slice (some ⟨gy, off, none⟩) yn yc) := (B67.out.keep hkp (fun e => LB6.out _ e rfl)).cell 4
      have HK2 := hid (show Keep (fun b => blk (some ⟨gy, off, none⟩) = some b) w7 (wr.setCell ⟨gy, off + k * 2, none⟩ (.string ⟨#[109, 97, 114, 107]⟩)) from hkp.setCell gy _ _ (.inl rfl))
      have HS2 := hid (hset (.string ⟨#[109, 97, 114, 107]⟩))
      clear hkp hs hset
      go_wp2_with fail
      go_roundw
      case rel => exact ⟨k + 1, _, by omega, by go_num, HK2.out, HS2.out⟩
      case measure => simp [intOf]; omega
    · have hki : ¬ (k : Int) < (yn : Int) := by omega
      have RR := hid (show RowG wr ⟨some ⟨g, 0, none⟩, l.length, l.length⟩ l from Sub.keep R7.out hkp (fun b e h => by cases e; exact (NY.out _ h).1 rfl))
      have QR := hid (show Q w wr from hkp.below Q7.out Q7.out.size (fun i e => by have h1 := (NY.out i e).2; have h2 := GLT.out; have h3 := LG.out; omega))
      clear hkp hs
      go_wp2_with (first
        | (go_at_call 9; refine (HSM.out _ _ RR.out QR.out).mono ?_; rintro e w8 ⟨rfl, q8⟩; have Q8 := hid (QR.out.trans q8); clear q8)
        | (go_at_call 10; refine (HAW.out _).mono ?_; rintro e w9 ⟨rfl, q9⟩; have Q9 := hid (Q8.out.trans q9); clear q9))
      go_ret
      exact ⟨rfl, Q9.out⟩
end Go.Proofs.YthefijjdffafkaaGreatDoor
