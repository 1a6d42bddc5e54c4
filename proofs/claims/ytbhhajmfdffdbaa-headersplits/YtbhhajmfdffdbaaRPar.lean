/-
  What the document's Parse does: a contract that the statements' walks use.
-/
import Derived.Test.YtbhhajmfdffdbaaRVer
import Derived.Test.YtbhhajmfdffdbaaPar
namespace Go.Proofs.Ytbhhajmfdffdbaa
open Go.RowKit
set_option linter.unusedVariables false
set_option maxRecDepth 20000

theorem longO_tail (zs : List Int) (first p : Int) : longO zs first p = (verO zs p).bind fun ve q1 => (idO zs q1).bind fun d q2 => (idO zs q2).bind fun s q3 => (tailO zs first ve q3).bind fun x q4 => .ok ⟨x.1, ve, d, s, x.2.1, x.2.2.1, x.2.2.2⟩ q4 := by
  unfold longO
  congr 1
  funext ve q1
  congr 1
  funext d q2
  congr 1
  funext s q3
  unfold tailO
  split
  · cases versO zs q3 <;> rfl
  split
  · split
    · rfl
    · cases fillO zs (1 + first / 16 % 4) q3 <;> rfl
  · rfl
theorem tailO_kind {zs : List Int} {first ve p q : Int} {x : Int × List Int × List Int × Int} (hf : 0 ≤ first) (h : tailO zs first ve p = .ok x q) : 1 ≤ x.1 := by
  unfold tailO at h
  split at h
  · obtain ⟨_, _, _, h2⟩ := Out.bind_ok h
    cases h2; dsimp only; omega
  split at h
  · split at h
    · cases h
    · obtain ⟨_, _, _, h2⟩ := Out.bind_ok h
      cases h2; dsimp only; omega
  · cases h; dsimp only; omega
theorem results11 (tmps : Array Value) (w : World) (hb : Nat) (h : Hd) (d s t v : Sv) (x y z : Int) (h4 : tmps.getD 4 undef = .pointer (some ⟨hb, 0, none⟩)) (h5 : tmps.getD 5 undef = .int .i64 x) (h6 : tmps.getD 6 undef = .int .i64 y) (h7 : tmps.getD 7 undef = .int .i64 z)
    (b : Box w 30 hb h d s t v) : (results Try.f11 tmps).run Try.prog w = .ok (.tuple #[hv h d s t v, .int .i64 x, .int .i64 y, .int .i64 z]) w := by
  have h4' : tmps[4]?.getD undef = .pointer (some ⟨hb, 0, none⟩) := by simpa using h4
  have h5' : tmps[5]?.getD undef = .int .i64 x := by simpa using h5
  have h6' : tmps[6]?.getD undef = .int .i64 y := by simpa using h6
  have h7' : tmps[7]?.getD undef = .int .i64 z := by simpa using h7
  obtain ⟨c0, c1, c2, c3, c4, c5, c6⟩ := b.all
  simp [results, h4', h5', h6', h7', asAddr, go_sem, c0, c1, c2, c3, c4, c5, c6]
/-- What Parse tells. -/
def AnsR (w : World) (zs : List Int) (cid : Int) (e : Ending) (w' : World) : Prop := ∃ d s t v, e = .returned (.tuple #[hv (parM zs cid).1 d s t v, .int .i64 (parM zs cid).2.1, .int .i64 (parM zs cid).2.2.1, .int .i64 (parM zs cid).2.2.2]) ∧ Q w w' ∧ Holds w.heap.size w' (parM zs cid).1 d s t v
theorem ansR_bad {w w1 : World} {zs : List Int} {cid x : Int} (h : hdrO zs cid 0 = .bad x) (hq : Q w w1) : AnsR w zs cid (.returned (.tuple #[hv zh nilS nilS nilS nilS, .int .i64 0, .int .i64 0, .int .i64 x])) w1 := by
  have e : parM zs cid = (zh, 0, 0, x) := by unfold parM; rw [h]
  unfold AnsR
  rw [e]
  exact ⟨nilS, nilS, nilS, nilS, rfl, hq, holds_nil _ _ _ _ _⟩
theorem ansR_ok {w w1 : World} {zs : List Int} {cid q en : Int} {H : Hd} {d s t v : Sv} (h : hdrO zs cid 0 = .ok H q) (he : q + behM zs.length H.kind H.len q = en) (hq : Q w w1) (hh : Holds w.heap.size w1 H d s t v) : AnsR w zs cid (.returned (.tuple #[hv H d s t v, .int .i64 q, .int .i64 en, .int .i64 0])) w1 := by
  have e : parM zs cid = (H, q, en, 0) := by unfold parM; rw [h, ← he]
  unfold AnsR
  rw [e]
  exact ⟨d, s, t, v, rfl, hq, hh⟩
set_option maxHeartbeats 8000000 in
theorem rparse_any (a : Option Addr) (n c : Nat) (zs : List Int) (cid : Int) (w : World) (hl : zs.length = n) (hz : ∀ y ∈ zs, 0 ≤ y ∧ y < 256) (hn : n ≤ 1048576) (hnc : n ≤ c) (hs : Seg w a zs) :
    Calls Try.prog 11 #[.slice a n c, .int .i64 cid] w fun e w' => AnsR w zs cid e w' := by
  have HL := hid hl
  have HZ := hid hz
  have HS := hid hs
  have HAL := hid (show zs ≠ [] → ∀ b, blk a = some b → b < w.heap.size from by
    intro hne b hb
    obtain ⟨bb, off, rfl, hc⟩ := hs hne
    cases hb
    exact lt_of_cell (hc 0 (by cases zs with | nil => exact absurd rfl hne | cons x r => simp)))
  clear hl hz hs
  by_cases hc : cid < 0 ∨ 20 < cid
  · have HO := hid (show hdrO zs cid 0 = .bad 61 from by unfold hdrO; rw [if_pos hc])
    have BR := hid (show Box (w.alloc (.cells (hcells zh nilS nilS nilS nilS) 30)) 30 w.heap.size zh nilS nilS nilS nilS from heap_alloc_new w _)
    by_cases hc0 : cid < 0
    · have d0 : decide (cid < 0) = true := by simp; omega
      clear hc
      go_enter Try.func11, Try.ntmps11
      go_wp2_with (refine wpList_store_row rfl 30 _ _ rfl w.heap.size (hcells zh nilS nilS nilS nilS) rfl rfl 30 _ BR.out (hcells_info30 _ _ _ _ _) rfl (hcells_one _ _ _ _ _) ?_)
      exact ⟨rfl, _, results11 _ _ w.heap.size zh nilS nilS nilS nilS 0 0 61 rfl rfl rfl rfl (BR.out.row_ _ _ _ _ _), ansR_bad HO.out (((Keep.refl (fun i => i = w.heap.size) w).alloc _).setRow _ _ (.inl rfl) |>.toQ (fun i hi e => by omega))⟩
    · have d0 : decide (cid < 0) = false := by simp; omega
      have d1 : decide (20 < cid) = true := by simp; omega
      clear hc hc0
      go_enter Try.func11, Try.ntmps11
      go_wp2_with (refine wpList_store_row rfl 30 _ _ rfl w.heap.size (hcells zh nilS nilS nilS nilS) rfl rfl 30 _ BR.out (hcells_info30 _ _ _ _ _) rfl (hcells_one _ _ _ _ _) ?_)
      exact ⟨rfl, _, results11 _ _ w.heap.size zh nilS nilS nilS nilS 0 0 61 rfl rfl rfl rfl (BR.out.row_ _ _ _ _ _), ansR_bad HO.out (((Keep.refl (fun i => i = w.heap.size) w).alloc _).setRow _ _ (.inl rfl) |>.toQ (fun i hi e => by omega))⟩
  have d0 : decide (cid < 0) = false := by simp; omega
  have d1 : decide (20 < cid) = false := by simp; omega
  have hcid0 : 0 ≤ cid := by omega
  have HO := hid (show hdrO zs cid 0 = (oneO zs 0).bind fun first q =>
    if 128 ≤ first then longO zs first q
    else if first / 64 % 2 = 0 then .bad 62
    else (someO zs q cid).bind fun d q2 => .ok ⟨6, 0, d, [], [], [], (zs.length : Int) - q2⟩ q2 from by unfold hdrO; rw [if_neg hc])
  clear hc
  go_enter Try.func11, Try.ntmps11
  go_wp2_with fail
  generalize hw1 : World.alloc (World.alloc w _) _ = w1
  have q1 : Q w w1 := by rw [← hw1]; exact ((Q.refl w).alloc _).alloc _
  have s1 : w1.heap.size = w.heap.size + 2 := by rw [← hw1]; simp
  have b1 : Box w1 30 w.heap.size zh nilS nilS nilS nilS := by rw [← hw1]; exact heap_alloc2_old w _ _
  have r1 : Rdr w1 65 (w.heap.size + 1) a n c 0 0 := by rw [← hw1]; exact heap_alloc2_new w _ _
  clear hw1
  have D1 := hid (show Dr w1 (w.heap.size + 1) a n c zs 0 0 from ⟨r1, HS.out.q q1, HL.out, HZ.out, hn, hnc, fun hne b hb => by have := HAL.out hne b hb; omega, by omega, by omega⟩)
  have Q1 := hid q1
  have B1 := hid b1
  clear q1 b1 r1
  generalize hrb : w.heap.size + 1 = rb at *
  refine (rbyte_at rb a n c zs 0 w1 D1.out).mono ?_
  rintro e w2 ⟨hk2, ⟨m, q2, ho, rfl, hr2⟩ | ⟨m, ho, rfl, hr2⟩⟩
  rotate_left
  · have c2 := hr2.rdr.c2
    have BR := hid (B1.out.keep hk2 (by omega))
    have KX := hid (show Keep (fun k => k = rb) w w2 from (Keep.ofQ Q1.out).trans hk2)
    have HX := hid (show hdrO zs cid 0 = .bad 12 from by rw [HO.out, ho]; rfl)
    clear hk2 ho hr2
    go_wp2_with (refine wpList_store_row rfl 30 _ _ rfl w.heap.size (hcells zh nilS nilS nilS nilS) rfl rfl 30 _ BR.out (hcells_info30 _ _ _ _ _) rfl (hcells_one _ _ _ _ _) ?_)
    exact ⟨rfl, _, results11 _ _ w.heap.size zh nilS nilS nilS nilS 0 0 12 rfl rfl rfl rfl (BR.out.row_ _ _ _ _ _), ansR_bad HX.out (KX.out.trans' ((Keep.refl (fun i => i = w.heap.size) _).setRow _ _ (.inl rfl)) (fun i hi e => by omega) |>.toQ (fun i hi e => by omega))⟩
  have c2 := hr2.rdr.c2
  have hpl := oneO_pl D1.out.pl_ ho
  have hm0 : 0 ≤ m := hpl.2.2.2.2.1
  have hm1 : m < 256 := hpl.2.2.2.2.2
  have HO2 := hid (show hdrO zs cid 0 = if 128 ≤ m then longO zs m q2 else if m / 64 % 2 = 0 then .bad 62 else (someO zs q2 cid).bind fun d q2 => .ok ⟨6, 0, d, [], [], [], (zs.length : Int) - q2⟩ q2 from by rw [HO.out, ho]; rfl)
  have BR2 := hid (B1.out.keep hk2 (by omega))
  have K2 := hid (show Keep (fun k => k = rb) w w2 from (Keep.ofQ Q1.out).trans hk2)
  have D2 := hid hr2
  have hs2 := hk2.size
  clear hk2 ho hr2 hpl HO D1 B1
  have t1 : Int.tdiv m 64 = m / 64 := Int.tdiv_eq_ediv_of_nonneg hm0
  have t2 : Int.tmod (m / 64) 2 = m / 64 % 2 := Int.tmod_eq_emod_of_nonneg (by omega)
  by_cases hL : m < 128
  · by_cases hF : m / 64 % 2 = 0
    · rw [hF] at t2
      have HX := hid (show hdrO zs cid 0 = .bad 62 from by rw [HO2.out, if_neg (by omega), if_pos hF])
      have BR := hid BR2.out
      have KX := hid K2.out
      clear hF
      go_wp2_with (refine wpList_store_row rfl 30 _ _ rfl w.heap.size (hcells zh nilS nilS nilS nilS) rfl rfl 30 _ BR.out (hcells_info30 _ _ _ _ _) rfl (hcells_one _ _ _ _ _) ?_)
      exact ⟨rfl, _, results11 _ _ w.heap.size zh nilS nilS nilS nilS 0 0 62 rfl rfl rfl rfl (BR.out.row_ _ _ _ _ _), ansR_bad HX.out (KX.out.trans' ((Keep.refl (fun i => i = w.heap.size) _).setRow _ _ (.inl rfl)) (fun i hi e => by omega) |>.toQ (fun i hi e => by omega))⟩
    have e1 : m / 64 % 2 = 1 := by omega
    rw [e1] at t2
    have HO3 := hid (show hdrO zs cid 0 = (someO zs q2 cid).bind fun d q2 => .ok ⟨6, 0, d, [], [], [], (n : Int) - q2⟩ q2 from by rw [HO2.out, if_neg (by omega), if_neg hF, HL.out])
    clear hF e1
    by_cases hsh : (n : Int) - q2 < cid
    · have HX := hid (show hdrO zs cid 0 = .bad 12 from by rw [HO3.out]; unfold someO; rw [HL.out, if_pos hsh]; rfl)
      go_wp2_with fail
      refine (rbytes_no rb a n c zs q2 w2 cid hcid0 (by omega) D2.out).mono ?_
      rintro e w3 ⟨⟨ra, rn, rc⟩, rfl, hk3, hr3, _, _⟩
      have c2' := hr3.rdr.c2
      have BR := hid (BR2.out.keep hk3 (by omega))
      have KX := hid (K2.out.trans hk3)
      clear hk3 hr3 c2
      go_wp2_with (refine wpList_store_row rfl 30 _ _ rfl w.heap.size (hcells zh nilS nilS nilS nilS) rfl rfl 30 _ BR.out (hcells_info30 _ _ _ _ _) rfl (hcells_one _ _ _ _ _) ?_)
      exact ⟨rfl, _, results11 _ _ w.heap.size zh nilS nilS nilS nilS 0 0 12 rfl rfl rfl rfl (BR.out.row_ _ _ _ _ _), ansR_bad HX.out (KX.out.trans' ((Keep.refl (fun i => i = w.heap.size) _).setRow _ _ (.inl rfl)) (fun i hi e => by omega) |>.toQ (fun i hi e => by omega))⟩
    have HO4 := hid (show hdrO zs cid 0 = .ok ⟨6, 0, (zs.drop q2.toNat).take cid.toNat, [], [], [], (n : Int) - (q2 + cid)⟩ (q2 + cid) from by rw [HO3.out]; unfold someO; rw [HL.out, if_neg hsh]; rfl)
    go_wp2_with fail
    refine (rbytes_ok rb a n c zs q2 w2 cid hcid0 (by omega) D2.out).mono ?_
    rintro e w3 ⟨⟨ra, rn, rc⟩, rfl, hk3, hr3, hrow, hnew⟩
    have c2' := hr3.rdr.c2
    have BR := hid (BR2.out.keep hk3 (by omega))
    have KX := hid (K2.out.trans hk3)
    have D3 := hid hr3
    have hs3 := hk3.size
    have RW := hid hrow
    have NW := hid (show New (w.heap.size + 1) ⟨ra, rn, rc⟩ from hnew.mono (by omega))
    have hb0 := hr3.p0
    have hb1 := hr3.p1
    generalize (zs.drop q2.toNat).take cid.toNat = dl at *
    generalize q2 + cid = q3 at *
    clear hk3 hr3 hrow hnew c2
    go_wp2
    have s1 : w3.cell? ⟨rb, 1, none⟩ = some (.int .i64 q3) := D3.out.rdr.c1
    refine wp_region_held (S := fun w' => w'.cell? ⟨rb, 1, none⟩ = some (.int .i64 q3)) (by kernel_rfl) ?_
    show wpAnyH Try.prog .any _ _ _ 14 _ _ (w3.drewN 1)
    have hS : (w3.drewN 1).cell? ⟨rb, 1, none⟩ = some (.int .i64 q3) := s1
    refine wpAnyH_take (i := 0) (fuel := 13) (v := .slice ra rn rc) rfl (by kernel_rfl) (by kernel_rfl) (by kernel_rfl) (fun _ _ _ h => h) (.inl ⟨by kernel_rfl, by intro w' hb'; kernel_rfl⟩) hS ?_
    refine wpAnyH_take (i := 1) (fuel := 12) (v := .pointer (some ⟨rb, 0, none⟩)) rfl (by kernel_rfl) (by kernel_rfl) (by kernel_rfl) (fun _ _ _ h => h) (.inl ⟨by kernel_rfl, by intro w' hb'; kernel_rfl⟩) hS ?_
    refine wpAnyH_take (i := 4) (fuel := 11) (v := .pointer (some ⟨rb, 0, none⟩)) rfl (by kernel_rfl) (by kernel_rfl) (by kernel_rfl) (fun _ _ _ h => h) (.inl ⟨by kernel_rfl, by intro w' hb'; kernel_rfl⟩) hS ?_
    refine wpAnyH_take (i := 5) (fuel := 10) (v := .pointer (some ⟨rb, 0, none⟩)) rfl (by kernel_rfl) (by kernel_rfl) (by kernel_rfl) (fun _ _ _ h => h) (.inl ⟨by kernel_rfl, by intro w' hb'; kernel_rfl⟩) hS ?_
    refine wpAnyH_take (i := 6) (fuel := 9) (v := .pointer (some ⟨rb, 1, none⟩)) rfl (by kernel_rfl) (by kernel_rfl) (by kernel_rfl) (fun _ _ _ h => h) (.inl ⟨by kernel_rfl, by intro w' hb'; kernel_rfl⟩) hS ?_
    refine wpAnyH_take (i := 7) (fuel := 8) (v := .int .i64 q3) rfl (by kernel_rfl) (by kernel_rfl) (by kernel_rfl) (fun _ _ _ h => h) (.inl ⟨by kernel_rfl, by intro w' hb'; simp [execOp, go_sem, hb']⟩) hS ?_
    refine wpAnyH_take (i := 8) (fuel := 7) (v := .slice a n c) rfl (by kernel_rfl) (by kernel_rfl) (by kernel_rfl) (fun _ _ _ h => h) (.inl ⟨by kernel_rfl, by intro w' hb'; kernel_rfl⟩) hS ?_
    refine wpAnyH_take (i := 9) (fuel := 6) (v := .int .i64 n) rfl (by kernel_rfl) (by kernel_rfl) (by kernel_rfl) (fun _ _ _ h => h) (.inl ⟨by kernel_rfl, by intro w' hb'; kernel_rfl⟩) hS ?_
    refine wpAnyH_all (rs := [2]) (fuel := 5) (by kernel_rfl) (by simp) ?_
    intro i hi
    have hi' := List.mem_singleton.1 hi
    clear hi
    subst hi'
    generalize hA : Act.put _ _ _ = A
    refine wpOp_in rfl (by rw [← hA]; kernel_rfl) (oper_enter (f := 30) (args := #[.pointer (some ⟨rb, 0, none⟩)]) (by rw [← hA]; kernel_rfl) (rleft_q rb a n c zs q3 w3 D3.out 1) ?_)
    rintro e w' ⟨rfl, k2, hw2⟩
    rw [World.drewN_drewN] at hw2
    subst hw2
    have hS2 : (w3.drewN (1 + k2)).cell? ⟨rb, 1, none⟩ = some (.int .i64 q3) := s1
    refine .inl ⟨_, rfl, hS2, ?_⟩
    subst hA
    refine wpAnyH_take (i := 3) (fuel := 4) (v := hv ⟨6, 0, dl, [], [], [], (n : Int) - q3⟩ ⟨ra, rn, rc⟩ nilS nilS nilS) rfl (by kernel_rfl) (by kernel_rfl) (by kernel_rfl) (fun _ _ _ h => h) (.inl ⟨by kernel_rfl, by intro w' hb'; kernel_rfl⟩) hS2 ?_
    refine wpAnyH_all (rs := [10]) (fuel := 3) (by kernel_rfl) (by simp) ?_
    intro i hi
    have hi' := List.mem_singleton.1 hi
    clear hi
    subst hi'
    generalize hA : Act.put _ _ _ = A
    have b5 : Box (w3.drewN (1 + k2)) 30 w.heap.size zh nilS nilS nilS nilS := BR.out
    have k6 : Keep (fun i => i = w.heap.size) (w3.drewN (1 + k2)) ((w3.drewN (1 + k2)).setRow w.heap.size (hcells ⟨6, 0, dl, [], [], [], (n : Int) - q3⟩ ⟨ra, rn, rc⟩ nilS nilS nilS)) := (Keep.refl _ _).setRow _ _ (.inl rfl)
    have hS6 := k6.cell hS2 (by omega)
    have b6 : Box ((w3.drewN (1 + k2)).setRow w.heap.size (hcells ⟨6, 0, dl, [], [], [], (n : Int) - q3⟩ ⟨ra, rn, rc⟩ nilS nilS nilS)) 30 w.heap.size ⟨6, 0, dl, [], [], [], (n : Int) - q3⟩ ⟨ra, rn, rc⟩ nilS nilS nilS := b5.row_ _ _ _ _ _
    refine wpOp_in rfl (by rw [← hA]; kernel_rfl) (wp_store_row 30 _ _ rfl w.heap.size (hcells ⟨6, 0, dl, [], [], [], (n : Int) - q3⟩ ⟨ra, rn, rc⟩ nilS nilS nilS) (by rw [← hA]; kernel_rfl) (by rw [← hA]; kernel_rfl) 30 _ b5 (hcells_info30 _ _ _ _ _) rfl (hcells_one _ _ _ _ _) ⟨hS6, ?_⟩)
    have qk : Q w3 (w3.drewN (1 + k2)) := (Q.refl w3).drewN _
    have HX := hid (show AnsR w zs cid (.returned (.tuple #[hv ⟨6, 0, dl, [], [], [], (n : Int) - q3⟩ ⟨ra, rn, rc⟩ nilS nilS nilS, .int .i64 q3, .int .i64 n, .int .i64 0])) ((w3.drewN (1 + k2)).setRow w.heap.size (hcells ⟨6, 0, dl, [], [], [], (n : Int) - q3⟩ ⟨ra, rn, rc⟩ nilS nilS nilS)) from by
      refine ansR_ok HO4.out (by unfold behM; rw [if_neg (by dsimp only; omega), HL.out]; omega) (((KX.out.trans (Keep.ofQ qk)).trans' k6 (fun i hi e => by omega)).toQ (fun i hi e => by omega)) ⟨?_, sub_nil _ _ _, sub_nil _ _ _, sub_nil _ _ _, NW.out.mono (by omega), new_nil _, new_nil _, new_nil _⟩
      exact (RW.out.q qk).keep k6 (fun b hb' e => by have := NW.out b hb'; omega))
    generalize (w3.drewN (1 + k2)).setRow w.heap.size (hcells ⟨6, 0, dl, [], [], [], (n : Int) - q3⟩ ⟨ra, rn, rc⟩ nilS nilS nilS) = w6 at *
    subst hA
    refine wpAnyH_take (i := 11) (fuel := 2) (v := .int .i64 q3) rfl (by kernel_rfl) (by kernel_rfl) (by kernel_rfl) (fun _ _ _ h => h) (.inl ⟨by kernel_rfl, by intro w' hb'; kernel_rfl⟩) hS6 ?_
    refine wpAnyH_take (i := 12) (fuel := 1) (v := .int .i64 n) rfl (by kernel_rfl) (by kernel_rfl) (by kernel_rfl) (fun _ _ _ h => h) (.inl ⟨by kernel_rfl, by intro w' hb'; kernel_rfl⟩) hS6 ?_
    refine wpAnyH_take (i := 13) (fuel := 0) (v := .int .i64 0) rfl (by kernel_rfl) (by kernel_rfl) (by kernel_rfl) (fun _ _ _ h => h) (.inl ⟨by kernel_rfl, by intro w' hb'; kernel_rfl⟩) hS6 ?_
    refine wpAnyH_done (by kernel_rfl) ?_ _
    generalize hA : Act.put _ _ _ = A
    have hD : A.defers = [] := by rw [← hA]; kernel_rfl
    have h4 : A.tmps.getD 4 undef = .pointer (some ⟨w.heap.size, 0, none⟩) := by rw [← hA]; kernel_rfl
    have h5 : A.tmps.getD 5 undef = .int .i64 q3 := by rw [← hA]; kernel_rfl
    have h6 : A.tmps.getD 6 undef = .int .i64 n := by rw [← hA]; kernel_rfl
    have h7 : A.tmps.getD 7 undef = .int .i64 0 := by rw [← hA]; kernel_rfl
    clear hA
    obtain ⟨tm, df⟩ := A
    dsimp only at hD h4 h5 h6 h7
    subst hD
    go_wp2
    exact ⟨rfl, _, results11 tm w6 w.heap.size _ _ _ _ _ q3 n 0 h4 h5 h6 h7 b6, HX.out⟩
  have hL' : decide (m < 128) = false := by simp; omega
  have HO3 := hid (show hdrO zs cid 0 = (verO zs q2).bind fun ve q1 => (idO zs q1).bind fun d q2 => (idO zs q2).bind fun s q3 => (tailO zs m ve q3).bind fun x q4 => .ok ⟨x.1, ve, d, s, x.2.1, x.2.2.1, x.2.2.2⟩ q4 from by rw [HO2.out, if_pos (by omega), longO_tail])
  clear HO2 t1 t2 hL
  by_cases hsh : (n : Int) - q2 < 4
  · have HX := hid (show hdrO zs cid 0 = .bad 12 from by rw [HO3.out]; unfold verO someO; rw [HL.out, if_pos hsh]; rfl)
    go_wp2_with fail
    refine (rbytes_no rb a n c zs q2 w2 4 (by omega) (by omega) D2.out).mono ?_
    rintro e w3 ⟨r3, rfl, hk3, hr3, hrow, _⟩
    have HW := hid (word_any r3 [] w3 hrow (by simp) (by simp))
    have BR3 := hid (BR2.out.keep hk3 (by omega))
    have K3 := hid (K2.out.trans hk3)
    have D3 := hid hr3
    have hs3 := hk3.size
    clear hk3 hr3 hrow c2
    go_wp2_with fail
    refine HW.out.mono ?_
    rintro e w3' ⟨rfl, rfl⟩
    rw [show val 0 [] = 0 from rfl]
    clear HW
    go_wp2_with (refine wpList_store_row rfl 30 _ _ rfl w3.heap.size (hcells ⟨0, 0, [], [], [], [], 0⟩ nilS nilS nilS nilS) rfl rfl 30 _ (heap_alloc_new w3 _) (hcells_info30 _ _ _ _ _) rfl (hcells_one _ _ _ _ _) ?_; refine Hid.out ?_)
    refine hid ?_
    generalize hw4 : World.setRow _ _ _ = w4
    have k4 : Keep (fun i => i = w3.heap.size) w3 w4 := by rw [← hw4]; exact ((Keep.refl (fun i => i = w3.heap.size) w3).alloc _).setRow _ _ (.inl rfl)
    have b4 : Box w4 30 w3.heap.size ⟨0, 0, [], [], [], [], 0⟩ nilS nilS nilS nilS := by rw [← hw4]; exact setRow_heap _ _ _ _ 30 _ (heap_alloc_new w3 _)
    clear hw4
    have hs4 := k4.size
    have BR := hid (BR3.out.keep k4 (by omega))
    have KX := hid (show Keep (fun k => k = rb) w w4 from K3.out.trans' k4 (fun i hi e => by omega))
    have d4 := (D3.out.keep k4 (fun i e => by have := D3.out.rdr.lt; omega)).rdr.c2
    clear k4 b4 K3 BR3
    go_wp2_with (refine wpList_store_row rfl 30 _ _ rfl w.heap.size (hcells zh nilS nilS nilS nilS) rfl rfl 30 _ BR.out (hcells_info30 _ _ _ _ _) rfl (hcells_one _ _ _ _ _) ?_)
    exact ⟨rfl, _, results11 _ _ w.heap.size zh nilS nilS nilS nilS 0 0 12 rfl rfl rfl rfl (BR.out.row_ _ _ _ _ _), ansR_bad HX.out (KX.out.trans' ((Keep.refl (fun i => i = w.heap.size) _).setRow _ _ (.inl rfl)) (fun i hi e => by omega) |>.toQ (fun i hi e => by omega))⟩
  have hvl : ((zs.drop q2.toNat).take 4).length ≤ 4 := List.length_take_le _ _
  have HVB := hid (show ∀ y ∈ (zs.drop q2.toNat).take 4, 0 ≤ y ∧ y < 256 from fun y hy => HZ.out y (List.mem_of_mem_drop (List.mem_of_mem_take hy)))
  have HO4 := hid (show hdrO zs cid 0 = (idO zs (q2 + 4)).bind fun d q2' => (idO zs q2').bind fun s q3 => (tailO zs m (val 0 ((zs.drop q2.toNat).take 4)) q3).bind fun x q4 => .ok ⟨x.1, val 0 ((zs.drop q2.toNat).take 4), d, s, x.2.1, x.2.2.1, x.2.2.2⟩ q4 from by rw [HO3.out]; unfold verO someO; rw [HL.out, if_neg hsh]; rfl)
  go_wp2_with fail
  refine (rbytes_ok rb a n c zs q2 w2 4 (by omega) (by omega) D2.out).mono ?_
  rintro e w3 ⟨r3, rfl, hk3, hr3, hrow, _⟩
  have HW := hid (word_any r3 ((zs.drop q2.toNat).take 4) w3 hrow hvl HVB.out)
  have BR3 := hid (BR2.out.keep hk3 (by omega))
  have K3 := hid (K2.out.trans hk3)
  have D3 := hid hr3
  have hs3 := hk3.size
  clear hk3 hr3 hrow c2 HO3
  go_wp2_with fail
  refine HW.out.mono ?_
  rintro e w3' ⟨rfl, rfl⟩
  clear HW HVB hvl hsh
  generalize val 0 ((zs.drop q2.toNat).take 4) = ve at *
  generalize q2 + 4 = q3 at *
  go_wp2_with (refine wpList_store_row rfl 30 _ _ rfl w3.heap.size (hcells ⟨0, ve, [], [], [], [], 0⟩ nilS nilS nilS nilS) rfl rfl 30 _ (heap_alloc_new w3 _) (hcells_info30 _ _ _ _ _) rfl (hcells_one _ _ _ _ _) ?_; refine Hid.out ?_)
  refine hid ?_
  generalize hw4 : World.setRow _ _ _ = w4
  have k4 : Keep (fun i => i = w3.heap.size) w3 w4 := by rw [← hw4]; exact ((Keep.refl (fun i => i = w3.heap.size) w3).alloc _).setRow _ _ (.inl rfl)
  have b4 : Box w4 30 w3.heap.size ⟨0, ve, [], [], [], [], 0⟩ nilS nilS nilS nilS := by rw [← hw4]; exact setRow_heap _ _ _ _ 30 _ (heap_alloc_new w3 _)
  clear hw4
  have hs4 := k4.size
  have BR4 := hid (BR3.out.keep k4 (by omega))
  have K4 := hid (show Keep (fun k => k = rb) w w4 from K3.out.trans' k4 (fun i hi e => by omega))
  have hrl := D3.out.rdr.lt
  have D4 := hid (D3.out.keep k4 (fun i e => by omega))
  have g2 := D4.out.rdr.c2
  have B4 := hid b4
  have hlt4 := b4.lt
  generalize hhb : w3.heap.size = hb at *
  clear k4 b4 K3 BR3 D3 hhb
  go_wp2_with fail
  refine (rid_at rb a n c zs q3 w4 D4.out).mono ?_
  rintro e w5 ⟨hk5, ⟨dl, q5, ⟨da, dn, dc⟩, ho, rfl, hrow, hnew, hr5⟩ | ⟨x, hx, ho, rfl⟩⟩
  rotate_left
  · have HX := hid (show hdrO zs cid 0 = .bad x from by rw [HO4.out, ho]; rfl)
    have b5 := B4.out.keep hk5 (by omega)
    have y2 := b5.c2
    have z2 := b5.free 2
    have hx1 : (x == 0) = false := by simp [hx]
    have hx2 : (x != 0) = true := by simp [hx]
    have hs5 := hk5.size
    have ks : Keep (fun k => k = hb) w5 (w5.setCell ⟨hb, 2, none⟩ (.slice none 0 0)) := (Keep.refl (fun k => k = hb) w5).setCell _ _ _ (.inl rfl)
    have BR := hid ((BR4.out.keep hk5 (by omega)).keep ks (by omega))
    have KX := hid (show Keep (fun k => k = rb) w (w5.setCell ⟨hb, 2, none⟩ (.slice none 0 0)) from (K4.out.trans hk5).trans' ks (fun i hi e => by omega))
    clear hk5 ho b5 ks hx g2
    go_wp2_with (refine wpList_store_row rfl 30 _ _ rfl w.heap.size (hcells zh nilS nilS nilS nilS) rfl rfl 30 _ BR.out (hcells_info30 _ _ _ _ _) rfl (hcells_one _ _ _ _ _) ?_)
    exact ⟨rfl, _, results11 _ _ w.heap.size zh nilS nilS nilS nilS 0 0 x rfl rfl rfl rfl (BR.out.row_ _ _ _ _ _), ansR_bad HX.out (KX.out.trans' ((Keep.refl (fun i => i = w.heap.size) _).setRow _ _ (.inl rfl)) (fun i hi e => by omega) |>.toQ (fun i hi e => by omega))⟩
  have HO5 := hid (show hdrO zs cid 0 = (idO zs q5).bind fun s q3 => (tailO zs m ve q3).bind fun x q4 => .ok ⟨x.1, ve, dl, s, x.2.1, x.2.2.1, x.2.2.2⟩ q4 from by rw [HO4.out, ho]; rfl)
  have b5 := B4.out.keep hk5 (by omega)
  have y2 := b5.c2
  have z2 := b5.free 2
  have hs5 := hk5.size
  have ks : Keep (fun k => k = hb) w5 (w5.setCell ⟨hb, 2, none⟩ (.slice da dn dc)) := (Keep.refl (fun k => k = hb) w5).setCell _ _ _ (.inl rfl)
  have BR6 := hid ((BR4.out.keep hk5 (by omega)).keep ks (by omega))
  have K6 := hid (show Keep (fun k => k = rb) w (w5.setCell ⟨hb, 2, none⟩ (.slice da dn dc)) from (K4.out.trans hk5).trans' ks (fun i hi e => by omega))
  have B6 := hid (show Box (w5.setCell ⟨hb, 2, none⟩ (.slice da dn dc)) 30 hb ⟨0, ve, dl, [], [], [], 0⟩ ⟨da, dn, dc⟩ nilS nilS nilS from b5.dst_ ⟨da, dn, dc⟩ dl)
  have D6 := hid (hr5.keep ks (fun i e => by omega))
  have DN := hid (show New (w4.heap.size) ⟨da, dn, dc⟩ from hnew)
  have DRW := hid (show Row (w5.setCell ⟨hb, 2, none⟩ (.slice da dn dc)) ⟨da, dn, dc⟩ dl from hrow.keep ks (fun b hb' e => by have := hnew b hb'; omega))
  have hs6 : (w5.setCell ⟨hb, 2, none⟩ (.slice da dn dc)).heap.size = w5.heap.size := by simp
  have h2' := D6.out.rdr.c2
  clear hk5 ho hrow hnew hr5 b5 ks g2 HO4 B4 K4 BR4 D4
  go_wp2_with fail
  generalize w5.setCell ⟨hb, 2, none⟩ (.slice da dn dc) = w6 at *
  refine (rid_at rb a n c zs q5 w6 D6.out).mono ?_
  rintro e w7 ⟨hk7, ⟨sl, q7, ⟨sa, sn, sc⟩, ho, rfl, hrow, hnew, hr7⟩ | ⟨x, hx, ho, rfl⟩⟩
  rotate_left
  · have HX := hid (show hdrO zs cid 0 = .bad x from by rw [HO5.out, ho]; rfl)
    have b7 := B6.out.keep hk7 (by omega)
    have y3 := b7.c3
    have z3 := b7.free 3
    have hx1 : (x == 0) = false := by simp [hx]
    have hx2 : (x != 0) = true := by simp [hx]
    have hs7 := hk7.size
    have ks : Keep (fun k => k = hb) w7 (w7.setCell ⟨hb, 3, none⟩ (.slice none 0 0)) := (Keep.refl (fun k => k = hb) w7).setCell _ _ _ (.inl rfl)
    have BR := hid ((BR6.out.keep hk7 (by omega)).keep ks (by omega))
    have KX := hid (show Keep (fun k => k = rb) w (w7.setCell ⟨hb, 3, none⟩ (.slice none 0 0)) from (K6.out.trans hk7).trans' ks (fun i hi e => by omega))
    clear hk7 ho b7 ks hx
    go_wp2_with (refine wpList_store_row rfl 30 _ _ rfl w.heap.size (hcells zh nilS nilS nilS nilS) rfl rfl 30 _ BR.out (hcells_info30 _ _ _ _ _) rfl (hcells_one _ _ _ _ _) ?_)
    exact ⟨rfl, _, results11 _ _ w.heap.size zh nilS nilS nilS nilS 0 0 x rfl rfl rfl rfl (BR.out.row_ _ _ _ _ _), ansR_bad HX.out (KX.out.trans' ((Keep.refl (fun i => i = w.heap.size) _).setRow _ _ (.inl rfl)) (fun i hi e => by omega) |>.toQ (fun i hi e => by omega))⟩
  have HO7 := hid (show hdrO zs cid 0 = (tailO zs m ve q7).bind fun x q4 => .ok ⟨x.1, ve, dl, sl, x.2.1, x.2.2.1, x.2.2.2⟩ q4 from by rw [HO5.out, ho]; rfl)
  have b7 := B6.out.keep hk7 (by omega)
  have y3 := b7.c3
  have z3 := b7.free 3
  have hs7 := hk7.size
  have ks : Keep (fun k => k = hb) w7 (w7.setCell ⟨hb, 3, none⟩ (.slice sa sn sc)) := (Keep.refl (fun k => k = hb) w7).setCell _ _ _ (.inl rfl)
  have BR8 := hid ((BR6.out.keep hk7 (by omega)).keep ks (by omega))
  have K8 := hid (show Keep (fun k => k = rb) w (w7.setCell ⟨hb, 3, none⟩ (.slice sa sn sc)) from (K6.out.trans hk7).trans' ks (fun i hi e => by omega))
  have B8 := hid (show Box (w7.setCell ⟨hb, 3, none⟩ (.slice sa sn sc)) 30 hb ⟨0, ve, dl, sl, [], [], 0⟩ ⟨da, dn, dc⟩ ⟨sa, sn, sc⟩ nilS nilS from b7.src_ ⟨sa, sn, sc⟩ sl)
  have D8 := hid (hr7.keep ks (fun i e => by omega))
  have SN := hid (show New (w6.heap.size) ⟨sa, sn, sc⟩ from hnew)
  have SRW := hid (show Row (w7.setCell ⟨hb, 3, none⟩ (.slice sa sn sc)) ⟨sa, sn, sc⟩ sl from hrow.keep ks (fun b hb' e => by have := hnew b hb'; omega))
  have DRW8 := hid (show Row (w7.setCell ⟨hb, 3, none⟩ (.slice sa sn sc)) ⟨da, dn, dc⟩ dl from (DRW.out.keep hk7 (fun b hb' e => by have := DN.out b hb'; omega)).keep ks (fun b hb' e => by have := DN.out b hb'; omega))
  have hs8 : (w7.setCell ⟨hb, 3, none⟩ (.slice sa sn sc)).heap.size = w7.heap.size := by simp
  clear hk7 ho hrow hnew hr7 b7 ks HO5 B6 K6 BR6 D6 DRW
  go_wp2_with fail
  generalize w7.setCell ⟨hb, 3, none⟩ (.slice sa sn sc) = w8 at *
  refine (rlong_any rb a n c zs m q7 w8 hb ve dl sl ⟨da, dn, dc⟩ ⟨sa, sn, sc⟩ hm0 hm1 (by omega) B8.out D8.out).mono ?_
  rintro e w9 ⟨hk9, ⟨⟨kd, tk, vl, ln⟩, q, tS, vS, ho, rfl, hb9, htr, htn, hvr, hvn, hd9⟩ | ⟨x, hx, ho, rfl⟩⟩
  rotate_left
  · have HX := hid (show hdrO zs cid 0 = .bad x from by rw [HO7.out, ho]; rfl)
    have hx2 : (x != 0) = true := by simp [hx]
    have hs9 := hk9.size
    have BR := hid (BR8.out.keep hk9 (by omega))
    have KX := hid (show Keep (fun k => k = rb) w w9 from K8.out.trans' hk9 (fun i hi e => by rcases e with e | e; exact e; omega))
    clear hk9 ho hx
    go_wp2_with (refine wpList_store_row rfl 30 _ _ rfl w.heap.size (hcells zh nilS nilS nilS nilS) rfl rfl 30 _ BR.out (hcells_info30 _ _ _ _ _) rfl (hcells_one _ _ _ _ _) ?_)
    exact ⟨rfl, _, results11 _ _ w.heap.size zh nilS nilS nilS nilS 0 0 x rfl rfl rfl rfl (BR.out.row_ _ _ _ _ _), ansR_bad HX.out (KX.out.trans' ((Keep.refl (fun i => i = w.heap.size) _).setRow _ _ (.inl rfl)) (fun i hi e => by omega) |>.toQ (fun i hi e => by omega))⟩
  have HO9 := hid (show hdrO zs cid 0 = .ok ⟨kd, ve, dl, sl, tk, vl, ln⟩ q from by rw [HO7.out, ho]; rfl)
  have hs9 := hk9.size
  have BR9 := hid (BR8.out.keep hk9 (by omega))
  have K9 := hid (show Keep (fun k => k = rb) w w9 from K8.out.trans' hk9 (fun i hi e => by rcases e with e | e; exact e; omega))
  have B9 := hid (show Box w9 30 hb ⟨kd, ve, dl, sl, tk, vl, ln⟩ ⟨da, dn, dc⟩ ⟨sa, sn, sc⟩ tS vS from hb9)
  have H9 := hid (show Holds (w.heap.size + 1) w9 ⟨kd, ve, dl, sl, tk, vl, ln⟩ ⟨da, dn, dc⟩ ⟨sa, sn, sc⟩ tS vS from ⟨DRW8.out.keep hk9 (fun b hb' e => by have := DN.out b hb'; omega), SRW.out.keep hk9 (fun b hb' e => by have := SN.out b hb'; omega), htr, hvr, DN.out.mono (by omega), SN.out.mono (by omega), htn.mono (by omega), hvn.mono (by omega)⟩)
  have D9 := hid hd9
  have s1 : w9.cell? ⟨rb, 1, none⟩ = some (.int .i64 q) := hd9.rdr.c1
  have hpl := hdrO_pl ⟨HZ.out, by omega, by omega⟩ HO9.out
  have hkd1 := tailO_kind hm0 ho
  dsimp only at hpl hkd1
  rw [HL.out] at hpl
  have y0 := hb9.c0
  dsimp only at y0
  have hq0 := hd9.p0
  clear hk9 ho hb9 htr htn hvr hvn hd9 HO7 BR8 K8 B8 D8 DRW8 SRW
  by_cases hk3 : kd ≤ 3
  · have dk : decide (kd ≤ 3) = true := by simp; omega
    have eb : behM n kd ln q = ln := by unfold behM; rw [if_pos (by omega)]
    rw [eb] at hpl
    have HEN := hid (show q + behM zs.length kd ln q = q + ln from by rw [HL.out, eb])
    have hwr : IntKind.i64.wrap (q + ln) = q + ln := by rw [wrap_i64]; omega
    clear eb hpl
    generalize (⟨da, dn, dc⟩ : Sv) = dS at *
    generalize (⟨sa, sn, sc⟩ : Sv) = sS at *
    go_wp2
    refine wp_region_held (S := fun w' => w'.cell? ⟨rb, 1, none⟩ = some (.int .i64 q) ∧ Box w' 30 hb ⟨kd, ve, dl, sl, tk, vl, ln⟩ dS sS tS vS) (by kernel_rfl) ?_
    show wpAnyH Try.prog .any _ _ _ 16 _ _ (w9.drewN 1)
    have hS : (w9.drewN 1).cell? ⟨rb, 1, none⟩ = some (.int .i64 q) ∧ Box (w9.drewN 1) 30 hb ⟨kd, ve, dl, sl, tk, vl, ln⟩ dS sS tS vS := ⟨s1, B9.out⟩
    refine wpAnyH_take (i := 0) (fuel := 15) (v := hv ⟨kd, ve, dl, sl, tk, vl, ln⟩ dS sS tS vS) rfl (by kernel_rfl) (by kernel_rfl) (by kernel_rfl) (fun _ _ _ h => h) (.inl ⟨by kernel_rfl, by rintro w' ⟨z1, hb'⟩; obtain ⟨c0, c1, c2, c3, c4, c5, c6⟩ := hb'.all; simp [execOp, go_sem, c0, c1, c2, c3, c4, c5, c6]⟩) hS ?_
    refine wpAnyH_take (i := 1) (fuel := 14) (v := .pointer (some ⟨rb, 0, none⟩)) rfl (by kernel_rfl) (by kernel_rfl) (by kernel_rfl) (fun _ _ _ h => h) (.inl ⟨by kernel_rfl, by intro w' hb'; kernel_rfl⟩) hS ?_
    refine wpAnyH_take (i := 2) (fuel := 13) (v := .pointer (some ⟨rb, 0, none⟩)) rfl (by kernel_rfl) (by kernel_rfl) (by kernel_rfl) (fun _ _ _ h => h) (.inl ⟨by kernel_rfl, by intro w' hb'; kernel_rfl⟩) hS ?_
    refine wpAnyH_take (i := 3) (fuel := 12) (v := .pointer (some ⟨rb, 1, none⟩)) rfl (by kernel_rfl) (by kernel_rfl) (by kernel_rfl) (fun _ _ _ h => h) (.inl ⟨by kernel_rfl, by intro w' hb'; kernel_rfl⟩) hS ?_
    refine wpAnyH_take (i := 4) (fuel := 11) (v := .int .i64 q) rfl (by kernel_rfl) (by kernel_rfl) (by kernel_rfl) (fun _ _ _ h => h) (.inl ⟨by kernel_rfl, by rintro w' ⟨z1, hb'⟩; simp [execOp, go_sem, z1]⟩) hS ?_
    refine wpAnyH_take (i := 5) (fuel := 10) (v := .pointer (some ⟨rb, 0, none⟩)) rfl (by kernel_rfl) (by kernel_rfl) (by kernel_rfl) (fun _ _ _ h => h) (.inl ⟨by kernel_rfl, by intro w' hb'; kernel_rfl⟩) hS ?_
    refine wpAnyH_take (i := 6) (fuel := 9) (v := .pointer (some ⟨rb, 0, none⟩)) rfl (by kernel_rfl) (by kernel_rfl) (by kernel_rfl) (fun _ _ _ h => h) (.inl ⟨by kernel_rfl, by intro w' hb'; kernel_rfl⟩) hS ?_
    refine wpAnyH_take (i := 7) (fuel := 8) (v := .pointer (some ⟨rb, 1, none⟩)) rfl (by kernel_rfl) (by kernel_rfl) (by kernel_rfl) (fun _ _ _ h => h) (.inl ⟨by kernel_rfl, by intro w' hb'; kernel_rfl⟩) hS ?_
    refine wpAnyH_take (i := 8) (fuel := 7) (v := .int .i64 q) rfl (by kernel_rfl) (by kernel_rfl) (by kernel_rfl) (fun _ _ _ h => h) (.inl ⟨by kernel_rfl, by rintro w' ⟨z1, hb'⟩; simp [execOp, go_sem, z1]⟩) hS ?_
    refine wpAnyH_take (i := 9) (fuel := 6) (v := .pointer (some ⟨hb, 6, none⟩)) rfl (by kernel_rfl) (by kernel_rfl) (by kernel_rfl) (fun _ _ _ h => h) (.inl ⟨by kernel_rfl, by intro w' hb'; kernel_rfl⟩) hS ?_
    refine wpAnyH_take (i := 10) (fuel := 5) (v := .int .i64 ln) rfl (by kernel_rfl) (by kernel_rfl) (by kernel_rfl) (fun _ _ _ h => h) (.inl ⟨by kernel_rfl, by rintro w' ⟨z1, hb'⟩; have c6 := hb'.c6; simp [execOp, go_sem, c6]⟩) hS ?_
    refine wpAnyH_take (i := 11) (fuel := 4) (v := .int .i64 (q + ln)) rfl (by kernel_rfl) (by kernel_rfl) (by kernel_rfl) (fun _ _ _ h => h) (.inl ⟨by kernel_rfl, by intro w' hb'; simp [execOp, go_sem, hwr]⟩) hS ?_
    refine wpAnyH_all (rs := [12]) (fuel := 3) (by kernel_rfl) (by simp) ?_
    intro i hi
    have hi' := List.mem_singleton.1 hi
    clear hi
    subst hi'
    generalize hA : Act.put _ _ _ = A
    have b5 : Box (w9.drewN 1) 30 w.heap.size zh nilS nilS nilS nilS := BR9.out
    have k6 : Keep (fun i => i = w.heap.size) (w9.drewN 1) ((w9.drewN 1).setRow w.heap.size (hcells ⟨kd, ve, dl, sl, tk, vl, ln⟩ dS sS tS vS)) := (Keep.refl _ _).setRow _ _ (.inl rfl)
    have hS6 := (show _ ∧ _ from ⟨k6.cell hS.1 (by omega), hS.2.keep k6 (by omega)⟩)
    have b6 : Box ((w9.drewN 1).setRow w.heap.size (hcells ⟨kd, ve, dl, sl, tk, vl, ln⟩ dS sS tS vS)) 30 w.heap.size ⟨kd, ve, dl, sl, tk, vl, ln⟩ dS sS tS vS := b5.row_ _ _ _ _ _
    refine wpOp_in rfl (by rw [← hA]; kernel_rfl) (wp_store_row 30 _ _ rfl w.heap.size (hcells ⟨kd, ve, dl, sl, tk, vl, ln⟩ dS sS tS vS) (by rw [← hA]; kernel_rfl) (by rw [← hA]; kernel_rfl) 30 _ b5 (hcells_info30 _ _ _ _ _) rfl (hcells_one _ _ _ _ _) ⟨hS6, ?_⟩)
    have qk : Q w9 (w9.drewN 1) := (Q.refl w9).drewN _
    have HX := hid (show AnsR w zs cid (.returned (.tuple #[hv ⟨kd, ve, dl, sl, tk, vl, ln⟩ dS sS tS vS, .int .i64 q, .int .i64 (q + ln), .int .i64 0])) ((w9.drewN 1).setRow w.heap.size (hcells ⟨kd, ve, dl, sl, tk, vl, ln⟩ dS sS tS vS)) from
      ansR_ok HO9.out HEN.out (((K9.out.trans (Keep.ofQ qk)).trans' k6 (fun i hi e => by omega)).toQ (fun i hi e => by omega)) (((H9.out.q qk).keep k6 (fun i e => .inl (by omega))).mono (by omega)))
    generalize (w9.drewN 1).setRow w.heap.size (hcells ⟨kd, ve, dl, sl, tk, vl, ln⟩ dS sS tS vS) = w6 at *
    subst hA
    refine wpAnyH_take (i := 13) (fuel := 2) (v := .int .i64 q) rfl (by kernel_rfl) (by kernel_rfl) (by kernel_rfl) (fun _ _ _ h => h) (.inl ⟨by kernel_rfl, by intro w' hb'; kernel_rfl⟩) hS6 ?_
    refine wpAnyH_take (i := 14) (fuel := 1) (v := .int .i64 (q + ln)) rfl (by kernel_rfl) (by kernel_rfl) (by kernel_rfl) (fun _ _ _ h => h) (.inl ⟨by kernel_rfl, by intro w' hb'; kernel_rfl⟩) hS6 ?_
    refine wpAnyH_take (i := 15) (fuel := 0) (v := .int .i64 0) rfl (by kernel_rfl) (by kernel_rfl) (by kernel_rfl) (fun _ _ _ h => h) (.inl ⟨by kernel_rfl, by intro w' hb'; kernel_rfl⟩) hS6 ?_
    refine wpAnyH_done (by kernel_rfl) ?_ _
    generalize hA : Act.put _ _ _ = A
    have hD : A.defers = [] := by rw [← hA]; kernel_rfl
    have h4 : A.tmps.getD 4 undef = .pointer (some ⟨w.heap.size, 0, none⟩) := by rw [← hA]; kernel_rfl
    have h5 : A.tmps.getD 5 undef = .int .i64 q := by rw [← hA]; kernel_rfl
    have h6 : A.tmps.getD 6 undef = .int .i64 (q + ln) := by rw [← hA]; kernel_rfl
    have h7 : A.tmps.getD 7 undef = .int .i64 0 := by rw [← hA]; kernel_rfl
    clear hA
    obtain ⟨tm, df⟩ := A
    dsimp only at hD h4 h5 h6 h7
    subst hD
    go_wp2
    exact ⟨rfl, _, results11 tm w6 w.heap.size _ _ _ _ _ q ((q + ln)) 0 h4 h5 h6 h7 b6, HX.out⟩
  · have dk : decide (kd ≤ 3) = false := by simp; omega
    have eb : behM n kd ln q = (n : Int) - q := by unfold behM; rw [if_neg (by omega)]
    have HEN := hid (show q + behM zs.length kd ln q = n from by rw [HL.out, eb]; omega)
    clear eb hpl
    generalize (⟨da, dn, dc⟩ : Sv) = dS at *
    generalize (⟨sa, sn, sc⟩ : Sv) = sS at *
    go_wp2
    refine wp_region_held (S := fun w' => w'.cell? ⟨rb, 1, none⟩ = some (.int .i64 q) ∧ Box w' 30 hb ⟨kd, ve, dl, sl, tk, vl, ln⟩ dS sS tS vS) (by kernel_rfl) ?_
    show wpAnyH Try.prog .any _ _ _ 11 _ _ (w9.drewN 1)
    have hS : (w9.drewN 1).cell? ⟨rb, 1, none⟩ = some (.int .i64 q) ∧ Box (w9.drewN 1) 30 hb ⟨kd, ve, dl, sl, tk, vl, ln⟩ dS sS tS vS := ⟨s1, B9.out⟩
    refine wpAnyH_take (i := 0) (fuel := 10) (v := hv ⟨kd, ve, dl, sl, tk, vl, ln⟩ dS sS tS vS) rfl (by kernel_rfl) (by kernel_rfl) (by kernel_rfl) (fun _ _ _ h => h) (.inl ⟨by kernel_rfl, by rintro w' ⟨z1, hb'⟩; obtain ⟨c0, c1, c2, c3, c4, c5, c6⟩ := hb'.all; simp [execOp, go_sem, c0, c1, c2, c3, c4, c5, c6]⟩) hS ?_
    refine wpAnyH_take (i := 1) (fuel := 9) (v := .pointer (some ⟨rb, 0, none⟩)) rfl (by kernel_rfl) (by kernel_rfl) (by kernel_rfl) (fun _ _ _ h => h) (.inl ⟨by kernel_rfl, by intro w' hb'; kernel_rfl⟩) hS ?_
    refine wpAnyH_take (i := 2) (fuel := 8) (v := .pointer (some ⟨rb, 0, none⟩)) rfl (by kernel_rfl) (by kernel_rfl) (by kernel_rfl) (fun _ _ _ h => h) (.inl ⟨by kernel_rfl, by intro w' hb'; kernel_rfl⟩) hS ?_
    refine wpAnyH_take (i := 3) (fuel := 7) (v := .pointer (some ⟨rb, 1, none⟩)) rfl (by kernel_rfl) (by kernel_rfl) (by kernel_rfl) (fun _ _ _ h => h) (.inl ⟨by kernel_rfl, by intro w' hb'; kernel_rfl⟩) hS ?_
    refine wpAnyH_take (i := 4) (fuel := 6) (v := .int .i64 q) rfl (by kernel_rfl) (by kernel_rfl) (by kernel_rfl) (fun _ _ _ h => h) (.inl ⟨by kernel_rfl, by rintro w' ⟨z1, hb'⟩; simp [execOp, go_sem, z1]⟩) hS ?_
    refine wpAnyH_take (i := 5) (fuel := 5) (v := .slice a n c) rfl (by kernel_rfl) (by kernel_rfl) (by kernel_rfl) (fun _ _ _ h => h) (.inl ⟨by kernel_rfl, by intro w' hb'; kernel_rfl⟩) hS ?_
    refine wpAnyH_take (i := 6) (fuel := 4) (v := .int .i64 n) rfl (by kernel_rfl) (by kernel_rfl) (by kernel_rfl) (fun _ _ _ h => h) (.inl ⟨by kernel_rfl, by intro w' hb'; kernel_rfl⟩) hS ?_
    refine wpAnyH_all (rs := [7]) (fuel := 3) (by kernel_rfl) (by simp) ?_
    intro i hi
    have hi' := List.mem_singleton.1 hi
    clear hi
    subst hi'
    generalize hA : Act.put _ _ _ = A
    have b5 : Box (w9.drewN 1) 30 w.heap.size zh nilS nilS nilS nilS := BR9.out
    have k6 : Keep (fun i => i = w.heap.size) (w9.drewN 1) ((w9.drewN 1).setRow w.heap.size (hcells ⟨kd, ve, dl, sl, tk, vl, ln⟩ dS sS tS vS)) := (Keep.refl _ _).setRow _ _ (.inl rfl)
    have hS6 := (show _ ∧ _ from ⟨k6.cell hS.1 (by omega), hS.2.keep k6 (by omega)⟩)
    have b6 : Box ((w9.drewN 1).setRow w.heap.size (hcells ⟨kd, ve, dl, sl, tk, vl, ln⟩ dS sS tS vS)) 30 w.heap.size ⟨kd, ve, dl, sl, tk, vl, ln⟩ dS sS tS vS := b5.row_ _ _ _ _ _
    refine wpOp_in rfl (by rw [← hA]; kernel_rfl) (wp_store_row 30 _ _ rfl w.heap.size (hcells ⟨kd, ve, dl, sl, tk, vl, ln⟩ dS sS tS vS) (by rw [← hA]; kernel_rfl) (by rw [← hA]; kernel_rfl) 30 _ b5 (hcells_info30 _ _ _ _ _) rfl (hcells_one _ _ _ _ _) ⟨hS6, ?_⟩)
    have qk : Q w9 (w9.drewN 1) := (Q.refl w9).drewN _
    have HX := hid (show AnsR w zs cid (.returned (.tuple #[hv ⟨kd, ve, dl, sl, tk, vl, ln⟩ dS sS tS vS, .int .i64 q, .int .i64 n, .int .i64 0])) ((w9.drewN 1).setRow w.heap.size (hcells ⟨kd, ve, dl, sl, tk, vl, ln⟩ dS sS tS vS)) from
      ansR_ok HO9.out HEN.out (((K9.out.trans (Keep.ofQ qk)).trans' k6 (fun i hi e => by omega)).toQ (fun i hi e => by omega)) (((H9.out.q qk).keep k6 (fun i e => .inl (by omega))).mono (by omega)))
    generalize (w9.drewN 1).setRow w.heap.size (hcells ⟨kd, ve, dl, sl, tk, vl, ln⟩ dS sS tS vS) = w6 at *
    subst hA
    refine wpAnyH_take (i := 8) (fuel := 2) (v := .int .i64 q) rfl (by kernel_rfl) (by kernel_rfl) (by kernel_rfl) (fun _ _ _ h => h) (.inl ⟨by kernel_rfl, by intro w' hb'; kernel_rfl⟩) hS6 ?_
    refine wpAnyH_take (i := 9) (fuel := 1) (v := .int .i64 n) rfl (by kernel_rfl) (by kernel_rfl) (by kernel_rfl) (fun _ _ _ h => h) (.inl ⟨by kernel_rfl, by intro w' hb'; kernel_rfl⟩) hS6 ?_
    refine wpAnyH_take (i := 10) (fuel := 0) (v := .int .i64 0) rfl (by kernel_rfl) (by kernel_rfl) (by kernel_rfl) (fun _ _ _ h => h) (.inl ⟨by kernel_rfl, by intro w' hb'; kernel_rfl⟩) hS6 ?_
    refine wpAnyH_done (by kernel_rfl) ?_ _
    generalize hA : Act.put _ _ _ = A
    have hD : A.defers = [] := by rw [← hA]; kernel_rfl
    have h4 : A.tmps.getD 4 undef = .pointer (some ⟨w.heap.size, 0, none⟩) := by rw [← hA]; kernel_rfl
    have h5 : A.tmps.getD 5 undef = .int .i64 q := by rw [← hA]; kernel_rfl
    have h6 : A.tmps.getD 6 undef = .int .i64 n := by rw [← hA]; kernel_rfl
    have h7 : A.tmps.getD 7 undef = .int .i64 0 := by rw [← hA]; kernel_rfl
    clear hA
    obtain ⟨tm, df⟩ := A
    dsimp only at hD h4 h5 h6 h7
    subst hD
    go_wp2
    exact ⟨rfl, _, results11 tm w6 w.heap.size _ _ _ _ _ q (n) 0 h4 h5 h6 h7 b6, HX.out⟩
end Go.Proofs.Ytbhhajmfdffdbaa
