/-
  What the program's own takes does: a contract that the statements' walks use.
-/
import Derived.Test.YtidbimhcebfjfaaChk
namespace Go.Proofs.Ytidbimhcebfjfaa
open Go.RowKit
set_option linter.unusedVariables false
set_option maxRecDepth 20000

def updS (s : Nat → Sv) (i : Nat) (y : Sv) : Nat → Sv := fun j => if (kd i = 2 ∨ kd i = 3) ∧ j = i then y else s j
def updN (m : Pm) (i : Nat) (v : Int) : Pm := { m with num := fun j => if j = i then v else m.num j }
def updB (m : Pm) (i : Nat) (v : List Int) : Pm := { m with has := fun j => if j = i then true else m.has j, byt := fun j => if j = i then v else m.byt j }
theorem set_num : ∀ k, k < 16 → kd (idl.getD k 0) = 1 → ∀ m s v, (pc m s).setIfInBounds (cn (idl.getD k 0)) (.int .i64 v) = pc (updN m (idl.getD k 0) v) s
  | 0, _, h => absurd h (by decide)
  | 1, _, _ => fun _ _ _ => rfl
  | 2, _, h => absurd h (by decide)
  | 3, _, _ => fun _ _ _ => rfl
  | 4, _, _ => fun _ _ _ => rfl
  | 5, _, _ => fun _ _ _ => rfl
  | 6, _, _ => fun _ _ _ => rfl
  | 7, _, _ => fun _ _ _ => rfl
  | 8, _, _ => fun _ _ _ => rfl
  | 9, _, _ => fun _ _ _ => rfl
  | 10, _, _ => fun _ _ _ => rfl
  | 11, _, _ => fun _ _ _ => rfl
  | 12, _, h => absurd h (by decide)
  | 13, _, _ => fun _ _ _ => rfl
  | 14, _, h => absurd h (by decide)
  | 15, _, h => absurd h (by decide)
  | k + 16, h, _ => by omega
theorem set_byt : ∀ k, k < 16 → kd (idl.getD k 0) = 2 ∨ kd (idl.getD k 0) = 3 → ∀ m s v y, ((pc m s).setIfInBounds (ch (idl.getD k 0)) (.bool true)).setIfInBounds (cn (idl.getD k 0)) (sv y) = pc (updB m (idl.getD k 0) v) (updS s (idl.getD k 0) y)
  | 0, _, _ => fun _ _ _ _ => rfl
  | 1, _, h => absurd h (by decide)
  | 2, _, _ => fun _ _ _ _ => rfl
  | 3, _, h => absurd h (by decide)
  | 4, _, h => absurd h (by decide)
  | 5, _, h => absurd h (by decide)
  | 6, _, h => absurd h (by decide)
  | 7, _, h => absurd h (by decide)
  | 8, _, h => absurd h (by decide)
  | 9, _, h => absurd h (by decide)
  | 10, _, h => absurd h (by decide)
  | 11, _, h => absurd h (by decide)
  | 12, _, h => absurd h (by decide)
  | 13, _, h => absurd h (by decide)
  | 14, _, _ => fun _ _ _ _ => rfl
  | 15, _, _ => fun _ _ _ _ => rfl
  | k + 16, h, _ => by omega
theorem set_mrk (m : Pm) (s : Nat → Sv) : (pc m s).setIfInBounds (cn 12) (.bool true) = pc { m with mv := true } s := rfl
theorem updS_num {s : Nat → Sv} {i : Nat} {y : Sv} (h : ¬ (kd i = 2 ∨ kd i = 3)) : updS s i y = s := by
  funext j; unfold updS; rw [if_neg (fun x => h x.1)]

theorem fvI_iface (pb i : Nat) : ∃ t v, fvI pb i = .iface t v := by
  unfold fvI fnum fsrv fdat fmrk
  repeat' split
  all_goals exact ⟨_, _, rfl⟩
theorem kd_four {i : Nat} (h : kd i = 4) : i = 12 := by
  unfold kd at h
  by_cases h1 : i = 0 ∨ i = 2 ∨ i = 16
  · rw [if_pos h1] at h; cases h
  · by_cases h2 : i = 15
    · rw [if_neg h1, if_pos h2] at h; cases h
    · by_cases h3 : i = 12
      · exact h3
      · by_cases h4 : i = 13 ∨ 16 < i
        · rw [if_neg h1, if_neg h2, if_neg h3, if_pos h4] at h; cases h
        · rw [if_neg h1, if_neg h2, if_neg h3, if_neg h4] at h; cases h
theorem mtake_ok (pb c : Nat) (b : Bool) (a : Option Addr) (n k : Nat) (w : World) (hc : w.cell? ⟨pb, c, none⟩ = some (.bool b)) (hf : w.frozen? ⟨pb, c, none⟩ = false) (h0 : n = 0) :
    Calls Try.prog 77 #[mrkA pb c, .slice a n k] w fun e w' => e = .returned (.bool true) ∧ Q (w.setCell ⟨pb, c, none⟩ (.bool true)) w' := by
  refine (mtake_any pb c b a n k w hc hf).mono ?_
  rintro e w' (⟨_, h1, h2⟩ | ⟨hx, _⟩)
  · exact ⟨h1, h2⟩
  · exact absurd h0 hx
theorem mtake_no (pb c : Nat) (b : Bool) (a : Option Addr) (n k : Nat) (w : World) (hc : w.cell? ⟨pb, c, none⟩ = some (.bool b)) (hf : w.frozen? ⟨pb, c, none⟩ = false) (h0 : n ≠ 0) :
    Calls Try.prog 77 #[mrkA pb c, .slice a n k] w fun e w' => e = .returned (.bool false) ∧ Q w w' := by
  refine (mtake_any pb c b a n k w hc hf).mono ?_
  rintro e w' (⟨hx, _⟩ | ⟨_, h1, h2⟩)
  · exact absurd hx h0
  · exact ⟨h1, h2⟩
/-- What takes tells. -/
def TkA (w : World) (pb : Nat) (m : Pm) (s : Nat → Sv) (i : Nat) (v : List Int) (y : Sv) (srv : Bool) (e : Ending) (w' : World) : Prop :=
  Keep (fun j => j = pb) w w' ∧ ((e = .returned (.bool true) ∧ ∃ m', takesM m i v srv = some m' ∧ PB w' pb m' (updS s i y)) ∨ (e = .returned (.bool false) ∧ takesM m i v srv = none ∧ ∃ m' s', PB w' pb m' s'))
theorem PB.set {w : World} {pb : Nat} {m : Pm} {s : Nat → Sv} (h : PB w pb m s) (j : Nat) (v : Value) : (w.setCell ⟨pb, j, none⟩ v).heap[pb]? = some (.cells ((pc m s).setIfInBounds j v) 24 (0, 0)) := heap_setCell_same w pb j _ 24 v h
theorem keep_set (w : World) (pb j : Nat) (v : Value) : Keep (fun i => i = pb) w (w.setCell ⟨pb, j, none⟩ v) := (Keep.refl (fun i => i = pb) w).setCell _ _ _ (.inl rfl)
theorem cell_new1 (w : World) (x y : Value) : (w.alloc (.cells #[x, y] 60)).cell? ⟨w.heap.size, 1, none⟩ = some y := by
  rw [cell_of_row _ w.heap.size 1 _ 60 (0, 0) (heap_alloc_new w _)]; rfl
/-- How far takes has come. -/
def TksR (w : World) (pb fb : Nat) (m : Pm) (s : Nat → Sv) (i : Nat) (k : Nat) (wr : World) : Prop :=
  k ≤ 16 ∧ Q w wr ∧ PB wr pb m s ∧ FB wr fb pb ∧ ∀ j, j < k → idl.getD j 0 ≠ i
theorem kd_none {i : Nat} (h : ∀ j, j < 16 → idl.getD j 0 ≠ i) : kd i = 0 := by
  by_cases e : kd i = 0
  · exact e
  · obtain ⟨k, hk, hi⟩ := kd_ids e
    exact absurd hi (h k hk)

set_option maxHeartbeats 8000000 in
theorem takes_any (pb fb : Nat) (m : Pm) (s : Nat → Sv) (i : Nat) (y : Sv) (v : List Int) (srv : Bool) (w : World) (hp : PB w pb m s) (hf : FB w fb pb) (hne : fb ≠ pb) (hl : Len m s) (hv : v.length = y.n) (hn : y.n ≤ 9223372036854775807) (hz : ∀ y ∈ v, 0 ≤ y ∧ y < 256) (hs : Seg w y.a v) :
    Calls Try.prog 34 #[.slice (some ⟨fb, 0, none⟩) 16 16, .int .i64 (i : Int), sv y, .bool srv] w fun e w' => TkA w pb m s i v y srv e w' := by
  have HL := hid hl
  have HV := hid hv
  have HZ := hid hz
  have HS := hid hs
  have HN := hid hn
  have HP0 := hid hp
  have HF0 := hid hf
  have HNE := hid hne
  clear hl hv hz hs hn hp hf hne
  go_enter Try.func34, Try.ntmps34
  go_wp2
  go_loopw [13] (fun i0 wr => ∃ k : Nat, i0 = .int .i64 k ∧ TksR w pb fb m s i k wr) (fun i0 _ => 16 - (intOf i0).toNat)
  case atStart => exact ⟨0, rfl, by omega, Q.refl w, HP0.out, HF0.out, fun j hj => by omega⟩
  case round =>
    obtain ⟨k, rfl, hk, hq, hp, hf, hr⟩ := hrel
    by_cases hlt : k < 16
    · obtain ⟨c0, c1⟩ := frow_id pb k hlt
      have hd1 : decide ((k : Int) < 16) = true := by simp; omega
      have d0 := hf.cell c0
      have d1 := hf.cell c1
      have hfl := lt_of_cell d0
      have hpl := lt_of_block hp
      have HP := hid hp
      have HF := hid hf
      have HQ := hid hq
      have HR := hid hr
      clear c0 c1 hp hf hq hr
      by_cases hik : idl.getD k 0 = i
      · have HK := hid (kinds pb k hlt)
        have HI := hid hik
        rw [hik] at d0 d1 HK
        have hb1 : ((i : Int) == (i : Int)) = true := by simp
        clear hik
        obtain ⟨ya, yn, yc⟩ := y
        rcases HK.out with ⟨k1, k2, k3, k4, k5⟩ | ⟨k1, k2, k3, k4⟩ | ⟨k1, k2, k3, k4⟩ | ⟨k1, k2, k3⟩
        · rw [k2] at d1
          unfold fnum at d1
          have hm := m_take_89
          have hm2 := m_right_89
          by_cases ht : ntk v = true
          · have hM : tkn m i v = some (updN m i (rd v 0).1) := by unfold tkn; rw [if_pos k1, if_pos (by simpa [ntk] using ht)]; rfl
            have HT := hid (fun (W : World) (q : Q wr W) => ntake_ok pb (cn i) (usM.num i) (lo i) (hi i) (m.num i) ya yn yc v W HV.out HN.out HZ.out ((HS.out.q HQ.out).q q) ht ((HP.out.q q).cell (k3 m s)) ((HP.out.q q).free _))
            have HB := hid (fun (W w2 : World) (p : PB W pb m s) (q : Q (W.setCell ⟨pb, cn i, none⟩ (.int .i64 (rd v 0).1)) w2) => show PB w2 pb (updN m i (rd v 0).1) s from (show PB _ pb (updN m i (rd v 0).1) s from by have := p.set (cn i) (.int .i64 (rd v 0).1); rw [← HI.out] at this ⊢; rw [set_num k hlt (by rw [HI.out]; exact k1)] at this; exact this).q q)
            have HU := hid (updS_num (s := s) (i := i) (y := ⟨ya, yn, yc⟩) (by omega))
            generalize hm2e : updN m i (rd v 0).1 = m2 at *
            clear hm2e
            have hrg : rgt m2 i srv = (decide (lo i ≤ m2.num i) && decide (m2.num i ≤ hi i)) := by unfold rgt; rw [if_pos k1]
            have HC := hid (fun (W : World) (p : PB W pb m2 s) => nright_any pb (cn i) (usM.num i) (lo i) (hi i) (m2.num i) srv W (p.cell (k3 m2 s)))
            rw [← hrg] at HC
            have HTM := hid (show takesM m i v srv = if rgt m2 i srv then some m2 else none from by unfold takesM; rw [hM]; rfl)
            clear hrg hM k1 k2 k3 k4 k5 HK
            generalize hrv : rgt m2 i srv = rv at *
            clear hrv
            go_wp2_with (first
              | (go_at_call 73; refine (HT.out _ ((Q.refl wr).alloc _)).mono ?_; rintro e w2 ⟨rfl, q2⟩; have k2 := ((keep_set _ pb (cn i) _).trans (Keep.ofQ q2)); have P2 := hid (HB.out _ w2 (HP.out.q ((Q.refl wr).alloc _)) q2); have K2 := hid ((Keep.ofQ ((Q.refl wr).alloc _)).trans k2); have c2 := k2.cell (k := wr.heap.size) (j := 1) (cell_new1 wr _ _) (by omega); clear q2 k2)
              | (go_at_call 72; refine (HC.out _ P2.out).mono ?_; rintro e w3 ⟨rfl, q3⟩; have P3 := hid (P2.out.q q3); have K3 := hid (K2.out.trans (Keep.ofQ q3)); clear q3 c2))
            go_ret
            cases rv with
            | true => exact ⟨(Keep.ofQ HQ.out).trans K3.out, .inl ⟨rfl, m2, HTM.out, by rw [HU.out]; exact P3.out⟩⟩
            | false => exact ⟨(Keep.ofQ HQ.out).trans K3.out, .inr ⟨rfl, HTM.out, m2, s, P3.out⟩⟩
          · have ht' : ntk v = false := by simpa using ht
            have HTM := hid (show takesM m i v srv = none from by unfold takesM tkn; rw [if_pos k1, if_neg (by simpa [ntk] using ht')]; rfl)
            have HT := hid (fun (W : World) (q : Q wr W) => ntake_no pb (cn i) (usM.num i) (lo i) (hi i) ya yn yc v W HV.out HN.out HZ.out ((HS.out.q HQ.out).q q) ht')
            clear k1 k2 k3 k4 k5 HK
            go_wp2_with (go_at_call 73; refine (HT.out _ ((Q.refl wr).alloc _)).mono ?_; rintro e w2 ⟨rfl, q2⟩; have Q2 := hid (((Q.refl wr).alloc _).trans q2); clear q2)
            go_ret
            exact ⟨Keep.ofQ (HQ.out.trans Q2.out), .inr ⟨rfl, HTM.out, m, s, HP.out.q Q2.out⟩⟩
        · rw [k2] at d1
          unfold fsrv at d1
          have hm := m_take_86
          have hm2 := m_right_86
          · have hM : tkn m i v = some (updB m i v) := by unfold tkn; rw [if_neg (by omega), if_pos (by omega)]; rfl
            have HT := hid (fun (W : World) (q : Q wr W) => dtake_any pb (ch i) (cn i) (lo i) (hi i) (m.has i) (s i) ⟨ya, yn, yc⟩ W ((HP.out.q q).cell (k3 m s).1) ((HP.out.q q).cell (k3 m s).2) (fun j => (HP.out.q q).free j) k4)
            have HB := hid (fun (W w2 : World) (p : PB W pb m s) (q : Q ((W.setCell ⟨pb, ch i, none⟩ (.bool true)).setCell ⟨pb, cn i, none⟩ (sv ⟨ya, yn, yc⟩)) w2) => show PB w2 pb (updB m i v) (updS s i ⟨ya, yn, yc⟩) from (show PB _ pb (updB m i v) (updS s i ⟨ya, yn, yc⟩) from by have := heap_setCell_same _ pb (cn i) _ 24 (sv ⟨ya, yn, yc⟩) (p.set (ch i) (.bool true)); rw [← HI.out] at this ⊢; rw [set_byt k hlt (by rw [HI.out]; omega) m s v] at this; exact this).q q)
            have hln : ((updB m i v).byt i).length = (updS s i ⟨ya, yn, yc⟩ i).n := by
              have e1 : (updB m i v).byt i = v := by show (if i = i then v else m.byt i) = v; rw [if_pos rfl]
              have e2 : updS s i ⟨ya, yn, yc⟩ i = ⟨ya, yn, yc⟩ := by unfold updS; rw [if_pos ⟨by omega, rfl⟩]
              rw [e1, e2]; exact HV.out
            generalize hm2e : updB m i v = m2 at *
            clear hm2e
            obtain ⟨s2, hs2⟩ : ∃ s2, s2 = updS s i ⟨ya, yn, yc⟩ := ⟨_, rfl⟩
            have HU := hid hs2.symm
            rw [← hs2] at HB hln
            have hrg : rgt m2 i srv = ((!m2.has i || (decide (lo i ≤ ((s2 i).n : Int)) && decide (((s2 i).n : Int) ≤ hi i))) && (srv || !m2.has i)) := by unfold rgt; rw [if_neg (by omega), if_pos k1, hln]
            have HC := hid (fun (W : World) (p : PB W pb m2 s2) => sright_any pb (ch i) (cn i) (lo i) (hi i) (m2.has i) (s2 i) srv W (p.cell (k3 m2 s2).1) (p.cell (k3 m2 s2).2))
            rw [← hrg] at HC
            have HTM := hid (show takesM m i v srv = if rgt m2 i srv then some m2 else none from by unfold takesM; rw [hM]; rfl)
            clear hrg hM k1 k2 k3 k4 hln HK
            clear hs2
            generalize hrv : rgt m2 i srv = rv at *
            clear hrv
            go_wp2_with (first
              | (go_at_call 68; refine (HT.out _ ((Q.refl wr).alloc _)).mono ?_; rintro e w2 ⟨rfl, q2⟩; have k2 := (((keep_set _ pb (ch i) _).trans (keep_set _ pb (cn i) _)).trans (Keep.ofQ q2)); have P2 := hid (HB.out _ w2 (HP.out.q ((Q.refl wr).alloc _)) q2); have K2 := hid ((Keep.ofQ ((Q.refl wr).alloc _)).trans k2); have c2 := k2.cell (k := wr.heap.size) (j := 1) (cell_new1 wr _ _) (by omega); clear q2 k2)
              | (go_at_call 70; refine (HC.out _ P2.out).mono ?_; rintro e w3 ⟨rfl, q3⟩; have P3 := hid (P2.out.q q3); have K3 := hid (K2.out.trans (Keep.ofQ q3)); clear q3 c2))
            go_ret
            cases rv with
            | true => exact ⟨(Keep.ofQ HQ.out).trans K3.out, .inl ⟨rfl, m2, HTM.out, by rw [HU.out]; exact P3.out⟩⟩
            | false => exact ⟨(Keep.ofQ HQ.out).trans K3.out, .inr ⟨rfl, HTM.out, m2, s2, P3.out⟩⟩
        · rw [k2] at d1
          unfold fdat at d1
          have hm := m_take_84
          have hm2 := m_right_84
          · have hM : tkn m i v = some (updB m i v) := by unfold tkn; rw [if_neg (by omega), if_pos (by omega)]; rfl
            have HT := hid (fun (W : World) (q : Q wr W) => dtake_any pb (ch i) (cn i) (lo i) (hi i) (m.has i) (s i) ⟨ya, yn, yc⟩ W ((HP.out.q q).cell (k3 m s).1) ((HP.out.q q).cell (k3 m s).2) (fun j => (HP.out.q q).free j) k4)
            have HB := hid (fun (W w2 : World) (p : PB W pb m s) (q : Q ((W.setCell ⟨pb, ch i, none⟩ (.bool true)).setCell ⟨pb, cn i, none⟩ (sv ⟨ya, yn, yc⟩)) w2) => show PB w2 pb (updB m i v) (updS s i ⟨ya, yn, yc⟩) from (show PB _ pb (updB m i v) (updS s i ⟨ya, yn, yc⟩) from by have := heap_setCell_same _ pb (cn i) _ 24 (sv ⟨ya, yn, yc⟩) (p.set (ch i) (.bool true)); rw [← HI.out] at this ⊢; rw [set_byt k hlt (by rw [HI.out]; omega) m s v] at this; exact this).q q)
            have hln : ((updB m i v).byt i).length = (updS s i ⟨ya, yn, yc⟩ i).n := by
              have e1 : (updB m i v).byt i = v := by show (if i = i then v else m.byt i) = v; rw [if_pos rfl]
              have e2 : updS s i ⟨ya, yn, yc⟩ i = ⟨ya, yn, yc⟩ := by unfold updS; rw [if_pos ⟨by omega, rfl⟩]
              rw [e1, e2]; exact HV.out
            generalize hm2e : updB m i v = m2 at *
            clear hm2e
            obtain ⟨s2, hs2⟩ : ∃ s2, s2 = updS s i ⟨ya, yn, yc⟩ := ⟨_, rfl⟩
            have HU := hid hs2.symm
            rw [← hs2] at HB hln
            have hrg : rgt m2 i srv = (!m2.has i || (decide (lo i ≤ ((s2 i).n : Int)) && decide (((s2 i).n : Int) ≤ hi i))) := by unfold rgt; rw [if_neg (by omega), if_neg (by omega), if_pos k1, hln]
            have HC := hid (fun (W : World) (p : PB W pb m2 s2) => dright_any pb (ch i) (cn i) (lo i) (hi i) (m2.has i) (s2 i) srv W (p.cell (k3 m2 s2).1) (p.cell (k3 m2 s2).2))
            rw [← hrg] at HC
            have HTM := hid (show takesM m i v srv = if rgt m2 i srv then some m2 else none from by unfold takesM; rw [hM]; rfl)
            clear hrg hM k1 k2 k3 k4 hln HK
            clear hs2
            generalize hrv : rgt m2 i srv = rv at *
            clear hrv
            go_wp2_with (first
              | (go_at_call 68; refine (HT.out _ ((Q.refl wr).alloc _)).mono ?_; rintro e w2 ⟨rfl, q2⟩; have k2 := (((keep_set _ pb (ch i) _).trans (keep_set _ pb (cn i) _)).trans (Keep.ofQ q2)); have P2 := hid (HB.out _ w2 (HP.out.q ((Q.refl wr).alloc _)) q2); have K2 := hid ((Keep.ofQ ((Q.refl wr).alloc _)).trans k2); have c2 := k2.cell (k := wr.heap.size) (j := 1) (cell_new1 wr _ _) (by omega); clear q2 k2)
              | (go_at_call 67; refine (HC.out _ P2.out).mono ?_; rintro e w3 ⟨rfl, q3⟩; have P3 := hid (P2.out.q q3); have K3 := hid (K2.out.trans (Keep.ofQ q3)); clear q3 c2))
            go_ret
            cases rv with
            | true => exact ⟨(Keep.ofQ HQ.out).trans K3.out, .inl ⟨rfl, m2, HTM.out, by rw [HU.out]; exact P3.out⟩⟩
            | false => exact ⟨(Keep.ofQ HQ.out).trans K3.out, .inr ⟨rfl, HTM.out, m2, s2, P3.out⟩⟩
        · rw [k2] at d1
          unfold fmrk at d1
          have hm := m_take_91
          have hm2 := m_right_91
          have hi12 := kd_four k1
          subst hi12
          by_cases ht : yn = 0
          · subst ht
            have hv0 : v = [] := List.length_eq_zero_iff.1 HV.out
            have hM : tkn m 12 v = some { m with mv := true } := by rw [hv0]; rfl
            have HT := hid (fun (W : World) (q : Q wr W) => mtake_ok pb (cn 12) m.mv ya 0 yc W ((HP.out.q q).cell (k3 m s)) ((HP.out.q q).free _) rfl)
            have HB := hid (fun (W w2 : World) (p : PB W pb m s) (q : Q (W.setCell ⟨pb, cn 12, none⟩ (.bool true)) w2) => show PB w2 pb { m with mv := true } s from (show PB _ pb { m with mv := true } s from by have := p.set (cn 12) (.bool true); rw [set_mrk] at this; exact this).q q)
            have HU := hid (updS_num (s := s) (i := 12) (y := ⟨ya, 0, yc⟩) (by decide))
            generalize hm2e : Pm.mk m.num m.has m.byt true = m2 at *
            clear hm2e
            have hrg : rgt m2 12 srv = true := by rfl
            have HC := hid (fun (W : World) (p : PB W pb m2 s) => mright_any pb (cn 12) srv W)
            rw [← hrg] at HC
            have HTM := hid (show takesM m 12 v srv = if rgt m2 12 srv then some m2 else none from by unfold takesM; rw [hM]; rfl)
            clear hrg hM k1 k2 k3 hv0 HK
            generalize hrv : rgt m2 12 srv = rv at *
            clear hrv
            go_wp2_with (first
              | (go_at_call 77; refine (HT.out _ ((Q.refl wr).alloc _)).mono ?_; rintro e w2 ⟨rfl, q2⟩; have k2 := ((keep_set _ pb (cn 12) _).trans (Keep.ofQ q2)); have P2 := hid (HB.out _ w2 (HP.out.q ((Q.refl wr).alloc _)) q2); have K2 := hid ((Keep.ofQ ((Q.refl wr).alloc _)).trans k2); have c2 := k2.cell (k := wr.heap.size) (j := 1) (cell_new1 wr _ _) (by omega); clear q2 k2)
              | (go_at_call 76; refine (HC.out _ P2.out).mono ?_; rintro e w3 ⟨rfl, q3⟩; have P3 := hid (P2.out.q q3); have K3 := hid (K2.out.trans (Keep.ofQ q3)); clear q3 c2))
            go_ret
            cases rv with
            | true => exact ⟨(Keep.ofQ HQ.out).trans K3.out, .inl ⟨rfl, m2, HTM.out, by rw [HU.out]; exact P3.out⟩⟩
            | false => exact ⟨(Keep.ofQ HQ.out).trans K3.out, .inr ⟨rfl, HTM.out, m2, s, P3.out⟩⟩
          · have HNT := hid ht
            have HTM := hid (show takesM m 12 v srv = none from by
              have hv0 : v ≠ [] := by intro e; rw [e] at HV; exact ht HV.out.symm
              unfold takesM tkn; rw [if_neg (by decide), if_neg (by decide), if_pos (show kd 12 = 4 from rfl), if_neg hv0]; rfl)
            have HT := hid (fun (W : World) (q : Q wr W) => mtake_no pb (cn 12) m.mv ya yn yc W ((HP.out.q q).cell (k3 m s)) ((HP.out.q q).free _) HNT.out)
            clear ht k1 k2 k3 HK
            go_wp2_with (go_at_call 77; refine (HT.out _ ((Q.refl wr).alloc _)).mono ?_; rintro e w2 ⟨rfl, q2⟩; have Q2 := hid (((Q.refl wr).alloc _).trans q2); clear q2)
            go_ret
            exact ⟨Keep.ofQ (HQ.out.trans Q2.out), .inr ⟨rfl, HTM.out, m, s, HP.out.q Q2.out⟩⟩
      · have hb1 : (((idl.getD k 0 : Nat) : Int) == (i : Int)) = false := by rw [beq_eq_false_iff_ne]; omega
        have HNI := hid (show ∀ j, j = k → idl.getD j 0 ≠ i from fun j e => by rw [e]; exact hik)
        clear hik
        obtain ⟨tX, vX, hX⟩ := fvI_iface pb (idl.getD k 0)
        rw [hX] at d1
        clear hX
        generalize idl.getD k 0 = i2 at *
        go_wp2
        go_roundw
        case rel =>
          have q2 := ((Q.refl wr).alloc (.cells #[.int .i64 (i2 : Int), .iface tX vX] 60))
          exact ⟨k + 1, by go_num, by omega, HQ.out.trans q2, HP.out.q q2, HF.out.q q2, fun j hj => by
            by_cases e : j = k
            · exact HNI.out j e
            · exact HR.out j (by omega)⟩
        case measure => simp [intOf]; omega
    · have hk16 : k = 16 := by omega
      subst hk16
      have HQ := hid hq
      have HR := hid hr
      have HP := hid hp
      clear hp hf hq hr
      go_wp2
      go_ret
      have h0 := kd_none HR.out
      refine ⟨Keep.ofQ HQ.out, .inl ⟨rfl, m, ?_, ?_⟩⟩
      · unfold takesM tkn rgt
        rw [h0]; rfl
      · rw [updS_num (by omega)]; exact HP.out
end Go.Proofs.Ytidbimhcebfjfaa
