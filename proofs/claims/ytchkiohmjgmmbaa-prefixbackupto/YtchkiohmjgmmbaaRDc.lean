/-
  What the document's own Decode answers. A contract that the statement's walk uses.
-/
import Derived.Test.YtchkiohmjgmmbaaRFn
import Derived.Test.YtchkiohmjgmmbaaDec
namespace Go.Proofs.Ytchkiohmjgmmbaa
open Go.RowKit
set_option linter.unusedVariables false
set_option maxRecDepth 100000

theorem row_empty' (w : World) : Row (w.alloc (.cells #[] 5)) ⟨some ⟨w.heap.size, 0, none⟩, 0, 0⟩ [] :=
  ⟨by simp, .inr ⟨w.heap.size, 0, #[], rfl, heap_alloc_new w _, Nat.le_refl _, Nat.zero_le _, by simp, fun j hj => by simp at hj⟩⟩
theorem rep_succ {bs : List Int} {k : Nat} (hk : k < bs.length) : (bs.take (k + 1) = List.replicate (k + 1) 1) ↔ (bs.take k = List.replicate k 1 ∧ bs.getD k 0 = 1) := by
  rw [List.take_add_one, List.getElem?_eq_getElem hk, Option.toList_some, List.replicate_succ', List.getD_eq_getElem?_getD, List.getElem?_eq_getElem hk]
  constructor
  · intro h
    have h2 := List.append_inj h (by rw [List.length_take, List.length_replicate]; omega)
    exact ⟨h2.1, by simpa using h2.2⟩
  · rintro ⟨h1, h2⟩
    rw [h1]
    simp at h2
    rw [h2]
/-- The end of the reading, in the document's order of tests. -/
theorem dcE_ref {bs out : List Int} : dcE bs out = if bs.length ≤ 7 ∧ bs = List.replicate bs.length 1 then (out, 0) else if bs.length < 15 then ([], 141) else ([], 140) := rfl
theorem fd_fdR {bs : List Int} (hb : Bits bs) : (0 < (fdR bs).2 → fd bs = some (fdR bs) ∧ (fdR bs).2 ≤ bs.length) ∧ ((fdR bs).2 = 0 → fd bs = none) := by
  unfold fdR
  cases h : fd bs with
  | none => exact ⟨fun k => by simp at k, fun _ => rfl⟩
  | some v =>
    obtain ⟨x, l⟩ := v
    obtain ⟨h1, h2, h3, _⟩ := fd_ok hb h
    refine ⟨fun _ => ⟨rfl, h3⟩, fun k => ?_⟩
    have := hl_bd x
    simp at k
    omega
set_option maxHeartbeats 16000000 in
theorem rdecode_any (a : Option Addr) (n c : Nat) (zs : List Int) (w : World) (hlen : zs.length = n) (hz : ∀ y ∈ zs, 0 ≤ y ∧ y < 256) (hnn : n ≤ 9223372036854775807) (hseg : Seg w a zs) :
    Calls Try.prog 33 #[.slice a n c] w (DAns w (hD zs)) := by
  by_cases hn : n ≤ 16384
  · have HD := hid (show hD zs = dcF (ub zs).length (ub zs) [] from by unfold hD; rw [if_neg (by omega)])
    have HF := hid (fun (W : World) (h : Q w W) (p : Nat) (hp : p ≤ 8 * n) => find_any a n c p (8 * n) zs W hlen hn rfl hp hz (hseg.q h))
    have HBT := hid (fun (W : World) (h : Q w W) (i : Nat) (hi : i < 8 * n) => bit_any a n c i zs W hlen hn hi hz (hseg.q h))
    have HL := hid hlen
    clear hlen hz hseg
    have hni : ¬ (n : Int) > 16384 := by omega
    generalize hDD : hD zs = D at *
    clear hDD
    obtain ⟨t, ht⟩ : ∃ t : Nat, 8 * n = t := ⟨_, rfl⟩
    have hti : (n : Int) * 8 = (t : Int) := by omega
    have htb : t ≤ 131072 := by omega
    rw [ht] at HF HBT
    have HT := hid ht
    clear ht
    go_enter Try.func33, Try.ntmps33
    go_wp2_with fail
    generalize hW : World.alloc w _ = W0
    have HQ0 := hid (show Q w W0 from by rw [← hW]; exact (Q.refl w).alloc _)
    have HR0 := hid (show Row W0 ⟨some ⟨w.heap.size, 0, none⟩, 0, 0⟩ [] from by rw [← hW]; exact row_empty' w)
    clear hW
    go_loopw [5, 6, 9, 10, 11] (fun at_ tx _ _ _ wr => Q w wr ∧ ∃ (p : Nat) (out : List Int) (x : Sv), at_ = .int .i64 p ∧ tx = .slice x.a x.n x.c ∧ DcI zs p out ∧ Row wr x out ∧ New w.heap.size x) (fun i _ _ _ _ _ => ((t : Int) - intOf i).toNat)
    case atStart => exact ⟨HQ0.out, 0, [], ⟨some ⟨w.heap.size, 0, none⟩, 0, 0⟩, rfl, rfl, DcI.start zs, HR0.out, fun b e => by cases e; exact Nat.le_refl _⟩
    case round =>
      clear HQ0 HR0
      obtain ⟨hq, p, out, ⟨xa, xn, xc⟩, rfl, rfl, hI, hr, hnew⟩ := hrel
      have HQ := hid hq
      have HDI := hid hI
      have HR := hid hr
      have HN := hid hnew
      clear hq hI hr hnew
      have hp : p ≤ t := by have h1 := HDI.out.l; have h2 := HL.out; have h3 := HT.out; omega
      obtain ⟨lf, hlf⟩ : ∃ lf : Nat, t - p = lf := ⟨_, rfl⟩
      have hlfi : (t : Int) - (p : Int) = (lf : Int) := by omega
      have hbits := (ub_bits zs).drop p
      have hbl : ((ub zs).drop p).length = lf := by rw [List.length_drop, ub_len, HL.out, HT.out]; exact hlf
      have hfr := fd_fdR hbits
      have HFP := hid (HF.out wr HQ.out p hp)
      have HGD := hid (fun k => getD_drop (ub zs) p k 0)
      obtain ⟨⟨x, l⟩, hx⟩ : ∃ m, fdR ((ub zs).drop p) = m := ⟨_, rfl⟩
      rw [hx] at hfr HFP
      simp only at hfr
      clear hx hlf
      by_cases hl0 : l = 0
      · subst hl0
        have HDE := hid (HD.out.trans (HDI.out.done (hfr.2 rfl)))
        rw [dcE_ref, hbl] at HDE
        have HBL := hid hbl
        generalize (ub zs).drop p = bs at *
        clear hfr hbl hbits HDI
        go_wp2_with (go_at_call 44; refine HFP.out.mono ?_; rintro e w1 ⟨rfl, rfl⟩)
        generalize hws : wr = ws at *
        clear hws
        go_loopw [10, 11] (fun on i wr => wr = ws ∧ ∃ k : Nat, k ≤ lf ∧ i = .int .i64 ((p + k : Nat) : Int) ∧ on = .bool (decide (bs.take k = List.replicate k 1))) (fun _ i _ => ((t : Int) - intOf i).toNat)
        case atStart => exact ⟨rfl, 0, Nat.zero_le _, by go_num, by simp⟩
        case round =>
          obtain ⟨rfl, k, hk, rfl, rfl⟩ := hrel
          by_cases hkl : k < lf
          · have hki : (p : Int) + (k : Int) < (t : Int) := by omega
            have hrs := rep_succ (bs := bs) (k := k) (by rw [HBL.out]; exact hkl)
            by_cases ho : bs.take k = List.replicate k 1
            · rw [decide_eq_true ho]
              have HB := hid (HBT.out wr HQ.out (p + k) (by omega))
              rw [← HGD.out k] at HB
              have HDD := hid (show decide (bs.take (k + 1) = List.replicate (k + 1) 1) = (bs.getD k 0 == 1) from by
                by_cases hb : bs.getD k 0 = 1
                · rw [decide_eq_true (hrs.2 ⟨ho, hb⟩), hb]; rfl
                · rw [decide_eq_false (fun h => hb (hrs.1 h).2), beq_eq_false_iff_ne.2 hb])
              clear hrs ho
              generalize bs.getD k 0 = bt at *
              generalize hpk : p + k = q at *
              have HPK := hid hpk
              clear hpk
              have hqi : (q : Int) < (t : Int) := by have := HPK.out; omega
              clear hki
              go_wp2_with (go_at_call 45; refine HB.out.mono ?_; rintro e w1 ⟨rfl, rfl⟩)
              go_roundw
              case rel => exact ⟨trivial, k + 1, by omega, congrArg (Value.int .i64) (by have := HPK.out; omega), by rw [HDD.out]⟩
              case measure => simp [intOf]; omega
            · rw [decide_eq_false ho]
              have HDD := hid (show decide (bs.take (k + 1) = List.replicate (k + 1) 1) = false from decide_eq_false (fun h => ho (hrs.1 h).1))
              clear hrs ho
              generalize hpk : p + k = q at *
              have HPK := hid hpk
              clear hpk
              have hqi : (q : Int) < (t : Int) := by have := HPK.out; omega
              clear hki
              go_wp2_with fail
              go_roundw
              case rel => exact ⟨trivial, k + 1, by omega, congrArg (Value.int .i64) (by have := HPK.out; omega), by rw [HDD.out]⟩
              case measure => simp [intOf]; omega
          · obtain rfl : k = lf := by omega
            have e : bs.take k = bs := List.take_of_length_le (by rw [HBL.out]; exact Nat.le_refl _)
            rw [e]
            clear e
            have hpt : p + k = t := by omega
            rw [hpt]
            clear hlfi hpt hkl
            by_cases hA : k ≤ 7 ∧ bs = List.replicate k 1
            · rw [if_pos hA] at HDE
              have h7 : (k : Int) ≤ 7 := by omega
              rw [decide_eq_true hA.2]
              clear hA
              go_wp2_with fail
              go_ret2
              exact ⟨⟨xa, xn, xc⟩, by rw [HDE.out]; rfl, HQ.out, by rw [HDE.out]; exact HR.out, HN.out⟩
            · rw [if_neg hA] at HDE
              have HA := hid hA
              clear hA
              generalize hon : decide (bs = List.replicate k 1) = on
              have HON := hid hon
              clear hon
              by_cases h15 : k < 15
              · rw [if_pos h15] at HDE
                have h15i : (k : Int) < 15 := by omega
                by_cases h7 : k ≤ 7
                · have h7i : (k : Int) ≤ 7 := by omega
                  obtain rfl : on = false := by
                    rw [← HON.out]
                    exact decide_eq_false (fun h => HA.out ⟨h7, h⟩)
                  go_wp2_with fail
                  go_ret2
                  exact DAns.bad HDE.out HQ.out
                · have h7i : decide ((k : Int) ≤ 7) = false := decide_eq_false (by omega)
                  go_wp2_with fail
                  go_ret2
                  exact DAns.bad HDE.out HQ.out
              · rw [if_neg h15] at HDE
                have h15i : decide ((k : Int) < 15) = false := decide_eq_false (by omega)
                have h7i : decide ((k : Int) ≤ 7) = false := decide_eq_false (by omega)
                go_wp2_with fail
                go_ret2
                exact DAns.bad HDE.out HQ.out
      · have hl0i : (l : Int) > 0 := by omega
        obtain ⟨hf1, hf2⟩ := hfr.1 (by omega)
        have HNX := hid (HDI.out.next hf1 hf2 (by omega))
        have hol := HDI.out.o
        have HXN := hid (show xn ≤ 1099511627776 from by have hrl : out.length = xn := Row.len HR.out; omega)
        have hle : p + l ≤ t := by have h1 := HNX.out.l; have h2 := HL.out; have h3 := HT.out; omega
        obtain ⟨⟨ya, yn, yc⟩, w5, hrun, hrow, hkp, hbb⟩ := row_one x HR.out HXN.out
        have X5 := hid (new_step' rfl HQ.out HN.out hkp hbb)
        have R5 := hid hrow
        clear hfr hbl hbits HDI hol hf1 hf2 hkp hbb hrow
        go_wp2_with (first
          | (go_at_call 44; refine HFP.out.mono ?_; rintro e w1 ⟨rfl, rfl⟩)
          | (at_builtin; refine Lib.wpList_append_run _ rfl _ _ _ _ rfl _ _ rfl rfl _ _ hrun ?_))
        go_roundw
        case rel => exact ⟨X5.out.1, p + l, _, ⟨ya, yn, yc⟩, by go_num, rfl, HNX.out, R5.out, X5.out.2⟩
        case measure => simp [intOf]; omega
  · have HD := hid (show hD zs = ([], 52) from by unfold hD; rw [if_pos (by omega)])
    have hni : (n : Int) > 16384 := by omega
    clear hlen hz hseg
    generalize hD zs = D at *
    go_enter Try.func33, Try.ntmps33
    go_wp2_with fail
    go_ret2
    exact DAns.bad HD.out (Q.refl _)
end Go.Proofs.Ytchkiohmjgmmbaa
