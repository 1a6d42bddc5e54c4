/-
  What huff's Decode answers: the text that bytes are the coded form of, or why they are none. A contract that the statements' walks use.
-/
import Derived.Test.YtehejibllkmflaaMat
namespace Go.Proofs.Ytehejibllkmflaa
open Go.RowKit
set_option linter.unusedVariables false
set_option maxRecDepth 100000

theorem dcF_none {bs out : List Int} (h : fd bs = none) : ∀ n, dcF n bs out = dcE bs out
  | 0 => rfl
  | n + 1 => by rw [dcF, h]
theorem dcF_some {bs out : List Int} {x : Int} {l : Nat} (h : fd bs = some (x, l)) (n : Nat) : dcF (n + 1) bs out = dcF n (bs.drop l) (out ++ [x]) := by rw [dcF, h]
/-- What is left to be read, and what has been. -/
structure DcI (zs : List Int) (p : Nat) (out : List Int) : Prop where
  e : ∃ n, ((ub zs).drop p).length ≤ n ∧ dcF n ((ub zs).drop p) out = dcF (ub zs).length (ub zs) []
  l : p ≤ 8 * zs.length
  o : out.length ≤ p
theorem DcI.start (zs : List Int) : DcI zs 0 [] := ⟨⟨_, Nat.le_refl _, rfl⟩, by omega, by simp⟩
theorem DcI.next {zs : List Int} {p : Nat} {out : List Int} (h : DcI zs p out) {x : Int} {l : Nat} (hf : fd ((ub zs).drop p) = some (x, l)) (hl : l ≤ ((ub zs).drop p).length) (h0 : 0 < l) : DcI zs (p + l) (out ++ [x]) := by
  obtain ⟨n, hn, he⟩ := h.e
  have hlen : ((ub zs).drop p).length = 8 * zs.length - p := by rw [List.length_drop, ub_len]
  cases n with
  | zero => omega
  | succ n =>
    rw [dcF_some hf, List.drop_drop] at he
    refine ⟨⟨n, ?_, he⟩, by have := h.l; omega, by rw [List.length_append]; have := h.o; simp; omega⟩
    rw [List.length_drop, ub_len]; omega
theorem DcI.done {zs : List Int} {p : Nat} {out : List Int} (h : DcI zs p out) (hf : fd ((ub zs).drop p) = none) : dcF (ub zs).length (ub zs) [] = dcE ((ub zs).drop p) out := by
  obtain ⟨n, hn, he⟩ := h.e
  rw [← he, dcF_none hf]
/-- What Decode tells. -/
def DAns (w : World) (d : List Int × Int) (e : Ending) (w' : World) : Prop := ∃ x : Sv, e = .returned (.tuple #[.slice x.a x.n x.c, .int .i64 d.2]) ∧ Q w w' ∧ Row w' x d.1 ∧ New w.heap.size x
theorem DAns.bad {w w' : World} {v : Int} {d : List Int × Int} (h : d = ([], v)) (q : Q w w') : DAns w d (.returned (.tuple #[.slice none 0 0, .int .i64 v])) w' := by
  subst h
  exact ⟨nilS, rfl, q, sub_nil _ _ _, new_nil _⟩
theorem dec_step {w wr w' : World} {g : Nat} {C : Array Value} {x y : Sv} (hg : w.heap.size ≤ g) (hq : Q w wr) (hb : Blk wr g 125 C) (hx : New (g + 1) x) (k : Keep (fun b => blk x.a = some b) wr w') (h : ∀ b, blk y.a = some b → blk x.a = some b ∨ wr.heap.size ≤ b) : Q w w' ∧ Blk w' g 125 C ∧ New (g + 1) y := by
  refine ⟨k.below hq hq.size (fun i hi => by have := hx i hi; omega), (k.block g hb.lt (fun e => by have := hx g e; omega)).trans hb, fun b e => ?_⟩
  rcases h b e with h | h
  · exact hx b h
  · have := hb.lt; omega
theorem mtN_le (a : Nat) : (mtN a).2 ≤ 15 ∧ 0 ≤ (mtN a).1 ∧ (mtN a).1 < 256 := by
  have gb : ∀ (m : List Int) (i : Nat), (∀ y ∈ m, 0 ≤ y ∧ y < 256) → 0 ≤ m.getD i 0 ∧ m.getD i 0 < 256 := by
    intro m i hm
    rw [List.getD_eq_getElem?_getD]
    cases h : m[i]? with
    | none => simp
    | some v => exact hm v (List.mem_of_getElem? h)
  have h5 := gb hq5 (a / 1024) mem_bd.1
  have h6 := gb hq6 (a / 512 - 20) mem_bd.2.1
  have h7 := gb hq7 (a / 256 - 92) mem_bd.2.2.1
  have h8 := gb hq8 (a / 128 - 248) mem_bd.2.2.2.1
  have h9 := gb hq15 (a - 32512) mem_bd.2.2.2.2
  rw [mtN_eq]
  generalize hq5.getD (a / 1024) 0 = v5 at *
  generalize hq6.getD (a / 512 - 20) 0 = v6 at *
  generalize hq7.getD (a / 256 - 92) 0 = v7 at *
  generalize hq8.getD (a / 128 - 248) 0 = v8 at *
  generalize hq15.getD (a - 32512) 0 = v9 at *
  split
  · exact ⟨by show 5 ≤ 15; decide, h5⟩
  split
  · exact ⟨by show 6 ≤ 15; decide, h6⟩
  split
  · exact ⟨by show 7 ≤ 15; decide, h7⟩
  split
  · exact ⟨by show 8 ≤ 15; decide, h8⟩
  split
  · exact ⟨by show 15 ≤ 15; decide, h9⟩
  · exact ⟨by decide, by decide, by decide⟩
set_option maxHeartbeats 16000000 in
theorem decode_any (a : Option Addr) (n c : Nat) (zs : List Int) (w : World) (hlen : zs.length = n) (hz : ∀ y ∈ zs, 0 ≤ y ∧ y < 256) (hnn : n ≤ 9223372036854775807) (hseg : Seg w a zs) :
    Calls Try.prog 73 #[.slice a n c] w (DAns w (hD zs)) := by
  by_cases hn : n ≤ 16384
  · have HD := hid (show hD zs = dcF (ub zs).length (ub zs) [] from by unfold hD; rw [if_neg (by omega)])
    have HCL := hid classes_any
    have HWI := hid (fun (W : World) (h : Q w W) (p : Nat) (hp : p ≤ 8 * n) => window_any a n c p zs W hlen hn hp hz (hseg.q h))
    have HMT := hid match_any
    have HEN := hid ending_any
    have HL := hid hlen
    have HI := hid (show (Try.prog.info? 125).map (·.size) = some (clC 20 92 248 32512).size from by kernel_rfl)
    clear hlen hz hseg
    have hni : ¬ (n : Int) > 16384 := by omega
    generalize hDD : hD zs = D at *
    clear hDD
    go_enter Try.func73, Try.ntmps73
    go_wp2_with (go_at_call 83; refine (HCL.out _).mono ?_; rintro e w1 ⟨rfl, q1⟩; have Q1 := hid q1; clear q1)
    generalize hW : World.alloc w1 _ = W0
    have HQ0 := hid (show Q w W0 from by rw [← hW]; exact Q1.out.alloc _)
    have HB0 := hid (show Blk W0 w1.heap.size 125 (clC 20 92 248 32512) from by rw [← hW]; exact blk_new w1 _ 125)
    have HG := hid (show w.heap.size ≤ w1.heap.size from Q1.out.size)
    clear hW Q1 HCL
    generalize w1.heap.size = g at *
    clear w1
    go_loopw [5, 6] (fun tx at_ wr => Q w wr ∧ Blk wr g 125 (clC 20 92 248 32512) ∧ ∃ (p : Nat) (out : List Int) (x : Sv), at_ = .int .i64 p ∧ tx = .slice x.a x.n x.c ∧ DcI zs p out ∧ Row wr x out ∧ New (g + 1) x) (fun _ i _ => (8 * (n : Int) - intOf i).toNat)
    case atStart => exact ⟨HQ0.out, HB0.out, 0, [], nilS, rfl, rfl, DcI.start zs, sub_nil _ _ _, new_nil _⟩
    case round =>
      clear HQ0 HB0
      obtain ⟨hq, hb, p, out, ⟨xa, xn, xc⟩, rfl, rfl, hI, hr, hnew⟩ := hrel
      have HQ := hid hq
      have HB := hid hb
      have HDI := hid hI
      have HR := hid hr
      have HN := hid hnew
      clear hq hb hI hr hnew
      have hp : p ≤ 8 * n := by have := HDI.out.l; rw [HL.out] at this; exact this
      obtain ⟨lf, hlf⟩ : ∃ lf : Nat, 8 * n - p = lf := ⟨_, rfl⟩
      have hlfi : (8 : Int) * (n : Int) - (p : Int) = (lf : Int) := by omega
      have hbits := (ub_bits zs).drop p
      have hbl : ((ub zs).drop p).length = lf := by rw [List.length_drop, ub_len, HL.out]; exact hlf
      have hwb := wd_bd hbits
      obtain ⟨av, hav⟩ := Int.eq_ofNat_of_zero_le hwb.1
      have hab : av < 32768 := by omega
      have hfm := fd_mt hbits hav
      have hde := dcE_end (out := out) hbits hav
      rw [hbl] at hfm hde
      have hml := mtN_le av
      have HAV := hid hav
      clear hwb hav hlf
      obtain ⟨⟨x, l⟩, hx⟩ : ∃ m, mtN av = m := ⟨_, rfl⟩
      have HMX := hid hx
      rw [hx] at hfm hml
      clear hx
      simp only at hfm hml
      by_cases hl0 : l = 0
      · subst hl0
        have HDE := hid ((HD.out.trans (HDI.out.done (hfm.1 (.inl rfl)))).trans hde)
        obtain ⟨ev, hev0⟩ : ∃ ev, endN lf av = ev := ⟨_, rfl⟩
        have HEV := hid hev0
        rw [hev0] at HDE
        clear hfm hde hml hev0 hbl hbits HDI
        by_cases hev : ev = 0
        · subst hev
          rw [if_pos rfl] at HDE
          go_wp2_with (first
            | (go_at_call 84; refine (HWI.out _ HQ.out p hp).mono ?_; rintro e w2 ⟨rfl, q2⟩; rw [HAV.out]; have Q2 := hid (HQ.out.trans q2); have B2 := hid (HB.out.q q2); have R2 := hid (Sub.q HR.out q2); clear q2)
            | (refine wpList_load_row rfl 125 _ rfl g rfl 125 _ (0, 0) _ B2.out Try.underlying125 rfl HI.out ?_)
            | (go_at_call 85; refine (HMT.out av _ hab).mono ?_; rintro e w3 ⟨rfl, q3⟩; rw [HMX.out]; have Q3 := hid (Q2.out.trans q3); have R3 := hid (Sub.q R2.out q3); clear q3)
            | (go_at_call 86; refine (HEN.out lf av _).mono ?_; rintro e w4 ⟨rfl, q4⟩; rw [HEV.out]; have Q4 := hid (Q3.out.trans q4); have R4 := hid (Sub.q R3.out q4); clear q4))
          go_ret2
          exact ⟨⟨xa, xn, xc⟩, by rw [HDE.out]; rfl, Q4.out, by rw [HDE.out]; exact R4.out, (HN.out).mono (by have := HG.out; omega)⟩
        · have hne : (ev != 0) = true := by simpa using hev
          rw [if_neg hev] at HDE
          clear hev
          go_wp2_with (first
            | (go_at_call 84; refine (HWI.out _ HQ.out p hp).mono ?_; rintro e w2 ⟨rfl, q2⟩; rw [HAV.out]; have Q2 := hid (HQ.out.trans q2); have B2 := hid (HB.out.q q2); have R2 := hid (Sub.q HR.out q2); clear q2)
            | (refine wpList_load_row rfl 125 _ rfl g rfl 125 _ (0, 0) _ B2.out Try.underlying125 rfl HI.out ?_)
            | (go_at_call 85; refine (HMT.out av _ hab).mono ?_; rintro e w3 ⟨rfl, q3⟩; rw [HMX.out]; have Q3 := hid (Q2.out.trans q3); have R3 := hid (Sub.q R2.out q3); clear q3)
            | (go_at_call 86; refine (HEN.out lf av _).mono ?_; rintro e w4 ⟨rfl, q4⟩; rw [HEV.out]; have Q4 := hid (Q3.out.trans q4); have R4 := hid (Sub.q R3.out q4); clear q4))
          go_ret2
          exact DAns.bad HDE.out Q4.out
      · have hl0i : ((l : Int) == 0) = false := beq_eq_false_iff_ne.2 (by omega)
        by_cases hgt : lf < l
        · have hgti : (l : Int) > (lf : Int) := by omega
          have HDE := hid ((HD.out.trans (HDI.out.done (hfm.1 (.inr hgt)))).trans hde)
          obtain ⟨ev, hev0⟩ : ∃ ev, endN lf av = ev := ⟨_, rfl⟩
          have HEV := hid hev0
          rw [hev0] at HDE
          clear hfm hde hml hev0 hbl hbits HDI hl0
          by_cases hev : ev = 0
          · subst hev
            rw [if_pos rfl] at HDE
            go_wp2_with (first
              | (go_at_call 84; refine (HWI.out _ HQ.out p hp).mono ?_; rintro e w2 ⟨rfl, q2⟩; rw [HAV.out]; have Q2 := hid (HQ.out.trans q2); have B2 := hid (HB.out.q q2); have R2 := hid (Sub.q HR.out q2); clear q2)
              | (refine wpList_load_row rfl 125 _ rfl g rfl 125 _ (0, 0) _ B2.out Try.underlying125 rfl HI.out ?_)
              | (go_at_call 85; refine (HMT.out av _ hab).mono ?_; rintro e w3 ⟨rfl, q3⟩; rw [HMX.out]; have Q3 := hid (Q2.out.trans q3); have R3 := hid (Sub.q R2.out q3); clear q3)
              | (go_at_call 86; refine (HEN.out lf av _).mono ?_; rintro e w4 ⟨rfl, q4⟩; rw [HEV.out]; have Q4 := hid (Q3.out.trans q4); have R4 := hid (Sub.q R3.out q4); clear q4))
            go_ret2
            exact ⟨⟨xa, xn, xc⟩, by rw [HDE.out]; rfl, Q4.out, by rw [HDE.out]; exact R4.out, (HN.out).mono (by have := HG.out; omega)⟩
          · have hne : (ev != 0) = true := by simpa using hev
            rw [if_neg hev] at HDE
            clear hev
            go_wp2_with (first
              | (go_at_call 84; refine (HWI.out _ HQ.out p hp).mono ?_; rintro e w2 ⟨rfl, q2⟩; rw [HAV.out]; have Q2 := hid (HQ.out.trans q2); have B2 := hid (HB.out.q q2); have R2 := hid (Sub.q HR.out q2); clear q2)
              | (refine wpList_load_row rfl 125 _ rfl g rfl 125 _ (0, 0) _ B2.out Try.underlying125 rfl HI.out ?_)
              | (go_at_call 85; refine (HMT.out av _ hab).mono ?_; rintro e w3 ⟨rfl, q3⟩; rw [HMX.out]; have Q3 := hid (Q2.out.trans q3); have R3 := hid (Sub.q R2.out q3); clear q3)
              | (go_at_call 86; refine (HEN.out lf av _).mono ?_; rintro e w4 ⟨rfl, q4⟩; rw [HEV.out]; have Q4 := hid (Q3.out.trans q4); have R4 := hid (Sub.q R3.out q4); clear q4))
            go_ret2
            exact DAns.bad HDE.out Q4.out
        · have hgti : decide ((l : Int) > (lf : Int)) = false := decide_eq_false (by omega)
          have HNX := hid (HDI.out.next (hfm.2 (by omega) (by omega)) (by rw [hbl]; omega) (by omega))
          have hol := HDI.out.o
          have HXN := hid (show xn ≤ 1099511627776 from by have hrl : out.length = xn := Row.len HR.out; omega)
          have hlp := hml.1
          have hle := HNX.out.l
          rw [HL.out] at hle
          clear hfm hde hml hbl hbits HDI hol
          go_wp2_with (first
            | (go_at_call 84; refine (HWI.out _ HQ.out p hp).mono ?_; rintro e w2 ⟨rfl, q2⟩; rw [HAV.out]; have Q2 := hid (HQ.out.trans q2); have B2 := hid (HB.out.q q2); have R2 := hid (Sub.q HR.out q2); clear q2)
            | (refine wpList_load_row rfl 125 _ rfl g rfl 125 _ (0, 0) _ B2.out Try.underlying125 rfl HI.out ?_)
            | (go_at_call 85; refine (HMT.out av _ hab).mono ?_; rintro e w3 ⟨rfl, q3⟩; rw [HMX.out]; have Q3 := hid (Q2.out.trans q3); have B3 := hid (B2.out.q q3); obtain ⟨⟨ya, yn, yc⟩, w5, hrun, hrow, hkp, hbb⟩ := row_one x (show Row w3 ⟨xa, xn, xc⟩ out from Sub.q R2.out q3) (show xn ≤ 1099511627776 from HXN.out); have X5 := hid (dec_step HG.out Q3.out B3.out HN.out hkp hbb); have R5 := hid hrow; clear q3 hkp hbb hrow)
            | (at_builtin; refine Lib.wpList_append_run _ rfl _ _ _ _ rfl _ _ rfl rfl _ _ hrun ?_))
          go_roundw
          case rel => exact ⟨X5.out.1, X5.out.2.1, p + l, _, ⟨ya, yn, yc⟩, by go_num, rfl, HNX.out, R5.out, X5.out.2.2⟩
          case measure => simp [intOf]; omega
  · have HD := hid (show hD zs = ([], 52) from by unfold hD; rw [if_pos (by omega)])
    have hni : (n : Int) > 16384 := by omega
    clear hlen hz hseg
    generalize hD zs = D at *
    go_enter Try.func73, Try.ntmps73
    go_wp2_with fail
    go_ret2
    exact DAns.bad HD.out (Q.refl _)
end Go.Proofs.Ytehejibllkmflaa
