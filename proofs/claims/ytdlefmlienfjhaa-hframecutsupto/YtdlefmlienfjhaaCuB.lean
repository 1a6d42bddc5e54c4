/-
  The law on cuts, walked for readers of kind 2.
-/
import Derived.Test.YtdlefmlienfjhaaSmQ
import Derived.Deep.Cut
import Derived.Deep.CutRange
namespace Go.Proofs.Ytdlefmlienfjhaa
open Go.RowKit
set_option linter.unusedVariables false
set_option maxRecDepth 100000

set_option maxHeartbeats 32000000 in
theorem cuts_k2 (ba : Option Addr) (bn bc : Nat) (bs : List Int) (ca : Option Addr) (cn cc : Nat) (cs : List Int) (w : World) (hl : bs.length = bn) (hn : bn ≤ 1000000000000) (hz : ∀ y ∈ bs, 0 ≤ y ∧ y < 256) (hs : Seg w ba bs) (hcl : cs.length = cn) (hcn : cn ≤ 140737488355328) (hcs : SegN w ca cs) :
    Calls Try.prog 5 #[.int .i64 2, .slice ba bn bc, .slice ca cn cc] w fun e w' => e = .returned (.bool true) ∧ Q w w' := by
  have HB := hid (And.intro hl (And.intro hn (And.intro hz hs)))
  have HK := hid (And.intro hcl (And.intro hcn hcs))
  clear hl hn hz hs hcl hcn hcs
  have HC1 := hid (all_any 2 ba bn bc bs none 0 0 [] w (by omega) HB.out.1 HB.out.2.1 HB.out.2.2.1 HB.out.2.2.2 rfl (by omega) (fun h => absurd rfl h))
  go_enter Try.func5, Try.ntmps5
  go_wp2_with (first
    | (go_at_call 27; first
        | (refine HC1.out.mono ?_; rintro e w1 ⟨x, y, L, rfl, q1, hx, hd, hm, hy⟩; have X1 := hid (And.intro q1 (And.intro hx (And.intro hd (And.intro hm hy)))); clear q1 hx hd hm hy HC1)
        | (refine (all_any 2 ba bn bc bs ca cn cc cs _ (by omega) HB.out.1 HB.out.2.1 HB.out.2.2.1 (HB.out.2.2.2.q X1.out.1) HK.out.1 HK.out.2.1 (HK.out.2.2.q X1.out.1)).mono ?_; rintro e w2 ⟨x2, y2, L2, rfl, q2, hx2, hd2, hm2, hy2⟩; have X2 := hid (And.intro q2 (And.intro hx2 (And.intro hd2 (And.intro hm2 hy2)))); clear q2 hx2 hd2 hm2 hy2; refine Hid.out ?_)))
  refine hid ?_
  have hln : x.n = x2.n := by
    have h1 := RowE.len X1.out.2.1
    have h2 := RowE.len X2.out.2.1
    have h3 := congrArg List.length X1.out.2.2.2.1
    have h4 := congrArg List.length X2.out.2.2.2.1
    rw [List.length_map] at h3 h4
    omega
  have hyn : y.n = y2.n := by have h1 := Row.len X1.out.2.2.2.2; have h2 := Row.len X2.out.2.2.2.2; omega
  have HXN := hid (show x.n ≤ 2000000000000 from by have h1 := RowE.len X1.out.2.1; have h3 := congrArg List.length X1.out.2.2.2.1; rw [List.length_map] at h3; have h5 := allW_len (st := 2) (by omega) HB.out.2.2.1; have h6 := HB.out.1; have h7 := HB.out.2.1; omega)
  obtain ⟨ya, yn, yc⟩ := y
  obtain ⟨y2a, y2n, y2c⟩ := y2
  dsimp only at hyn
  subst hyn
  have HSM := hid (same_dr ya y2a yn yc y2c (allW 2 bs).1.2 w2 (Row.len X1.out.2.2.2.2) (by have h4 := Row.len X1.out.2.2.2.2; have h5 := allW_len (st := 2) (by omega) HB.out.2.2.1; have h6 := HB.out.1; have h7 := HB.out.2.1; dsimp only at h4; omega) ((Row.seg X1.out.2.2.2.2).q X2.out.1) (Row.seg X2.out.2.2.2.2))
  obtain ⟨xa, xn, xc⟩ := x
  obtain ⟨x2a, x2n, x2c⟩ := x2
  dsimp only at hln
  subst hln
  have hne : ((xn : Int) != (xn : Int)) = false := by simp
  generalize (allZ 2 bs).fault = zf
  generalize (allZ 2 bs).done = zd
  have hnf : (zf != zf) = false := by simp
  have hnd : (zd != zd) = false := by simp
  go_wp2_with (go_at_call 26; refine HSM.out.mono ?_; rintro e w3 ⟨rfl, m3, hm3⟩; have X3 := hid (show Q w2 w3 from by rw [hm3]; exact (Q.refl _).drewN m3); clear hm3 m3)
  go_loopw [63] (fun iv wr => ∃ i : Nat, i ≤ xn ∧ iv = .int .i64 i ∧ Q w2 wr) (fun iv _ => xn - (intOf iv).toNat)
  case atStart => exact ⟨0, Nat.zero_le _, rfl, X3.out⟩
  case round =>
    as_aux_lemma =>
      obtain ⟨i, hi, rfl, hq⟩ := hrel
      have HQ := hid hq
      have HI := hid hi
      clear hq hi
      by_cases hlt : i < xn
      · obtain ⟨g1, o1, p1, ea1, hp1, c10, c11, c12, c13, c14, c15⟩ := ev_cells (X1.out.2.1.q (X2.out.1.trans HQ.out)) hlt
        obtain ⟨g2, o2, p2, ea2, hp2, c20, c21, c22, c23, c24, c25⟩ := ev_cells (X2.out.2.1.q HQ.out) hlt
        obtain ⟨ev, ⟨da, dn, dc⟩⟩ := p1
        obtain ⟨ev2, ⟨d2a, d2n, d2c⟩⟩ := p2
        have hev : ev = ev2 := by
          have h1 : (L.map (·.1))[i]? = some ev := by rw [List.getElem?_map, hp1]; rfl
          have h2 : (L2.map (·.1))[i]? = some ev2 := by rw [List.getElem?_map, hp2]; rfl
          rw [X1.out.2.2.2.1, ← X2.out.2.2.2.1, h2] at h1
          exact (Option.some.inj h1).symm
        subst hev
        have D1 := X1.out.2.2.1 _ (List.mem_of_getElem? hp1)
        have D2 := X2.out.2.2.1 _ (List.mem_of_getElem? hp2)
        have hdn : dn = d2n := by have h1 := D1.2; have h2 := D2.2; dsimp only at h1 h2; omega
        subst hdn
        have HSD := hid (fun (n : Nat) => same_dr da d2a dn dc d2c ev.d (wr.drewN n) D1.2 (by have h1 := run_data_all (st := 2) (by omega) HB.out.2.2.1 ev (by rw [← X1.out.2.2.2.1]; exact List.mem_map.2 ⟨_, List.mem_of_getElem? hp1, rfl⟩); have h2 := D1.2; have h6 := HB.out.1; have h7 := HB.out.2.1; dsimp only at h2; omega) (D1.1.q (X2.out.1.trans (HQ.out.drewN n))) (D2.1.q (HQ.out.drewN n)))
        dsimp only at ea1 ea2
        subst ea1
        subst ea2
        have hl1 : ∀ n, (loadVar 39 ⟨g1, o1 + i * 6 + 2, none⟩).run Try.prog (wr.drewN n) = .ok (.agg #[.int .i64 ev.s0, .int .i64 ev.s1, .int .i64 ev.s2]) (wr.drewN n) := fun n => ld39 g1 _ _ _ _ (wr.drewN n) c12 c13 c14
        have hl2 : ∀ n, (loadVar 39 ⟨g2, o2 + i * 6 + 2, none⟩).run Try.prog (wr.drewN n) = .ok (.agg #[.int .i64 ev.s0, .int .i64 ev.s1, .int .i64 ev.s2]) (wr.drewN n) := fun n => ld39 g2 _ _ _ _ (wr.drewN n) c22 c23 c24
        have hn39 := ne39 ev.s0 ev.s1 ev.s2
        have hnk : (ev.k != ev.k) = false := by simp
        have hni : (ev.i != ev.i) = false := by simp
        have hlt' : (i : Int) < (xn : Int) := by omega
        have HLT := hid hlt
        clear hp1 hp2 D1 D2 hlt
        go_upto_region 10 with fail
        go_cut [116] from 65 to 117 (fun tv wc => tv = .bool false ∧ ∃ n, wc = wr.drewN n)
        case first =>
          as_aux_lemma =>
            go_quiet ((go_at_call 26; exact Calls.quiet_of (HSD.out _)))
            go_wp2
            go_meet
            case rel => exact ⟨rfl, _, rfl⟩
        case rest =>
          obtain ⟨rfl, m9, hm9⟩ := hcut
          have HM9 := hid hm9
          clear hm9
          clear hl1 hl2 hn39
          clear c10 c11 c12 c13 c14 c15 c20 c21 c22 c23 c24 c25
          have hxn := HXN.out
          have hlt9 := HLT.out
          have e9 : wrap64 ((i : Int) + 1) = ((i + 1 : Nat) : Int) := by { unfold wrap64; omega }
          go_wp2
          go_roundw
          case rel => exact ⟨i + 1, by have := HI.out; omega, by (first | exact congrArg (Value.int .i64) e9 | go_num), by rw [HM9.out]; exact HQ.out.drewN _⟩
          case measure =>
            simp only [intOf]
            omega
      · have hlt' : ¬ (i : Int) < (xn : Int) := by omega
        go_wp2_with (go_at_call 10; refine (awake_any _).mono ?_; rintro e w9 ⟨rfl, q9⟩; have X9 := hid q9; clear q9)
        go_ret
        exact ⟨rfl, X1.out.1.trans (X2.out.1.trans (HQ.out.trans X9.out))⟩
end Go.Proofs.Ytdlefmlienfjhaa
