/-
  What route's Make, Read and Reset do: contracts that the statements' walks use.
-/
import Derived.Test.YtnnjogfpapndaaaIdM
namespace Go.Proofs.Ytnnjogfpapndaaa
open Go.RowKit
set_option linter.unusedVariables false
set_option maxRecDepth 20000

/-- What Make answers: its error, its bytes. -/
def mkE (kn : Nat) (w s : Int) : Int := if kn = 16 then (if wiB w 255 = true ∧ wiB s 72057594037927935 = true then 0 else 10) else 70
def mkL (ks : List Int) (w s : Int) : List Int := if ks.length = 16 ∧ wiB w 255 = true ∧ wiB s 72057594037927935 = true then xr (idL w s) (veL ks) else []
theorem wiB_iff {n m : Int} : wiB n m = true ↔ 0 ≤ n ∧ n ≤ m := by simp [wiB]
theorem xr_id_by (ks : List Int) {w s : Int} (h0 : 0 ≤ w) (h1 : w < 256) : By (xr (idL w s) (veL ks)) := xr_by (idL_by h0 h1) (veL_by ks)
set_option maxHeartbeats 4000000 in
theorem make_any (k : Sv) (ks : List Int) (wo se : Int) (w : World) (hk : In w k ks) :
    Calls Try.prog 8 #[.slice k.a k.n k.c, .int .i64 wo, .int .i64 se] w fun e w' => ∃ x : Sv, e = .returned (.tuple #[.slice x.a x.n x.c, .int .i64 (mkE k.n wo se)]) ∧ Q w w' ∧ Row w' x (mkL ks wo se) ∧ New w.heap.size x := by
  obtain ⟨ka, kn, kc⟩ := k
  have HK := hid hk
  have HL := hid (show ks.length = kn from hk.l)
  clear hk
  dsimp only at *
  by_cases h16 : kn = 16
  rotate_left
  · rw [show mkE kn wo se = 70 from by unfold mkE; rw [if_neg h16], show mkL ks wo se = [] from by unfold mkL; rw [if_neg (by rw [HL.out]; exact fun h => h16 h.1)]]
    have hn : ((kn : Int) != 16) = true := by simp; omega
    clear h16
    go_enter Try.func8, Try.ntmps8
    go_wp2
    go_ret2
    exact ⟨nilS, rfl, Q.refl _, sub_nil _ _ _, new_nil _⟩
  subst h16
  by_cases hw : wiB wo 255 = true
  rotate_left
  · rw [show mkE 16 wo se = 10 from by unfold mkE; rw [if_pos rfl, if_neg (fun h => hw h.1)], show mkL ks wo se = [] from by unfold mkL; rw [if_neg (fun h => hw h.2.1)]]
    have hw' : wiB wo 255 = false := by simpa using hw
    clear hw
    go_enter Try.func8, Try.ntmps8
    go_wp2_with (go_at_call 25; refine (within_any _ _ _).mono ?_; rintro e w' ⟨rfl, rfl⟩)
    go_ret2
    exact ⟨nilS, rfl, Q.refl _, sub_nil _ _ _, new_nil _⟩
  by_cases hs : wiB se 72057594037927935 = true
  rotate_left
  · rw [show mkE 16 wo se = 10 from by unfold mkE; rw [if_pos rfl, if_neg (fun h => hs h.2)], show mkL ks wo se = [] from by unfold mkL; rw [if_neg (fun h => hs h.2.2)]]
    have hs' : wiB se 72057594037927935 = false := by simpa using hs
    clear hs
    go_enter Try.func8, Try.ntmps8
    go_wp2_with (go_at_call 25; refine (within_any _ _ _).mono ?_; rintro e w' ⟨rfl, rfl⟩)
    go_ret2
    exact ⟨nilS, rfl, Q.refl _, sub_nil _ _ _, new_nil _⟩
  rw [show mkE 16 wo se = 0 from by unfold mkE; rw [if_pos rfl, if_pos ⟨hw, hs⟩], show mkL ks wo se = xr (idL wo se) (veL ks) from by unfold mkL; rw [if_pos ⟨HL.out, hw, hs⟩]]
  obtain ⟨w0, w1⟩ := wiB_iff.1 hw
  obtain ⟨s0, s1⟩ := wiB_iff.1 hs
  have HM := hid (make_num ks w0 (by omega) s0 (by omega))
  have hw64 : wo < 18446744073709551616 := by omega
  have hs64 : se < 18446744073709551616 := by omega
  go_enter Try.func8, Try.ntmps8
  go_wp2_with (go_at_call 25; refine (within_any _ _ _).mono ?_; rintro e w' ⟨rfl, rfl⟩)
  refine (veil_any ⟨ka, 16, kc⟩ ks w' HK.out rfl).mono ?_
  rintro e w2 ⟨rfl, q2⟩
  have Q2 := hid q2
  clear q2
  generalize hN : bits .xor .u64 (bits .xor .u64 (wo * 72057594037927936) se) (veN ks) = N at *
  have hN' := hN
  go_wp2_with fail
  refine (laid_any 8 (.inr rfl) N HM.out.1.1 HM.out.1.2 w2).mono ?_
  rintro e w3 ⟨⟨xa, xn, xc⟩, rfl, q3, r3, n3⟩
  have HX := hid (show Q w' w3 ∧ Row w3 ⟨xa, xn, xc⟩ (xr (idL wo se) (veL ks)) ∧ New w'.heap.size ⟨xa, xn, xc⟩ from ⟨Q2.out.trans q3, by rw [← HM.out.2]; exact r3, fun b hb => Nat.le_trans Q2.out.size (n3 b hb)⟩)
  clear q3 r3 n3
  go_wp2
  go_ret2
  exact ⟨⟨xa, xn, xc⟩, rfl, HX.out⟩
/-- What Read answers. -/
def rdE (kn n : Nat) : Int := if kn = 16 then (if n = 8 then 0 else 61) else 70
def rdWo (zs ks : List Int) : Int := if ks.length = 16 ∧ zs.length = 8 then rdW zs ks else 0
def rdSe (zs ks : List Int) : Int := if ks.length = 16 ∧ zs.length = 8 then rdS zs ks else 0
theorem and_low (N : Int) (h0 : 0 ≤ N) (h1 : N < 18446744073709551616) : bits .and .u64 N 72057594037927935 = N % 72057594037927936 := by
  obtain ⟨n, rfl⟩ := Int.eq_ofNat_of_zero_le h0
  have h := u64_and_nat n 72057594037927935 (by omega) (by omega)
  rw [show (72057594037927935 : Nat) = 2 ^ 56 - 1 from rfl, Nat.and_two_pow_sub_one_eq_mod] at h
  simpa using h
theorem wrap64_ok {x : Int} (h0 : 0 ≤ x) (h1 : x < 9223372036854775808) : wrap64 x = x  := by unfold wrap64; omega
set_option maxHeartbeats 4000000 in
theorem read_any (k d : Sv) (ks zs : List Int) (w : World) (hk : In w k ks) (hd : In w d zs) :
    Calls Try.prog 11 #[.slice k.a k.n k.c, .slice d.a d.n d.c] w fun e w' => e = .returned (.tuple #[.int .i64 (rdWo zs ks), .int .i64 (rdSe zs ks), .int .i64 (rdE k.n d.n)]) ∧ Q w w' := by
  obtain ⟨ka, kn, kc⟩ := k
  obtain ⟨da, dn, dc⟩ := d
  have HK := hid hk
  have HD := hid hd
  have HL := hid (show ks.length = kn from hk.l)
  have HM := hid (show zs.length = dn from hd.l)
  clear hk hd
  dsimp only at *
  by_cases h16 : kn = 16
  rotate_left
  · rw [show rdE kn dn = 70 from by unfold rdE; rw [if_neg h16], show rdWo zs ks = 0 from by unfold rdWo; rw [if_neg (by rw [HL.out]; exact fun h => h16 h.1)], show rdSe zs ks = 0 from by unfold rdSe; rw [if_neg (by rw [HL.out]; exact fun h => h16 h.1)]]
    have hn : ((kn : Int) != 16) = true := by simp; omega
    clear h16
    go_enter Try.func11, Try.ntmps11
    go_wp2
    go_ret3
    exact ⟨rfl, Q.refl _⟩
  subst h16
  by_cases h8 : dn = 8
  rotate_left
  · rw [show rdE 16 dn = 61 from by unfold rdE; rw [if_pos rfl, if_neg h8], show rdWo zs ks = 0 from by unfold rdWo; rw [if_neg (by rw [HM.out]; exact fun h => h8 h.2)], show rdSe zs ks = 0 from by unfold rdSe; rw [if_neg (by rw [HM.out]; exact fun h => h8 h.2)]]
    have hn : ((dn : Int) != 8) = true := by simp; omega
    clear h8
    go_enter Try.func11, Try.ntmps11
    go_wp2
    go_ret3
    exact ⟨rfl, Q.refl _⟩
  subst h8
  rw [show rdE 16 8 = 0 from rfl, show rdWo zs ks = rdW zs ks from by unfold rdWo; rw [if_pos ⟨HL.out, HM.out⟩], show rdSe zs ks = rdS zs ks from by unfold rdSe; rw [if_pos ⟨HL.out, HM.out⟩]]
  have HR := hid (read_num (ks := ks) HD.out.z HM.out)
  go_enter Try.func11, Try.ntmps11
  go_wp2_with fail
  refine (numberOf_any ⟨da, 8, dc⟩ zs w HD.out (by show 8 ≤ 8; omega)).mono ?_
  rintro e w1 ⟨rfl, rfl⟩
  go_wp2_with fail
  refine (veil_any ⟨ka, 16, kc⟩ ks w1 HK.out rfl).mono ?_
  rintro e w2 ⟨rfl, q2⟩
  have Q2 := hid q2
  clear q2
  go_wp2
  go_ret3
  refine ⟨?_, Q2.out⟩
  have hand := and_low _ HR.out.1.1 HR.out.1.2
  rw [HR.out.2.2.1] at hand
  have hdiv := HR.out.2.1
  have hb := HR.out.2.2.2
  show Ending.returned (.tuple #[.int .i64 (wrap64 (bits .xor .u64 (val 0 zs) (veN ks) / 72057594037927936)), .int .i64 (wrap64 (bits .and .u64 (bits .xor .u64 (val 0 zs) (veN ks)) 72057594037927935)), .int .i64 0]) = _
  rw [hand, hdiv, wrap64_ok (by omega) (by omega), wrap64_ok (by omega) (by omega)]
/-- What Reset answers. -/
def rsE (kn n : Nat) : Int := if kn = 16 then (if n ≤ 20 then 0 else 61) else 70
def rsetL : List Int := [114, 101, 115, 101, 116]
theorem rsetL_by : By rsetL := by intro y hy; simp [rsetL] at hy; omega
def rsL (ks zs : List Int) : List Int := if ks.length = 16 ∧ zs.length ≤ 20 then dg (rsetL ++ ks ++ zs) else []
theorem in_nil (w : World) : In w nilS [] := ⟨seg_nil _ _, rfl, by_nil⟩
set_option maxHeartbeats 4000000 in
theorem reset_any (k d : Sv) (ks zs : List Int) (w : World) (hk : In w k ks) (hd : In w d zs) :
    Calls Try.prog 13 #[.slice k.a k.n k.c, .slice d.a d.n d.c] w fun e w' => ∃ x : Sv, e = .returned (.tuple #[.slice x.a x.n x.c, .int .i64 (rsE k.n d.n)]) ∧ Q w w' ∧ In w' x (rsL ks zs) := by
  obtain ⟨ka, kn, kc⟩ := k
  obtain ⟨da, dn, dc⟩ := d
  have HK := hid hk
  have HD := hid hd
  have HL := hid (show ks.length = kn from hk.l)
  have HM := hid (show zs.length = dn from hd.l)
  clear hk hd
  dsimp only at *
  by_cases h16 : kn = 16
  rotate_left
  · rw [show rsE kn dn = 70 from by unfold rsE; rw [if_neg h16], show rsL ks zs = [] from by unfold rsL; rw [if_neg (by rw [HL.out]; exact fun h => h16 h.1)]]
    have hn : ((kn : Int) != 16) = true := by simp; omega
    clear h16
    go_enter Try.func13, Try.ntmps13
    go_wp2
    go_ret2
    exact ⟨nilS, rfl, Q.refl _, in_nil _⟩
  subst h16
  by_cases h8 : dn ≤ 20
  rotate_left
  · rw [show rsE 16 dn = 61 from by unfold rsE; rw [if_pos rfl, if_neg h8], show rsL ks zs = [] from by unfold rsL; rw [if_neg (by rw [HM.out]; exact fun h => h8 h.2)]]
    have hn : decide ((20 : Int) < (dn : Int)) = true := by simp; omega
    clear h8
    go_enter Try.func13, Try.ntmps13
    go_wp2
    go_ret2
    exact ⟨nilS, rfl, Q.refl _, in_nil _⟩
  rw [show rsE 16 dn = 0 from by unfold rsE; rw [if_pos rfl, if_pos h8], show rsL ks zs = dg (rsetL ++ ks ++ zs) from by unfold rsL; rw [if_pos ⟨HL.out, by rw [HM.out]; exact h8⟩]]
  have hn : decide ((20 : Int) < (dn : Int)) = false := by simp; omega
  have kcv := Lib.run_convert_bytes_const (P := Try.prog) w 22 5 (u8s rsetL).toArray 5 5 Try.underlying22 Try.underlying5
  rw [show (u8s rsetL).toArray = #[.int .u8 114, .int .u8 101, .int .u8 115, .int .u8 101, .int .u8 116] from rfl] at kcv
  go_enter Try.func13, Try.ntmps13
  go_wp2_with fail
  refine (dlit3 rsetL (5, 6) ⟨ka, 16, kc⟩ ⟨da, dn, dc⟩ ks zs w rsetL_by HK.out HD.out (by show 5 + 16 + dn ≤ _; omega)).mono ?_
  rintro e w1 ⟨g, rfl, q1, i1, l1⟩
  have HX := hid (And.intro q1 i1)
  clear q1 i1 l1
  go_wp2
  go_ret2
  exact ⟨⟨some ⟨g, 0, none⟩, 16, 16⟩, rfl, HX.out⟩
set_option maxHeartbeats 4000000 in
theorem rreset_any (k d : Sv) (ks zs : List Int) (w : World) (hk : In w k ks) (hd : In w d zs) :
    Calls Try.prog 14 #[.slice k.a k.n k.c, .slice d.a d.n d.c] w fun e w' => ∃ x : Sv, e = .returned (.tuple #[.slice x.a x.n x.c, .int .i64 (rsE k.n d.n)]) ∧ Q w w' ∧ In w' x (rsL ks zs) := by
  obtain ⟨ka, kn, kc⟩ := k
  obtain ⟨da, dn, dc⟩ := d
  have HK := hid hk
  have HD := hid hd
  have HL := hid (show ks.length = kn from hk.l)
  have HM := hid (show zs.length = dn from hd.l)
  clear hk hd
  dsimp only at *
  by_cases h16 : kn = 16
  rotate_left
  · rw [show rsE kn dn = 70 from by unfold rsE; rw [if_neg h16], show rsL ks zs = [] from by unfold rsL; rw [if_neg (by rw [HL.out]; exact fun h => h16 h.1)]]
    have hn : ((kn : Int) != 16) = true := by simp; omega
    clear h16
    go_enter Try.func14, Try.ntmps14
    go_wp2
    go_ret2
    exact ⟨nilS, rfl, Q.refl _, in_nil _⟩
  subst h16
  by_cases h8 : dn ≤ 20
  rotate_left
  · rw [show rsE 16 dn = 61 from by unfold rsE; rw [if_pos rfl, if_neg h8], show rsL ks zs = [] from by unfold rsL; rw [if_neg (by rw [HM.out]; exact fun h => h8 h.2)]]
    have hn : decide ((20 : Int) < (dn : Int)) = true := by simp; omega
    clear h8
    go_enter Try.func14, Try.ntmps14
    go_wp2
    go_ret2
    exact ⟨nilS, rfl, Q.refl _, in_nil _⟩
  rw [show rsE 16 dn = 0 from by unfold rsE; rw [if_pos rfl, if_pos h8], show rsL ks zs = dg (rsetL ++ ks ++ zs) from by unfold rsL; rw [if_pos ⟨HL.out, by rw [HM.out]; exact h8⟩]]
  have hn : decide ((20 : Int) < (dn : Int)) = false := by simp; omega
  have kcv := Lib.run_convert_bytes_const (P := Try.prog) w 22 5 (u8s rsetL).toArray 5 5 Try.underlying22 Try.underlying5
  rw [show (u8s rsetL).toArray = #[.int .u8 114, .int .u8 101, .int .u8 115, .int .u8 101, .int .u8 116] from rfl] at kcv
  go_enter Try.func14, Try.ntmps14
  go_wp2_with fail
  refine (rdlit3 rsetL (5, 6) ⟨ka, 16, kc⟩ ⟨da, dn, dc⟩ ks zs w rsetL_by HK.out HD.out (by show 5 + 16 + dn ≤ _; omega)).mono ?_
  rintro e w1 ⟨g, rfl, q1, i1, l1⟩
  have HX := hid (And.intro q1 i1)
  clear q1 i1 l1
  go_wp2
  go_ret2
  exact ⟨⟨some ⟨g, 0, none⟩, 16, 16⟩, rfl, HX.out⟩
end Go.Proofs.Ytnnjogfpapndaaa
