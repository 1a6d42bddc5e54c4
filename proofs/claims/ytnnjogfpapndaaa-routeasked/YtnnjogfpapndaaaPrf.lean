/-
  What route's opened, after and Proof do with a token that was made for this address: contracts that the statements' walks use.
-/
import Derived.Test.YtnnjogfpapndaaaTok
import Derived.Test.YtnnjogfpapndaaaRMd
import Derived.Laws.BytesArg
import Derived.Deep.RegionHeld3
namespace Go.Proofs.Ytnnjogfpapndaaa
open Go.RowKit
set_option linter.unusedVariables false
set_option maxRecDepth 20000

theorem Row.cap {w : World} {x : Sv} {zs : List Int} (h : Row w x zs) : x.n ≤ x.c := by
  rcases h.2 with ⟨_, h1, h2⟩ | ⟨g, off, cur, _, _, h1, _⟩ <;> omega
/-- A row without its first bytes. -/
theorem In.from_ {w : World} {g o n c k : Nat} {zs : List Int} (h : In w ⟨some ⟨g, o, none⟩, n, c⟩ zs) (hk : k ≤ n) (hc : n ≤ c) : ∃ a', (∀ u, (Instr.slice 22 (.slice (some ⟨g, o, none⟩) n c) (some (.int .i64 k)) none none).run Try.prog u = .ok (.slice a' (n - k) (c - k)) u) ∧ In w ⟨a', n - k, c - k⟩ (zs.drop k) := by
  have hl : zs.length = n := h.l
  refine ⟨if c = k then some ⟨g, o, none⟩ else some ⟨g, o + k, none⟩, fun u => ?_, ?_⟩
  · obtain ⟨i0, hi, hz0, hz1, hz2⟩ := info_parts info5
    have h := run_slice_l (P := Try.prog) u 22 (some ⟨g, o, none⟩) n c Try.underlying22 .i64 k (by omega) (by omega)
    have hs : (sizeOf (Try.prog.elem 22)).run Try.prog u = .ok 1 u := by kernel_rfl
    rw [h, hs]
    simp only [Result.andThen_ok, sliced, Int.toNat_natCast]
    by_cases e : c = k
    · rw [if_pos (by omega), if_pos e]
    · rw [if_neg (by omega), if_neg e, Nat.mul_one, Option.map_some, addr_add]
  · refine ⟨?_, by rw [List.length_drop, hl], By.drop h.z k⟩
    by_cases e : c = k
    · rw [List.drop_of_length_le (by omega)]; exact seg_nil _ _
    · rw [if_neg e]; exact seg_drop h.s k
theorem str_of {w : World} {g o n c : Nat} {zs : List Int} (h : In w ⟨some ⟨g, o, none⟩, n, c⟩ zs) : (convert 22 9 (.slice (some ⟨g, o, none⟩) n c)).run Try.prog w = .ok (.string (strOfNums zs)) w := by
  refine run_convert_bytes_arg (P := Try.prog) w 22 5 Try.underlying22 Try.underlying5 g o n c zs h.l (fun i hi => ?_) 9 (by kernel_rfl)
  have hl : zs.length = n := h.l
  have hne : zs ≠ [] := by intro e; rw [e] at hl; simp at hl; omega
  obtain ⟨b, off, e, hc⟩ := h.s hne
  cases e
  exact hc i (by omega)
set_option maxHeartbeats 4000000 in
theorem equal_yes (g1 o1 n1 c1 g2 o2 n2 c2 : Nat) (zs : List Int) (w : World) (h1 : In w ⟨some ⟨g1, o1, none⟩, n1, c1⟩ zs) (h2 : In w ⟨some ⟨g2, o2, none⟩, n2, c2⟩ zs) :
    Calls Try.prog 58 #[.slice (some ⟨g1, o1, none⟩) n1 c1, .slice (some ⟨g2, o2, none⟩) n2 c2] w fun e w' => e = .returned (.bool true) ∧ w' = w := by
  have e1 := str_of h1
  have e2 := str_of h2
  clear h1 h2
  generalize strOfNums zs = s at *
  go_enter Try.func58, Try.ntmps58
  go_wp2
  go_ret
  exact ⟨by first | rfl | simp, rfl⟩
set_option maxHeartbeats 4000000 in
theorem after_any (now t : Int) (w : World) (h0 : 0 ≤ t) (h1 : t < 9223372036854775808) (n1 : now ≤ 9223372036854775807) : Calls Try.prog 42 #[.int .i64 now, .int .u64 t] w fun e w' => e = .returned (.bool (decide (t < now))) ∧ w' = w := by
  by_cases hp : 0 < now
  · have hn0 : 0 ≤ now := by omega
    have hn1 : now < 18446744073709551616 := by omega
    go_enter Try.func42, Try.ntmps42
    go_wp2
    go_ret
    exact ⟨by first | rfl | simp, rfl⟩
  · have hd : decide (t < now) = false := by simp; omega
    rw [hd]
    go_enter Try.func42, Try.ntmps42
    go_wp2
    go_ret
    exact ⟨by first | rfl | simp, rfl⟩
theorem sl_from (g o n c k : Nat) (hk : k ≤ n) (hc : k < c) (u : World) : (Instr.slice 22 (.slice (some ⟨g, o, none⟩) n c) (some (.int .i64 k)) none none).run Try.prog u = .ok (.slice (some ⟨g, o + k, none⟩) (n - k) (c - k)) u := by
  obtain ⟨i0, hi, hz0, hz1, hz2⟩ := info_parts info5
  have h := run_slice_l (P := Try.prog) u 22 (some ⟨g, o, none⟩) n c Try.underlying22 .i64 k (by omega) (by omega)
  have hs : (sizeOf (Try.prog.elem 22)).run Try.prog u = .ok 1 u := by kernel_rfl
  rw [h, hs]
  simp only [Result.andThen_ok, sliced, Int.toNat_natCast]
  rw [if_neg (by omega), Nat.mul_one, Option.map_some, addr_add]
theorem wrap_u64 {n : Int} (h0 : 0 ≤ n) (h1 : n < 18446744073709551616) : IntKind.u64.wrap n = n := by
  simp only [IntKind.wrap, IntKind.bits, IntKind.signed]
  simp
  omega
set_option maxHeartbeats 8000000 in
theorem opened_ok (k : Sv) (g n c : Nat) (ks is : List Int) (addr until_ : Int) (w : World) (hk : In w k ks) (hn : k.n = 16) (ha : wiB addr 4294967295 = true) (hu : wiB until_ 4611686018427387903 = true) (hi : By is) (h20 : is.length ≤ 20) (ht : In w ⟨some ⟨g, 0, none⟩, n, c⟩ (toL ks addr until_ is)) (hc : n ≤ c) :
    Calls Try.prog 41 #[.slice k.a k.n k.c, .int .i64 addr, .slice (some ⟨g, 0, none⟩) n c] w fun e w' => ∃ x : Sv, e = .returned (.tuple #[.slice x.a x.n x.c, .bool true]) ∧ Q w w' ∧ Row w' x (plL until_ is) := by
  obtain ⟨ka, kn, kc⟩ := k
  dsimp only at hn
  subst hn
  have HK := hid hk
  have HT := hid ht
  have HI := hid hi
  have hnl : n = 36 + is.length := by have := ht.l; rw [toL_len] at this; exact this.symm
  obtain ⟨a0, a1⟩ := wiB_iff.1 ha
  have a64 : addr < 18446744073709551616 := by omega
  have HN := hid hnl
  have HC := hid hc
  have H20 := hid h20
  -- the parts of the token
  have N0 := hid (show In w ⟨some ⟨g, 0, none⟩, 12, c⟩ (nnL (be 4 addr) (plL until_ is)) from by
    have h := ht.cutTo 12 c (by show 12 ≤ n; omega)
    rw [show (toL ks addr until_ is).take 12 = nnL (be 4 addr) (plL until_ is) from by unfold toL; rw [List.take_append_of_le_length (by rw [nnL_len]; omega)]; exact List.take_of_length_le (by rw [nnL_len]; omega)] at h
    exact h)
  have S0 := hid (show In w ⟨some ⟨g, 12, none⟩, n - 12, c - 12⟩ (sealL (tkK ks) (nnL (be 4 addr) (plL until_ is)) (be 4 addr) (plL until_ is)) from by
    have e : (toL ks addr until_ is).drop 12 = sealL (tkK ks) (nnL (be 4 addr) (plL until_ is)) (be 4 addr) (plL until_ is) := by unfold toL; rw [List.drop_append_of_le_length (by rw [nnL_len]; omega), List.drop_of_length_le (by rw [nnL_len]; omega), List.nil_append]
    have h := seg_drop ht.s 12
    rw [Nat.zero_add, e] at h
    exact ⟨h, by rw [sealL_len, plL_len]; show _ = n - 12; omega, sealL_lt (plL_by hi)⟩)
  have OS := hid (open_seal (tkK ks) (nnL (be 4 addr) (plL until_ is)) (be 4 addr) (plL until_ is) (plL_by hi) (by
    rw [nnL_len, be_length, plL_len, show (tkK ks).length = 16 from dg_len _]; unfold chkE; rw [if_neg (by omega), if_neg (by omega)]))
  have g12 : decide ((n : Int) < 12) = false := by simp; omega
  have sl1 : ∀ u, (Instr.slice 22 (.slice (some ⟨g, 0, none⟩) n c) none (some (.int .i64 12)) none).run Try.prog u = .ok (.slice (some ⟨g, 0, none⟩) 12 c) u := fun u => slice_to g 0 n c 12 u (by omega) (by omega)
  have sl2 : ∀ u, (Instr.slice 22 (.slice (some ⟨g, 0, none⟩) n c) (some (.int .i64 12)) none none).run Try.prog u = .ok (.slice (some ⟨g, 12, none⟩) (n - 12) (c - 12)) u := fun u => by
    have h := sl_from g 0 n c 12 (by omega) (by omega) u
    rw [Nat.zero_add] at h
    exact h
  have HM := hid (show n - 12 = 24 + is.length ∧ n - 12 ≤ c - 12 from by omega)
  generalize n - 12 = m at *
  generalize c - 12 = d at *
  clear hk ht hi hnl ha hc h20 a1 HC HN
  have s1 : Q w w := Q.refl _
  have hwa : IntKind.u64.wrap addr = addr := wrap_u64 a0 a64
  have LA := hid (fun u (hu : Q w u) => laid_any 4 (.inl rfl) addr a0 a64 u)
  go_enter Try.func41, Try.ntmps41
  go_wp2
  go_region_held3 (fun u => Q w u) (repeat (first | (with_reducible assumption) | (with_reducible apply Q.drew) | (with_reducible apply Q.drewN) | (with_reducible apply And.intro)))
    (first | (go_at_call 26; refine (LA.out _ (by repeat (first | (with_reducible assumption) | (with_reducible apply Q.drew) | (with_reducible apply Q.drewN)))).mono ?_; rintro e w1 ⟨⟨ba, bn, bc⟩, rfl, q1, r1, n1⟩; have j1 : Q w w1 := Q.trans (by repeat (first | (with_reducible assumption) | (with_reducible apply Q.drew) | (with_reducible apply Q.drewN))) q1))
  have Q1 := hid j1
  have B1 := hid (row_in r1 (be_bound 4 addr))
  have hbn : bn = 4 := by have := Row.len r1; rw [be_length] at this; exact this.symm
  subst hbn
  clear q1 r1 n1 j1 s1 LA
  have s2 : Q w1 w1 := Q.refl _
  have KY := hid (fun u (hu : Q w1 u) => tokenKey_any ⟨ka, 16, kc⟩ ks u ((HK.out.q Q1.out).q hu) rfl)
  have OP := hid (fun (g5 : Nat) u (hu : Q w1 u) (hk : In u ⟨some ⟨g5, 0, none⟩, 16, 16⟩ (tkK ks)) => open_any ⟨some ⟨g5, 0, none⟩, 16, 16⟩ ⟨some ⟨g, 0, none⟩, 12, c⟩ ⟨ba, 4, bc⟩ ⟨some ⟨g, 12, none⟩, m, d⟩ (tkK ks) (nnL (be 4 addr) (plL until_ is)) (be 4 addr) _ u hk ((N0.out.q Q1.out).q hu) (B1.out.q hu) ((S0.out.q Q1.out).q hu) (by have := HM.out; have := H20.out; show m ≤ _; omega) HM.out.2)
  dsimp only at KY OP
  rw [OS.out.1, OS.out.2] at OP
  go_wp2
  go_region_held3 (fun u => Q w1 u) (repeat (first | (with_reducible assumption) | (with_reducible apply Q.drew) | (with_reducible apply Q.drewN) | (with_reducible apply And.intro)))
    (first
      | (go_at_call 38; refine (KY.out _ (by repeat (first | (with_reducible assumption) | (with_reducible apply Q.drew) | (with_reducible apply Q.drewN)))).mono ?_; rintro e w2 ⟨g5, rfl, q2, i2⟩; have j2 : Q w1 w2 := Q.trans (by repeat (first | (with_reducible assumption) | (with_reducible apply Q.drew) | (with_reducible apply Q.drewN))) q2; have I2 := hid i2)
      | (go_at_call 57; refine (OP.out g5 _ (by repeat (first | (with_reducible assumption) | (with_reducible apply Q.drew) | (with_reducible apply Q.drewN))) (I2.out.q (by repeat (first | (with_reducible assumption) | (with_reducible exact Q.refl _) | (with_reducible apply Q.drew) | (with_reducible apply Q.drewN))))).mono ?_; rintro e w3 ⟨⟨pa, pn, pc⟩, rfl, q3, r3⟩; have j3 : Q w1 w3 := Q.trans (by repeat (first | (with_reducible assumption) | (with_reducible apply Q.drew) | (with_reducible apply Q.drewN))) q3; have R3 := hid r3))
  have Q3 := hid (Q1.out.trans j3)
  have P3 := hid (row_in R3.out (plL_by HI.out))
  have hpn : pn = 8 + is.length := by have := P3.out.l; rw [plL_len] at this; exact this.symm
  have HPN := hid hpn
  have B3 := hid (B1.out.q j3)
  clear q2 i2 j2 I2 q3 r3 j3 s2 KY OP B1 S0 OS hpn
  obtain ⟨pm, hpm, HPM⟩ : ∃ pm : Int, (pn : Int) - 8 = pm ∧ Hid (0 ≤ pm ∧ pm ≤ 20) := ⟨_, rfl, hid (by have := HPN.out; have := H20.out; omega)⟩
  have hwi : wiB pm 20 = true := wiB_iff.2 HPM.out
  have hwp : IntKind.i64.wrap pm = pm := by have := HPM.out; rw [wrap_i64]; omega
  have hwp64 : wrap64 pm = pm := by have := HPM.out; unfold wrap64; omega
  have NC := hid (nonceOf_any ⟨ba, 4, bc⟩ ⟨pa, pn, pc⟩ (be 4 addr) (plL until_ is) w3 B3.out P3.out (by have := HPN.out; have := H20.out; show 4 + pn ≤ _; omega))
  go_wp2_with (first | (go_at_call 25; refine (within_any _ _ _).mono ?_; rintro e w' ⟨rfl, rfl⟩))
  refine NC.out.mono ?_
  rintro e w4 ⟨g4, rfl, q4, i4⟩
  have HX := hid (show Q w w4 ∧ Row w4 ⟨pa, pn, pc⟩ (plL until_ is) from ⟨Q3.out.trans q4, R3.out.q q4⟩)
  have EQ := hid (equal_yes g 0 12 c g4 0 12 16 _ w4 (N0.out.q HX.out.1) i4)
  clear q4 i4 NC P3 B3 R3 Q3
  go_wp2_with fail
  refine EQ.out.mono ?_
  rintro e w5 ⟨rfl, rfl⟩
  go_wp2
  go_ret2
  exact ⟨⟨pa, pn, pc⟩, rfl, HX.out⟩
theorem plL_take (until_ : Int) (is : List Int) : (plL until_ is).take 8 = be 8 until_ := by
  unfold plL
  rw [List.take_append_of_le_length (by rw [be_length]; omega)]
  exact List.take_of_length_le (by rw [be_length]; omega)
theorem plL_drop (until_ : Int) (is : List Int) : (plL until_ is).drop 8 = is := by
  unfold plL
  rw [List.drop_append_of_le_length (by rw [be_length]; omega), List.drop_of_length_le (by rw [be_length]; omega), List.nil_append]
/-- What Proof answers of such a token. -/
def prE (until_ now : Int) : Int := if until_ < now then 130 else 0
def prL (until_ now : Int) (is : List Int) : List Int := if until_ < now then [] else is
set_option maxHeartbeats 8000000 in
/-- Proof of a token that was made for this address. -/
theorem proof_ok (k : Sv) (g n c : Nat) (ks is : List Int) (addr until_ now : Int) (w : World) (hk : In w k ks) (hn : k.n = 16) (ha : wiB addr 4294967295 = true) (hu : wiB until_ 4611686018427387903 = true) (hi : By is) (h20 : is.length ≤ 20) (ht : In w ⟨some ⟨g, 0, none⟩, n, c⟩ (toL ks addr until_ is)) (hc : n ≤ c) (hnow : now ≤ 9223372036854775807) :
    Calls Try.prog 19 #[.slice k.a k.n k.c, .int .i64 addr, .int .i64 now, .slice (some ⟨g, 0, none⟩) n c] w fun e w' => ∃ x : Sv, e = .returned (.tuple #[.slice x.a x.n x.c, .int .i64 (prE until_ now)]) ∧ Q w w' ∧ Row w' x (prL until_ now is) ∧ New w.heap.size x := by
  have HO := hid (opened_ok k g n c ks is addr until_ w hk hn ha hu hi h20 ht hc)
  obtain ⟨u0, u1⟩ := wiB_iff.1 hu
  obtain ⟨ka, kn, kc⟩ := k
  dsimp only at hn
  subst hn
  have HI := hid hi
  have H20 := hid h20
  dsimp only at HO
  clear hk ht hi hc h20 hu
  have HV := hid (val_be_of (s := 8) u0 (show until_ < 256 ^ 8 by omega))
  have AF := hid (fun u => after_any now until_ u u0 (by omega) hnow)
  clear hnow
  go_enter Try.func19, Try.ntmps19
  go_wp2_with (go_at_call 25; refine (within_any _ _ _).mono ?_; rintro e w' ⟨rfl, rfl⟩)
  refine HO.out.mono ?_
  rintro e w1 ⟨⟨pa, pn, pc⟩, rfl, q1, r1⟩
  have Q1 := hid q1
  have hpn : pn = 8 + is.length := by have := Row.len r1; rw [plL_len] at this; exact this.symm
  have hpc : pn ≤ pc := Row.cap r1
  obtain ⟨pg, po, e⟩ := row_addr r1 (by show 0 < pn; omega)
  dsimp only at e
  subst e
  have P1 := hid (row_in r1 (plL_by (until_ := until_) HI.out))
  have T1 := hid (show In w1 ⟨some ⟨pg, po, none⟩, 8, pc⟩ (be 8 until_) from by
    have h := P1.out.cutTo 8 pc (by show 8 ≤ pn; omega)
    rw [plL_take] at h
    exact h)
  obtain ⟨fa, sl2, i1⟩ := P1.out.from_ (k := 8) (by omega) hpc
  rw [plL_drop] at i1
  have I1 := hid i1
  have sl1 : ∀ u, (Instr.slice 22 (.slice (some ⟨pg, po, none⟩) pn pc) none (some (.int .i64 8)) none).run Try.prog u = .ok (.slice (some ⟨pg, po, none⟩) 8 pc) u := fun u => slice_to pg po pn pc 8 u (by omega) (by omega)
  have sl3 : ∀ u, (Instr.slice 22 (.slice (some ⟨pg, po, none⟩) pn pc) (some (.int .i64 8)) none none).run Try.prog u = .ok (.slice fa (pn - 8) (pc - 8)) u := sl2
  have NO := hid (numberOf_any ⟨some ⟨pg, po, none⟩, 8, pc⟩ _ w1 T1.out (by show 8 ≤ 8; omega))
  rw [HV.out] at NO
  dsimp only at NO
  have HPN := hid hpn
  clear hpn hpc q1 r1 i1 sl2
  by_cases hlt : until_ < now
  · have HE := hid (show prE until_ now = 130 from by unfold prE; rw [if_pos hlt])
    have HL := hid (show prL until_ now is = [] from by unfold prL; rw [if_pos hlt])
    have hd : decide (until_ < now) = true := by simp [hlt]
    rw [hd] at AF
    clear hd hlt
    go_wp2_with (first | (go_at_call 31; refine NO.out.mono ?_; rintro e w2 ⟨rfl, rfl⟩) | (go_at_call 42; refine (AF.out _).mono ?_; rintro e w3 ⟨rfl, rfl⟩))
    go_ret2
    rw [HE.out, HL.out]
    exact ⟨nilS, rfl, Q1.out, sub_nil _ _ _, new_nil _⟩
  · have HE := hid (show prE until_ now = 0 from by unfold prE; rw [if_neg hlt])
    have HL := hid (show prL until_ now is = is from by unfold prL; rw [if_neg hlt])
    have hd : decide (until_ < now) = false := by simp; omega
    rw [hd] at AF
    have CL := hid (clone_any ⟨fa, pn - 8, pc - 8⟩ is w1 I1.out (by have := H20.out; have := HPN.out; show pn - 8 ≤ _; omega))
    dsimp only at CL
    clear hd hlt
    generalize pn - 8 = fn at *
    generalize pc - 8 = fc at *
    go_wp2_with (first | (go_at_call 31; refine NO.out.mono ?_; rintro e w2 ⟨rfl, rfl⟩) | (go_at_call 42; refine (AF.out _).mono ?_; rintro e w3 ⟨rfl, rfl⟩) | (go_at_call 43; refine CL.out.mono ?_; rintro e w4 ⟨⟨ya, yn, yc⟩, rfl, q4, r4, n4⟩; have HX := hid (show Q w' w4 ∧ Row w4 ⟨ya, yn, yc⟩ is ∧ New w'.heap.size ⟨ya, yn, yc⟩ from ⟨Q1.out.trans q4, r4, n4.mono Q1.out.size⟩); clear q4 r4 n4))
    go_ret2
    rw [HE.out, HL.out]
    exact ⟨⟨ya, yn, yc⟩, rfl, HX.out⟩
end Go.Proofs.Ytnnjogfpapndaaa
