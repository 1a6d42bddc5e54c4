/-
  Proved: for all bytes and all scripts of calls the law turnpikelaw01.VarintReads returns true, and its arguments read as they did. No condition.
-/
import Derived.Test.YtmlcobibefejgaaRows
import Derived.Test.YtmlcobibefejgaaReadsInv
import Derived.WalkKit
import Derived.ProofKit
import Derived.OpenShut
import Derived.ShutString
import Derived.ChangeOld
import Derived.Below
import Derived.SizedLaws
import Derived.BigQuiet
import Derived.Deep.QuietTactic
namespace Go.Proofs.Ytmlcobibefejgaa.varintReads
open Go.ChangeShapes Go.WideShapes Go.ChangeAt Go.RowKit
open Go.ChangeMaps (open_string shut_string)
set_option linter.unusedVariables false

theorem own_set {w : World} {base g n : Nat} {ys : List Int} (h : Own w base (some ⟨g, 0, none⟩) n n ys) (k : Nat) (v : Int) : Own (w.setCell ⟨g, k, none⟩ (.int .u8 v)) base (some ⟨g, 0, none⟩) n n (ys.set k v) := by
  have := (World.ownsRow.stored h k (.int .u8 v)).1
  rw [← List.map_set] at this
  exact this

set_option maxRecDepth 100000 in
set_option maxHeartbeats 4000000 in
theorem walk (a s : Option Addr) (n c l d : Nat) (zs : List Int) (K N : Nat → Int) (w : World) (hl : zs.length = n) (hn : n ≤ 140737488351232) (hnc : n ≤ c) (hz : ∀ y ∈ zs, 0 ≤ y ∧ y < 256) (hs : Seg w a zs)
    (hll : l * 16 ≤ 140737488351232) (hsp : SegP w s l K N) :
    Calls Try.prog 7 #[.slice a n c, .slice s l d] w fun e w' => e = .returned (.bool true) ∧ Below w.heap.size w w' := by
  have HL := hid hl
  have HZ := hid hz
  have HS := hid hs
  have HP := hid hsp
  clear hl hz hs hsp
  go_enter Try.func7, Try.ntmps7
  go_wp2_with fail
  refine (rcopy_any a n c zs _ HL.out (by omega) HS.out).mono ?_
  rintro e w1 ⟨gi, rfl, hq1, ho1, hgi⟩
  have H1 := hid hq1
  have O1 := hid ho1
  clear hq1 ho1
  go_wp2_with fail
  refine (open_any (some ⟨gi, 0, none⟩) n n zs _ HL.out (by omega) O1.out.seg).mono ?_
  rintro e w2 ⟨g, rb, rfl, hq2, hrb, hg, hgb, hr2, ho2⟩
  have hgi1 : gi < w1.heap.size := (World.ownsRow.lt O1.out gi rfl).2
  have hs1 := H1.out.size
  have H2 := hid hq2
  have O2 := hid ho2
  have R2 := hid hr2
  have OI := hid (O1.out.q hq2)
  clear hq2 ho2 hr2
  go_wp2
  go_loopw [21] (fun i wr => ∃ k : Nat, k ≤ n ∧ i = .int .i64 k ∧ Only gi w2 wr ∧ ∃ ys : List Int, Own wr w.heap.size (some ⟨gi, 0, none⟩) n n ys) (fun i _ => n - (intOf i).toNat)
  case atStart => exact ⟨0, Nat.zero_le _, rfl, Only.refl _ _, zs, OI.out⟩
  case round =>
    obtain ⟨k, hk, rfl, hon, ys, how⟩ := hrel
    have ON := hid hon
    have OW := hid how
    clear hon
    by_cases hlt : k < n
    · have hyl := how.len
      have hcell := World.ownsRow.cellAt how k (by omega)
      have hcell' : wr.cell? ⟨gi, k, none⟩ = some (.int .u8 (ys.getD k 0)) := by
        rw [hcell]; simp [hyl, hlt]
      have hfz := World.ownsRow.frozenAt how k
      clear hcell how hyl
      generalize ys.getD k 0 = y at *
      have hlt' : (k : Int) < (n : Int) := by omega
      go_wp2
      go_roundw
      case rel => exact ⟨k + 1, by omega, by go_num, ON.out.setCell _ _, _, own_set OW.out k _⟩
      case measure => simp [intOf]; omega
    · clear how
      have hltrb := R2.out.lt
      have hltg : g < w2.heap.size := (World.ownsRow.lt O2.out g rfl).2
      have hs2 : w2.heap.size ≤ wr.heap.size := ON.out.size
      have B2 : Below w.heap.size w wr := ON.out.below (H1.out.trans H2.out) hgi (H1.out.trans H2.out).size
      have FX := hid (show Fix w rb wr.heap.size g a n c zs from ⟨HL.out, hnc, hn, HZ.out, HS.out, by omega, by omega, by omega, by omega, hgb, by omega⟩)
      have SG : SegOff gi w2 (some ⟨g, 0, none⟩) zs := ⟨O2.out.seg, fun _ ad e => by cases e; show g ≠ gi; omega⟩
      have IV := hid (show Inv w (wr.alloc (.cells #[.slice a n c, .int .i64 0, .int .i64 0] 45)) rb wr.heap.size g a n c zs 0 0 from
        ⟨B2.alloc (by omega) _, (R2.out.only ON.out (by omega)).q ((Q.refl _).alloc _), heap_alloc_new wr _, (SG.only ON.out).1.q ((Q.refl _).alloc _), Int.le_refl _, by omega⟩)
      go_wp2
      clear B2 SG hs2 hltg hltrb
      generalize wr.heap.size = rc at *
      go_loopw [38] (fun i wx => ∃ k : Nat, ∃ p f : Int, k ≤ l ∧ i = .int .i64 k ∧ Inv w wx rb rc g a n c zs p f) (fun i _ => l - (intOf i).toNat)
      case atStart => exact ⟨0, 0, 0, Nat.zero_le _, rfl, IV.out⟩
      case round =>
        obtain ⟨k, p, f, hk, rfl, hinv⟩ := hrel
        have HI := hid hinv
        clear hinv IV OW ON OI R2 O2 H2 H1 O1 HL HZ HS
        by_cases hlt : k < l
        · obtain ⟨b, off, rfl, hc⟩ := HP.out (by omega)
          have hlt' : (k : Int) < (l : Int) := by omega
          have q0 : wr.cell? ⟨b, off + k * 2, none⟩ = some (.int .i64 (K k)) := by
            have h := (hc k hlt).1
            rw [HI.out.below.cell (lt_of_cell h)]; exact h
          have q1 : wr.cell? ⟨b, off + k * 2 + 1, none⟩ = some (.int .i64 (N k)) := by
            have h := (hc k hlt).2
            rw [Nat.add_assoc, HI.out.below.cell (lt_of_cell h)]; exact h
          clear hc
          generalize K k = kind at *
          generalize N k = arg at *
          by_cases h1 : kind = 1
          · subst h1
            have IA := hid (HI.out.q ((Q.refl _).alloc (.cells #[.int .i64 1, .int .i64 arg] 47)))
            have NR := hid (numR_len zs p f IA.out.p0 (by rw [FX.out.len]; exact IA.out.p1))
            go_wp2_with fail
            refine (number_any rb (some ⟨g, 0, none⟩) n n zs p f _ FX.out.len (by omega) FX.out.byte (IA.out.so1 FX.out) IA.out.r1).mono ?_
            rintro e w3 ⟨rfl, k3, r3⟩
            have M2 := hid (IA.out.mid2 (p' := 0) (f' := 0) FX.out k3)
            have K3 := hid k3
            have R3 := hid r3
            have RN := hid (rnumber_any rc a n c zs p f w3 FX.out.len (by omega) FX.out.byte M2.out.2 M2.out.1)
            clear k3 r3
            generalize numR zs p f = t at *
            obtain ⟨m, p', f'⟩ := t
            simp only at NR R3 RN ⊢
            have e0 : (m != m) = false := by simp
            go_wp2_with fail
            refine RN.out.mono ?_
            rintro e w4 ⟨rfl, k4, r4⟩
            have I4 := hid (IA.out.step FX.out K3.out R3.out k4 r4 NR.out.1 (by have := NR.out.2; rw [FX.out.len] at this; exact this))
            clear k4 r4
            have c1 := I4.out.r2.c1
            have c2 := I4.out.r2.c2
            have A1 := hid (chk_at I4.out)
            have A2 := hid (chk_left I4.out FX.out)
            have A3 := hid (chk_rleft I4.out FX.out)
            have A4 := hid (chk_fault I4.out)
            have e1 : (p' != p') = false := by simp
            have e2 : (f' != f') = false := by simp
            generalize (if f' = 0 then (n : Int) - p' else 0) = L at A2 A3
            have e3 : (L != L) = false := by simp
            go_wp2
            go_quiet (first | (go_at_call 26; exact Calls.quiet_of_same (A1.out _)) | (go_at_call 27; exact A2.out _) | (go_at_call 28; exact A3.out _) | (go_at_call 29; exact Calls.quiet_of_same (A4.out _)))
            go_wp2
            go_roundw
            case rel => exact ⟨k + 1, p', f', by omega, by go_num, I4.out.q ((Q.refl _).drewN _)⟩
            case measure => simp [intOf]; omega
          by_cases h2 : kind = 2
          · subst h2
            clear h1
            have IA := hid (HI.out.q ((Q.refl _).alloc (.cells #[.int .i64 2, .int .i64 arg] 47)))
            have NR := hid (takeR_len zs p f 1 IA.out.p0 (by rw [FX.out.len]; exact IA.out.p1))
            go_wp2_with fail
            refine (byte_any rb (some ⟨g, 0, none⟩) n n zs p f _ FX.out.len (by omega) (Nat.le_refl _) IA.out.p0 IA.out.p1 FX.out.byte (IA.out.so1 FX.out) IA.out.r1).mono ?_
            rintro e w3 ⟨rfl, k3, r3⟩
            have M2 := hid (IA.out.mid2 (p' := 0) (f' := 0) FX.out k3)
            have K3 := hid k3
            have R3 := hid r3
            have RN := hid (rbyte_any rc a n c zs p f w3 FX.out.len (by omega) hnc IA.out.p0 IA.out.p1 FX.out.byte M2.out.2 M2.out.1)
            clear k3 r3
            generalize takeR zs p f 1 = t at *
            obtain ⟨bs, p', f'⟩ := t
            simp only at NR R3 RN ⊢
            generalize bs.getD 0 0 = m at *
            have e0 : (m != m) = false := by simp
            go_wp2_with fail
            refine RN.out.mono ?_
            rintro e w4 ⟨rfl, k4, r4⟩
            have I4 := hid (IA.out.step FX.out K3.out R3.out k4 r4 NR.out.1 (by have := NR.out.2; rw [FX.out.len] at this; exact this))
            clear k4 r4
            have c1 := I4.out.r2.c1
            have c2 := I4.out.r2.c2
            have A1 := hid (chk_at I4.out)
            have A2 := hid (chk_left I4.out FX.out)
            have A3 := hid (chk_rleft I4.out FX.out)
            have A4 := hid (chk_fault I4.out)
            have e1 : (p' != p') = false := by simp
            have e2 : (f' != f') = false := by simp
            generalize (if f' = 0 then (n : Int) - p' else 0) = L at A2 A3
            have e3 : (L != L) = false := by simp
            go_wp2
            go_quiet (first | (go_at_call 26; exact Calls.quiet_of_same (A1.out _)) | (go_at_call 27; exact A2.out _) | (go_at_call 28; exact A3.out _) | (go_at_call 29; exact Calls.quiet_of_same (A4.out _)))
            go_wp2
            go_roundw
            case rel => exact ⟨k + 1, p', f', by omega, by go_num, I4.out.q ((Q.refl _).drewN _)⟩
            case measure => simp [intOf]; omega
          by_cases h3 : kind = 3
          · subst h3
            clear h1 h2
            have IA := hid (HI.out.q ((Q.refl _).alloc (.cells #[.int .i64 3, .int .i64 arg] 47)))
            have NR := hid (takeR_len zs p f arg IA.out.p0 (by rw [FX.out.len]; exact IA.out.p1))
            have hbl := IA.out.below.size
            have hltb := IA.out.r1.lt
            have hltc := IA.out.r2.lt
            have hltg : zs ≠ [] → g < (wr.alloc (.cells #[.int .i64 3, .int .i64 arg] 47)).heap.size := by
              intro hne
              obtain ⟨b', off', e', hcc⟩ := IA.out.s1 hne
              cases e'
              exact lt_of_cell (hcc 0 (by cases zs with | nil => exact absurd rfl hne | cons x r => simp))
            have wv : (wr.alloc (.cells #[.int .i64 3, .int .i64 arg] 47)).cell? ⟨wr.heap.size, 1, none⟩ = some (.int .i64 arg) := by simp [go_sem]
            have WV := hid wv
            have LB := hid hltb
            have LC := hid hltc
            have LG := hid hltg
            have BL := hid hbl
            have hwr : wr.heap.size ≠ rb := by have := HI.out.r1.lt; omega
            have hwc : wr.heap.size ≠ rc := by have := HI.out.r2.lt; omega
            clear wv hltb hltc hltg hbl
            go_wp2_with fail
            refine (bytes_any rb (some ⟨g, 0, none⟩) n n zs p f arg _ FX.out.len (by omega) (Nat.le_refl _) IA.out.p0 IA.out.p1 (IA.out.so1 FX.out) IA.out.r1).mono ?_
            rintro e w3 ⟨gx, m, rfl, k3, r3, o3, hmn⟩
            have M2 := hid (IA.out.mid2 (p' := 0) (f' := 0) FX.out k3)
            have K3 := hid k3
            have R3 := hid r3
            have O3 := hid o3
            have GX := hid (World.ownsRow.lt o3 gx rfl)
            have v3 : w3.cell? ⟨wr.heap.size, 1, none⟩ = some (.int .i64 arg) := k3.cell WV.out hwr
            have RN := hid (rbytes_any rc a n c zs p f arg w3 FX.out.len (by omega) hnc IA.out.p0 IA.out.p1 M2.out.2 M2.out.1)
            clear k3 r3 o3
            generalize takeR zs p f arg = t at *
            obtain ⟨bs, p', f'⟩ := t
            simp only at NR R3 RN O3 ⊢
            go_wp2_with fail
            refine RN.out.mono ?_
            rintro e w4 ⟨ax, mx, cx, rfl, k4, r4, s4, l4, _⟩
            have hgx : gx ≠ rc := by have := GX.out.1; have := LC.out; omega
            have I4' := hid (IA.out.step FX.out K3.out R3.out k4 r4 NR.out.1 (by have := NR.out.2; rw [FX.out.len] at this; exact this))
            have O4 := hid (O3.out.only k4 hgx)
            have S4 := hid s4
            have L4 := hid l4
            have L3 := hid O3.out.len
            have hmx : mx ≤ 140737488351232 := by have := O3.out.len; omega
            clear k4 r4 s4 l4
            go_wp2_with fail
            refine (same_any (some ⟨gx, 0, none⟩) ax m mx m cx bs bs _ L3.out L4.out (by omega) (by omega) O4.out.seg S4.out).mono ?_
            rintro e w5 ⟨rfl, hq5⟩
            simp only [decide_true]
            have I5 := hid (I4'.out.q hq5)
            have O5 := hid (O4.out.q hq5)
            have hgb2 : rb ≠ gx := by have := GX.out.1; have := LB.out; omega
            have hgc2 : rc ≠ gx := by have := GX.out.1; have := LC.out; omega
            have hgg2 : zs ≠ [] → g ≠ gx := by intro hne; have := GX.out.1; have := LG.out hne; omega
            have GG := hid hgg2
            have hgw : w.heap.size ≤ gx := by have := GX.out.1; have := BL.out; omega
            clear hq5 hgg2 v3
            go_wp2
            go_loopw [73] (fun i wy => ∃ j : Nat, j ≤ m ∧ i = .int .i64 j ∧ Only gx w5 wy ∧ ∃ ys : List Int, Own wy (wr.alloc (.cells #[.int .i64 3, .int .i64 arg] 47)).heap.size (some ⟨gx, 0, none⟩) m m ys) (fun i _ => m - (intOf i).toNat)
            case atStart => exact ⟨0, Nat.zero_le _, rfl, Only.refl _ _, bs, O5.out⟩
            case round =>
              obtain ⟨j, hj, rfl, hon, ys, how⟩ := hrel
              have ON := hid hon
              have OW := hid how
              clear hon
              by_cases hjm : j < m
              · have hyl := how.len
                have hcell := World.ownsRow.cellAt how j (by omega)
                have hcell' : wr.cell? ⟨gx, j, none⟩ = some (.int .u8 (ys.getD j 0)) := by
                  rw [hcell]; simp [hyl, hjm]
                have hfz := World.ownsRow.frozenAt how j
                clear hcell how hyl
                generalize ys.getD j 0 = y at *
                have hjm' : (j : Int) < (m : Int) := by omega
                go_wp2
                go_roundw
                case rel => exact ⟨j + 1, by omega, by go_num, ON.out.setCell _ _, _, own_set OW.out j _⟩
                case measure => simp [intOf]; omega
              · clear how
                have I4 := hid (I5.out.only_new ON.out hgw hgb2 hgc2 GG.out)
                have c1 := I4.out.r2.c1
                have c2 := I4.out.r2.c2
                have A1 := hid (chk_at I4.out)
                have A2 := hid (chk_left I4.out FX.out)
                have A3 := hid (chk_rleft I4.out FX.out)
                have A4 := hid (chk_fault I4.out)
                have e1 : (p' != p') = false := by simp
                have e2 : (f' != f') = false := by simp
                generalize (if f' = 0 then (n : Int) - p' else 0) = L at A2 A3
                have e3 : (L != L) = false := by simp
                go_wp2
                go_quiet (first | (go_at_call 26; exact Calls.quiet_of_same (A1.out _)) | (go_at_call 27; exact A2.out _) | (go_at_call 28; exact A3.out _) | (go_at_call 29; exact Calls.quiet_of_same (A4.out _)))
                go_wp2
                go_roundw
                case rel => exact ⟨k + 1, p', f', by omega, by go_num, I4.out.q ((Q.refl _).drewN _)⟩
                case measure => simp [intOf]; omega
          · have t1 : (kind == 1) = false := by simp [h1]
            have t2 : (kind == 2) = false := by simp [h2]
            have t3 : (kind == 3) = false := by simp [h3]
            obtain ⟨p', hp'⟩ : ∃ p', p' = p := ⟨_, rfl⟩
            obtain ⟨f', hf'⟩ : ∃ f', f' = f := ⟨_, rfl⟩
            have I4 := hid (HI.out.q ((Q.refl _).alloc (.cells #[.int .i64 kind, .int .i64 arg] 47)))
            rw [← hp', ← hf'] at I4
            clear hp' hf'
            have c1 := I4.out.r2.c1
            have c2 := I4.out.r2.c2
            have A1 := hid (chk_at I4.out)
            have A2 := hid (chk_left I4.out FX.out)
            have A3 := hid (chk_rleft I4.out FX.out)
            have A4 := hid (chk_fault I4.out)
            have e1 : (p' != p') = false := by simp
            have e2 : (f' != f') = false := by simp
            generalize (if f' = 0 then (n : Int) - p' else 0) = L at A2 A3
            have e3 : (L != L) = false := by simp
            go_wp2
            go_quiet (first | (go_at_call 26; exact Calls.quiet_of_same (A1.out _)) | (go_at_call 27; exact A2.out _) | (go_at_call 28; exact A3.out _) | (go_at_call 29; exact Calls.quiet_of_same (A4.out _)))
            go_wp2
            go_roundw
            case rel => exact ⟨k + 1, p', f', by omega, by go_num, I4.out.q ((Q.refl _).drewN _)⟩
            case measure => simp [intOf]; omega
        · go_wp2_with fail
          refine (awake_any _).mono ?_
          rintro e w5 ⟨rfl, hq5⟩
          have H5 := hid hq5
          clear hq5
          go_wp2
          go_ret
          exact ⟨rfl, Q.trans HI.out.below H5.out⟩

set_option maxRecDepth 100000 in
theorem lifted (os : Os) (started : os.Started) (H : Type) (enc : TypeId × Value → H) :
    ReturnsInHanded {} Try.checked os 7 .any (Rows.varintReadsSpec.pre6 enc Try.prog Try.f7 Rows.varintReadsRow.domain false) (Rows.varintReadsSpec.post enc Try.prog Try.f7 false true false false) := by
  refine returnsInHanded_of_change_sized (C := Try.checked) own_knob started (by kernel_rfl) Try.func7
    (ChangeSpec.witness6 (enc := enc) (C := Try.checked) false ⟨#[], #[.slice none 0 0, .slice none 0 0], []⟩ 8 (by kernel_rfl) (by kernel_rfl) (by kernel_rfl) (by kernel_rfl)) ?_
  intro W base args ds gs before hval0 hW hcnd hsz0 _
  have hval : ∀ (j : Nat) t v, Try.f7.params[j]? = some t → args[j]? = some v → Value.okWide Try.prog W .any base t v := hval0
  have hsz : (DataW.weightsEach Try.prog (Try.f7.params.toList ++ Rows.varintReadsSpec.plain.varTypes Try.prog) (ds ++ gs)).all (· ≤ reachBytes) = true := hsz0
  have hW' := hW
  obtain ⟨p, q, hA0, hV, rfl, hfz, hnd⟩ := hW
  have hA : DataW.TrodAll enc Try.prog W 0 (fun _ => true) true Try.f7.params.toList args.toList ds p := hA0
  rw [Try.params7] at hA hval hsz
  obtain ⟨v0, vs0, d0, ds0, p0, q0, hargs, rfl, rfl, h0, r0⟩ := trodAll_cons hA
  obtain ⟨v1, vs1, d1, ds1, p1, q1, rfl, rfl, rfl, h1, r1⟩ := trodAll_cons r0
  obtain ⟨rfl, rfl, rfl⟩ := trodAll_nil r1
  obtain rfl : args = #[v0, v1] := by cases args; simp_all
  obtain ⟨rfl, rfl⟩ := trodVars_none hV
  obtain ⟨a0, len0, cap0, rfl⟩ := okWide_slice Try.underlying22 (hval 0 22 v0 rfl rfl)
  have k0 := h0
  have lt0 : ∀ x ∈ p0, x.block < W.heap.size := by obtain ⟨m, hm⟩ := k0; exact DataW.trod_lt m _ _ _ hm
  obtain ⟨z0, zl0, zs0, zb0, zc0, ze0, zd0⟩ := open_bytes h0
  have zn0 := len_le hsz (j := 0) rfl rfl zd0
  obtain ⟨a1, len1, cap1, rfl⟩ := okWide_slice Try.underlying40 (hval 1 40 v1 rfl rfl)
  have k1 := h1
  have lt1 : ∀ x ∈ p1, x.block < W.heap.size := by obtain ⟨m, hm⟩ := k1; exact DataW.trod_lt m _ _ _ hm
  obtain ⟨z1, zl1, zs1, zb1, zc1, ze1, zd1⟩ := open_ops h1
  have zn1 := len_le_ops hsz (j := 1) rfl rfl zd1
  clear hA0 hval0
  refine (walk a0 a1 len0 cap0 len1 cap1 z0 z1.1 z1.2 W zl0 zn0 zc0 zb0 zs0 zn1 zs1).mono fun e W' ⟨he, bel⟩ => ?_
  subst he
  exact ⟨_, rfl, _, _, _, [], _, [], hW', trodAll_mk1 (shut_bool Try.underlying4 _), (trodAll_cons_mk (Below.trod laid_out (by kernel_rfl) (of_decide_eq_true (by kernel_rfl)) k0 bel lt0) (trodAll_cons_mk (Below.trod laid_out (by kernel_rfl) (of_decide_eq_true (by kernel_rfl)) k1 bel lt1) trodAll_mk0)), rfl, bel.frame _, fun h => by cases h⟩

theorem over : Rows.varintReadsRow.holds Try.pinned (OpenSpec.ofChange Rows.varintReadsSpec) :=
  OpenClaim.holds_of_wide 7 Try.f7 rfl rfl rfl rfl rfl rfl rfl ⟨rfl, rfl, rfl, rfl, rfl⟩ rfl rfl rfl rfl rfl (by kernel_rfl) Try.func7 (by kernel_rfl)
    (of_decide_eq_true (by kernel_rfl)) (by unfold Func.isWrapper; first | (rw [if_pos (by decide +kernel)]; kernel_rfl) | (rw [if_neg (by decide +kernel)]; exact ⟨rfl, rfl⟩))
    (fun os started H enc _ => lifted os started H enc)

end Go.Proofs.Ytmlcobibefejgaa.varintReads
namespace Go.Proofs.Ytmlcobibefejgaa

/-- The statement. -/
theorem varintReads_holds : Rows.VarintReadsSaid := varintReads.over
#print axioms varintReads_holds
end Go.Proofs.Ytmlcobibefejgaa
