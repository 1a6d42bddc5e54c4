/-
  The document's own table and Static: contracts that the statement's walk uses.
-/
import Derived.Test.YtehejibllkmflaaAw2
import Derived.BigRegion
import Derived.Deep.RegionLaw
namespace Go.Proofs.Ytehejibllkmflaa
open Go.RowKit
set_option linter.unusedVariables false
set_option maxRecDepth 20000

theorem Sub.q' {w w' : World} {e size n cap : Nat} {a : Option Addr} {vs : List Value} (h : Sub w e size a n cap vs) (k : Q w w') : Sub w' e size a n cap vs := Sub.keep h (Keep.ofQ (F := fun _ => False) k) (fun b e h => h)
/-- append of one struct out of a new block of its own. -/
theorem app_st {w : World} {t e : TypeId} {z : Value} {cs : Array Value} {a : Option Addr} {n cap by_ size : Nat} {vs : List Value} {i0 : TypeInfo} (ht : Try.prog.underlying t = some (.slice e)) (hi : Try.prog.info? e = some i0) (hz0 : i0.zero = some z) (hz1 : i0.size = size) (hz2 : i0.bytes = by_) (hby : by_ ≤ 32) (hzs : z.cells.size = size) (hc : cs.size = size) (hv : ∀ v ∈ cs.toList, v.oneCell' = true)
    (hs : Sub w e size a n cap vs) (hn : n ≤ 4398046511104) :
    ∃ a' cap' w', (Builtin.append_ #[t, t] t #[.slice a n cap, .slice (some ⟨w.heap.size, 0, none⟩) 1 1]).run Try.prog (w.alloc (.cells cs e)) = .ok (.slice a' (n + 1) cap') w' ∧ Sub w' e size a' (n + 1) cap' (vs ++ cs.toList) ∧ Keep (fun b => blk a = some b) w w' ∧ (∀ b, blk a' = some b → blk a = some b ∨ w.heap.size ≤ b) := by
  have hq : Q w (w.alloc (.cells cs e)) := (Q.refl w).alloc _
  have hg : (w.alloc (.cells cs e)).heap[w.heap.size]? = some (.cells cs e (0, 0)) := heap_alloc_new w _
  have hsrc : ∀ j u, cs.toList[j]? = some u → (w.alloc (.cells cs e)).cell? ((⟨w.heap.size, 0, none⟩ : Addr).add j) = some u := by
    intro j u hj
    rw [addr_add, cell_of_row _ _ _ _ e (0, 0) hg, Nat.zero_add]
    simpa using hj
  have hmul : (n + 1 + (n + 1) / 4 + 192) * by_ ≤ 281474976710656 := Nat.le_trans (Nat.mul_le_mul_left _ hby) (by omega)
  obtain ⟨a', cap', w', hr, h1, h2, h3⟩ := sub_append (P := Try.prog) (ty := t) ht hi hz0 hz1 hz2 hzs (Sub.q' hs hq) (Src.ofSlice _ ht ⟨w.heap.size, 0, none⟩ 1 1 cs.toList (by simp [hc]) hsrc hv) (by unfold maxLen; omega) hmul
  refine ⟨a', cap', w', hr, h1, (Keep.ofQ hq).trans h2, fun b hb => ?_⟩
  rcases h3 with h | h
  · exact .inl (by rw [← h]; exact hb)
  · rw [h] at hb
    simp at hb
    right
    have := hq.size
    omega
/-- A row of fields. -/
abbrev Fd := ByteArray × ByteArray
def fcl (p : Fd) : List Value := [.string p.1, .string p.2]
def RowG (w : World) (x : Sv) (l : List Fd) : Prop := Sub w 23 2 x.a x.n x.c (l.flatMap fcl)
theorem fcl_len (l : List Fd) : (l.flatMap fcl).length = l.length * 2 := by
  induction l with
  | nil => rfl
  | cons x r ih => rw [List.flatMap_cons, List.length_append, ih, List.length_cons]; simp [fcl]; omega
theorem fcl_get {l : List Fd} {k : Nat} {p : Fd} (h : l[k]? = some p) : (l.flatMap fcl)[k * 2]? = some (.string p.1) ∧ (l.flatMap fcl)[k * 2 + 1]? = some (.string p.2) := by
  induction l generalizing k with
  | nil => cases h
  | cons x r ih =>
    cases k with
    | zero => simp at h; subst h; exact ⟨rfl, rfl⟩
    | succ k =>
      have := ih (k := k) (by simpa using h)
      rw [List.flatMap_cons, List.getElem?_append_right (by simp [fcl]; omega), List.getElem?_append_right (by simp [fcl]; omega)]
      simp only [fcl, List.length_cons, List.length_nil]
      rw [show (k + 1) * 2 - (0 + 1 + 1) = k * 2 by omega, show (k + 1) * 2 + 1 - (0 + 1 + 1) = k * 2 + 1 by omega]
      exact this
theorem RowG.len {w : World} {x : Sv} {l : List Fd} (h : RowG w x l) : l.length = x.n := by
  have := Sub.len h
  rw [fcl_len] at this
  omega
theorem RowG.q {w w' : World} {x : Sv} {l : List Fd} (h : RowG w x l) (k : Q w w') : RowG w' x l := Sub.q' h k
theorem RowG.get {w : World} {x : Sv} {l : List Fd} (h : RowG w x l) {k : Nat} {p : Fd} (hk : l[k]? = some p) : ∃ g off, x.a = some ⟨g, off, none⟩ ∧ w.cell? ⟨g, off + k * 2, none⟩ = some (.string p.1) ∧ w.cell? ⟨g, off + k * 2 + 1, none⟩ = some (.string p.2) := by
  have hl := h.len
  have hkl := (List.getElem?_eq_some_iff.1 hk).1
  obtain ⟨_, h0 | ⟨g, off, cur, ha, hg, h1, h2, h3, h4⟩⟩ := h
  · omega
  · obtain ⟨e1, e2⟩ := fcl_get hk
    refine ⟨g, off, ha, ?_, ?_⟩
    · rw [cell_of_row w g _ cur 23 (0, 0) hg, h4 (k * 2) (by omega), e1]
    · rw [Nat.add_assoc, cell_of_row w g _ cur 23 (0, 0) hg, h4 (k * 2 + 1) (by omega), e2]
theorem info23 : (Try.prog.info? 23).map (fun i => (i.zero, i.size, i.bytes)) = some (some (.agg #[.string ⟨#[]⟩, .string ⟨#[]⟩]), 2, 32) := by kernel_rfl
theorem rowG_one {w : World} {d : Sv} {l : List Fd} (p : Fd) (h : RowG w d l) (hn : d.n ≤ 4398046511104) :
    ∃ d' w', (Builtin.append_ #[42, 42] 42 #[.slice d.a d.n d.c, .slice (some ⟨w.heap.size, 0, none⟩) 1 1]).run Try.prog (w.alloc (.cells #[.string p.1, .string p.2] 23)) = .ok (.slice d'.a d'.n d'.c) w' ∧ RowG w' d' (l ++ [p]) ∧ Keep (fun b => blk d.a = some b) w w' ∧ (∀ b, blk d'.a = some b → blk d.a = some b ∨ w.heap.size ≤ b) := by
  obtain ⟨i0, hi, hz0, hz1, hz2⟩ := info_parts info23
  obtain ⟨a', c', w', h1, h2, h3, h4⟩ := app_st (cs := #[.string p.1, .string p.2]) Try.underlying42 hi hz0 hz1 hz2 (by omega) rfl rfl (by intro v hv; simp at hv; rcases hv with rfl | rfl <;> rfl) h hn
  exact ⟨⟨a', d.n + 1, c'⟩, w', h1, by show Sub _ _ _ _ _ _ (List.flatMap fcl _); rw [List.flatMap_append]; exact h2, h3, h4⟩
theorem mid_run (zs : List Int) (a b : Nat) (h : a ≤ b) (hb : b ≤ zs.length) (W : World) : (Instr.slice 9 (.string (strOfNums zs)) (some (.int .i64 (a : Int))) (some (.int .i64 (b : Int))) none).run Try.prog W = .ok (.string (strOfNums ((zs.drop a).take (b - a)))) W := by
  have hs : (strOfNums zs).size = zs.length := str_len zs
  rw [run_slice_string W 9 _ .i64 .i64 a b (by kernel_rfl) (by omega) (by omega) (by rw [hs]; omega)]
  congr 2
  apply ByteArray.ext
  rw [ByteArray.data_extract]
  simp [strOfNums, List.map_take, List.map_drop, List.extract_eq_take_drop]
/-- The fields that have been read. -/
def gs (l : List (List Int × List Int)) : List Fd := l.map fun p => (strOfNums p.1, strOfNums p.2)
theorem gs_snoc (l : List (List Int × List Int)) (p : List Int × List Int) : gs (l ++ [p]) = gs l ++ [(strOfNums p.1, strOfNums p.2)] := by simp [gs]
theorem tbA_step (i y : Nat) (hy : stT[i]? = some (y : Int)) : tbA (i + 1) = tbS (tbA i) i (y : Int) := by
  rw [tbA, List.getD_eq_getElem?_getD, hy]; rfl
structure TbI (w : World) (i : Nat) (x : Sv) (f : Int) (b : Int) (wr : World) : Prop where
  q : Q w wr
  r : RowG wr x (gs (tbA i).fs)
  n : New w.heap.size x
  f : f = ((tbA i).fr : Nat)
  b : b = (tbA i).bl
theorem stT_eq : (⟨(strOfNums stT).data⟩ : ByteArray) = strOfNums stT := rfl
set_option maxHeartbeats 16000000 in
theorem table_any (w : World) : Calls Try.prog 12 #[] w fun e w' => ∃ x : Sv, e = .returned (.slice x.a x.n x.c) ∧ Q w w' ∧ RowG w' x (gs (tbA 549).fs) := by
  have hsz : (strOfNums stT).size = 549 := by rw [str_len, stT_len]
  have HI := hid (fun (i y : Nat) (h : stT[i]? = some (y : Int)) (hy : y < 256) => str_get h hy .i64)
  have HM := hid (fun a b h hb W => mid_run stT a b h (by rw [stT_len]; exact hb) W)
  go_enter Try.func12, Try.ntmps12
  go_wp2_with fail
  generalize hL : Value.string _ = L
  have eL : L = .string (strOfNums stT) := hL.symm.trans (by kernel_rfl)
  clear hL
  subst eL
  generalize strOfNums stT = s at *
  go_loopw [2, 3, 4, 5] (fun o f b i wr => ∃ (k : Nat) (x : Sv) (f' b' : Int), k ≤ 549 ∧ o = .slice x.a x.n x.c ∧ f = .int .i64 f' ∧ b = .int .i64 b' ∧ i = .int .i64 (k : Int) ∧ TbI w k x f' b' wr) (fun _ _ _ i _ => (549 - intOf i).toNat)
  case atStart => exact ⟨0, ⟨none, 0, 0⟩, 0, -1, by omega, rfl, rfl, rfl, rfl, Q.refl w, sub_nil _ _ _, (fun b e => by cases e), rfl, rfl⟩
  case round =>
    obtain ⟨k, ⟨xa, xn, xc⟩, f, b, hk, rfl, rfl, rfl, rfl, hT⟩ := hrel
    by_cases hlt : k < 549
    · have hok := tb_ok k (by omega)
      obtain ⟨y, hy⟩ : ∃ y : Nat, stT[k]? = some (y : Int) ∧ y < 256 := by
        have h1 : k < stT.length := by rw [stT_len]; exact hlt
        have h2 := stT_b stT[k] (List.getElem_mem h1)
        exact ⟨stT[k].toNat, by rw [List.getElem?_eq_getElem h1, Int.toNat_of_nonneg h2.1], by omega⟩
      have hix := HI.out k y hy.1 hy.2
      have hst := tbA_step k y hy.1
      have hf := hT.f
      have hb := hT.b
      have hqq := hT.q
      have hrr := hT.r
      have hnn := hT.n
      clear hT HI
      have hki : (k : Int) < 549 := by omega
      generalize tbA k = T at *
      generalize hT2 : tbA (k + 1) = T2 at *
      obtain ⟨fs, fr, bl⟩ := T
      simp only [tbOk, Bool.and_eq_true, Bool.or_eq_true, decide_eq_true_eq] at hok
      dsimp only at hf hb hrr
      subst hf
      replace hb := hb.symm
      subst hb
      have HQ := hid hqq
      have HR := hid hrr
      have HN := hid hnn
      have HT2 := hid hT2
      have HK := hid hk
      have hlx : fs.length = xn := by have := hrr.len; simpa [gs] using this
      clear hqq hrr hnn hT2 hk
      obtain ⟨⟨ho1, ho2⟩, ho3⟩ := hok
      have hlt2 : (k : Int) + 1 ≤ 549 := by omega
      by_cases h10 : y = 10
      · subst h10
        rcases ho2 with hbm | ⟨hb1, hb2⟩
        · subst hbm
          have hm := HM.out fr k ho1 (by omega)
          have HST := hid (show T2 = ⟨fs ++ [((stT.drop fr).take (k - fr), [])], k + 1, -1⟩ by rw [hst]; rfl)
          clear hst hy
          generalize hsl : strOfNums ((stT.drop fr).take (k - fr)) = sl at *
          have HSL := hid hsl
          clear hsl HM
          obtain ⟨⟨za, zn, zc⟩, w5, hrun, hrow, hkp, hbb⟩ := rowG_one (w := wr.alloc (.cells #[.string sl, .string ⟨#[]⟩] 23)) (sl, ⟨#[]⟩) (HR.out.q ((Q.refl wr).alloc _)) (by show xn ≤ _; omega)
          dsimp only at hrun
          rw [World.size_alloc] at hrun
          have X5 := hid (new_step' rfl (HQ.out.alloc (.cells #[.string sl, .string ⟨#[]⟩] 23)) HN.out hkp hbb)
          have R5 := hid hrow
          clear hrow hkp hbb
          go_wp2_with (at_builtin; refine Lib.wpList_append_run _ rfl _ _ _ _ rfl _ _ rfl rfl _ _ hrun ?_)
          go_roundw
          case rel => exact ⟨k + 1, ⟨za, zn, zc⟩, _, _, by omega, rfl, rfl, rfl, by go_num, X5.out.1, by rw [HT2.out, HST.out]; dsimp only; rw [gs_snoc]; rw [HSL.out, ← str_empty]; exact R5.out, X5.out.2, by rw [HT2.out, HST.out]; go_num, by rw [HT2.out, HST.out]⟩
          case measure => simp [intOf]; omega
        · obtain ⟨b, rfl⟩ : ∃ b : Nat, bl = (b : Int) := ⟨bl.toNat, by omega⟩
          have hm := HM.out fr b (by omega) (by omega)
          have hm2 := HM.out (b + 1) k (by omega) (by omega)
          have hm0 := HM.out fr k ho1 (by omega)
          rw [show ((b + 1 : Nat) : Int) = (b : Int) + 1 by omega] at hm2
          have HST := hid (show T2 = ⟨fs ++ [((stT.drop fr).take (b - fr), (stT.drop (b + 1)).take (k - (b + 1)))], k + 1, -1⟩ by rw [hst]; simp [tbS])
          clear hst hy
          generalize hsl : strOfNums ((stT.drop fr).take (b - fr)) = sl at *
          generalize hsv : strOfNums ((stT.drop (b + 1)).take (k - (b + 1))) = sv at *
          generalize strOfNums ((stT.drop fr).take (k - fr)) = s0 at *
          have HSL := hid hsl
          have HSV := hid hsv
          clear hsl hsv HM
          have hb0 : (0 : Int) ≤ (b : Int) := by omega
          have hbk : (b : Int) + 1 ≤ 9223372036854775807 := by omega
          obtain ⟨⟨za, zn, zc⟩, w5, hrun, hrow, hkp, hbb⟩ := rowG_one (w := (wr.alloc (.cells #[.string sl, .string sv] 23)).drew) (sl, sv) (HR.out.q ((Q.refl wr).alloc _).drew) (by show xn ≤ _; omega)
          dsimp only at hrun
          have e9 : (World.drew (wr.alloc (.cells #[.string sl, .string sv] 23))).heap.size = wr.heap.size + 1 := World.size_alloc _ _
          rw [e9] at hrun
          have X5 := hid (new_step' rfl (HQ.out.alloc (.cells #[.string sl, .string sv] 23)).drew HN.out hkp hbb)
          have R5 := hid hrow
          clear hrow hkp hbb e9
          go_wp2_with fail
          go_region
          go_wp2_with (at_builtin; refine Lib.wpList_append_run _ rfl _ _ _ _ rfl _ _ rfl rfl _ _ hrun ?_)
          go_roundw
          case rel => exact ⟨k + 1, ⟨za, zn, zc⟩, _, _, by omega, rfl, rfl, rfl, by go_num, X5.out.1, by rw [HT2.out, HST.out]; dsimp only; rw [gs_snoc]; rw [HSL.out, HSV.out]; exact R5.out, X5.out.2, by rw [HT2.out, HST.out]; go_num, by rw [HT2.out, HST.out]⟩
          case measure => simp [intOf]; omega
      · have hyb : ((y : Int) == 10) = false := by simp; omega
        have hyb' : ¬ (y : Int) = 10 := by omega
        by_cases h32 : y = 32 ∧ bl < 0
        · obtain ⟨rfl, hbl⟩ := h32
          have HST := hid (show T2 = ⟨fs, fr, (k : Int)⟩ by rw [hst]; simp [tbS, hbl])
          clear hst hy HM
          go_wp2
          go_roundw
          case rel => exact ⟨k + 1, ⟨xa, xn, xc⟩, _, _, by omega, rfl, rfl, rfl, by go_num, HQ.out, by rw [HT2.out, HST.out]; exact HR.out, HN.out, by rw [HT2.out, HST.out], by rw [HT2.out, HST.out]⟩
          case measure => simp [intOf]; omega
        · have HST := hid (show T2 = ⟨fs, fr, bl⟩ by
            rw [hst]
            have h1 : ¬ ((y : Int) = 32 ∧ bl < 0) := fun h => h32 ⟨by omega, h.2⟩
            simp only [tbS, h1, hyb', if_false])
          have HIN := hid (show TbI w (k + 1) ⟨xa, xn, xc⟩ ((fr : Nat) : Int) bl wr from ⟨HQ.out, by rw [HT2.out, HST.out]; exact HR.out, HN.out, by rw [HT2.out, HST.out], by rw [HT2.out, HST.out]⟩)
          clear hst hy HM
          by_cases hy32 : y = 32
          · subst hy32
            have hbl : ¬ bl < 0 := fun h => h32 ⟨rfl, h⟩
            go_wp2
            go_roundw
            case rel => exact ⟨k + 1, ⟨xa, xn, xc⟩, _, _, by omega, rfl, rfl, rfl, by go_num, HIN.out⟩
            case measure => simp [intOf]; omega
          · have hy32b : ((y : Int) == 32) = false := by simp; omega
            have hy32' : ¬ (y : Int) = 32 := by omega
            go_wp2
            go_roundw
            case rel => exact ⟨k + 1, ⟨xa, xn, xc⟩, _, _, by omega, rfl, rfl, rfl, by go_num, HIN.out⟩
            case measure => simp [intOf]; omega
    · obtain rfl : k = 549 := by omega
      go_wp2
      go_ret
      exact ⟨⟨xa, xn, xc⟩, rfl, hT.q, hT.r⟩
theorem results6 (tmps : Array Value) (w : World) (rb : Nat) (x y : ByteArray) (b : Bool) (h2 : tmps.getD 2 undef = .pointer (some ⟨rb, 0, none⟩)) (h3 : tmps.getD 3 undef = .bool b) (hb : w.heap[rb]? = some (.cells #[.string x, .string y] 23 (0, 0))) :
    (results Try.f6 tmps).run Try.prog w = .ok (.tuple #[.agg #[.string x, .string y], .bool b]) w := by
  have h2' : tmps[2]?.getD undef = .pointer (some ⟨rb, 0, none⟩) := by simpa using h2
  have h3' : tmps[3]?.getD undef = .bool b := by simpa using h3
  have c0 : w.cell? ⟨rb, 0, none⟩ = some (.string x) := by rw [cell_of_row w rb 0 _ 23 (0, 0) hb]; rfl
  have c1 : w.cell? ⟨rb, 1, none⟩ = some (.string y) := by rw [cell_of_row w rb 1 _ 23 (0, 0) hb]; rfl
  simp [results, Try.f6, go_sem, h2', h3', c0, c1]
set_option maxHeartbeats 4000000 in
theorem rstatic_any (n : Int) (w : World) : Calls Try.prog 6 #[.int .i64 n] w fun e w' => e = stAns n ∧ Q w w' := by
  have HT := hid (fun u => table_any u)
  rw [tb_end] at HT
  by_cases hn : 0 ≤ n ∧ n < 40
  · obtain ⟨k, rfl⟩ : ∃ k : Nat, n = (k : Int) := ⟨n.toNat, by omega⟩
    have hk : k < 40 := by omega
    have HA := hid (show .returned (.tuple #[fldV (stN k) (stV k), .bool true]) = stAns (k : Int) by unfold stAns; rw [if_pos hn, decide_eq_true hn]; rfl)
    have hl0 : ¬ (k : Int) < 0 := by omega
    have hl1 : ¬ (40 : Int) ≤ (k : Int) := by omega
    clear hn
    generalize stAns (k : Int) = A at *
    go_enter Try.func6, Try.ntmps6
    have HB := hid (heap_alloc_new w (.cells #[.string ⟨#[]⟩, .string ⟨#[]⟩] 23))
    have HQ := hid ((Q.refl w).alloc (.cells #[.string ⟨#[]⟩, .string ⟨#[]⟩] 23))
    go_wp2_with fail
    generalize hW : World.alloc w _ = W0 at *
    clear hW
    refine (HT.out _).mono ?_
    rintro e w1 ⟨⟨xa, xn, xc⟩, rfl, q1, r1⟩
    have hxn : xn = 40 := by have := r1.len; simpa [gs] using this.symm
    subst hxn
    obtain ⟨g, off, hxa, g0, g1⟩ := r1.get (k := k) (p := (strOfNums (stN k), strOfNums (stV k))) (by simp [gs, hk])
    dsimp only at hxa
    subst hxa
    have B1 := hid (blk_q q1 HB.out)
    have Q1 := hid (HQ.out.trans q1)
    have b0 : w1.cell? ⟨w.heap.size, 0, none⟩ = some (.string ⟨#[]⟩) := by rw [cell_of_row w1 _ 0 _ 23 (0, 0) B1.out]; rfl
    have b1 : w1.cell? ⟨w.heap.size, 1, none⟩ = some (.string ⟨#[]⟩) := by rw [cell_of_row w1 _ 1 _ 23 (0, 0) B1.out]; rfl
    have f0 : w1.frozen? ⟨w.heap.size, 0, none⟩ = false := frozen_of_row w1 _ 0 _ 23 B1.out
    have f1 : w1.frozen? ⟨w.heap.size, 1, none⟩ = false := frozen_of_row w1 _ 1 _ 23 B1.out
    have hk0 : (0 : Int) ≤ (k : Int) := by omega
    have hk40 : (k : Int) < 40 := by omega
    clear q1 r1 HT HB HQ
    dsimp only [fldV] at HA
    generalize strOfNums (stN k) = sn at *
    generalize strOfNums (stV k) = sv at *
    go_wp2
    have hb2 := heap_setCell_same _ w.heap.size 1 _ 23 (.string sv) (heap_setCell_same w1 w.heap.size 0 _ 23 (.string sn) B1.out)
    exact bodyPost_ret (results6 _ _ w.heap.size sn sv true rfl rfl hb2) rfl ⟨HA.out, (Q1.out.setCell (p := ⟨w.heap.size, 0, none⟩) (Nat.le_refl _) _).setCell (p := ⟨w.heap.size, 1, none⟩) (Nat.le_refl _) _⟩
  · have HA := hid (show .returned (.tuple #[.agg #[.string ⟨#[]⟩, .string ⟨#[]⟩], .bool false]) = stAns n by unfold stAns; rw [if_neg hn, decide_eq_false hn, str_empty])
    have hor : n < 0 ∨ (¬ n < 0 ∧ 40 ≤ n) := by omega
    clear hn
    generalize stAns n = A at *
    go_enter Try.func6, Try.ntmps6
    have HB := hid (heap_alloc_new w (.cells #[.string ⟨#[]⟩, .string ⟨#[]⟩] 23))
    have HQ := hid ((Q.refl w).alloc (.cells #[.string ⟨#[]⟩, .string ⟨#[]⟩] 23))
    go_wp2_with fail
    generalize hW : World.alloc w _ = W0 at *
    clear hW
    refine (HT.out _).mono ?_
    rintro e w1 ⟨⟨xa, xn, xc⟩, rfl, q1, r1⟩
    have hxn : xn = 40 := by have := r1.len; simpa [gs] using this.symm
    subst hxn
    have B1 := hid (blk_q q1 HB.out)
    have Q1 := hid (HQ.out.trans q1)
    have b0 : w1.cell? ⟨w.heap.size, 0, none⟩ = some (.string ⟨#[]⟩) := by rw [cell_of_row w1 _ 0 _ 23 (0, 0) B1.out]; rfl
    have b1 : w1.cell? ⟨w.heap.size, 1, none⟩ = some (.string ⟨#[]⟩) := by rw [cell_of_row w1 _ 1 _ 23 (0, 0) B1.out]; rfl
    have f0 : w1.frozen? ⟨w.heap.size, 0, none⟩ = false := frozen_of_row w1 _ 0 _ 23 B1.out
    have f1 : w1.frozen? ⟨w.heap.size, 1, none⟩ = false := frozen_of_row w1 _ 1 _ 23 B1.out
    clear q1 r1 HT HB HQ
    have hb2 := heap_setCell_same _ w.heap.size 1 _ 23 (.string ⟨#[]⟩) (heap_setCell_same w1 w.heap.size 0 _ 23 (.string ⟨#[]⟩) B1.out)
    have HB2 := hid hb2
    clear hb2
    rcases hor with h | ⟨h, h'⟩ <;> go_wp2
    all_goals exact bodyPost_ret (results6 _ _ w.heap.size ⟨#[]⟩ ⟨#[]⟩ false rfl rfl HB2.out) rfl ⟨HA.out, (Q1.out.setCell (p := ⟨w.heap.size, 0, none⟩) (Nat.le_refl _) _).setCell (p := ⟨w.heap.size, 1, none⟩) (Nat.le_refl _) _⟩
end Go.Proofs.Ytehejibllkmflaa
