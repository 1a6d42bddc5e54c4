/-
  What shake's say does: a contract that the statements' walks use.
-/
import Derived.Test.YtekpepnonhbkcaaShF
namespace Go.Proofs.Ytekpepnonhbkcaa
open Go.RowKit
set_option linter.unusedVariables false
set_option maxRecDepth 20000

def con (F : Fl) : Int × List Int := (F.lv, F.z)
/-- A message behind what is to be said: with the last flight, or with one of its own. -/
def addC (cs : List (Int × List Int)) (lv : Int) (ms : List Int) : List (Int × List Int) :=
  match cs.getLast? with
  | some x => if x.1 = lv then cs.dropLast ++ [(x.1, x.2 ++ ms)] else cs ++ [(lv, ms)]
  | none => cs ++ [(lv, ms)]
/-- What say leaves. -/
def Saying (w : World) (B sb : Nat) (S : Sh) (sd : List Int) (Fs : List Fl) (lv : Int) (ms : List Int) (w' : World) : Prop :=
  ∃ (x o : Sv) (Gs : List Fl), Sd w' B sb { S with said := x, out := o } (sd ++ ms) Gs ∧ Gs.map con = addC (Fs.map con) lv ms ∧ Keep (Mine sb S Fs) w w' ∧ ∀ b, Mine sb { S with said := x, out := o } Gs b → Mine sb S Fs b ∨ w.heap.size ≤ b
theorem say2 {w w2 w4 : World} {M0 M1 M2 : Nat → Prop} (k1 : Keep M0 w w2) (u1 : ∀ b, M1 b → M0 b ∨ w.heap.size ≤ b) (k2 : Keep M1 w2 w4) (u2 : ∀ b, M2 b → M1 b ∨ w2.heap.size ≤ b) : Keep M0 w w4 ∧ ∀ b, M2 b → M0 b ∨ w.heap.size ≤ b := by
  refine ⟨k1.trans' k2 (fun i hi m => ?_), fun b m => ?_⟩
  · rcases u1 i m with h | h
    · exact h
    · omega
  · have := k1.size
    rcases u2 b m with h | h
    · exact u1 b h
    · exact .inr (by omega)
theorem say3 {w w2 w4 w6 : World} {M0 M1 M2 M3 : Nat → Prop} (k1 : Keep M0 w w2) (u1 : ∀ b, M1 b → M0 b ∨ w.heap.size ≤ b) (k2 : Keep M1 w2 w4) (u2 : ∀ b, M2 b → M1 b ∨ w2.heap.size ≤ b) (k3 : Keep M2 w4 w6) (u3 : ∀ b, M3 b → M2 b ∨ w4.heap.size ≤ b) : Keep M0 w w6 ∧ ∀ b, M3 b → M0 b ∨ w.heap.size ≤ b :=
  say2 (say2 k1 u1 k2 u2).1 (say2 k1 u1 k2 u2).2 k3 u3
theorem wrapn (n : Nat) (h : n ≤ 100000) : IntKind.i64.wrap (n : Int) = (n : Int) := by simp only [IntKind.wrap, IntKind.bits, IntKind.signed]; simp; omega
set_option maxHeartbeats 8000000 in
theorem say_any (B sb : Nat) (S : Sh) (sd : List Int) (Fs : List Fl) (lv : Int) (m : Sv) (ms : List Int) (w : World) (h : Sd w B sb S sd Fs) (hm : Seg w m.a ms) (hl : ms.length = m.n) (hmb : ∀ b, blk m.a = some b → b < w.heap.size ∧ ¬ Mine sb S Fs b)
    (hn : S.said.n + m.n ≤ 1000000) (hf : Fs.length ≤ 1000) (hz : ∀ F ∈ Fs, F.d.n + m.n ≤ 1000000) :
    Calls Try.prog 25 #[.pointer (some ⟨sb, 0, none⟩), .int .i64 lv, .slice m.a m.n m.c] w fun e w' => e = .returned (.tuple #[]) ∧ Saying w B sb S sd Fs lv ms w' := by
  obtain ⟨x, w1, hrun, ha1, hsd, hk, hmi⟩ := h.up hm hl hn
  have HU := hid hmi
  have c39 := h.at_.said
  have d39 := ha1.said
  have f39 := ha1.free 39
  have hm1 : Seg (w1.setCell ⟨sb, 39, none⟩ (.slice x.a x.n x.c)) m.a ms := hm.keep hk (fun b e => (hmb b e).2)
  have hmn : m.n ≤ 1000000 := by omega
  have HMB := hid hmb
  have HN := hid (RowF.len h.fr)
  have HL := hid hl
  have HF := hid hf
  have HZ := hid hz
  have HSZ := hid hk.size
  clear hmb hl hf hz hmi ha1 h hm hn
  obtain ⟨ma, mn, mc⟩ := m
  obtain ⟨xa, xn, xc⟩ := x
  dsimp only at *
  generalize hsv : S.said = sv at c39 d39 hrun
  obtain ⟨sa, sn, sc⟩ := sv
  dsimp only at *
  generalize hw2 : w1.setCell ⟨sb, 39, none⟩ (.slice xa xn xc) = w2 at *
  have c62 := hsd.at_.out
  have f62 := hsd.at_.free 62
  dsimp only at c62
  have HD := hid hsd
  have HK := hid hk
  have HM := hid hm1
  clear hsd hk hm1
  have HW2 := hid hw2
  clear hw2
  rcases List.eq_nil_or_concat Fs with rfl | ⟨Gs, F, rfl⟩
  · have h0 : S.out.n = 0 := by have := HN.out; simpa using this.symm
    obtain ⟨y, w3, hr3, ha3, hsd3, hk3, hmi3⟩ := HD.out.flight lv (by have h1 := HN.out; have h2 := HF.out; show S.out.n ≤ 1000; omega)
    have d62 := ha3.out
    have f62 := ha3.free 62
    have hm3 : Seg (w3.setCell ⟨sb, 62, none⟩ (.slice y.a y.n y.c)) ma ms := HM.out.keep hk3 (fun b e h => by
      rcases HU.out b h with h1 | h1
      · exact (HMB.out b e).2 h1
      · have := (HMB.out b e).1
        omega)
    generalize hov : S.out = ov at c62 h0 hr3 d62
    have HOV := hid hov
    clear hov
    obtain ⟨oa, on, oc⟩ := ov
    dsimp only at *
    subst h0
    obtain ⟨ya, yn, yc⟩ := y
    dsimp only at *
    generalize hw4 : w3.setCell ⟨sb, 62, none⟩ (.slice ya yn yc) = w4 at *
    have HW4 := hid hw4
    have HS3 := hid hsd3
    have HK3 := hid hk3
    have HU3 := hid hmi3
    clear hw4 hsd3 hk3 hmi3 ha3
    go_enter Try.func25, Try.ntmps25
    go_upto_region 1 with (at_builtin; refine Lib.wpList_append_run _ rfl _ _ _ _ rfl _ _ rfl rfl _ _ hrun ?_)
    rw [HW2.out]
    clear hrun c39 d39 f39
    go_upto_region 3 with fail
    have HM3 := hid hm3
    clear hm3
    go_upto_region 5 with (at_builtin; refine Lib.wpList_append_run _ rfl _ _ _ _ rfl _ _ rfl rfl _ _ hr3 ?_)
    rw [HW4.out]
    obtain ⟨g, off, z, w5, ha, hkn, y1, y2, y3, y4, y5, y6, y7, hsd5, hk5, hmi5⟩ := HS3.out.push (m := ⟨ma, mn, mc⟩) HM3.out HL.out (by show 0 + mn ≤ 1000000; omega)
    subst ha
    dsimp only at y1 y2 y3 y4 y5 y6 y7 hkn
    have HX := hid (show Saying w B sb S sd [] lv ms (w5.setCell ⟨g, off + [].length * 2 + 1, none⟩ (.slice z.a z.n z.c)) from ⟨⟨xa, xn, xc⟩, ⟨some ⟨g, off, none⟩, yn, yc⟩, _, hsd5, by simp [addC, con], (say3 HK.out HU.out HK3.out HU3.out hk5 hmi5).1, (say3 HK.out HU.out HK3.out HU3.out hk5 hmi5).2⟩)
    clear hsd5 hk5 hmi5
    generalize hR : Code.region 5 _ true = C
    have eR : C = Code.region 5 (RofN Try.f25 5) true := hR.symm.trans (by kernel_rfl)
    clear hR
    subst eR
    refine wp_region_noPanic ?_
    refine rg5 sb g off [].length ⟨some ⟨g, off, none⟩, yn, yc⟩ ⟨ma, mn, mc⟩ nilS w4 _ (fun c a d v w h => h) z w5 hkn y1 y2 y3 y4 y5 y6 y7 ?_
    refine NoPanic.normal ?_
    go_end0
    exact ⟨rfl, HX.out⟩
  · rw [List.concat_eq_append] at *
    have h0 : S.out.n = Gs.length + 1 := by have := HN.out; rw [List.length_append, List.length_singleton] at this; omega
    obtain ⟨g0, off0, hoa, _, hcl⟩ := Sub.some_ HD.out.fr (by show 0 < S.out.n; omega)
    have cl := hcl (Gs.length * 2) (.int .i64 F.lv) (by rw [flv_app, flv_one, List.getElem?_append_right (by rw [flv_len]; omega), flv_len, Nat.sub_self]; rfl)
    clear hcl
    have hgk : Gs.length ≤ 1000 := by have := HF.out; rw [List.length_append, List.length_singleton] at this; omega
    have wk := wrapn Gs.length (by omega)
    have wk1 : IntKind.i64.wrap ((Gs.length : Int) + 1) = (Gs.length : Int) + 1 := by simp only [IntKind.wrap, IntKind.bits, IntKind.signed]; simp; omega
    have HLE := hid (show (Gs ++ [F]).length = Gs.length + 1 by simp)
    have hoa' : S.out.a = some ⟨g0, off0, none⟩ := hoa
    rw [hoa', h0] at c62
    have hk0 : (0 : Int) ≤ (Gs.length : Int) := by omega
    have hk1 : (Gs.length : Int) < (Gs.length : Int) + 1 := by omega
    have hk2 : decide ((Gs.length : Int) < 0) = false := by simp
    have H0 := hid h0
    have HOA := hid hoa'
    clear hoa hoa'
    by_cases hlv : F.lv = lv
    · have HLV := hid hlv
      have hb : (F.lv != lv) = false := by simpa using hlv
      clear hlv
      go_enter Try.func25, Try.ntmps25
      go_upto_region 1 with (at_builtin; refine Lib.wpList_append_run _ rfl _ _ _ _ rfl _ _ rfl rfl _ _ hrun ?_)
      rw [HW2.out]
      clear hrun c39 d39 f39 h0
      go_upto_region 5 with fail
      obtain ⟨g, off, z, w5, ha, hkn, y1, y2, y3, y4, y5, y6, y7, hsd5, hk5, hmi5⟩ := HD.out.push (m := ⟨ma, mn, mc⟩) HM.out HL.out (HZ.out F (by simp))
      dsimp only at y1 y2 y3 y4 y5 y6 y7 hkn
      have HX := hid (show Saying w B sb S sd (Gs ++ [F]) lv ms (w5.setCell ⟨g, off + Gs.length * 2 + 1, none⟩ (.slice z.a z.n z.c)) from ⟨⟨xa, xn, xc⟩, S.out, _, hsd5, by simp [addC, con, HLV.out], (say2 HK.out HU.out hk5 hmi5).1, (say2 HK.out HU.out hk5 hmi5).2⟩)
      clear hsd5 hk5 hmi5
      generalize hR : Code.region 5 _ true = C
      have eR : C = Code.region 5 (RofN Try.f25 5) true := hR.symm.trans (by kernel_rfl)
      clear hR
      subst eR
      refine wp_region_noPanic ?_
      refine rg5 sb g off Gs.length S.out ⟨ma, mn, mc⟩ F.d w2 _ (fun c a d v w h => h) z w5 hkn y1 y2 y3 y4 y5 y6 y7 ?_
      refine NoPanic.normal ?_
      go_end0
      exact ⟨rfl, HX.out⟩
    · have HLV := hid hlv
      have hb : (F.lv != lv) = true := by simpa using hlv
      clear hlv
      obtain ⟨y, w3, hr3, ha3, hsd3, hk3, hmi3⟩ := HD.out.flight lv (by have h1 := HN.out; have h2 := HF.out; show S.out.n ≤ 1000; omega)
      have d62 := ha3.out
      have f62 := ha3.free 62
      have hm3 : Seg (w3.setCell ⟨sb, 62, none⟩ (.slice y.a y.n y.c)) ma ms := HM.out.keep hk3 (fun b e h => by
        rcases HU.out b h with h1 | h1
        · exact (HMB.out b e).2 h1
        · have := (HMB.out b e).1
          omega)
      rw [HOA.out, H0.out] at hr3 d62
      obtain ⟨ya, yn, yc⟩ := y
      dsimp only at *
      generalize hw4 : w3.setCell ⟨sb, 62, none⟩ (.slice ya yn yc) = w4 at *
      have HW4 := hid hw4
      have HS3 := hid hsd3
      have HK3 := hid hk3
      have HU3 := hid hmi3
      clear hw4 hsd3 hk3 hmi3 ha3
      go_enter Try.func25, Try.ntmps25
      go_upto_region 1 with (at_builtin; refine Lib.wpList_append_run _ rfl _ _ _ _ rfl _ _ rfl rfl _ _ hrun ?_)
      rw [HW2.out]
      clear hrun c39 d39 f39
      go_upto_region 3 with fail
      have HM3 := hid hm3
      clear hm3
      clear h0
      go_upto_region 5 with (at_builtin; refine Lib.wpList_append_run _ rfl _ _ _ _ rfl _ _ rfl rfl _ _ hr3 ?_)
      rw [HW4.out]
      obtain ⟨g, off, z, w5, ha, hkn, y1, y2, y3, y4, y5, y6, y7, hsd5, hk5, hmi5⟩ := HS3.out.push (m := ⟨ma, mn, mc⟩) HM3.out HL.out (by show 0 + mn ≤ 1000000; omega)
      subst ha
      dsimp only at y1 y2 y3 y4 y5 y6 y7 hkn
      have HX := hid (show Saying w B sb S sd (Gs ++ [F]) lv ms (w5.setCell ⟨g, off + (Gs ++ [F]).length * 2 + 1, none⟩ (.slice z.a z.n z.c)) from ⟨⟨xa, xn, xc⟩, ⟨some ⟨g, off, none⟩, yn, yc⟩, _, hsd5, by simp [addC, con, HLV.out], (say3 HK.out HU.out HK3.out HU3.out hk5 hmi5).1, (say3 HK.out HU.out HK3.out HU3.out hk5 hmi5).2⟩)
      clear hsd5 hk5 hmi5
      generalize hR : Code.region 5 _ true = C
      have eR : C = Code.region 5 (RofN Try.f25 5) true := hR.symm.trans (by kernel_rfl)
      clear hR
      subst eR
      refine wp_region_noPanic ?_
      rw [HLE.out] at hkn y2 y5 y6 y7 HX
      refine rg5 sb g off (Gs.length + 1) ⟨some ⟨g, off, none⟩, yn, yc⟩ ⟨ma, mn, mc⟩ nilS w4 _ (fun c a d v w h => h) z w5 hkn y1 y2 y3 y4 y5 y6 y7 ?_
      refine NoPanic.normal ?_
      go_end0
      exact ⟨rfl, HX.out⟩
end Go.Proofs.Ytekpepnonhbkcaa
