/-
  A header that is built is read back from its bytes with as many bytes behind it as it says, whatever these are.
-/
import Derived.Test.YtbhhajmfdffdbaaRows
import Derived.Test.YtbhhajmfdffdbaaAwake
import Derived.Test.YtbhhajmfdffdbaaBld
import Derived.Test.YtbhhajmfdffdbaaSameH
import Derived.Test.YtbhhajmfdffdbaaCpd
import Derived.Test.YtbhhajmfdffdbaaOpenH
import Derived.Test.YtbhhajmfdffdbaaBackM
import Derived.Test.YtbhhajmfdffdbaaJnW
import Derived.Test.YtbhhajmfdffdbaaWPar
import Derived.Test.YtbhhajmfdffdbaaBReg
import Derived.WalkKit
import Derived.ProofKit
import Derived.OpenShut
import Derived.ShutString
import Derived.ChangeOld
import Derived.Below
import Derived.SizedLaws
import Derived.Deep.CutRange
import Derived.Deep.Cut
import Derived.JoinedCond
namespace Go.Proofs.Ytbhhajmfdffdbaa.headerBack
open Go.ChangeShapes Go.WideShapes Go.ChangeAt Go.RowKit
open Go.ChangeMaps (open_string shut_string)
set_option linter.unusedVariables false

theorem bldR_len (h : Hd) (width : Int) : (bldR h width).length ≤ 20000 := by
  unfold bldR
  split
  · rename_i e
    obtain ⟨h1, h2, h3, h4, h5, h6, h7⟩ := bld_ok e
    unfold bldL
    split
    · simp; omega
    · rename_i hk6
      have f1 := form_len (h.tok.length : Int)
      have f2 : (lenF h.len).length ≤ 8 := by unfold lenF; split; simp; exact form_len _
      split
      · simp; omega
      · simp; omega
  · simp
theorem lenF_bytes {n : Int} (h0 : 0 ≤ n) : ∀ y ∈ lenF n, 0 ≤ y ∧ y < 256 := by
  unfold lenF
  split
  · intro y hy; simp at hy; omega
  · exact form_bytes n
theorem bld_bytes {h : Hd} {width : Int} (e : bldE h width = 0) (bd : ∀ b ∈ h.dst, 0 ≤ b ∧ b < 256) (bs : ∀ b ∈ h.src, 0 ≤ b ∧ b < 256) (bt : ∀ b ∈ h.tok, 0 ≤ b ∧ b < 256) : ∀ y ∈ bldL h width, 0 ≤ y ∧ y < 256 := by
  intro y hy
  obtain ⟨h1, h2, h3, h4, h5, h6, h7⟩ := bld_ok e
  have ff : 0 ≤ fstB h.kind width ∧ fstB h.kind width < 256 := by unfold fstB; split <;> omega
  by_cases k6 : h.kind = 6
  · unfold bldL at hy
    rw [if_pos k6] at hy
    rcases List.mem_cons.1 hy with rfl | hy
    · exact ff
    · exact bd y hy
  · rw [bld_head h width k6] at hy
    simp only [List.mem_append, List.mem_cons, List.not_mem_nil, or_false] at hy
    rcases hy with rfl | (rfl | rfl | rfl | rfl) | (rfl | hy) | (rfl | hy) | hy | hy
    · exact ff
    · omega
    · omega
    · omega
    · omega
    · omega
    · exact bd y hy
    · omega
    · exact bs y hy
    · split at hy
      · rcases List.mem_append.1 hy with hy | hy
        · exact form_bytes _ y hy
        · exact bt y hy
      · simp at hy
    · exact lenF_bytes (by omega) y hy
theorem fst_low {kind width : Int} (h1 : 1 ≤ width) (h2 : width ≤ 4) (hk : kind = 1 ∨ kind = 2 ∨ kind = 3 ∨ kind = 6) : fstB kind width % 4 = width - 1 := by
  unfold fstB; split <;> omega
theorem u8_and3 (a : Int) (h0 : 0 ≤ a) (h : a < 256) : bits .and .u8 a 3 = a % 4 := by
  obtain ⟨x, rfl⟩ : ∃ x : Nat, a = (x : Int) := ⟨a.toNat, by omega⟩
  have := u8_and_nat x 3 (by omega) (by omega)
  rw [show ((3 : Nat) : Int) = 3 from rfl] at this
  rw [this, show x &&& 3 = x % 4 from Nat.and_two_pow_sub_one_eq_mod x 2]
  omega
theorem bld_fst (h : Hd) (width : Int) : (bldL h width).getD 0 0 = fstB h.kind width ∧ 0 < (bldL h width).length := by
  by_cases k6 : h.kind = 6
  · unfold bldL; rw [if_pos k6]; exact ⟨rfl, by simp⟩
  · rw [bld_head h width k6]; exact ⟨rfl, by simp⟩
theorem par_segs {w w' : World} {h B : Hd} {d s t v : Sv} (e : h = B) (x : Holds w.heap.size w' h d s t v) : PG w' B d s t := by
  subst e
  have r := x.reads
  exact ⟨r.ds, r.ss, r.ts, r.dl, r.sl, r.tl⟩
/-- Join and Parse, as the law calls them. -/
theorem hj (w : World) (x : Sv) (a : Option Addr) (n c : Nat) (xs zs : List Int) (hx : Ib w x xs) (hs : Seg w a zs) (hl : zs.length = n) (hb : xs.length + zs.length ≤ 140737488375808) :
    ∀ (W : World) (pb : Nat), Q w W → W.cell? ⟨pb, 0, none⟩ = some (.slice x.a x.n x.c) → W.cell? ⟨pb, 1, none⟩ = some (.slice a n c) → Calls Try.prog 21 #[.slice (some ⟨pb, 0, none⟩) 2 2] W fun e w' => ∃ r : Sv, e = .returned (.slice r.a r.n r.c) ∧ Row w' r (xs ++ zs) ∧ Q W w' := by
  intro W pb hq h0 h1
  have e : cat (fun j => if j = 0 then xs else zs) 2 = xs ++ zs := by simp [cat]
  refine (join_w pb 2 2 (fun j => if j = 0 then x else ⟨a, n, c⟩) (fun j => if j = 0 then xs else zs) W (by
    intro j hj
    rcases (show j = 0 ∨ j = 1 by omega) with rfl | rfl
    · exact h0
    · exact h1) (by
    intro j hj
    rcases (show j = 0 ∨ j = 1 by omega) with rfl | rfl
    · exact ⟨hx.s.q hq, hx.l⟩
    · exact ⟨hs.q hq, hl⟩) (by omega) (by rw [e, List.length_append]; exact hb)).mono ?_
  rintro r w1 ⟨z, rfl, q1, r1, n1⟩
  rw [e] at r1
  exact ⟨z, rfl, r1, q1⟩
theorem hp (w : World) (B : Hd) (cid p1 p2 : Int) (zj : List Int) (hz : ∀ y ∈ zj, 0 ≤ y ∧ y < 256) (hn : zj.length ≤ 140737488375808) (hv7 : zj.length ≤ 140737488355328 ∨ ∀ q, verO zj (0 + 1) ≠ .ok 0 q) (hm : parM zj cid = (B, p1, p2, 0)) :
    ∀ (W : World) (r : Sv), Q w W → Seg W r.a zj → zj.length = r.n → Calls Try.prog 10 #[.slice r.a r.n r.c, .int .i64 cid] W fun e w' => ∃ dG sG tG vG : Sv, e = .returned (.tuple #[hv B dG sG tG vG, .int .i64 p1, .int .i64 p2, .int .i64 0]) ∧ Q W w' ∧ PG w' B dG sG tG := by
  intro W r hq hs hl
  refine (Wide.parse_any r.a r.n r.c zj cid W hl hz (by omega) (by rw [← hl]; exact hv7) hs).mono ?_
  rw [hm]
  rintro e w' ⟨dG, sG, tG, vG, rfl, q, hh⟩
  exact ⟨dG, sG, tG, vG, rfl, q, par_segs rfl hh⟩
set_option maxRecDepth 20000 in
set_option maxHeartbeats 8000000 in
theorem walk_no (kd ve : Int) (dl sl tl vl : List Int) (ln : Int) (d s t v : Sv) (width : Int) (a : Option Addr) (n c : Nat) (zs : List Int) (w : World) (hf : Fit w ⟨kd, ve, dl, sl, tl, vl, ln⟩ d s t v) (bd : ∀ b ∈ dl, 0 ≤ b ∧ b < 256) (bs : ∀ b ∈ sl, 0 ≤ b ∧ b < 256) (bt : ∀ b ∈ tl, 0 ≤ b ∧ b < 256) (hl : zs.length = n) (hz : ∀ y ∈ zs, 0 ≤ y ∧ y < 256) (hn : n ≤ 140737488351232) (hs : Seg w a zs) (he : ¬ bldE ⟨kd, ve, dl, sl, tl, vl, ln⟩ width = 0) :
    Calls Try.prog 6 #[hv ⟨kd, ve, dl, sl, tl, vl, ln⟩ d s t v, .int .i64 width, .slice a n c] w fun e w' => e = .returned (.bool true) ∧ Below w.heap.size w w' := by
  have HF := hid hf
  clear hf bd bs bt hl hz hs
  go_enter Try.func6, Try.ntmps6
  go_wp2_with fail
  generalize hw0 : World.alloc w _ = w0
  have Q0 := hid (show Q w w0 from by rw [← hw0]; exact (Q.refl w).alloc _)
  have B0 := hid (show Box w0 26 w.heap.size ⟨kd, ve, dl, sl, tl, vl, ln⟩ d s t v from by rw [← hw0]; exact heap_alloc_new w _)
  clear hw0
  generalize hb0 : w.heap.size = hb at *
  refine (copied_any ⟨kd, ve, dl, sl, tl, vl, ln⟩ d s t v w0 (HF.out.q Q0.out)).mono ?_
  rintro e w1 ⟨dS, sS, tS, vS, rfl, hq1, hh1⟩
  have Q1 := hid (Q0.out.trans hq1)
  have A1 := hid (B0.out.q hq1)
  have R1 := hid hh1.reads
  clear hq1 hh1 Q0 B0
  go_wp2_with fail
  refine (build_any kd ve dl sl tl vl ln dS sS tS vS width w1 ⟨R1.out.ds, R1.out.dl⟩ ⟨R1.out.ss, R1.out.sl⟩ ⟨R1.out.ts, R1.out.tl⟩).mono ?_
  rintro e w3 ⟨⟨xa, xn, xc⟩, rfl, hq3, hr3⟩
  have Q3 := hid (Q1.out.trans hq3)
  have A3 := hid (A1.out.q hq3)
  have X3 := hid (Row.ib hr3)
  clear hq3 hr3 Q1 A1 R1
  have hx0 : xn = 0 := by have h1 := X3.out.l; unfold bldR at h1; rw [if_neg he] at h1; simpa using h1.symm
  subst hx0
  have he1 : (bldE ⟨kd, ve, dl, sl, tl, vl, ln⟩ width == 0) = false := by simp [he]
  have he2 : (bldE ⟨kd, ve, dl, sl, tl, vl, ln⟩ width != 0) = true := by simp [he]
  generalize bldE ⟨kd, ve, dl, sl, tl, vl, ln⟩ width = er at *
  clear he
  go_wp2_with fail
  refine (awake_any _).mono ?_
  rintro e w4 ⟨rfl, hq4⟩
  have Q4 := hid (Q3.out.trans hq4)
  clear hq4
  go_wp2
  go_ret
  exact ⟨rfl, Q4.out⟩
set_option maxRecDepth 20000 in
set_option maxHeartbeats 16000000 in
theorem walk_more (kd ve : Int) (dl sl tl vl : List Int) (ln : Int) (d s t v : Sv) (width : Int) (a : Option Addr) (n c : Nat) (zs : List Int) (w : World) (hf : Fit w ⟨kd, ve, dl, sl, tl, vl, ln⟩ d s t v) (bd : ∀ b ∈ dl, 0 ≤ b ∧ b < 256) (bs : ∀ b ∈ sl, 0 ≤ b ∧ b < 256) (bt : ∀ b ∈ tl, 0 ≤ b ∧ b < 256) (hl : zs.length = n) (hz : ∀ y ∈ zs, 0 ≤ y ∧ y < 256) (hn : n ≤ 140737488351232) (hs : Seg w a zs) (he : bldE ⟨kd, ve, dl, sl, tl, vl, ln⟩ width = 0) (hk6 : ¬ kd = 6) (hln : (n : Int) < ln) :
    Calls Try.prog 6 #[hv ⟨kd, ve, dl, sl, tl, vl, ln⟩ d s t v, .int .i64 width, .slice a n c] w fun e w' => e = .returned (.bool true) ∧ Below w.heap.size w w' := by
  have HF := hid hf
  have OK := hid (bld_ok he)
  have HXN := hid (show (bldL ⟨kd, ve, dl, sl, tl, vl, ln⟩ width).length ≤ 20000 from by have h2 := bldR_len ⟨kd, ve, dl, sl, tl, vl, ln⟩ width; unfold bldR at h2; rw [if_pos he] at h2; exact h2)
  have HBB := hid (bld_bytes he bd bs bt)
  have HL := hid hl
  have HZ := hid hz
  have HS := hid hs
  clear hf bd bs bt hl hz hs
  go_enter Try.func6, Try.ntmps6
  go_wp2_with fail
  generalize hw0 : World.alloc w _ = w0
  have Q0 := hid (show Q w w0 from by rw [← hw0]; exact (Q.refl w).alloc _)
  have B0 := hid (show Box w0 26 w.heap.size ⟨kd, ve, dl, sl, tl, vl, ln⟩ d s t v from by rw [← hw0]; exact heap_alloc_new w _)
  clear hw0
  generalize hb0 : w.heap.size = hb at *
  refine (copied_any ⟨kd, ve, dl, sl, tl, vl, ln⟩ d s t v w0 (HF.out.q Q0.out)).mono ?_
  rintro e w1 ⟨dS, sS, tS, vS, rfl, hq1, hh1⟩
  have Q1 := hid (Q0.out.trans hq1)
  have A1 := hid (B0.out.q hq1)
  have R1 := hid hh1.reads
  clear hq1 hh1 Q0 B0
  go_wp2_with fail
  refine (build_any kd ve dl sl tl vl ln dS sS tS vS width w1 ⟨R1.out.ds, R1.out.dl⟩ ⟨R1.out.ss, R1.out.sl⟩ ⟨R1.out.ts, R1.out.tl⟩).mono ?_
  rintro e w3 ⟨⟨xa, xn, xc⟩, rfl, hq3, hr3⟩
  have Q3 := hid (Q1.out.trans hq3)
  have A3 := hid (A1.out.q hq3)
  have X3 := hid (Row.ib hr3)
  clear hq3 hr3 Q1 A1 R1
  have XB := hid (show Ib w3 ⟨xa, xn, xc⟩ (bldL ⟨kd, ve, dl, sl, tl, vl, ln⟩ width) from by have h1 := X3.out; unfold bldR at h1; rw [if_pos he] at h1; exact h1)
  have HXL := hid (show xn ≤ 20000 from by have h1 := XB.out.l; have := HXN.out; dsimp only at h1; omega)
  rw [he]
  clear X3
  have c0 := A3.out.c0
  have c6 := A3.out.c6
  try dsimp only at c0 c6
  have k6 : (kd != 6) = true := by simp [hk6]
  have k6' : (kd == 6) = false := by simp [hk6]
  clear hk6
  go_wp2_with fail
  refine (awake_any _).mono ?_
  rintro e w4 ⟨rfl, hq4⟩
  have Q4 := hid (Q3.out.trans hq4)
  clear hq4
  go_wp2
  go_ret
  exact ⟨rfl, Q4.out⟩

set_option maxRecDepth 20000 in
set_option maxHeartbeats 16000000 in
theorem walk_short (kd ve : Int) (dl sl tl vl : List Int) (ln : Int) (d s t v : Sv) (width : Int) (a : Option Addr) (n c : Nat) (zs : List Int) (w : World) (hf : Fit w ⟨kd, ve, dl, sl, tl, vl, ln⟩ d s t v) (bd : ∀ b ∈ dl, 0 ≤ b ∧ b < 256) (bs : ∀ b ∈ sl, 0 ≤ b ∧ b < 256) (bt : ∀ b ∈ tl, 0 ≤ b ∧ b < 256) (hl : zs.length = n) (hz : ∀ y ∈ zs, 0 ≤ y ∧ y < 256) (hn : n ≤ 140737488351232) (hs : Seg w a zs) (he : bldE ⟨kd, ve, dl, sl, tl, vl, ln⟩ width = 0) (hk6 : kd = 6) :
    Calls Try.prog 6 #[hv ⟨kd, ve, dl, sl, tl, vl, ln⟩ d s t v, .int .i64 width, .slice a n c] w fun e w' => e = .returned (.bool true) ∧ Below w.heap.size w w' := by
  have HF := hid hf
  have OK := hid (bld_ok he)
  have HXN := hid (show (bldL ⟨kd, ve, dl, sl, tl, vl, ln⟩ width).length ≤ 20000 from by have h2 := bldR_len ⟨kd, ve, dl, sl, tl, vl, ln⟩ width; unfold bldR at h2; rw [if_pos he] at h2; exact h2)
  have HBB := hid (bld_bytes he bd bs bt)
  have hpm := back_par he zs (fun h => absurd hk6 h)
  have hdn := hf.h.dl
  dsimp only at hpm hdn
  rw [if_pos hk6, hl, hdn] at hpm
  have hbk : bak ⟨kd, ve, dl, sl, tl, vl, ln⟩ (n : Int) = ⟨6, 0, dl, [], [], [], (n : Int)⟩ := by unfold bak; rw [if_pos (show (⟨kd, ve, dl, sl, tl, vl, ln⟩ : Hd).kind = 6 from hk6)]
  rw [hbk] at hpm
  have HPM := hid hpm
  clear hpm hbk
  have HX2 := hid (show (bldL ⟨kd, ve, dl, sl, tl, vl, ln⟩ width).length ≤ 21 from by
    have h2 := OK.out.2.2.2.1
    dsimp only at h2
    unfold bldL
    rw [if_pos (show (⟨kd, ve, dl, sl, tl, vl, ln⟩ : Hd).kind = 6 from hk6)]
    show (fstB kd width :: dl).length ≤ 21
    rw [List.length_cons]
    omega)
  have HV7 := hid (show (bldL ⟨kd, ve, dl, sl, tl, vl, ln⟩ width ++ zs).length ≤ 140737488355328 ∨ ∀ q, verO (bldL ⟨kd, ve, dl, sl, tl, vl, ln⟩ width ++ zs) (0 + 1) ≠ .ok 0 q from .inl (by have := HX2.out; rw [List.length_append]; omega))
  have HFR := hid (show 0 ≤ fstB 6 width ∧ fstB 6 width < 256 from by have h1 := OK.out.2.1; have h2 := OK.out.2.2.1; have h3 := OK.out.1; dsimp only at h3; unfold fstB; split <;> omega)
  have HFB := hid (bld_fst ⟨kd, ve, dl, sl, tl, vl, ln⟩ width)
  have HLOW := hid (fst_low OK.out.2.1 OK.out.2.2.1 OK.out.1)
  subst hk6
  have HL := hid hl
  have HZ := hid hz
  have HS := hid hs
  clear hf bd bs bt hl hz hs
  go_enter Try.func6, Try.ntmps6
  go_wp2_with fail
  generalize hw0 : World.alloc w _ = w0
  have Q0 := hid (show Q w w0 from by rw [← hw0]; exact (Q.refl w).alloc _)
  have B0 := hid (show Box w0 26 w.heap.size ⟨6, ve, dl, sl, tl, vl, ln⟩ d s t v from by rw [← hw0]; exact heap_alloc_new w _)
  clear hw0
  generalize hb0 : w.heap.size = hb at *
  refine (copied_any ⟨6, ve, dl, sl, tl, vl, ln⟩ d s t v w0 (HF.out.q Q0.out)).mono ?_
  rintro e w1 ⟨dS, sS, tS, vS, rfl, hq1, hh1⟩
  have Q1 := hid (Q0.out.trans hq1)
  have A1 := hid (B0.out.q hq1)
  have R1 := hid hh1.reads
  clear hq1 hh1 Q0 B0
  go_wp2_with fail
  refine (build_any 6 ve dl sl tl vl ln dS sS tS vS width w1 ⟨R1.out.ds, R1.out.dl⟩ ⟨R1.out.ss, R1.out.sl⟩ ⟨R1.out.ts, R1.out.tl⟩).mono ?_
  rintro e w3 ⟨⟨xa, xn, xc⟩, rfl, hq3, hr3⟩
  have Q3 := hid (Q1.out.trans hq3)
  have A3 := hid (A1.out.q hq3)
  have X3 := hid (Row.ib hr3)
  clear hq3 hr3 Q1 A1 R1
  have XB := hid (show Ib w3 ⟨xa, xn, xc⟩ (bldL ⟨6, ve, dl, sl, tl, vl, ln⟩ width) from by have h1 := X3.out; unfold bldR at h1; rw [if_pos he] at h1; exact h1)
  have HXL := hid (show xn ≤ 20000 from by have h1 := XB.out.l; have := HXN.out; dsimp only at h1; omega)
  rw [he]
  clear X3
  have c0 := A3.out.c0
  have c6 := A3.out.c6
  try dsimp only at c0 c6
  have HJ := hid (hj w3 ⟨xa, xn, xc⟩ a n c (bldL ⟨6, ve, dl, sl, tl, vl, ln⟩ width) zs XB.out (HS.out.q Q3.out) HL.out (by have := HXN.out; have := HL.out; omega))
  have HP := hid (hp w3 ⟨6, 0, dl, [], [], [], (n : Int)⟩ (d.n : Int) ((bldL ⟨6, ve, dl, sl, tl, vl, ln⟩ width).length : Int) (((bldL ⟨6, ve, dl, sl, tl, vl, ln⟩ width).length : Int) + (n : Int)) (bldL ⟨6, ve, dl, sl, tl, vl, ln⟩ width ++ zs) (fun y hm => by
    rcases List.mem_append.1 hm with hm | hm
    · exact HBB.out y hm
    · exact HZ.out y hm) (by have := HXN.out; have := HL.out; rw [List.length_append]; omega) HV7.out HPM.out)
  have hxl : (bldL ⟨6, ve, dl, sl, tl, vl, ln⟩ width).length = xn := XB.out.l
  rw [hxl] at HP
  clear HPM HV7 HBB
  go_wp2_with fail
  generalize hR : Code.region 6 _ true = C
  have eR : C = Code.region 6 (RofN Try.f6 6) true := hR.symm.trans (by kernel_rfl)
  clear hR
  subst eR
  refine wp_region_noPanic ?_
  refine rgA (A := Z00 ⟨6, ve, dl, sl, tl, vl, ln⟩ d s t v width a n c hb ⟨xa, xn, xc⟩ (hv ⟨6, ve, dl, sl, tl, vl, ln⟩ dS sS tS vS) (.bool false) (.bool false) undef undef undef undef undef (.bool false)) ?_ (rg6 ⟨6, ve, dl, sl, tl, vl, ln⟩ d s t v width a n c hb ⟨xa, xn, xc⟩ (hv ⟨6, ve, dl, sl, tl, vl, ln⟩ dS sS tS vS) (.bool false) (.bool false) undef undef undef undef undef (.bool false) w3 _ (fun c a d v w h => h) ⟨6, 0, dl, [], [], [], (n : Int)⟩ (xn : Int) ((xn : Int) + (n : Int)) (bldL ⟨6, ve, dl, sl, tl, vl, ln⟩ width ++ zs) HJ.out HP.out A3.out.lt ?_ ⟨Q.refl _, A3.out⟩)
  · kernel_rfl
  intro jb gb r dG sG tG vG W qW bW pW
  refine NoPanic.normal ?_
  refine ‹∀ a w, Code.wp Try.prog _ _ a w → _› _ _ ?_
  have QW := hid (Q3.out.trans qW)
  have BW := hid bW
  have PW := hid pW
  have AW := hid (A3.out.q qW)
  have XW := hid (XB.out.q qW)
  clear qW bW pW HJ HP A3 XB Q3 c0 c6
  obtain ⟨xb, xo, hxa, hxc⟩ := XW.out.s (by intro e; have h3 := HFB.out.2; rw [e] at h3; simp at h3)
  try dsimp only at hxa
  subst hxa
  have cx := hxc 0 HFB.out.2
  rw [HFB.out.1, Nat.add_zero] at cx
  try dsimp only at cx
  have hfb : 0 ≤ fstB 6 width ∧ fstB 6 width < 256 := by have h3 := HFR.out; exact h3
  have hand := u8_and3 (fstB 6 width) hfb.1 hfb.2
  have hlow := HLOW.out
  try dsimp only at hlow
  rw [hlow] at hand
  have hx0 : 0 < xn := by have h3 := HFB.out.2; omega
  have hw1 := OK.out.2.1
  have hw4 := OK.out.2.2.1
  obtain ⟨c0, c1, c2, c3, c4, c5, c6⟩ := AW.out.all
  obtain ⟨g0, g1, g2, g3, g4, g5, g6⟩ := BW.out.all
  try dsimp only at c0 c1 c2 c3 c4 c5 c6 g0 g1 g2 g3 g4 g5 g6
  have hdG := PW.out.dl
  have hsG := PW.out.sl
  have htG := PW.out.tl
  try dsimp only at hdG hsG htG
  have hdd := HF.out.h.dl
  have hss := HF.out.h.sl
  have htt := HF.out.h.tl
  try dsimp only at hdd hss htt
  have SD := hid (fun (u : World) (q : Q W u) => same_yes dG.a d.a d.n dG.c d.c dl u hdd HF.out.nd (PW.out.ds.q q) ((HF.out.h.ds.q QW.out).q q))
  have edG : dG.n = d.n := by omega
  rw [edG] at g2
  have hu8 : IntKind.u8.wrap (width - 1) = width - 1 := by rw [IntKind.wrap_u8]; omega
  have hlA := AW.out.lt
  have hlB := BW.out.lt
  generalize fstB 6 width = fb at *
  have HXL2 := HXL.out
  clear hxc edG hdG hsG htG hdd hss htt hlow HFB HLOW HZ HXN
  go_wp2_with (first
    | (go_at_call 15; first | (refine (SD.out _ (Q.refl _)).mono ?_; rintro e u1 ⟨rfl, q1⟩; have j1 : Q W u1 := q1; have e0 := (q1.cell (p := ⟨hb, 0, none⟩) hlA).trans c0; have e4 := (q1.cell (p := ⟨hb, 4, none⟩) hlA).trans c4; have e3 := (q1.cell (p := ⟨hb, 3, none⟩) hlA).trans c3; have e6 := (q1.cell (p := ⟨hb, 6, none⟩) hlA).trans c6; have f1 := (q1.cell (p := ⟨gb, 1, none⟩) hlB).trans g1; have f3 := (q1.cell (p := ⟨gb, 3, none⟩) hlB).trans g3; have f4 := (q1.cell (p := ⟨gb, 4, none⟩) hlB).trans g4; have f6 := (q1.cell (p := ⟨gb, 6, none⟩) hlB).trans g6; have fx := (q1.cell (p := ⟨xb, xo, none⟩) (lt_of_cell cx)).trans cx; clear q1 SD))
    | (go_at_call 12; refine (awake_any _).mono ?_; rintro e u9 ⟨rfl, q9⟩; have j9 : Q W u9 := j1.trans q9; clear q9))
  go_ret
  exact ⟨rfl, QW.out.trans j9⟩

set_option maxRecDepth 20000 in
set_option maxHeartbeats 16000000 in
theorem walk_init (kd ve : Int) (dl sl tl vl : List Int) (ln : Int) (d s t v : Sv) (width : Int) (a : Option Addr) (n c : Nat) (zs : List Int) (w : World) (hf : Fit w ⟨kd, ve, dl, sl, tl, vl, ln⟩ d s t v) (bd : ∀ b ∈ dl, 0 ≤ b ∧ b < 256) (bs : ∀ b ∈ sl, 0 ≤ b ∧ b < 256) (bt : ∀ b ∈ tl, 0 ≤ b ∧ b < 256) (hl : zs.length = n) (hz : ∀ y ∈ zs, 0 ≤ y ∧ y < 256) (hn : n ≤ 140737488351232) (hs : Seg w a zs) (he : bldE ⟨kd, ve, dl, sl, tl, vl, ln⟩ width = 0) (hk6 : kd = 1) (hln : ¬ (n : Int) < ln) :
    Calls Try.prog 6 #[hv ⟨kd, ve, dl, sl, tl, vl, ln⟩ d s t v, .int .i64 width, .slice a n c] w fun e w' => e = .returned (.bool true) ∧ Below w.heap.size w w' := by
  have HF := hid hf
  have OK := hid (bld_ok he)
  have HXN := hid (show (bldL ⟨kd, ve, dl, sl, tl, vl, ln⟩ width).length ≤ 20000 from by have h2 := bldR_len ⟨kd, ve, dl, sl, tl, vl, ln⟩ width; unfold bldR at h2; rw [if_pos he] at h2; exact h2)
  have HBB := hid (bld_bytes he bd bs bt)
  have hpm := back_par he zs (fun _ => by show ln ≤ (zs.length : Int); omega)
  have hdn := hf.h.dl
  dsimp only at hpm hdn
  rw [if_neg (show ¬ kd = 6 by omega), hl, hdn] at hpm
  have hbk : bak ⟨kd, ve, dl, sl, tl, vl, ln⟩ (n : Int) = ⟨1, 1, dl, sl, tl, [], ln⟩ := by unfold bak; rw [if_neg (show ¬ (⟨kd, ve, dl, sl, tl, vl, ln⟩ : Hd).kind = 6 from by show ¬ kd = 6; omega), if_pos (show (⟨kd, ve, dl, sl, tl, vl, ln⟩ : Hd).kind = 1 from hk6)]; show (⟨kd, 1, dl, sl, tl, [], ln⟩ : Hd) = _; rw [hk6]
  rw [hbk] at hpm
  have HPM := hid hpm
  clear hpm hbk
  have HV7 := hid (show (bldL ⟨kd, ve, dl, sl, tl, vl, ln⟩ width ++ zs).length ≤ 140737488355328 ∨ ∀ q, verO (bldL ⟨kd, ve, dl, sl, tl, vl, ln⟩ width ++ zs) (0 + 1) ≠ .ok 0 q from .inr (fun q hh => by
    have A : At (bldL ⟨kd, ve, dl, sl, tl, vl, ln⟩ width ++ zs) 0 (bldL ⟨kd, ve, dl, sl, tl, vl, ln⟩ width) := ⟨[], zs, by simp, rfl⟩
    have hbh := bld_head ⟨kd, ve, dl, sl, tl, vl, ln⟩ width (show kd ≠ 6 by omega)
    have A2 : At (bldL ⟨kd, ve, dl, sl, tl, vl, ln⟩ width ++ zs) 0 ([fstB kd width] ++ ([0, 0, 0, 1] ++ (((dl.length : Int) :: dl) ++ (((sl.length : Int) :: sl) ++ ((if kd = 1 then form tl.length ++ tl else []) ++ lenF ln))))) := by
      have A1 := A
      rw [show At (bldL ⟨kd, ve, dl, sl, tl, vl, ln⟩ width ++ zs) 0 (bldL ⟨kd, ve, dl, sl, tl, vl, ln⟩ width) = At (bldL ⟨kd, ve, dl, sl, tl, vl, ln⟩ width ++ zs) 0 ([fstB kd width] ++ ([0, 0, 0, 1] ++ (((dl.length : Int) :: dl) ++ (((sl.length : Int) :: sl) ++ ((if kd = 1 then form tl.length ++ tl else []) ++ lenF ln))))) from congrArg _ hbh] at A1
      exact A1
    have h5 := verO_one A2.right.left
    have h6 : verO (bldL ⟨kd, ve, dl, sl, tl, vl, ln⟩ width ++ zs) (0 + 1) = .ok 1 (0 + 1 + 4) := h5
    rw [h6] at hh
    cases hh))
  have HFR := hid (show 0 ≤ fstB 1 width ∧ fstB 1 width < 256 from by have h1 := OK.out.2.1; have h2 := OK.out.2.2.1; have h3 := OK.out.1; dsimp only at h3; unfold fstB; split <;> omega)
  have HFB := hid (bld_fst ⟨kd, ve, dl, sl, tl, vl, ln⟩ width)
  have HLOW := hid (fst_low OK.out.2.1 OK.out.2.2.1 OK.out.1)
  subst hk6
  have HL := hid hl
  have HZ := hid hz
  have HS := hid hs
  clear hf bd bs bt hl hz hs
  go_enter Try.func6, Try.ntmps6
  go_wp2_with fail
  generalize hw0 : World.alloc w _ = w0
  have Q0 := hid (show Q w w0 from by rw [← hw0]; exact (Q.refl w).alloc _)
  have B0 := hid (show Box w0 26 w.heap.size ⟨1, ve, dl, sl, tl, vl, ln⟩ d s t v from by rw [← hw0]; exact heap_alloc_new w _)
  clear hw0
  generalize hb0 : w.heap.size = hb at *
  refine (copied_any ⟨1, ve, dl, sl, tl, vl, ln⟩ d s t v w0 (HF.out.q Q0.out)).mono ?_
  rintro e w1 ⟨dS, sS, tS, vS, rfl, hq1, hh1⟩
  have Q1 := hid (Q0.out.trans hq1)
  have A1 := hid (B0.out.q hq1)
  have R1 := hid hh1.reads
  clear hq1 hh1 Q0 B0
  go_wp2_with fail
  refine (build_any 1 ve dl sl tl vl ln dS sS tS vS width w1 ⟨R1.out.ds, R1.out.dl⟩ ⟨R1.out.ss, R1.out.sl⟩ ⟨R1.out.ts, R1.out.tl⟩).mono ?_
  rintro e w3 ⟨⟨xa, xn, xc⟩, rfl, hq3, hr3⟩
  have Q3 := hid (Q1.out.trans hq3)
  have A3 := hid (A1.out.q hq3)
  have X3 := hid (Row.ib hr3)
  clear hq3 hr3 Q1 A1 R1
  have XB := hid (show Ib w3 ⟨xa, xn, xc⟩ (bldL ⟨1, ve, dl, sl, tl, vl, ln⟩ width) from by have h1 := X3.out; unfold bldR at h1; rw [if_pos he] at h1; exact h1)
  have HXL := hid (show xn ≤ 20000 from by have h1 := XB.out.l; have := HXN.out; dsimp only at h1; omega)
  rw [he]
  clear X3
  have c0 := A3.out.c0
  have c6 := A3.out.c6
  try dsimp only at c0 c6
  have hln2 : decide ((n : Int) < ln) = false := by simp; omega
  have HJ := hid (hj w3 ⟨xa, xn, xc⟩ a n c (bldL ⟨1, ve, dl, sl, tl, vl, ln⟩ width) zs XB.out (HS.out.q Q3.out) HL.out (by have := HXN.out; have := HL.out; omega))
  have HP := hid (hp w3 ⟨1, 1, dl, sl, tl, [], ln⟩ (d.n : Int) ((bldL ⟨1, ve, dl, sl, tl, vl, ln⟩ width).length : Int) (((bldL ⟨1, ve, dl, sl, tl, vl, ln⟩ width).length : Int) + ln) (bldL ⟨1, ve, dl, sl, tl, vl, ln⟩ width ++ zs) (fun y hm => by
    rcases List.mem_append.1 hm with hm | hm
    · exact HBB.out y hm
    · exact HZ.out y hm) (by have := HXN.out; have := HL.out; rw [List.length_append]; omega) HV7.out HPM.out)
  have hxl : (bldL ⟨1, ve, dl, sl, tl, vl, ln⟩ width).length = xn := XB.out.l
  rw [hxl] at HP
  clear HPM HV7 HBB
  go_wp2_with fail
  generalize hR : Code.region 6 _ true = C
  have eR : C = Code.region 6 (RofN Try.f6 6) true := hR.symm.trans (by kernel_rfl)
  clear hR
  subst eR
  refine wp_region_noPanic ?_
  refine rgA (A := Z00 ⟨1, ve, dl, sl, tl, vl, ln⟩ d s t v width a n c hb ⟨xa, xn, xc⟩ (hv ⟨1, ve, dl, sl, tl, vl, ln⟩ dS sS tS vS) (.bool true) (.bool true) (.slice a n c) (.int .i64 (n : Int)) (.pointer (some ⟨hb, 6, none⟩)) (.int .i64 ln) (.bool false) (.bool false)) ?_ (rg6 ⟨1, ve, dl, sl, tl, vl, ln⟩ d s t v width a n c hb ⟨xa, xn, xc⟩ (hv ⟨1, ve, dl, sl, tl, vl, ln⟩ dS sS tS vS) (.bool true) (.bool true) (.slice a n c) (.int .i64 (n : Int)) (.pointer (some ⟨hb, 6, none⟩)) (.int .i64 ln) (.bool false) (.bool false) w3 _ (fun c a d v w h => h) ⟨1, 1, dl, sl, tl, [], ln⟩ (xn : Int) ((xn : Int) + ln) (bldL ⟨1, ve, dl, sl, tl, vl, ln⟩ width ++ zs) HJ.out HP.out A3.out.lt ?_ ⟨Q.refl _, A3.out⟩)
  · kernel_rfl
  intro jb gb r dG sG tG vG W qW bW pW
  refine NoPanic.normal ?_
  refine ‹∀ a w, Code.wp Try.prog _ _ a w → _› _ _ ?_
  have QW := hid (Q3.out.trans qW)
  have BW := hid bW
  have PW := hid pW
  have AW := hid (A3.out.q qW)
  have XW := hid (XB.out.q qW)
  clear qW bW pW HJ HP A3 XB Q3 c0 c6
  obtain ⟨xb, xo, hxa, hxc⟩ := XW.out.s (by intro e; have h3 := HFB.out.2; rw [e] at h3; simp at h3)
  try dsimp only at hxa
  subst hxa
  have cx := hxc 0 HFB.out.2
  rw [HFB.out.1, Nat.add_zero] at cx
  try dsimp only at cx
  have hfb : 0 ≤ fstB 1 width ∧ fstB 1 width < 256 := by have h3 := HFR.out; exact h3
  have hand := u8_and3 (fstB 1 width) hfb.1 hfb.2
  have hlow := HLOW.out
  try dsimp only at hlow
  rw [hlow] at hand
  have hx0 : 0 < xn := by have h3 := HFB.out.2; omega
  have hw1 := OK.out.2.1
  have hw4 := OK.out.2.2.1
  obtain ⟨c0, c1, c2, c3, c4, c5, c6⟩ := AW.out.all
  obtain ⟨g0, g1, g2, g3, g4, g5, g6⟩ := BW.out.all
  try dsimp only at c0 c1 c2 c3 c4 c5 c6 g0 g1 g2 g3 g4 g5 g6
  have hdG := PW.out.dl
  have hsG := PW.out.sl
  have htG := PW.out.tl
  try dsimp only at hdG hsG htG
  have hdd := HF.out.h.dl
  have hss := HF.out.h.sl
  have htt := HF.out.h.tl
  try dsimp only at hdd hss htt
  have SD := hid (fun (u : World) (q : Q W u) => same_yes dG.a d.a d.n dG.c d.c dl u hdd HF.out.nd (PW.out.ds.q q) ((HF.out.h.ds.q QW.out).q q))
  have edG : dG.n = d.n := by omega
  rw [edG] at g2
  have SS := hid (fun (u : World) (q : Q W u) => same_yes sG.a s.a s.n sG.c s.c sl u hss HF.out.ns (PW.out.ss.q q) ((HF.out.h.ss.q QW.out).q q))
  have esG : sG.n = s.n := by omega
  rw [esG] at g3
  have ST := hid (fun (u : World) (q : Q W u) => same_yes tG.a t.a t.n tG.c t.c tl u htt HF.out.nt (PW.out.ts.q q) ((HF.out.h.ts.q QW.out).q q))
  have etG : tG.n = t.n := by omega
  rw [etG] at g4
  have hu8 : IntKind.u8.wrap (width - 1) = width - 1 := by rw [IntKind.wrap_u8]; omega
  have hlA := AW.out.lt
  have hlB := BW.out.lt
  generalize fstB 1 width = fb at *
  have HXL2 := HXL.out
  obtain ⟨hln4, hln5⟩ : 1 ≤ ln ∧ ln ≤ 16384 := by have h3 := OK.out.2.2.2.2.2.2; (try dsimp only at h3); omega
  clear hxc edG esG etG hdG hln hln2 he c1 c5 g5 hsG htG hdd hss htt hlow HFB HLOW HZ HXN
  go_wp2_with (first
    | (go_at_call 15; first | (refine (SD.out _ (Q.refl _)).mono ?_; rintro e u1 ⟨rfl, q1⟩; have j1 : Q W u1 := q1; have e0 := (q1.cell (p := ⟨hb, 0, none⟩) hlA).trans c0; have e4 := (q1.cell (p := ⟨hb, 4, none⟩) hlA).trans c4; have e3 := (q1.cell (p := ⟨hb, 3, none⟩) hlA).trans c3; have e6 := (q1.cell (p := ⟨hb, 6, none⟩) hlA).trans c6; have f1 := (q1.cell (p := ⟨gb, 1, none⟩) hlB).trans g1; have f3 := (q1.cell (p := ⟨gb, 3, none⟩) hlB).trans g3; have f4 := (q1.cell (p := ⟨gb, 4, none⟩) hlB).trans g4; have f6 := (q1.cell (p := ⟨gb, 6, none⟩) hlB).trans g6; have fx := (q1.cell (p := ⟨xb, xo, none⟩) (lt_of_cell cx)).trans cx; clear q1 SD) | (refine (ST.out _ j1).mono ?_; rintro e u2 ⟨rfl, q2⟩; have j2 : Q W u2 := j1.trans q2; have e3 := (q2.cell (p := ⟨hb, 3, none⟩) (Nat.lt_of_lt_of_le hlA j1.size)).trans e3; have e6 := (q2.cell (p := ⟨hb, 6, none⟩) (Nat.lt_of_lt_of_le hlA j1.size)).trans e6; have f1 := (q2.cell (p := ⟨gb, 1, none⟩) (Nat.lt_of_lt_of_le hlB j1.size)).trans f1; have f3 := (q2.cell (p := ⟨gb, 3, none⟩) (Nat.lt_of_lt_of_le hlB j1.size)).trans f3; have f6 := (q2.cell (p := ⟨gb, 6, none⟩) (Nat.lt_of_lt_of_le hlB j1.size)).trans f6; clear q2 ST) | (refine (SS.out _ j2).mono ?_; rintro e u3 ⟨rfl, q3⟩; have j3 : Q W u3 := j2.trans q3; have e6 := (q3.cell (p := ⟨hb, 6, none⟩) (Nat.lt_of_lt_of_le hlA j2.size)).trans e6; have f6 := (q3.cell (p := ⟨gb, 6, none⟩) (Nat.lt_of_lt_of_le hlB j2.size)).trans f6; clear q3 SS))
    | (go_at_call 12; refine (awake_any _).mono ?_; rintro e u9 ⟨rfl, q9⟩; have j9 : Q W u9 := j3.trans q9; clear q9))
  go_ret
  exact ⟨rfl, QW.out.trans j9⟩

set_option maxRecDepth 20000 in
set_option maxHeartbeats 16000000 in
theorem walk_long (kd ve : Int) (dl sl tl vl : List Int) (ln : Int) (d s t v : Sv) (width : Int) (a : Option Addr) (n c : Nat) (zs : List Int) (w : World) (hf : Fit w ⟨kd, ve, dl, sl, tl, vl, ln⟩ d s t v) (bd : ∀ b ∈ dl, 0 ≤ b ∧ b < 256) (bs : ∀ b ∈ sl, 0 ≤ b ∧ b < 256) (bt : ∀ b ∈ tl, 0 ≤ b ∧ b < 256) (hl : zs.length = n) (hz : ∀ y ∈ zs, 0 ≤ y ∧ y < 256) (hn : n ≤ 140737488351232) (hs : Seg w a zs) (he : bldE ⟨kd, ve, dl, sl, tl, vl, ln⟩ width = 0) (hk6 : kd = 2 ∨ kd = 3) (hln : ¬ (n : Int) < ln) :
    Calls Try.prog 6 #[hv ⟨kd, ve, dl, sl, tl, vl, ln⟩ d s t v, .int .i64 width, .slice a n c] w fun e w' => e = .returned (.bool true) ∧ Below w.heap.size w w' := by
  have HF := hid hf
  have OK := hid (bld_ok he)
  have HXN := hid (show (bldL ⟨kd, ve, dl, sl, tl, vl, ln⟩ width).length ≤ 20000 from by have h2 := bldR_len ⟨kd, ve, dl, sl, tl, vl, ln⟩ width; unfold bldR at h2; rw [if_pos he] at h2; exact h2)
  have HBB := hid (bld_bytes he bd bs bt)
  have hpm := back_par he zs (fun _ => by show ln ≤ (zs.length : Int); omega)
  have hdn := hf.h.dl
  dsimp only at hpm hdn
  rw [if_neg (show ¬ kd = 6 by omega), hl, hdn] at hpm
  have hbk : bak ⟨kd, ve, dl, sl, tl, vl, ln⟩ (n : Int) = ⟨kd, 1, dl, sl, [], [], ln⟩ := by unfold bak; rw [if_neg (show ¬ (⟨kd, ve, dl, sl, tl, vl, ln⟩ : Hd).kind = 6 from by show ¬ kd = 6; omega), if_neg (show ¬ (⟨kd, ve, dl, sl, tl, vl, ln⟩ : Hd).kind = 1 from by show ¬ kd = 1; omega)]
  rw [hbk] at hpm
  have HPM := hid hpm
  clear hpm hbk
  have HV7 := hid (show (bldL ⟨kd, ve, dl, sl, tl, vl, ln⟩ width ++ zs).length ≤ 140737488355328 ∨ ∀ q, verO (bldL ⟨kd, ve, dl, sl, tl, vl, ln⟩ width ++ zs) (0 + 1) ≠ .ok 0 q from .inr (fun q hh => by
    have A : At (bldL ⟨kd, ve, dl, sl, tl, vl, ln⟩ width ++ zs) 0 (bldL ⟨kd, ve, dl, sl, tl, vl, ln⟩ width) := ⟨[], zs, by simp, rfl⟩
    have hbh := bld_head ⟨kd, ve, dl, sl, tl, vl, ln⟩ width (show kd ≠ 6 by omega)
    have A2 : At (bldL ⟨kd, ve, dl, sl, tl, vl, ln⟩ width ++ zs) 0 ([fstB kd width] ++ ([0, 0, 0, 1] ++ (((dl.length : Int) :: dl) ++ (((sl.length : Int) :: sl) ++ ((if kd = 1 then form tl.length ++ tl else []) ++ lenF ln))))) := by
      have A1 := A
      rw [show At (bldL ⟨kd, ve, dl, sl, tl, vl, ln⟩ width ++ zs) 0 (bldL ⟨kd, ve, dl, sl, tl, vl, ln⟩ width) = At (bldL ⟨kd, ve, dl, sl, tl, vl, ln⟩ width ++ zs) 0 ([fstB kd width] ++ ([0, 0, 0, 1] ++ (((dl.length : Int) :: dl) ++ (((sl.length : Int) :: sl) ++ ((if kd = 1 then form tl.length ++ tl else []) ++ lenF ln))))) from congrArg _ hbh] at A1
      exact A1
    have h5 := verO_one A2.right.left
    have h6 : verO (bldL ⟨kd, ve, dl, sl, tl, vl, ln⟩ width ++ zs) (0 + 1) = .ok 1 (0 + 1 + 4) := h5
    rw [h6] at hh
    cases hh))
  have HFR := hid (show 0 ≤ fstB kd width ∧ fstB kd width < 256 from by have h1 := OK.out.2.1; have h2 := OK.out.2.2.1; have h3 := OK.out.1; dsimp only at h3; unfold fstB; split <;> omega)
  have HFB := hid (bld_fst ⟨kd, ve, dl, sl, tl, vl, ln⟩ width)
  have HLOW := hid (fst_low OK.out.2.1 OK.out.2.2.1 OK.out.1)
  have HL := hid hl
  have HZ := hid hz
  have HS := hid hs
  clear hf bd bs bt hl hz hs
  go_enter Try.func6, Try.ntmps6
  go_wp2_with fail
  generalize hw0 : World.alloc w _ = w0
  have Q0 := hid (show Q w w0 from by rw [← hw0]; exact (Q.refl w).alloc _)
  have B0 := hid (show Box w0 26 w.heap.size ⟨kd, ve, dl, sl, tl, vl, ln⟩ d s t v from by rw [← hw0]; exact heap_alloc_new w _)
  clear hw0
  generalize hb0 : w.heap.size = hb at *
  refine (copied_any ⟨kd, ve, dl, sl, tl, vl, ln⟩ d s t v w0 (HF.out.q Q0.out)).mono ?_
  rintro e w1 ⟨dS, sS, tS, vS, rfl, hq1, hh1⟩
  have Q1 := hid (Q0.out.trans hq1)
  have A1 := hid (B0.out.q hq1)
  have R1 := hid hh1.reads
  clear hq1 hh1 Q0 B0
  go_wp2_with fail
  refine (build_any kd ve dl sl tl vl ln dS sS tS vS width w1 ⟨R1.out.ds, R1.out.dl⟩ ⟨R1.out.ss, R1.out.sl⟩ ⟨R1.out.ts, R1.out.tl⟩).mono ?_
  rintro e w3 ⟨⟨xa, xn, xc⟩, rfl, hq3, hr3⟩
  have Q3 := hid (Q1.out.trans hq3)
  have A3 := hid (A1.out.q hq3)
  have X3 := hid (Row.ib hr3)
  clear hq3 hr3 Q1 A1 R1
  have XB := hid (show Ib w3 ⟨xa, xn, xc⟩ (bldL ⟨kd, ve, dl, sl, tl, vl, ln⟩ width) from by have h1 := X3.out; unfold bldR at h1; rw [if_pos he] at h1; exact h1)
  have HXL := hid (show xn ≤ 20000 from by have h1 := XB.out.l; have := HXN.out; dsimp only at h1; omega)
  rw [he]
  clear X3
  have c0 := A3.out.c0
  have c6 := A3.out.c6
  try dsimp only at c0 c6
  have k6 : (kd != 6) = true := by simp; omega
  have k6' : (kd == 6) = false := by simp; omega
  have k1' : (kd == 1) = false := by simp; omega
  have hln2 : decide ((n : Int) < ln) = false := by simp; omega
  have HJ := hid (hj w3 ⟨xa, xn, xc⟩ a n c (bldL ⟨kd, ve, dl, sl, tl, vl, ln⟩ width) zs XB.out (HS.out.q Q3.out) HL.out (by have := HXN.out; have := HL.out; omega))
  have HP := hid (hp w3 ⟨kd, 1, dl, sl, [], [], ln⟩ (d.n : Int) ((bldL ⟨kd, ve, dl, sl, tl, vl, ln⟩ width).length : Int) (((bldL ⟨kd, ve, dl, sl, tl, vl, ln⟩ width).length : Int) + ln) (bldL ⟨kd, ve, dl, sl, tl, vl, ln⟩ width ++ zs) (fun y hm => by
    rcases List.mem_append.1 hm with hm | hm
    · exact HBB.out y hm
    · exact HZ.out y hm) (by have := HXN.out; have := HL.out; rw [List.length_append]; omega) HV7.out HPM.out)
  have hxl : (bldL ⟨kd, ve, dl, sl, tl, vl, ln⟩ width).length = xn := XB.out.l
  rw [hxl] at HP
  clear HPM HV7 HBB
  go_wp2_with fail
  generalize hR : Code.region 6 _ true = C
  have eR : C = Code.region 6 (RofN Try.f6 6) true := hR.symm.trans (by kernel_rfl)
  clear hR
  subst eR
  refine wp_region_noPanic ?_
  refine rgA (A := Z00 ⟨kd, ve, dl, sl, tl, vl, ln⟩ d s t v width a n c hb ⟨xa, xn, xc⟩ (hv ⟨kd, ve, dl, sl, tl, vl, ln⟩ dS sS tS vS) (.bool true) (.bool true) (.slice a n c) (.int .i64 (n : Int)) (.pointer (some ⟨hb, 6, none⟩)) (.int .i64 ln) (.bool false) (.bool false)) ?_ (rg6 ⟨kd, ve, dl, sl, tl, vl, ln⟩ d s t v width a n c hb ⟨xa, xn, xc⟩ (hv ⟨kd, ve, dl, sl, tl, vl, ln⟩ dS sS tS vS) (.bool true) (.bool true) (.slice a n c) (.int .i64 (n : Int)) (.pointer (some ⟨hb, 6, none⟩)) (.int .i64 ln) (.bool false) (.bool false) w3 _ (fun c a d v w h => h) ⟨kd, 1, dl, sl, [], [], ln⟩ (xn : Int) ((xn : Int) + ln) (bldL ⟨kd, ve, dl, sl, tl, vl, ln⟩ width ++ zs) HJ.out HP.out A3.out.lt ?_ ⟨Q.refl _, A3.out⟩)
  · kernel_rfl
  intro jb gb r dG sG tG vG W qW bW pW
  refine NoPanic.normal ?_
  refine ‹∀ a w, Code.wp Try.prog _ _ a w → _› _ _ ?_
  have QW := hid (Q3.out.trans qW)
  have BW := hid bW
  have PW := hid pW
  have AW := hid (A3.out.q qW)
  have XW := hid (XB.out.q qW)
  clear qW bW pW HJ HP A3 XB Q3 c0 c6
  obtain ⟨xb, xo, hxa, hxc⟩ := XW.out.s (by intro e; have h3 := HFB.out.2; rw [e] at h3; simp at h3)
  try dsimp only at hxa
  subst hxa
  have cx := hxc 0 HFB.out.2
  rw [HFB.out.1, Nat.add_zero] at cx
  try dsimp only at cx
  have hfb : 0 ≤ fstB kd width ∧ fstB kd width < 256 := by have h3 := HFR.out; exact h3
  have hand := u8_and3 (fstB kd width) hfb.1 hfb.2
  have hlow := HLOW.out
  try dsimp only at hlow
  rw [hlow] at hand
  have hx0 : 0 < xn := by have h3 := HFB.out.2; omega
  have hw1 := OK.out.2.1
  have hw4 := OK.out.2.2.1
  obtain ⟨c0, c1, c2, c3, c4, c5, c6⟩ := AW.out.all
  obtain ⟨g0, g1, g2, g3, g4, g5, g6⟩ := BW.out.all
  try dsimp only at c0 c1 c2 c3 c4 c5 c6 g0 g1 g2 g3 g4 g5 g6
  have hdG := PW.out.dl
  have hsG := PW.out.sl
  have htG := PW.out.tl
  try dsimp only at hdG hsG htG
  have hdd := HF.out.h.dl
  have hss := HF.out.h.sl
  have htt := HF.out.h.tl
  try dsimp only at hdd hss htt
  have SD := hid (fun (u : World) (q : Q W u) => same_yes dG.a d.a d.n dG.c d.c dl u hdd HF.out.nd (PW.out.ds.q q) ((HF.out.h.ds.q QW.out).q q))
  have edG : dG.n = d.n := by omega
  rw [edG] at g2
  have SS := hid (fun (u : World) (q : Q W u) => same_yes sG.a s.a s.n sG.c s.c sl u hss HF.out.ns (PW.out.ss.q q) ((HF.out.h.ss.q QW.out).q q))
  have esG : sG.n = s.n := by omega
  rw [esG] at g3
  have hu8 : IntKind.u8.wrap (width - 1) = width - 1 := by rw [IntKind.wrap_u8]; omega
  have hlA := AW.out.lt
  have hlB := BW.out.lt
  generalize fstB kd width = fb at *
  have HXL2 := HXL.out
  obtain ⟨hln4, hln5⟩ : 1 ≤ ln ∧ ln ≤ 16384 := by have h3 := OK.out.2.2.2.2.2.2; (try dsimp only at h3); omega
  clear hxc edG esG hdG hln hln2 he c1 c5 g5 k6 hsG htG hdd hss htt hlow HFB HLOW HZ HXN
  go_wp2_with (first
    | (go_at_call 15; first | (refine (SD.out _ (Q.refl _)).mono ?_; rintro e u1 ⟨rfl, q1⟩; have j1 : Q W u1 := q1; have e0 := (q1.cell (p := ⟨hb, 0, none⟩) hlA).trans c0; have e4 := (q1.cell (p := ⟨hb, 4, none⟩) hlA).trans c4; have e3 := (q1.cell (p := ⟨hb, 3, none⟩) hlA).trans c3; have e6 := (q1.cell (p := ⟨hb, 6, none⟩) hlA).trans c6; have f1 := (q1.cell (p := ⟨gb, 1, none⟩) hlB).trans g1; have f3 := (q1.cell (p := ⟨gb, 3, none⟩) hlB).trans g3; have f4 := (q1.cell (p := ⟨gb, 4, none⟩) hlB).trans g4; have f6 := (q1.cell (p := ⟨gb, 6, none⟩) hlB).trans g6; have fx := (q1.cell (p := ⟨xb, xo, none⟩) (lt_of_cell cx)).trans cx; clear q1 SD) | (refine (SS.out _ j1).mono ?_; rintro e u3 ⟨rfl, q3⟩; have j3 : Q W u3 := j1.trans q3; have e6 := (q3.cell (p := ⟨hb, 6, none⟩) (Nat.lt_of_lt_of_le hlA j1.size)).trans e6; have f6 := (q3.cell (p := ⟨gb, 6, none⟩) (Nat.lt_of_lt_of_le hlB j1.size)).trans f6; clear q3 SS))
    | (go_at_call 12; refine (awake_any _).mono ?_; rintro e u9 ⟨rfl, q9⟩; have j9 : Q W u9 := j3.trans q9; clear q9))
  go_ret
  exact ⟨rfl, QW.out.trans j9⟩
set_option maxRecDepth 20000 in
theorem walk (H : Hd) (d s t v : Sv) (width : Int) (a : Option Addr) (n c : Nat) (zs : List Int) (w : World) (hf : Fit w H d s t v) (bd : ∀ b ∈ H.dst, 0 ≤ b ∧ b < 256) (bs : ∀ b ∈ H.src, 0 ≤ b ∧ b < 256) (bt : ∀ b ∈ H.tok, 0 ≤ b ∧ b < 256) (hl : zs.length = n) (hz : ∀ y ∈ zs, 0 ≤ y ∧ y < 256) (hn : n ≤ 140737488351232) (hs : Seg w a zs) :
    Calls Try.prog 6 #[hv H d s t v, .int .i64 width, .slice a n c] w fun e w' => e = .returned (.bool true) ∧ Below w.heap.size w w' := by
  obtain ⟨kd, ve, dl, sl, tl, vl, ln⟩ := H
  by_cases he : bldE ⟨kd, ve, dl, sl, tl, vl, ln⟩ width = 0
  · have hk := (bld_ok he).1
    dsimp only at hk
    by_cases hk6 : kd = 6
    · exact walk_short kd ve dl sl tl vl ln d s t v width a n c zs w hf bd bs bt hl hz hn hs he hk6
    · by_cases hln : (n : Int) < ln
      · exact walk_more kd ve dl sl tl vl ln d s t v width a n c zs w hf bd bs bt hl hz hn hs he hk6 hln
      · by_cases hk1 : kd = 1
        · exact walk_init kd ve dl sl tl vl ln d s t v width a n c zs w hf bd bs bt hl hz hn hs he hk1 hln
        · exact walk_long kd ve dl sl tl vl ln d s t v width a n c zs w hf bd bs bt hl hz hn hs he (by omega) hln
  · exact walk_no kd ve dl sl tl vl ln d s t v width a n c zs w hf bd bs bt hl hz hn hs he

set_option maxRecDepth 100000 in
theorem lifted (os : Os) (started : os.Started) (H : Type) (enc : TypeId × Value → H) :
    ReturnsInHanded {} Try.checked os 6 .any (Rows.headerBackSpec.pre6 enc Try.prog Try.f6 Rows.headerBackRow.domain false) (Rows.headerBackSpec.post enc Try.prog Try.f6 false true false false) := by
  refine returnsInHanded_of_change_sized (C := Try.checked) own_knob started (by kernel_rfl) Try.func6
    (ChangeSpec.witness6 (enc := enc) (C := Try.checked) false ⟨#[], #[.agg (hcells zh nilS nilS nilS nilS), .int .i64 0, .slice none 0 0], []⟩ 8 (by kernel_rfl) (by kernel_rfl) (by kernel_rfl) (by kernel_rfl)) ?_
  intro W base args ds gs before hval0 hW hcnd hsz0 _
  have hval : ∀ (j : Nat) t v, Try.f6.params[j]? = some t → args[j]? = some v → Value.okWide Try.prog W .any base t v := hval0
  have hsz : (DataW.weightsEach Try.prog (Try.f6.params.toList ++ Rows.headerBackSpec.plain.varTypes Try.prog) (ds ++ gs)).all (· ≤ reachBytes) = true := hsz0
  have hW' := hW
  obtain ⟨p, q, hA0, hV, rfl, hfz, hnd⟩ := hW
  have hA : DataW.TrodAll enc Try.prog W 0 (fun _ => true) true Try.f6.params.toList args.toList ds p := hA0
  rw [Try.params6] at hA hval hsz
  obtain ⟨v0, vs0, d0, ds0, p0, q0, hargs, rfl, rfl, h0, r0⟩ := trodAll_cons hA
  obtain ⟨v1, vs1, d1, ds1, p1, q1, rfl, rfl, rfl, h1, r1⟩ := trodAll_cons r0
  obtain ⟨v2, vs2, d2, ds2, p2, q2, rfl, rfl, rfl, h2, r2⟩ := trodAll_cons r1
  obtain ⟨rfl, rfl, rfl⟩ := trodAll_nil r2
  obtain rfl : args = #[v0, v1, v2] := by cases args; simp_all
  obtain ⟨rfl, rfl⟩ := trodVars_none hV
  obtain ⟨cs0, rfl, hcs0⟩ := okWide_struct Try.underlying26 (hval 0 26 v0 rfl rfl)
  have k0 := h0
  have lt0 : ∀ x ∈ p0, x.block < W.heap.size := by obtain ⟨m, hm⟩ := k0; exact DataW.trod_lt m _ _ _ hm
  obtain ⟨f0, x0, y0, z0, u0, rfl, hc0⟩ := open_header h0 hcs0
  have ft0 := came_fit hsz (j := 0) rfl rfl hc0
  obtain ⟨a1, rfl, rfl, rfl, w1⟩ := open_int Try.underlying3 (hval 1 3 v1 rfl rfl) h1
  obtain ⟨a2, len2, cap2, rfl⟩ := okWide_slice Try.underlying22 (hval 2 22 v2 rfl rfl)
  have k2 := h2
  have lt2 : ∀ x ∈ p2, x.block < W.heap.size := by obtain ⟨m, hm⟩ := k2; exact DataW.trod_lt m _ _ _ hm
  obtain ⟨z2, zl2, zs2, zb2, zc2, ze2, zd2⟩ := open_bytes h2
  have zn2 := len_le_bytes hsz (j := 2) rfl rfl zd2
  clear hA0 hval0
  refine (walk f0 x0 y0 z0 u0 a1 a2 len2 cap2 z2 W ft0 hc0.bd hc0.bs hc0.bt zl2 zb2 (by omega) zs2).mono fun e W' ⟨he, bel⟩ => ?_
  subst he
  exact ⟨_, rfl, _, _, _, [], _, [], hW', trodAll_mk1 (shut_bool Try.underlying4 _), (trodAll_cons_mk (Below.trod laid_out (by kernel_rfl) (of_decide_eq_true (by kernel_rfl)) k0 bel lt0) (trodAll_cons_mk (shut_int Try.underlying3 w1) (trodAll_cons_mk (Below.trod laid_out (by kernel_rfl) (of_decide_eq_true (by kernel_rfl)) k2 bel lt2) trodAll_mk0))), rfl, bel.frame _, fun h => by cases h⟩

theorem over : Rows.headerBackRow.holds Try.pinned (OpenSpec.ofChange Rows.headerBackSpec) :=
  OpenClaim.holds_of_wide 6 Try.f6 rfl rfl rfl rfl rfl rfl rfl ⟨rfl, rfl, rfl, rfl, rfl⟩ rfl rfl rfl rfl rfl (by kernel_rfl) Try.func6 (by kernel_rfl)
    (of_decide_eq_true (by kernel_rfl)) (by unfold Func.isWrapper; first | (rw [if_pos (by decide +kernel)]; kernel_rfl) | (rw [if_neg (by decide +kernel)]; exact ⟨rfl, rfl⟩))
    (fun os started H enc _ => lifted os started H enc)

end Go.Proofs.Ytbhhajmfdffdbaa.headerBack
namespace Go.Proofs.Ytbhhajmfdffdbaa

/-- The statement. -/
theorem headerBack_holds : Rows.HeaderBackSaid := headerBack.over
#print axioms headerBack_holds
end Go.Proofs.Ytbhhajmfdffdbaa
