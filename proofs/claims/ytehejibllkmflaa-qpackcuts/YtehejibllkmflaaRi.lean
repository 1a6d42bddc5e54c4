/-
  slices.Clone, and takeWhole: contracts that the statements' walks use.
-/
import Derived.Test.YtehejibllkmflaaRh
namespace Go.Proofs.Ytehejibllkmflaa
open Go.RowKit
set_option linter.unusedVariables false
set_option maxRecDepth 20000

theorem row_empty' (w : World) : Row (w.alloc (.cells #[] 5)) ⟨some ⟨w.heap.size, 0, none⟩, 0, 0⟩ [] :=
  ⟨rfl, .inr ⟨w.heap.size, 0, #[], rfl, heap_alloc_new w _, Nat.le_refl _, Nat.zero_le _, Nat.le_refl _, fun j hj => by simp at hj⟩⟩
theorem seg_none' {w : World} {zs : List Int} (h : Seg w none zs) : zs = [] := by
  cases zs with
  | nil => rfl
  | cons a r =>
    obtain ⟨b, o, e, _⟩ := h (by simp)
    cases e
theorem sl_nil_t (n c : Nat) (W : World) : (binOp BinOp.eql 30 (.slice none n c) (.slice none 0 0)).run Try.prog W = .ok (.bool true) W := by kernel_rfl
theorem sl_nil_f (a : Addr) (n c : Nat) (W : World) : (binOp BinOp.eql 30 (.slice (some a) n c) (.slice none 0 0)).run Try.prog W = .ok (.bool false) W := by kernel_rfl
set_option maxHeartbeats 2000000 in
theorem clone_any (x : Sv) (zs : List Int) (w : World) (hs : Seg w x.a zs) (hl : zs.length = x.n) (bx : x.n ≤ 140737488355328) :
    Calls Try.prog 32 #[.slice x.a x.n x.c] w fun e w' => ∃ y : Sv, e = .returned (.slice y.a y.n y.c) ∧ Q w w' ∧ Row w' y zs ∧ New w.heap.size y := by
  obtain ⟨xa, xn, xc⟩ := x
  have HX := hid hs
  have HL := hid hl
  dsimp only at *
  clear hs hl
  cases xa with
  | none =>
    have hz := seg_none' HX.out
    subst hz
    have hnl := sl_nil_t xn xc
    go_enter Try.func32, Try.ntmps32
    go_wp2
    go_ret
    exact ⟨⟨none, 0, 0⟩, rfl, Q.refl _, nil_row _, fun b e => by cases e⟩
  | some ad =>
    have hnl := sl_nil_f ad xn xc
    go_enter Try.func32, Try.ntmps32
    obtain ⟨⟨ya, yn, yc⟩, w2, hrun, hrow, hkp, hb⟩ := row_appendB (ty := 30) (x := .slice (some ad) xn xc) (m := xn) (ys := zs) (row_empty' w) (src_seg (HX.out.q ((Q.refl w).alloc _)) HL.out) (by show 0 + xn ≤ 140737488355328; omega)
    have HK := hid hkp
    have HB := hid hb
    have HR := hid hrow
    clear hkp hb hrow
    dsimp only at hrun
    go_wp2_with (at_builtin; refine Lib.wpList_append_run _ rfl _ _ _ _ rfl _ _ rfl rfl _ _ hrun ?_)
    go_ret
    refine ⟨⟨ya, yn, yc⟩, rfl, ?_, HR.out, ?_⟩
    · exact HK.out.below ((Q.refl w).alloc _) (by simp) (fun i e => by simp [blk] at e; omega)
    · intro b e
      rcases HB.out with h | h
      · rw [h] at e; simp [blk] at e; omega
      · rw [h] at e; simp at e; omega
theorem slice_fromB (a : Option Addr) (n c k : Nat) (h1 : k ≤ n) (u : World) :
    (Instr.slice 30 (.slice a n c) (some (.int .i64 (k : Int))) none none).run Try.prog u = .ok (.slice (if c = k then a else a.map (·.add k)) (n - k) (c - k)) u := by
  have h := run_slice_l (P := Try.prog) u 30 a n c Try.underlying30 .i64 (k : Int) (by omega) (by omega)
  rw [h]
  obtain ⟨i0, hi, hz1⟩ := Option.map_eq_some_iff.1 (show (Try.prog.info? 5).map (·.size) = some 1 from by kernel_rfl)
  have e : Try.prog.elem 30 = 5 := by kernel_rfl
  simp [sizeOf, typeInfo, e, hi, hz1, sliced, Result.andThen]
theorem seg_from {w : World} {a : Option Addr} {n c k : Nat} {zs : List Int} (h : Seg w a zs) (hl : zs.length = n) (hk : k ≤ n) (hc : n ≤ c) : Seg w (if c = k then a else a.map (·.add k)) (zs.drop k) := by
  by_cases e : c = k
  · have : zs.drop k = [] := List.drop_of_length_le (by omega)
    rw [this]
    intro hne
    exact absurd rfl hne
  · rw [if_neg e]
    cases a with
    | none =>
      have := seg_none' h
      subst this
      intro hne
      simp at hne
    | some ad =>
      rw [show (some ad).map (fun x : Addr => x.add k) = some (ad.add k) from rfl]
      intro hne
      have hz : zs ≠ [] := by intro hh; rw [hh] at hne; simp at hne
      obtain ⟨g, o, ha, _⟩ := h hz
      cases ha
      have h9 := seg_drop' h k
      rw [addr_add]
      exact h9 hne
theorem whl_p {most : Int} {zs : List Int} (hz : ∀ y ∈ zs, 0 ≤ y ∧ y < 256) (hm : most ≤ 100000000) : ∀ (n : Nat) (cap : Int) (g : Nat) (es : List Fd) (p : Nat), 0 ≤ cap ∧ cap ≤ 100000000 → p ≤ zs.length → (whl most n cap g es zs p).p ≤ zs.length
  | 0, cap, g, es, p, hc, hp => hp
  | n + 1, cap, g, es, p, hc, hp => by
    rw [whl]
    split
    · exact hp
    · cases ht : takO most cap g es zs p (zs.getD p 0).toNat with
      | bad z => exact hp
      | ok cap' g' es' q =>
        obtain ⟨h1, h2, _, _, h5, h6⟩ := takO_ok hz ht hc hm
        exact whl_p hz hm n cap' g' es' q ⟨h5, h6⟩ h2
/-- What takeWhole leaves of the decoder. -/
structure TW (w : World) (db : Nat) (D : Dk) (R : WR) (w' : World) (e : Sv) : Prop where
  i : DI w' db (dAt D R.cap R.g e R.es) R.es
  k : Keep (fun b => b = db ∨ blk D.e.a = some b) w w'
  b : ∀ b, blk e.a = some b → blk D.e.a = some b ∨ w.heap.size ≤ b
  c : 0 ≤ R.cap ∧ R.cap ≤ 100000000
  s : sumF R.es ≤ 100000000
set_option maxHeartbeats 8000000 in
theorem twhole_any (db : Nat) (D : Dk) (es : List Fd) (x : Sv) (zs : List Int) (w : World) (h : DI w db D es) (hs : Seg w x.a zs) (hl : zs.length = x.n) (hc : x.n ≤ x.c) (hz : ∀ y ∈ zs, 0 ≤ y ∧ y < 256) (hn : x.n ≤ 140737488355328) (hxd : ∀ b, blk x.a = some b → b ≠ db ∧ blk D.e.a ≠ some b ∧ b < w.heap.size)
    (hss : D.sz = sumF es) (hsb : sumF es ≤ 100000000) (hcc : 0 ≤ D.cap ∧ D.cap ≤ 100000000) (hm : D.most ≤ 100000000) (hG : D.gone + es.length + zs.length ≤ 140737488355328) :
    Calls Try.prog 17 #[.slice x.a x.n x.c, .func (.func 19) #[.pointer (some ⟨db, 0, none⟩)] #[]] w fun e w' => (∃ r : Sv, e = .returned (.tuple #[.slice r.a r.n r.c, .int .i64 (if (whl D.most zs.length D.cap D.gone es zs 0).e = 12 then 0 else (whl D.most zs.length D.cap D.gone es zs 0).e)]) ∧ Row w' r (if (whl D.most zs.length D.cap D.gone es zs 0).e = 12 then zs.drop (whl D.most zs.length D.cap D.gone es zs 0).p else []) ∧ New w.heap.size r) ∧ ∃ e', TW w db D (whl D.most zs.length D.cap D.gone es zs 0) w' e' := by
  have hld := lt_of_block h.b
  have hle : ∀ b, blk D.e.a = some b → b < w.heap.size := fun b e => Sub.lt h.r b e
  have HH := hid h
  have HSG := hid hs
  clear h hs
  have hpl := whl_p hz hm zs.length D.cap D.gone es 0 hcc (Nat.zero_le _)
  generalize hRW : whl D.most zs.length D.cap D.gone es zs 0 = R at *
  have HRW := hid hRW
  clear hRW
  generalize hrv : (if R.e = 12 then (0 : Int) else R.e) = rv
  generalize hrr : (if R.e = 12 then zs.drop R.p else []) = rr
  have HRV := hid hrv
  have HRR := hid hrr
  clear hrv hrr
  go_enter Try.func17, Try.ntmps17
  go_wp2_with fail
  have b1 := heap_alloc_new w (.cells #[.func (.func 19) #[.pointer (some ⟨db, 0, none⟩)] #[]] 59)
  have q1 : Q w _ := (Q.refl w).alloc (.cells #[.func (.func 19) #[.pointer (some ⟨db, 0, none⟩)] #[]] 59)
  have s1 : (w.alloc (.cells #[.func (.func 19) #[.pointer (some ⟨db, 0, none⟩)] #[]] 59)).heap.size = w.heap.size + 1 := World.size_alloc _ _
  generalize w.alloc (.cells #[.func (.func 19) #[.pointer (some ⟨db, 0, none⟩)] #[]] 59) = w1 at *
  have b2 := heap_alloc_new w1 (.cells #[.slice x.a x.n x.c, .int .i64 0] 80)
  have q2 : Q w1 _ := (Q.refl w1).alloc (.cells #[.slice x.a x.n x.c, .int .i64 0] 80)
  have s2 : (w1.alloc (.cells #[.slice x.a x.n x.c, .int .i64 0] 80)).heap.size = w1.heap.size + 1 := World.size_alloc _ _
  generalize w1.alloc (.cells #[.slice x.a x.n x.c, .int .i64 0] 80) = w2 at *
  have b3 := heap_alloc_new w2 (.cells #[.pointer (some ⟨w.heap.size + 1, 0, none⟩)] 78)
  have q3 : Q w2 _ := (Q.refl w2).alloc (.cells #[.pointer (some ⟨w.heap.size + 1, 0, none⟩)] 78)
  have s3 : (w2.alloc (.cells #[.pointer (some ⟨w.heap.size + 1, 0, none⟩)] 78)).heap.size = w2.heap.size + 1 := World.size_alloc _ _
  generalize w2.alloc (.cells #[.pointer (some ⟨w.heap.size + 1, 0, none⟩)] 78) = w3 at *
  have b4 := heap_alloc_new w3 (.cells #[.int .i64 0] 3)
  have q4 : Q w3 _ := (Q.refl w3).alloc (.cells #[.int .i64 0] 3)
  generalize w3.alloc (.cells #[.int .i64 0] 3) = w4 at *
  rw [s1] at s2 b2
  rw [s2] at s3 b3
  rw [s3] at b4
  have QA := hid (((q1.trans q2).trans q3).trans q4)
  have TRW := hid (show TR w4 db D es (w.heap.size + 1) x zs 0 from
    ⟨HH.out.q QA.out, ⟨blk_q (q3.trans q4) b2, HSG.out.q QA.out, hl, hc, hz, hn, fun b e => by have := (hxd b e).2.2; omega, Nat.zero_le _⟩, by omega, fun b e => by have := hle b e; omega, fun b e => ⟨(hxd b e).1, (hxd b e).2.1, Nat.lt_of_lt_of_le (hxd b e).2.2 QA.out.size⟩, hss, hsb, hcc, by omega⟩)
  have HFA := hid (fault30 db D es (w.heap.size + 1) x zs (w.heap.size + 1 + 1) w.heap.size (w.heap.size + 1 + 1 + 1) w4 TRW.out (blk_q q4 b3) (blk_q ((q2.trans q3).trans q4) b1) b4
    (fun b hb => ⟨by omega, by omega, fun e => by have := hle b e; omega, fun e => by have := (hxd b e).2.2; omega⟩) (by omega) hm hG)
  rw [HRW.out] at HFA
  clear b1 b2 b3 b4 q1 q2 q3 q4 s1 s2 s3
  refine HFA.out.mono ?_
  rintro e w5 ⟨rfl, e', h5⟩
  have HT := hid (show TW w db D R w5 e' from ⟨h5.i, (Keep.ofQ QA.out).trans' h5.k (fun i hi f => by
      rcases f with f | f | f | f
      · exact .inl f
      · omega
      · omega
      · exact .inr f), fun b e => (h5.b b e).imp id (fun hh => Nat.le_trans QA.out.size hh), h5.c, h5.s⟩)
  have TX := hid h5.tx
  have HSK := hid (show Seg w5 x.a zs from (HSG.out.q QA.out).keep h5.k (fun b e f => by
    have h1 := hxd b e
    rcases f with f | f | f | f
    · exact h1.1 f
    · omega
    · omega
    · exact h1.2.1 f))
  clear h5
  by_cases h12 : R.e = 12
  · have ev : rv = 0 := by rw [← HRV.out, if_pos h12]
    have er : rr = zs.drop R.p := by rw [← HRR.out, if_pos h12]
    subst ev
    have HB := hid er
    clear er HRV HRR
    have hb : (R.e == 12) = true := by simp [h12]
    have hsl := slice_fromB x.a x.n x.c R.p (by omega)
    have HCL := hid (clone_any ⟨if x.c = R.p then x.a else x.a.map (·.add R.p), x.n - R.p, x.c - R.p⟩ (zs.drop R.p) w5 (seg_from HSK.out hl (by omega) hc) (by rw [List.length_drop, hl]) (by show x.n - R.p ≤ _; omega))
    have ct : w5.cell? ⟨w.heap.size + 1 + 1 + 1, 0, none⟩ = some (.int .i64 (R.p : Int)) := by rw [cell_of_row w5 _ 0 _ 3 (0, 0) TX.out]; rfl
    dsimp only at HCL
    generalize (if x.c = R.p then x.a else x.a.map (·.add R.p)) = xa at *
    generalize x.n - R.p = xn at *
    generalize x.c - R.p = xc at *
    have HK5 := hid HT.out.k.size
    clear hl hc hz hn hxd hss hsb hcc hG hpl
    go_wp2_with (go_at_call 32; refine HCL.out.mono ?_; rintro e9 w6 ⟨⟨ya, yn, yc⟩, rfl, q6, r6, n6⟩)
    go_ret2
    exact ⟨⟨⟨ya, yn, yc⟩, rfl, by rw [HB.out]; exact r6, n6.mono HK5.out⟩, e', HT.out.i.q q6, HT.out.k.trans (Keep.ofQ q6), HT.out.b, HT.out.c, HT.out.s⟩
  · have ev : rv = R.e := by rw [← HRV.out, if_neg h12]
    have er : rr = [] := by rw [← HRR.out, if_neg h12]
    subst ev
    have HB := hid er
    clear er HRV HRR
    have hb : (R.e == 12) = false := by simp [h12]
    go_wp2
    go_ret2
    exact ⟨⟨⟨none, 0, 0⟩, rfl, by rw [HB.out]; exact nil_row _, fun b e => by cases e⟩, e', HT.out⟩
end Go.Proofs.Ytehejibllkmflaa
