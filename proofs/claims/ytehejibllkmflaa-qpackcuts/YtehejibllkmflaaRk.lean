/-
  The decoder's Feed: a contract that the statements' walks use.
-/
import Derived.Test.YtehejibllkmflaaRj
namespace Go.Proofs.Ytehejibllkmflaa
open Go.RowKit
set_option linter.unusedVariables false
set_option maxRecDepth 20000

/-- The decoder behind Feed. -/
abbrev dFed (D : Dk) (R : WR) (e r o : Sv) : Dk := { D with cap := R.cap, sz := sumF R.es, gone := R.g, e := e, r := r, o := o, f := fdX R }
structure FD (w : World) (db : Nat) (D : Dk) (R : WR) (zs : List Int) (w' : World) : Prop where
  ok : fdX R = 0 → ∃ e r o zo, DF w' db (dFed D R e r o) R.es (fdZ R zs) zo ∧ (∀ b, Own4 db (dFed D R e r o) b → Own4 db D b ∨ w.heap.size ≤ b)
  k : Keep (Own4 db D) w w'
theorem row_cap {w : World} {x : Sv} {zs : List Int} (h : Row w x zs) : x.n ≤ x.c := by
  rcases h.2 with ⟨_, h1, h2⟩ | ⟨g, off, cur, _, _, h1, _⟩
  · omega
  · exact h1
theorem fd_of {w w' : World} {db : Nat} {D : Dk} {R : WR} {es : List Fd} {zr zo zs zo' : List Int} (h : DF w db D es zr zo) {e r o : Sv} (hi : DI w' db (dFed D R e r o) R.es) (hr : Row w' r (fdZ R zs)) (ho : Row w' o zo') (hrd : ∀ b, blk r.a = some b → b ≠ db ∧ blk o.a ≠ some b) (hod : ∀ b, blk o.a = some b → b ≠ db ∧ blk e.a ≠ some b) (hz : ∀ y ∈ zs, 0 ≤ y ∧ y < 256) (hsb : sumF R.es ≤ 100000000) (hc : 0 ≤ R.cap ∧ R.cap ≤ 100000000) (hon : zo'.length ≤ R.g + R.es.length) (how : ∀ b, Own4 db (dFed D R e r o) b → Own4 db D b ∨ w.heap.size ≤ b) (k : Keep (Own4 db D) w w') : FD w db D R zs w' := by
  have hzf : ∀ y ∈ fdZ R zs, 0 ≤ y ∧ y < 256 := by
    intro y hy
    unfold fdZ at hy
    split at hy
    · exact hz y (List.mem_of_mem_drop hy)
    · exact absurd hy List.not_mem_nil
  exact ⟨fun h0 => ⟨e, r, o, zo', ⟨hi, hr, ho, hrd, hod, hzf, rfl, hsb, hc, h.m, h0, hon⟩, how⟩, k⟩
set_option maxHeartbeats 16000000 in
theorem feed_any (db : Nat) (D : Dk) (es : List Fd) (zr zo : List Int) (x : Sv) (bs : List Int) (w : World) (h : DF w db D es zr zo) (hs : Seg w x.a bs) (hl : bs.length = x.n) (hz : ∀ y ∈ bs, 0 ≤ y ∧ y < 256) (hG : D.gone + es.length + (zr ++ bs).length ≤ 140737488355328) :
    Calls Try.prog 9 #[.pointer (some ⟨db, 0, none⟩), .slice x.a x.n x.c] w fun e w' => e = .returned (.int .i64 (fdX (fdR D es zr bs))) ∧ FD w db D (fdR D es zr bs) (zr ++ bs) w' := by
  have hmf : ∀ (fn : Fn) (first cap : Array Value) (w : World), (Instr.makeFunc fn first cap).run Try.prog w = .ok (.func fn first cap) w := fun _ _ _ _ => rfl
  have hzz : ∀ y ∈ zr ++ bs, 0 ≤ y ∧ y < 256 := fun y hy => (List.mem_append.1 hy).elim (h.zr y) (hz y)
  have hcnt := whl_cnt hzz h.m (zr ++ bs).length D.cap D.gone es 0 h.c (Nat.zero_le _)
  have HR0 := hid (show whl D.most (zr ++ bs).length D.cap D.gone es (zr ++ bs) 0 = fdR D es zr bs from rfl)
  rw [HR0.out] at hcnt
  generalize fdR D es zr bs = R at *
  have hln : (zr ++ bs).length = zr.length + bs.length := List.length_append
  have hon := h.on
  have c11 : w.cell? ⟨db, 11, none⟩ = some (.int .i64 0) := by have := h.i.c 11 (.int .i64 D.f) rfl; rw [h.f] at this; exact this
  have HH := hid h
  have HC0 := hid (cnt_any db D es w h.i (by omega) (by omega))
  have hld := lt_of_block h.i.b
  have hle : ∀ b, blk D.e.a = some b → b < w.heap.size := fun b e => Sub.lt h.i.r b e
  have hlo : ∀ b, blk D.o.a = some b → b < w.heap.size := fun b e => Sub.lt h.o b e
  clear h
  go_enter Try.func9, Try.ntmps9
  go_wp2_with (go_at_call 16; refine HC0.out.mono ?_; rintro e w1 ⟨rfl, q1⟩; have Q1 := hid q1; have c10 : w1.cell? ⟨db, 10, none⟩ = some (.slice D.r.a D.r.n D.r.c) := (HH.out.i.q q1).c 10 _ rfl; clear q1 c11; refine Hid.out ?_)
  refine hid ?_
  have HCC := hid (concat_two w1 D.r x zr bs ⟨(Row.seg HH.out.r).q Q1.out, Row.len HH.out.r⟩ ⟨hs.q Q1.out, hl⟩ (by omega))
  go_wp2_with (go_at_call 18; refine HCC.out.mono ?_; rintro e w2 ⟨⟨ca, cn, cc⟩, rfl, q2, r2, n2⟩; have Q2 := hid (Q1.out.trans q2); have R2 := hid r2; have N2 := hid n2; clear q2 r2 n2 c10; refine Hid.out ?_)
  refine hid ?_
  have hw12 := Q2.out.size
  have HTW : Hid (Calls Try.prog 17 #[.slice ca cn cc, .func (.func 19) #[.pointer (some ⟨db, 0, none⟩)] #[]] w2 fun e w' => (∃ r : Sv, e = .returned (.tuple #[.slice r.a r.n r.c, .int .i64 (fdX R)]) ∧ Row w' r (fdZ R (zr ++ bs)) ∧ New w2.heap.size r) ∧ ∃ e', TW w2 db D R w' e') := by
    rw [← HR0.out]
    exact hid (twhole_any db D es ⟨ca, cn, cc⟩ (zr ++ bs) w2 (HH.out.i.q Q2.out) (Row.seg R2.out) (Row.len R2.out) (row_cap R2.out) hzz (by have : (zr ++ bs).length = cn := Row.len R2.out; show cn ≤ _; omega)
      (fun b e => ⟨fun e2 => by have := N2.out b e; have := Q1.out.size; omega, fun e2 => by have := N2.out b e; have := hle b e2; have := Q1.out.size; omega, Sub.lt R2.out b e⟩) HH.out.s HH.out.sb HH.out.c HH.out.m hG)
  go_wp2_with (go_at_call 17; refine HTW.out.mono ?_; rintro e w3 ⟨⟨⟨ra, rn, rc⟩, rfl, r3, n3⟩, e3, t3⟩; have R3 := hid r3; have N3 := hid n3; have T3 := hid t3; have f10 := t3.i.f 10; have f11 := t3.i.f 11; have c10 : w3.cell? ⟨db, 10, none⟩ = some (.slice D.r.a D.r.n D.r.c) := t3.i.c 10 _ rfl; have c11 : w3.cell? ⟨db, 11, none⟩ = some (.int .i64 D.f) := t3.i.c 11 _ rfl; clear r3 n3 t3; refine Hid.out ?_)
  refine hid ?_
  have hK3 : Keep (fun b => b = db) w3 ((w3.setCell ⟨db, 10, none⟩ (.slice ra rn rc)).setCell ⟨db, 11, none⟩ (.int .i64 (fdX R))) := ((Keep.refl (fun b => b = db) w3).setCell db 10 _ (.inl rfl)).setCell db 11 _ (.inl rfl)
  have HI3 := hid (show DI ((w3.setCell ⟨db, 10, none⟩ (.slice ra rn rc)).setCell ⟨db, 11, none⟩ (.int .i64 (fdX R))) db (dFed D R e3 ⟨ra, rn, rc⟩ D.o) R.es from
    ⟨dC_set (dC_set T3.out.i.b 10 _ { dAt D R.cap R.g e3 R.es with r := ⟨ra, rn, rc⟩ } rfl) 11 _ (dFed D R e3 ⟨ra, rn, rc⟩ D.o) rfl, RowG.keep T3.out.i.r hK3 (fun b e h => T3.out.i.d b e h), T3.out.i.d⟩)
  have HR3 := hid (Sub.keep R3.out hK3 (fun b e h => by have := N3.out b e; omega))
  have HO3 := hid (Sub.keep (Sub.keep (Sub.q HH.out.o Q2.out) T3.out.k (fun b e h => h.elim (HH.out.od b e).1 (fun h2 => (HH.out.od b e).2 h2))) hK3 (fun b e h => (HH.out.od b e).1 h))
  have HK3 := hid (show Keep (Own4 db D) w _ from ((Keep.ofQ (F := Own4 db D) Q2.out).trans' T3.out.k (fun i _ h => h.elim .inl (fun h => .inr (.inl h)))).trans' hK3 (fun i _ h => .inl h))
  have hs3 := T3.out.k.size
  have hs33 := hK3.size
  have HE3 : Hid (∀ b, blk e3.a = some b → blk D.e.a = some b ∨ w2.heap.size ≤ b) := hid T3.out.b
  have HL3 : Hid (∀ b, blk e3.a = some b → b < w3.heap.size) := hid (fun b e => Sub.lt T3.out.i.r b e)
  have HRL : Hid (∀ b, blk ra = some b → b < w3.heap.size) := hid (fun b e => Sub.lt R3.out b e)
  clear hK3
  have HC3 := hid (cnt_any db (dFed D R e3 ⟨ra, rn, rc⟩ D.o) R.es _ HI3.out (by show R.g ≤ _; omega) (by omega))
  go_wp2_with (go_at_call 16; refine HC3.out.mono ?_; rintro e w4 ⟨rfl, q4⟩; refine Hid.out ?_)
  refine hid ?_
  generalize ((w3.setCell ⟨db, 10, none⟩ (.slice ra rn rc)).setCell ⟨db, 11, none⟩ (.int .i64 (fdX R))) = W3 at *
  have c11 : w4.cell? ⟨db, 11, none⟩ = some (.int .i64 (fdX R)) := (HI3.out.q q4).c 11 _ rfl
  have Q4 := hid q4
  have hs4 := q4.size
  clear q4
  have HNW : Hid (∀ b, blk ra = some b → w2.heap.size ≤ b) := hid (fun b e => N3.out b e)
  have HRD : Hid (∀ b, blk ra = some b → b ≠ db ∧ blk D.o.a ≠ some b) := hid (fun b e => ⟨fun h => by have := HNW.out b e; omega, fun h => by have := HNW.out b e; have := hlo b h; omega⟩)
  have HOD : Hid (∀ b, blk D.o.a = some b → b ≠ db ∧ blk e3.a ≠ some b) := hid (fun b e => ⟨(HH.out.od b e).1, fun h => by
    rcases HE3.out b h with h2 | h2
    · exact (HH.out.od b e).2 h2
    · have := hlo b e; omega⟩)
  have hsb3 := T3.out.s
  have hc3 := hid T3.out.c
  by_cases hk : (D.gone : Int) + es.length < (R.g : Int) + R.es.length
  · have HN := hid (num_any ((R.g : Int) + R.es.length - (D.gone + es.length)) 6 0 w4 (by omega) (by omega))
    go_wp2_with (go_at_call 21; refine HN.out.mono ?_; rintro e w5 ⟨⟨na, nn, nc⟩, rfl, q5, r5, n5⟩; have Q5 := hid q5; have R5 := hid r5; have N5 := hid n5; clear q5 r5 n5; refine Hid.out ?_)
    refine hid ?_
    have hs5 := Q5.out.size
    have Q45 := hid (Q4.out.trans Q5.out)
    obtain ⟨k, hkk⟩ : ∃ k : Nat, k + (D.gone + es.length) = R.g + R.es.length := ⟨R.g + R.es.length - (D.gone + es.length), by omega⟩
    have hke : (R.g : Int) + R.es.length - (D.gone + es.length) = (k : Int) := by omega
    have hpl := num6_len (n := k) (by omega) (by omega)
    rw [← hke] at hpl
    have HS := hid (sayD_any db (dFed D R e3 ⟨ra, rn, rc⟩ D.o) ⟨na, nn, nc⟩ zo _ w5 (HI3.out.q Q45.out).b (Sub.q HO3.out Q45.out) (Row.seg R5.out) (Row.len R5.out) (fun b e => (HOD.out b e).1) (by omega))
    go_wp2_with (go_at_call 20; refine HS.out.mono ?_; rintro e w6 ⟨rfl, ⟨ya, yn, yc⟩, b6, r6, k6, y6⟩; have B6 := hid b6; have R6 := hid r6; have K6 := hid k6; have Y6 := hid y6; clear b6 r6 k6 y6 c11; refine Hid.out ?_)
    refine hid ?_
    have HW := hid (rwait_any db (dFed D R e3 ⟨ra, rn, rc⟩ ⟨ya, yn, yc⟩) w6 B6.out)
    go_wp2_with (go_at_call 22; refine HW.out.mono ?_; rintro e w7 ⟨rfl, b7, k7⟩; have c11 : w7.cell? ⟨db, 11, none⟩ = some (.int .i64 (fdX R)) := (by rw [cell_of_row w7 _ 11 _ 55 (0, 0) b7]; rfl); have B7 := hid b7; have K7 := hid k7; clear b7 k7)
    go_ret
    have hy6 : ∀ b, blk ya = some b → blk D.o.a = some b ∨ w5.heap.size ≤ b := Y6.out
    have hy7 : ∀ b, blk ya = some b → b ≠ db := fun b e h => by
      rcases hy6 b e with h2 | h2
      · exact (HOD.out b h2).1 h
      · omega
    refine ⟨rfl, fd_of HH.out (e := e3) (r := ⟨ra, rn, rc⟩) (o := ⟨ya, yn, yc⟩) ⟨B7.out, RowG.keep (RowG.keep (HI3.out.q Q45.out).r K6.out (fun b e h => h.elim (HI3.out.d b e) (fun h2 => (HOD.out b h2).2 e))) K7.out (fun b e h => HI3.out.d b e h), HI3.out.d⟩
      (Sub.keep (Sub.keep (Sub.q HR3.out Q45.out) K6.out (fun b e h => h.elim (HRD.out b e).1 (HRD.out b e).2)) K7.out (fun b e h => (HRD.out b e).1 h))
      (Sub.keep R6.out K7.out hy7) (fun b e => ⟨(HRD.out b e).1, fun h => ?_⟩) (fun b e => ⟨hy7 b e, fun h => ?_⟩) hzz hsb3 hc3.out ?_ (fun b h => ?_)
      (((HK3.out.trans (Keep.ofQ Q45.out)).trans' K6.out (fun i _ h => h.elim .inl (fun h => .inr (.inr h)))).trans' K7.out (fun i _ h => .inl h))⟩
    · rcases hy6 b h with h2 | h2
      · exact (HRD.out b e).2 h2
      · have := HRL.out b e; omega
    · rcases hy6 b e with h2 | h2
      · exact (HOD.out b h2).2 h
      · have := HL3.out b h; omega
    · rw [List.length_append]; omega
    · rcases h with h | h | h
      · exact .inl (.inl h)
      · rcases HE3.out b h with h2 | h2
        · exact .inl (.inr (.inl h2))
        · exact .inr (by omega)
      · rcases hy6 b h with h2 | h2
        · exact .inl (.inr (.inr h2))
        · exact .inr (by omega)
  · go_wp2
    go_ret
    exact ⟨rfl, fd_of HH.out (HI3.out.q Q4.out) (Sub.q HR3.out Q4.out) (Sub.q HO3.out Q4.out) HRD.out HOD.out hzz hsb3 hc3.out (by omega) (fun b h => by
      rcases h with h | h | h
      · exact .inl (.inl h)
      · rcases HE3.out b h with h2 | h2
        · exact .inl (.inr (.inl h2))
        · exact .inr (by omega)
      · exact .inl (.inr (.inr h))) (HK3.out.trans (Keep.ofQ Q4.out))⟩
end Go.Proofs.Ytehejibllkmflaa
