/-
  What findLost does: a contract that the statements' walks use.
-/
import Derived.Test.YtjhihcmemnhbbaaLos
import Derived.Deep.Cut
import Derived.Deep.CutRange
import Derived.StillTailTactics
namespace Go.Proofs.Ytjhihcmemnhbbaa
open Go.RowKit
set_option linter.unusedVariables false
set_option maxRecDepth 20000

def fndL (S : Lo) (k : Nat) (now : Int) : List Pk := (S.sp k).out.filter (lostP (S.sp k).ack now (pat S))
def fndR (S : Lo) (k : Nat) (now : Int) : List Pk := (S.sp k).out.filter (fun p => !lostP (S.sp k).ack now (pat S) p)
def fndT (S : Lo) (k : Nat) (now : Int) : Int := match fndR S k now with | [] => -1 | p :: _ => if p.n < (S.sp k).ack then p.a + pat S else -1
def fndM (S : Lo) (k : Nat) (now : Int) : Lo := shr (S.put k { S.sp k with out := fndR S k now }) (fndL S k now) now
def fndS (S : Lo) (k : Nat) (now : Int) : Lo := (fndM S k now).put k { (fndM S k now).sp k with lt := fndT S k now }
theorem shr_sp (S : Lo) (l : List Pk) (now : Int) : (shr S l now).sp = S.sp := by unfold shr; split <;> rfl
theorem fndM_sp (S : Lo) (k : Nat) (now : Int) : (fndM S k now).sp k = { S.sp k with out := fndR S k now } := by unfold fndM; rw [shr_sp, put_sp]
theorem pat_range {N : Nat} {S : Lo} (h : Ok N S) : 1 ≤ pat S ∧ pat S ≤ 2199023255552 := by
  unfold pat
  have := h.lat0; have := h.lat1; have := h.smo0; have := h.smo1
  omega

structure FAns (w : World) (rb : Nat) (r : Nat → Sv) (S : Lo) (l : List Pk) (x : Sv) (r' : Nat → Sv) (w' : World) : Prop where
  row : RowI w' x (l.map (·.n))
  wr : Wr w w' rb r r' S
  new : ∀ b, blk x.a = some b → w.heap.size ≤ b ∧ ¬ Fp rb r' b
  fp : ∀ b, Fp rb r' b → Fp rb r b
def FndAns (w : World) (rb : Nat) (r : Nat → Sv) (S : Lo) (l : List Pk) (e : Ending) (w' : World) : Prop := ∃ x r', e = .returned (.slice x.a x.n x.c) ∧ FAns w rb r S l x r' w'

/-- A variable of its own. -/
def OneC (w : World) (b t : Nat) (v : Value) : Prop := w.heap[b]? = some (.cells #[v] t (0, 0))
theorem OneC.cell {w : World} {b t : Nat} {v : Value} (h : OneC w b t v) : w.cell? ⟨b, 0, none⟩ = some v := by rw [cell_of_row w b 0 _ t (0, 0) h]; rfl
theorem OneC.keep {F : Nat → Prop} {w w' : World} {b t : Nat} {v : Value} (h : OneC w b t v) (k : Keep F w w') (hF : ¬ F b) : OneC w' b t v := (k.block b (lt_of_block h) hF).trans h
theorem OneC.q {w w' : World} {b t : Nat} {v : Value} (h : OneC w b t v) (k : Q w w') : OneC w' b t v := h.keep (Keep.ofQ (F := fun _ => False) k) id
theorem one_keep : True := trivial
theorem cok_out {now : Int} {N : Nat} {c : Sc} (h : Cok now N c) {f : Pk → Bool} : Cok now N { c with out := c.out.filter f } :=
  ⟨fun p hp => h.out p (List.mem_filter.1 hp).1, Nat.le_trans (List.length_filter_le _ _) h.few, h.srt, h.many, h.ack0, h.ack1, h.last0, h.last1, h.lt0, h.lt1⟩

set_option maxHeartbeats 8000000 in
theorem findLost_any {N : Nat} {w : World} {rb : Nat} {r : Nat → Sv} {S : Lo} (h : La w rb r S) (hO : Ok N S) (hN : N ≤ 4398046511103) {k : Nat} (hk : k < 3) (now : Int) (n0 : 0 ≤ now) (n1 : now ≤ 1099511627776) :
    Calls Try.prog 34 #[.pointer (some ⟨rb, 0, none⟩), .pointer (some ⟨rb, 2 + k * 5, none⟩), .int .i64 now] w fun e w' => FndAns w rb r (fndS S k now) (fndL S k now) e w' := by
  obtain ⟨w0, hw0⟩ : ∃ w0, w0 = (w.alloc (.cells #[.pointer (some ⟨rb, 2 + k * 5, none⟩)] 70)).alloc (.cells #[.int .i64 now] 3) := ⟨_, rfl⟩
  have hq0 : Q w w0 := by rw [hw0]; exact ((Q.refl w).alloc _).alloc _
  have B1 := hid (show OneC w0 w.heap.size 70 (.pointer (some ⟨rb, 2 + k * 5, none⟩)) from by rw [hw0]; exact OneC.q (heap_alloc_new w _) ((Q.refl _).alloc _))
  have B2 := hid (show OneC w0 (w.heap.size + 1) 3 (.int .i64 now) from by
    have := heap_alloc_new (w.alloc (.cells #[.pointer (some ⟨rb, 2 + k * 5, none⟩)] 70)) (.cells #[.int .i64 now] 3)
    rw [show (w.alloc (.cells #[.pointer (some ⟨rb, 2 + k * 5, none⟩)] 70)).heap.size = w.heap.size + 1 from by simp] at this
    rw [hw0]; exact this)
  have SZ := hid (show w0.heap.size = w.heap.size + 1 + 1 from by rw [hw0]; simp)
  have P := hid (patience_any (h.q hq0) hO)
  rw [hw0] at P
  have HW0 := hid hw0.symm
  have Q0 := hid hq0
  have H := hid h
  have HO := hid hO
  have HN := hid hN
  have N0 := hid n0
  have N1 := hid n1
  have FLT := hid (show ∀ b, Fp rb r b → b < w.heap.size from h.lt)
  have PR := hid (pat_range hO)
  clear h hO hN n0 n1 hq0 hw0
  go_enter Try.func34, Try.ntmps34
  go_wp2_with fail
  refine P.out.mono ?_
  rintro e w1 ⟨rfl, m, rfl⟩
  go_wp2_with fail
  rw [HW0.out]
  clear P HW0
  obtain ⟨wA, hwA⟩ : ∃ wA, wA = (w0.drewN m).alloc (Obj.cells #[Value.int IntKind.i64 (pat S)] 3) := ⟨_, rfl⟩
  rw [← hwA]
  have qA : Q w0 wA := by rw [hwA]; exact ((Q.refl w0).drewN m).alloc _
  have A1 := B1.out.q qA
  have A2 := B2.out.q qA
  have A3 : OneC wA (w.heap.size + 1 + 1) 3 (.int .i64 (pat S)) := by
    have := heap_alloc_new (w0.drewN m) (.cells #[.int .i64 (pat S)] 3)
    rw [show (w0.drewN m).heap.size = w.heap.size + 1 + 1 from SZ.out] at this
    rw [hwA]; exact this
  have SA : w.heap.size + 1 + 1 < wA.heap.size := lt_of_block A3
  have qwA := Q0.out.trans qA
  have hLA := H.out.q qwA
  have TK := hid (takeL_any hLA hk (HO.out.sp k hk).few w.heap.size (w.heap.size + 1) (w.heap.size + 1 + 1) (lostP (S.sp k).ack now (pat S)) (fun u p _ hku => by
    have ne : ∀ b, w.heap.size ≤ b → ¬ (blk (r (2 * k)).a = some b) := fun b hb e => by have := FLT.out b (.inr ⟨2 * k, by omega, e⟩); omega
    refine lostf_any p (HO.out.sp k hk).ack0 (HO.out.sp k hk).ack1 N0.out N1.out (by have := PR.out; omega) (by have := PR.out; omega) (A1.keep hku (ne _ (Nat.le_refl _))).cell (A2.keep hku (ne _ (by omega))).cell (A3.keep hku (ne _ (by omega))).cell (hku.cell (hLA.hd.ack hk) (fun e => hLA.rs.far _ (by omega) e))))
  have QA := hid qwA
  have HA := hid (And.intro A1 (And.intro A2 (And.intro A3 SA)))
  clear hwA qA A1 A2 A3 SA qwA hLA B1 B2 SZ Q0
  refine TK.out.mono ?_
  rintro e w2 ⟨t, r2, rfl, ht, W2, hnew, hfp⟩
  have hA := HA.out
  have nF : ∀ b, w.heap.size ≤ b → ¬ Fp rb r b := fun b hb e => by have := FLT.out b e; omega
  have C1 := hA.1.keep W2.kp (nF _ (Nat.le_refl _))
  have C2 := hA.2.1.keep W2.kp (nF _ (by omega))
  have C3 := hA.2.2.1.keep W2.kp (nF _ (by omega))
  have ok1 : Ok N (S.put k { S.sp k with out := (S.sp k).out.filter (fun p => !lostP (S.sp k).ack now (pat S) p) }) := ok_put HO.out hk (cok_out (HO.out.sp k hk)) (List.length_filter_le _ _)
  have SH := hid (shrink_any W2.la ok1 ht (by have := List.length_filter_le (lostP (S.sp k).ack now (pat S)) (S.sp k).out; have := (HO.out.sp k hk).few; omega) HN.out now)
  have c2 := C2.cell
  have HC := hid (And.intro C1 (And.intro C2 (And.intro C3 (And.intro W2 (And.intro ht (And.intro hnew hfp))))))
  clear hA nF C1 C2 C3 ok1 ht W2 hnew hfp TK
  obtain ⟨ta, tn, tc⟩ := t
  go_wp2_with fail
  refine SH.out.mono ?_
  rintro e w3 ⟨rfl, W3⟩
  obtain ⟨C1, C2, C3, W2, ht, hnew, hfp⟩ := HC.out
  have nF : ∀ b, w.heap.size ≤ b → ¬ Fp rb r2 b := fun b hb e => by have := FLT.out b (hfp b e); omega
  have D1 := C1.keep W3.kp (nF _ (Nat.le_refl _))
  have D3 := C3.keep W3.kp (nF _ (by omega))
  have ht3 := ht.keep W3.kp (fun b e => nF b (by have := hnew b e; have := QA.out.size; omega))
  have d1 := D1.cell
  have c4 := W3.la.hd.lt_ hk
  have f4 := W3.la.hd.free (2 + k * 5 + 4)
  have W4 := W3.la.setHd (2 + k * 5 + 4) (.int .i64 (-1)) (W3.la.hd.ltm_ hk (-1)) (fun i hi => by
    by_cases e1 : i = k
    · subst e1; rw [put_sp]; exact ⟨rfl, rfl⟩
    · simp only [Lo.put, upd_other _ _ e1]; exact ⟨trivial, trivial⟩)
  obtain ⟨w4, hw4⟩ : ∃ w4, w4 = w3.setCell ⟨rb, 2 + k * 5 + 4, none⟩ (.int .i64 (-1)) := ⟨_, rfl⟩
  rw [← hw4] at W4
  have hrbw : rb < w.heap.size := FLT.out rb (.inl rfl)
  have k4 : Keep (fun b => b = rb) w3 w4 := by rw [hw4]; exact (Keep.refl _ w3).setCell rb _ _ (.inl rfl)
  have E1 := D1.keep k4 (by omega)
  have E3 := D3.keep k4 (by omega)
  have ht4 := ht3.keep k4 (fun b e e2 => by have := hnew b e; have := QA.out.size; omega)
  have WT := ((Wr.ofQ H.out QA.out).trans (W2.trans W3)).trans W4
  have HW4 := hid hw4.symm
  have spk : ((shr (S.put k { S.sp k with out := fndR S k now }) (fndL S k now) now).put k { (shr (S.put k { S.sp k with out := fndR S k now }) (fndL S k now) now).sp k with lt := -1 }).sp k = { S.sp k with out := fndR S k now, lt := -1 } := by
    rw [put_sp, shr_sp, put_sp]
  have hLr := W4.la.rs.o k hk
  have co := W4.la.hd.out hk
  have ca := W4.la.hd.ack hk
  have cl := W4.la.hd.lt_ hk
  have fl := W4.la.hd.free (2 + k * 5 + 4)
  have spo : (((shr (S.put k { S.sp k with out := (S.sp k).out.filter (fun p => !lostP (S.sp k).ack now (pat S) p) }) ((S.sp k).out.filter (lostP (S.sp k).ack now (pat S))) now).put k { (shr (S.put k { S.sp k with out := (S.sp k).out.filter (fun p => !lostP (S.sp k).ack now (pat S) p) }) ((S.sp k).out.filter (lostP (S.sp k).ack now (pat S))) now).sp k with lt := -1 }).sp k) = { S.sp k with out := fndR S k now, lt := -1 } := spk
  rw [spo] at hLr ca cl
  simp only at hLr ca cl
  have e1 := E1.cell
  have e3 := E3.cell
  have NUM := hid (fun (u : World) (q : Q w4 u) => numbers_any (ht4.q q) (by have := List.length_filter_le (lostP (S.sp k).ack now (pat S)) (S.sp k).out; have := (HO.out.sp k hk).few; omega))
  have TL := hid (show ((S.sp k).out.filter (lostP (S.sp k).ack now (pat S))).length ≤ 100000 by have := List.length_filter_le (lostP (S.sp k).ack now (pat S)) (S.sp k).out; have := (HO.out.sp k hk).few; omega)
  have TT := hid ht4
  have TR := hid (show ∀ b, blk ta = some b → ¬ (b = rb) from fun b e e2 => by have := hnew b e; have := QA.out.size; omega)
  have hfp2 := hfp
  have WT4 := hid WT
  have TN := hid (show ∀ b, w4.heap.size ≤ b → w.heap.size ≤ b ∧ ¬ Fp rb r2 b from fun b hb => ⟨by have := WT.kp.size; omega, fun e => by have := W4.la.lt b e; omega⟩)
  have FP := hid hfp
  have LR := hid hLr
  have NX := hid (fun (T : Int) (hT : T = fndT S k now) => show (fndM S k now).put k { (fndM S k now).sp k with lt := T } = fndS S k now by rw [hT]; rfl)
  have HE4 := hid (And.intro E1 E3)
  have HRB := hid hrbw
  clear C1 C2 C3 W2 ht hnew hfp W3 nF D1 D3 ht3 W4 k4 E1 E3 ht4 WT spk hLr spo hfp2 SH HA HC hw4 hrbw
  go_wp2_with fail
  rw [HW4.out]
  cases hR : fndR S k now with
  | nil =>
    have hn0 : (r2 (2 * k)).n = 0 := by have := LR.out.len; rw [hR] at this; simpa using this.symm
    have g1 : decide (0 < ((r2 (2 * k)).n : Int)) = false := by simp [hn0]
    have g2 : (0 < (r2 (2 * k)).n) = False := by simp [hn0]
    have HT := hid (show (-1 : Int) = fndT S k now by unfold fndT; rw [hR])
    clear hn0 hR
    go_quiet (fail)
    go_wp2_with fail
    refine (NUM.out _ ((Q.refl w4).drewN nq)).mono ?_
    rintro e w6 ⟨x, rfl, hx, q6, nx6⟩
    have FIN := hid (show FAns w rb r (fndS S k now) (fndL S k now) x r2 w6 from ⟨hx, by rw [← NX.out _ HT.out]; exact WT4.out.qr (((Q.refl w4).drewN nq).trans q6), fun b e => TN.out b (nx6 b e), FP.out⟩)
    clear hx q6 nx6
    obtain ⟨xa, xn, xc⟩ := x
    go_wp2
    go_ret
    exact ⟨⟨xa, xn, xc⟩, r2, rfl, FIN.out⟩
  | cons p R =>
    have hn0 : 0 < (r2 (2 * k)).n := by have := LR.out.len; rw [hR] at this; simp at this; omega
    have g1 : decide (0 < ((r2 (2 * k)).n : Int)) = true := by simp; omega
    have g3 : (0 : Int) < ((r2 (2 * k)).n : Int) := by omega
    obtain ⟨g, o2, ha, _, hs⟩ := LR.out.at_ (k := 0) hn0
    rw [hR] at hs
    rw [Nat.zero_mul, Nat.add_zero] at hs
    have s0 : w4.cell? ⟨g, o2, none⟩ = some (.int .i64 p.n) := hs.c0
    have s2 : w4.cell? ⟨g, o2 + 2, none⟩ = some (.int .i64 p.a) := hs.c2
    rw [ha] at co
    by_cases hlt : p.n < (S.sp k).ack
    · have b1 : decide (p.n < (S.sp k).ack) = true := by simp [hlt]
      have HT := hid (show p.a + pat S = fndT S k now by unfold fndT; rw [hR]; simp only; rw [if_pos hlt])
      have hpm : p ∈ (S.sp k).out := by
        have : p ∈ fndR S k now := by rw [hR]; exact List.mem_cons_self
        exact (List.mem_filter.1 this).1
      have pa0 := ((HO.out.sp k hk).out p hpm).a0
      have pa1 := ((HO.out.sp k hk).out p hpm).a1
      have pn1 := HO.out.now1
      have pp := PR.out
      have hwp : IntKind.i64.wrap (p.a + pat S) = p.a + pat S := by rw [IntKind.wrap_i64]; omega
      clear hlt hR hs hpm pa0 pa1 pn1 pp
      go_quiet (fail)
      have W5 := WT4.out.qr ((Q.refl w4).drewN nq)
      have q5 : Q w4 (w4.drewN nq) := (Q.refl w4).drewN nq
      have e15 : (w4.drewN nq).cell? ⟨w.heap.size, 0, none⟩ = some (.pointer (some ⟨rb, 2 + k * 5, none⟩)) := e1
      have e35 : (w4.drewN nq).cell? ⟨w.heap.size + 1 + 1, 0, none⟩ = some (.int .i64 (pat S)) := e3
      have co5 : (w4.drewN nq).cell? ⟨rb, 2 + k * 5, none⟩ = some (.slice (some ⟨g, o2, none⟩) (r2 (2 * k)).n (r2 (2 * k)).c) := co
      have s25 : (w4.drewN nq).cell? ⟨g, o2 + 2, none⟩ = some (.int .i64 p.a) := s2
      have cl5 : (w4.drewN nq).cell? ⟨rb, 2 + k * 5 + 4, none⟩ = some (.int .i64 (-1)) := cl
      have fl5 : (w4.drewN nq).frozen? ⟨rb, 2 + k * 5 + 4, none⟩ = false := fl
      obtain ⟨w5, hw5⟩ : ∃ w5, w5 = w4.drewN nq := ⟨_, rfl⟩
      rw [← hw5] at W5 q5 e15 e35 co5 s25 cl5 fl5
      have HW5 := hid hw5.symm
      have W6 := W5.la.setHd (2 + k * 5 + 4) (.int .i64 (p.a + pat S)) (W5.la.hd.ltm_ hk (p.a + pat S)) (fun i hi => by
        by_cases e1 : i = k
        · subst e1; rw [put_sp]; exact ⟨rfl, rfl⟩
        · simp only [Lo.put, upd_other _ _ e1]; exact ⟨trivial, trivial⟩)
      rw [put_sp, put_put] at W6
      obtain ⟨w6, hw6⟩ : ∃ w6, w6 = (w5.setCell ⟨rb, 2 + k * 5 + 4, none⟩ (.int .i64 (p.a + pat S))).drew := ⟨_, rfl⟩
      have W7 := (W5.trans W6).qr ((Q.refl _).drew)
      rw [← hw6] at W7
      have htb := hid (fun (u : World) (q : Q w6 u) => numbers_any (d := ⟨ta, tn, tc⟩) (l := (S.sp k).out.filter (lostP (S.sp k).ack now (pat S))) (Sub.q (Sub.keep (TT.out.q q5) (show Keep (fun b => b = rb) w5 w6 from by rw [hw6]; exact ((Keep.refl (fun b => b = rb) w5).setCell rb _ _ (.inl rfl)).drew) TR.out) q) TL.out)
      have TN6 := hid (show ∀ b, w6.heap.size ≤ b → w.heap.size ≤ b ∧ ¬ Fp rb r2 b from fun b hb => ⟨by have := W7.kp.size; omega, fun e => by have := W7.la.lt b e; omega⟩)
      have W7h := hid W7
      have HW6 := hid hw6.symm
      clear W5 W6 W7 hw6 hw5 q5 e1 e3 co s2 cl fl s0 ca
      rw [HW5.out]
      go_wp2
      go_still_tail 12, (by kernel_rfl)
      go_wp2_with fail
      rw [HW6.out]
      refine (htb.out w6 (Q.refl w6)).mono ?_
      rintro e w8 ⟨x, rfl, hx, q8, nx8⟩
      have FIN := hid (show FAns w rb r (fndS S k now) (fndL S k now) x r2 w8 from ⟨hx, by rw [← NX.out _ HT.out]; exact W7h.out.qr q8, fun b e => TN6.out b (nx8 b e), FP.out⟩)
      clear hx q8 nx8
      obtain ⟨xa, xn, xc⟩ := x
      go_wp2
      go_ret
      exact ⟨⟨xa, xn, xc⟩, r2, rfl, FIN.out⟩
    · have b1 : decide (p.n < (S.sp k).ack) = false := by simp; omega
      have HT := hid (show (-1 : Int) = fndT S k now by unfold fndT; rw [hR]; simp only; rw [if_neg hlt])
      clear hlt hR hs
      go_quiet (fail)
      go_wp2_with fail
      refine (NUM.out _ ((Q.refl w4).drewN nq)).mono ?_
      rintro e w6 ⟨x, rfl, hx, q6, nx6⟩
      have FIN := hid (show FAns w rb r (fndS S k now) (fndL S k now) x r2 w6 from ⟨hx, by rw [← NX.out _ HT.out]; exact WT4.out.qr (((Q.refl w4).drewN nq).trans q6), fun b e => TN.out b (nx6 b e), FP.out⟩)
      clear hx q6 nx6
      obtain ⟨xa, xn, xc⟩ := x
      go_wp2
      go_ret
      exact ⟨⟨xa, xn, xc⟩, r2, rfl, FIN.out⟩
end Go.Proofs.Ytjhihcmemnhbbaa
