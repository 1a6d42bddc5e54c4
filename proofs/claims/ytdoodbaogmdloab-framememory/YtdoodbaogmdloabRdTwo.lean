/-
  What a reading's down, span, kind and zeros do: contracts that the statements' walks use.
-/
import Derived.Test.YtdoodbaogmdloabRd
namespace Go.Proofs.Ytdoodbaogmdloab
open Go.RowKit
set_option linter.unusedVariables false
set_option maxRecDepth 20000

def downO (zs : List Int) (p from_ : Int) : Out Int := (numO zs p).bind fun m q => if from_ - m < 0 then .bad 51 else .ok (from_ - m) q
def spanO (zs : List Int) (p to : Int) : Out (Int × Int) := (downO zs p to).bind fun a q => .ok (a, to) q
def kindO (zs : List Int) (p : Int) : Out Int := (numO zs p).bind fun k q => if q - p ≠ sz k then .bad 53 else if 30 < k then .bad 50 else .ok k q

theorem numO_ok {zs : List Int} {p m q : Int} (hz : ∀ y ∈ zs, 0 ≤ y ∧ y < 256) (hp : 0 ≤ p) (hpl : p ≤ zs.length) (h : numO zs p = .ok m q) : p < q ∧ q ≤ zs.length ∧ 0 ≤ m ∧ m ≤ 4611686018427387903 := by
  obtain ⟨⟨m', q', f⟩, hx⟩ : ∃ x, rd zs p = x := ⟨_, rfl⟩
  unfold numO at h
  rw [hx] at h
  dsimp only at h
  by_cases hf : f = 0
  · rw [if_pos hf] at h
    cases h
    exact rd_range hz hp hpl hx hf
  · rw [if_neg hf] at h; cases h

section
variable (rk rb g : Nat) (b : Sv) (zs : List Int) (pl p : Int) (w : World)

set_option maxHeartbeats 400000 in
theorem down_at (fr : Int) (h : Rg w rk rb g b zs pl p) (h0 : -4611686018427387903 ≤ fr) (h1 : fr ≤ 4611686018427387903) : Calls Try.prog 61 #[.pointer (some ⟨rk, 0, none⟩), .int .i64 fr] w fun e w' => Ans w rk rb g b zs pl (fun m w' v => v = .int .i64 m) (downO zs p fr) e w' := by
  have HH := hid h
  clear h
  go_enter Try.func61, Try.ntmps61
  go_wp2_with fail
  refine (number_at rk rb g b zs pl p w HH.out).mono ?_
  rintro e w1 ⟨hk, ⟨m, q, v, ho, rfl, rfl, hr⟩ | ⟨hs, rfl⟩⟩
  · have hn := numO_ok HH.out.by_ HH.out.p0 (by rw [HH.out.len]; exact HH.out.p1) ho
    have hw : IntKind.i64.wrap (fr - m) = fr - m := by rw [IntKind.wrap_i64]; omega
    by_cases hb : fr - m < 0
    · have hbb : decide (fr - m < 0) = true := by simp [hb]
      have HA := hid (show Ans w rk rb g b zs pl (fun m w' v => v = .int .i64 m) (downO zs p fr) (.panicked [refP 51]) w1 from
        ⟨hk, .inr (by have e : downO zs p fr = .bad 51 := by unfold downO; rw [ho]; show (if _ then _ else _) = _; rw [if_pos hb]
                      rw [e]; exact ⟨stop_bad _, rfl⟩)⟩)
      clear hk ho hr hn
      go_wp2
      exact ⟨rfl, HA.out⟩
    · have hbb : decide (fr - m < 0) = false := by simp; omega
      have HA := hid (show Ans w rk rb g b zs pl (fun m w' v => v = .int .i64 m) (downO zs p fr) (.returned (.int .i64 (fr - m))) w1 from
        ⟨hk, .inl ⟨fr - m, q, _, by unfold downO; rw [ho]; show (if _ then _ else _) = _; rw [if_neg hb], rfl, rfl, hr⟩⟩)
      clear hk ho hr hn
      go_wp2
      go_ret
      exact HA.out
  · have hst := Out.bind_stop hs (fun m q => if fr - m < 0 then Out.bad 51 else .ok (fr - m) q)
    exact ⟨rfl, hk, .inr ⟨hst.1, by rw [show downO zs p fr = _ from rfl, ← hst.2]; rfl⟩⟩

set_option maxHeartbeats 400000 in
theorem span_at (to : Int) (h : Rg w rk rb g b zs pl p) (h0 : -4611686018427387903 ≤ to) (h1 : to ≤ 4611686018427387903) : Calls Try.prog 60 #[.pointer (some ⟨rk, 0, none⟩), .int .i64 to] w fun e w' => Ans w rk rb g b zs pl (fun m w' v => v = .agg #[.int .i64 m.1, .int .i64 m.2]) (spanO zs p to) e w' := by
  have HH := hid h
  clear h
  go_enter Try.func60, Try.ntmps60
  go_wp2_with fail
  generalize hw1 : World.alloc w _ = w1
  have hq : Q w w1 := by rw [← hw1]; exact (Q.refl w).alloc _
  have hcell : w1.heap[w.heap.size]? = some (.cells #[.int .i64 0, .int .i64 0] 36 (0, 0)) := by rw [← hw1]; exact heap_alloc_new w _
  refine (down_at rk rb g b zs pl p w1 to (HH.out.q hq) h0 h1).mono ?_
  rintro e w2 ⟨hk, ⟨a, q, v, ho, rfl, rfl, hr⟩ | ⟨hs, rfl⟩⟩
  · have hlt : rb < w.heap.size := HH.out.rdr.lt
    have hcell2 : w2.heap[w.heap.size]? = some (.cells #[.int .i64 0, .int .i64 0] 36 (0, 0)) := (hk.block _ (lt_of_block hcell) (by omega)).trans hcell
    have c0 : w2.cell? ⟨w.heap.size, 0, none⟩ = some (.int .i64 0) := by rw [cell_of_row w2 _ 0 _ 36 (0, 0) hcell2]; rfl
    have c1 : w2.cell? ⟨w.heap.size, 1, none⟩ = some (.int .i64 0) := by rw [cell_of_row w2 _ 1 _ 36 (0, 0) hcell2]; rfl
    have f0 := frozen_of_row w2 w.heap.size 0 _ 36 hcell2
    have f1 := frozen_of_row w2 w.heap.size 1 _ 36 hcell2
    have hk2 : Keep (fun k => k = rb) w w2 := (Keep.ofQ hq).trans hk
    have FIN := hid (show ∀ v, v = Value.agg #[.int .i64 a, .int .i64 to] → Ans w rk rb g b zs pl (fun m w' v => v = .agg #[.int .i64 m.1, .int .i64 m.2]) (spanO zs p to) (.returned v) ((w2.setCell ⟨w.heap.size, 0, none⟩ (.int .i64 a)).setCell ⟨w.heap.size, 1, none⟩ (.int .i64 to)) from by
      rintro v rfl
      have kk : Keep (fun k => k = w.heap.size) w2 ((w2.setCell ⟨w.heap.size, 0, none⟩ (.int .i64 a)).setCell ⟨w.heap.size, 1, none⟩ (.int .i64 to)) := ((Keep.refl (fun k => k = w.heap.size) w2).setCell _ _ _ (.inl rfl)).setCell _ _ _ (.inl rfl)
      exact ⟨hk2.old kk (fun i e => .inr (by omega)), .inl ⟨(a, to), q, _, by unfold spanO; rw [ho]; rfl, rfl, rfl, hr.keepNew kk HH.out (fun i e => by omega)⟩⟩)
    have HTB := hid (show ((w2.setCell ⟨w.heap.size, 0, none⟩ (.int .i64 a)).setCell ⟨w.heap.size, 1, none⟩ (.int .i64 to)).heap[w.heap.size]? = some (.cells #[.int .i64 a, .int .i64 to] 36 (0, 0)) from Tb.set (t := (0, 0)) hcell2 a to)
    clear hk ho hr hcell hcell2 hk2 hq hw1
    go_wp2
    refine ⟨rfl, _, results_cell_row (ty := 36) rfl _ _ w.heap.size 36 #[.int .i64 a, .int .i64 to] (0, 0) _ rfl HTB.out Try.underlying36 rfl (by kernel_rfl), ?_⟩
    exact FIN.out _ rfl
  · have hst := Out.bind_stop hs (fun a q => Out.ok (a, to) q)
    exact ⟨rfl, (Keep.ofQ hq).trans hk, .inr ⟨hst.1, by rw [show spanO zs p to = _ from rfl, ← hst.2]; rfl⟩⟩

set_option maxHeartbeats 1000000 in
theorem kind_at (h : Rg w rk rb g b zs p p) : Calls Try.prog 36 #[.pointer (some ⟨rk, 0, none⟩)] w fun e w' => Ans w rk rb g b zs p (fun m w' v => v = .int .i64 m) (kindO zs p) e w' := by
  have HH := hid h
  clear h
  go_enter Try.func36, Try.ntmps36
  go_wp2_with fail
  refine (number_at rk rb g b zs p p w HH.out).mono ?_
  rintro e w1 ⟨hk, ⟨m, q, v, ho, rfl, rfl, hr⟩ | ⟨hs, rfl⟩⟩
  · have hn := numO_ok HH.out.by_ HH.out.p0 (by rw [HH.out.len]; exact HH.out.p1) ho
    have hq1 := hr.p1
    have hq0 := HH.out.p0
    have hsm := HH.out.small
    have c1 := hr.c1
    have c2 := hr.c2
    have HR := hid hr.rdr
    have hw : IntKind.i64.wrap (q - p) = q - p := by rw [IntKind.wrap_i64]; omega
    have PA := hid (show ∀ x n, kindO zs p = .bad x → Ans w rk rb g b zs p (fun m w' v => v = .int .i64 m) (kindO zs p) (.panicked [refP x]) (w1.drewN n) from fun x n e => ⟨hk.drewN n, .inr (by rw [e]; exact ⟨stop_bad _, rfl⟩)⟩)
    by_cases hb : q - p = sz m
    · by_cases h30 : 30 < m
      · have hbb : (q - p != (sz m : Int)) = false := by simp [hb]
        have hd : decide (30 < m) = true := by simp [h30]
        have HE := hid (show kindO zs p = .bad 50 from by unfold kindO; rw [ho]; show (if _ then _ else _) = _; rw [if_neg (by simp [hb]), if_pos h30])
        clear hk ho hr hn
        go_wp2
        go_quiet (first | (go_at_call 34; exact Calls.quiet_of_same ((at_any rb _ _ _ q 0 _ ((HR.out).drewN _)).mono (by rintro e w' ⟨rfl, rfl⟩; exact ⟨rfl, rfl⟩))) | (go_at_call 55; exact Calls.quiet_of_same ((size_any m _).mono (by rintro e w' ⟨rfl, rfl⟩; exact ⟨rfl, rfl⟩))))
        go_wp2
        exact ⟨rfl, PA.out _ _ HE.out⟩
      · have hbb : (q - p != (sz m : Int)) = false := by simp [hb]
        have hd : decide (30 < m) = false := by simp; omega
        have HA := hid (show ∀ n, Ans w rk rb g b zs p (fun m w' v => v = .int .i64 m) (kindO zs p) (.returned (.int .i64 m)) (w1.drewN n) from fun n => ⟨hk.drewN n, .inl ⟨m, q, _, by unfold kindO; rw [ho]; show (if _ then _ else _) = _; rw [if_neg (by simp [hb]), if_neg h30], rfl, rfl, hr.q ((Q.refl _).drewN _)⟩⟩)
        clear hk ho hr hn
        go_wp2
        go_quiet (first | (go_at_call 34; exact Calls.quiet_of_same ((at_any rb _ _ _ q 0 _ ((HR.out).drewN _)).mono (by rintro e w' ⟨rfl, rfl⟩; exact ⟨rfl, rfl⟩))) | (go_at_call 55; exact Calls.quiet_of_same ((size_any m _).mono (by rintro e w' ⟨rfl, rfl⟩; exact ⟨rfl, rfl⟩))))
        go_wp2
        go_ret
        exact HA.out _
    · have hbb : (q - p != (sz m : Int)) = true := by simp [hb]
      have HE := hid (show kindO zs p = .bad 53 from by unfold kindO; rw [ho]; show (if _ then _ else _) = _; rw [if_pos hb])
      clear hk ho hr hn
      go_wp2
      go_quiet (first | (go_at_call 34; exact Calls.quiet_of_same ((at_any rb _ _ _ q 0 _ ((HR.out).drewN _)).mono (by rintro e w' ⟨rfl, rfl⟩; exact ⟨rfl, rfl⟩))) | (go_at_call 55; exact Calls.quiet_of_same ((size_any m _).mono (by rintro e w' ⟨rfl, rfl⟩; exact ⟨rfl, rfl⟩))))
      go_wp2
      exact ⟨rfl, PA.out _ _ HE.out⟩
  · have hst := Out.bind_stop hs (fun k q => if q - p ≠ sz k then Out.bad 53 else if 30 < k then .bad 50 else .ok k q)
    exact ⟨rfl, hk, .inr ⟨hst.1, by rw [show kindO zs p = _ from rfl, ← hst.2]; rfl⟩⟩
end
end Go.Proofs.Ytdoodbaogmdloab
