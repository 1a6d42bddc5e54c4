/-
  What Ack and Fire answer and do, at any arguments: contracts that the statements' walks use.
-/
import Derived.Test.YtjhihcmemnhbbaaOkm
namespace Go.Proofs.Ytjhihcmemnhbbaa
open Go.RowKit
set_option linter.unusedVariables false
set_option maxRecDepth 20000

theorem ack_any {N : Nat} {w : World} {rb : Nat} {r : Nat → Sv} {S : Lo} (h : La w rb r S) (hO : Ok N S) (hN : N ≤ 4398046511103) (k : Int) {a : Option Addr} {m c : Nat} {l : List Spn} (ht : SegS w a l) (hl : l.length = m) (hm : m ≤ 4611686018427387904) (delay now : Int) (hfar : ∀ b, blk a = some b → ¬ Fp rb r b) :
    Calls Try.prog 14 #[.pointer (some ⟨rb, 0, none⟩), .int .i64 k, .slice a m c, .int .i64 delay, .int .i64 now] w fun e w' => AckAns w rb r (ackS S k l delay now) (ackA S k l delay now) (ackL S k l delay now) (ackE S k l delay now) e w' := by
  by_cases hc : chE S k now = 0
  · obtain ⟨k0, k1, n0, n1⟩ := chE_zero hc
    obtain ⟨j, rfl⟩ : ∃ j : Nat, k = (j : Int) := ⟨k.toNat, by omega⟩
    have hj : j < 3 := by omega
    have := hO.now0
    exact ack_ok h hj ht hl hO hN hm delay now hc hfar (fun _ => ok_ack1 hO hj n0 n1) (fun hd _ hne => (ok_ack5 hO hj n0 n1 hd hne).1) (fun hd hne => gw_ack hO hj hN n0 n1 hd hne) (by omega) n1
  · have A := hid (check_any (h.q ((Q.refl w).alloc (.cells #[.slice a m c] 38))) k now)
    have HE := hid (show ackE S k l delay now = chE S k now by unfold ackE; rw [if_pos hc])
    have NA := hid (show ackA S k l delay now = [] ∧ ackL S k l delay now = [] ∧ ackS S k l delay now = S by unfold ackA ackL ackS; rw [HE.out]; simp [hc])
    have hb : (chE S k now != 0) = true := by simpa using hc
    have hb2 : (chE S k now == 0) = false := by simpa using hc
    have H := hid h
    clear h hO hN ht hl hm hfar hc
    go_enter Try.func14, Try.ntmps14
    go_wp2_with fail
    refine A.out.mono ?_
    rintro e w1 ⟨rfl, rfl⟩
    go_wp2
    go_ret3
    rw [NA.out.2.2]
    exact ans_nil (Wr.ofQ H.out ((Q.refl w).alloc _)) NA.out.1 NA.out.2.1 HE.out

/-- What Fire tells. -/
def FireAns (w : World) (rb : Nat) (r : Nat → Sv) (S' : Lo) (L : List Pk) (sp : Int) (pb : Bool) (E : Int) (e : Ending) (w' : World) : Prop :=
  ∃ y r', e = .returned (.tuple #[.int .i64 sp, .slice y.a y.n y.c, .bool pb, .int .i64 E]) ∧ RowI w' y (L.map (·.n)) ∧ Wr w w' rb r r' S' ∧ ∀ b, blk y.a = some b → w.heap.size ≤ b ∧ ¬ Fp rb r' b
theorem fire_nil {w w' : World} {rb : Nat} {r : Nat → Sv} {S' : Lo} {sp E : Int} {pb : Bool} {e : Ending} (he : e = .returned (.tuple #[.int .i64 sp, .slice none 0 0, .bool pb, .int .i64 E])) (W : Wr w w' rb r r S') : FireAns w rb r S' [] sp pb E e w' :=
  ⟨nilS, r, he, sub_nil _ 3 1, W, fun b e => by simp [nilS, blk] at e⟩
theorem nx_lt {S : Lo} (h : nxB S = false) (h1 : nxP S ≠ -1) : 0 ≤ nxP S ∧ nxP S ≤ 2 := by
  unfold nxP
  have r1 := soon_range (ltA S 0) (ltA S 1) (ltA S 2)
  have r2 := soon_range (prbT S 0) (prbT S 1) (prbT S 2)
  unfold nxP at h1
  split
  · rename_i h2; rw [if_pos h2] at h1; omega
  · rename_i h2; rw [if_neg h2] at h1; omega
set_option maxHeartbeats 2000000 in
theorem fire_loss {N : Nat} {w : World} {rb : Nat} {r : Nat → Sv} {S : Lo} (h : La w rb r S) (hO : Ok N S) (hN : N ≤ 4398046511103) (now : Int) (hc : ckE S now = 0) (h1 : nxP S ≠ -1) (h2 : ¬ now < nxA S) (h3 : nxB S = false) {j : Nat} (hj : j < 3) (hp : nxP S = (j : Int)) :
    Calls Try.prog 18 #[.pointer (some ⟨rb, 0, none⟩), .int .i64 now] w fun e w' => FireAns w rb r (fndS { S with now := now } j now) (fndL { S with now := now } j now) j false 0 e w' := by
  have A := hid (checkTime_any h now)
  rw [hc] at A
  have c1 := h.hd.c1
  have f1 := h.hd.free 1
  have W1 := hid (setNow h now)
  have hck : S.now ≤ now ∧ now ≤ 1099511627776 := by
    unfold ckE at hc
    by_cases e : S.now ≤ now ∧ now ≤ 1099511627776
    · exact e
    · rw [if_neg e] at hc; omega
  have hO1 : Ok N { S with now := now } := ok_now hO hck.1 hck.2
  have B := hid (next_any W1.out.la hO1)
  rw [show nxP { S with now := now } = nxP S from rfl, show nxA { S with now := now } = nxA S from rfl, show nxB { S with now := now } = nxB S from rfl, h3, hp] at B
  have b2 : decide (now < nxA S) = false := by simp; omega
  have hj3 : (j : Int) < 3 := by omega
  have b1 : ((j : Int) == -1) = false := by simp
  have n00 := hO.now0
  have FN := hid (fun (u : World) (q : Q (w.setCell ⟨rb, 1, none⟩ (.int .i64 now)) u) => findLost_any (W1.out.la.q q) hO1 hN hj now (by omega) hck.2)
  clear h hO hc hO1 h1 h2 h3 hN hck hp n00
  generalize nxA S = at_ at *
  go_enter Try.func18, Try.ntmps18
  go_wp2_with fail
  refine A.out.mono ?_
  rintro e w1 ⟨rfl, rfl⟩
  go_wp2_with fail
  refine B.out.mono ?_
  rintro e w2 ⟨rfl, q2⟩
  have Q2 := hid q2
  clear q2
  go_wp2_with fail
  refine (FN.out w2 Q2.out).mono ?_
  rintro e w3 ⟨y, r3, rfl, hy⟩
  have SZ := hid (show w.heap.size ≤ w2.heap.size from (W1.out.qr Q2.out).kp.size)
  have FIN := hid (show FireAns w rb r (fndS { S with now := now } j now) (fndL { S with now := now } j now) j false 0 (.returned (.tuple #[.int .i64 (j : Int), .slice y.a y.n y.c, .bool false, .int .i64 0])) w3 from ⟨y, r3, rfl, hy.row, (W1.out.qr Q2.out).trans hy.wr, fun b e => ⟨by have := (hy.new b e).1; have := SZ.out; omega, (hy.new b e).2⟩⟩)
  clear hy
  obtain ⟨ya, yn, yc⟩ := y
  go_wp2
  (try simp only [Exit.inBlock, Exit.then]); refine bodyPost_ret (results_tmp4 rfl _ _ _) rfl ?_
  exact FIN.out
end Go.Proofs.Ytjhihcmemnhbbaa
