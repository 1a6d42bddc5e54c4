/-
  What grow does: a contract that the statements' walks use.
-/
import Derived.Test.YtjhihcmemnhbbaaFnd
import Derived.Test.YtjhihcmemnhbbaaSmp
namespace Go.Proofs.Ytjhihcmemnhbbaa
open Go.RowKit
set_option linter.unusedVariables false
set_option maxRecDepth 20000

def gr1 (S : Lo) (p : Pk) : Lo := if p.e = true ∧ S.rcv < p.a then (if S.win < S.thr then { S with win := S.win + p.s } else { S with win := S.win + 1200 * p.s / S.win }) else S
def grw (S : Lo) (l : List Pk) : Lo := l.foldl gr1 S
theorem grw_snoc (S : Lo) (l : List Pk) (p : Pk) : grw S (l ++ [p]) = gr1 (grw S l) p := by unfold grw; rw [List.foldl_append]; rfl
/-- All but the window stays; the window grows by no more than the sizes. -/
structure GOk (S T : Lo) (j : Nat) : Prop where
  eq : T = { S with win := T.win }
  lo : S.win ≤ T.win
  hi : T.win ≤ S.win + 65536 * (j : Int)
theorem div_le {s w : Int} (s0 : 0 ≤ s) (s1 : s ≤ 65535) (w0 : 2400 ≤ w) : 0 ≤ 1200 * s / w ∧ 1200 * s / w ≤ 65536 := by
  have h0 : 0 ≤ 1200 * s / w := Int.ediv_nonneg (by omega) (by omega)
  refine ⟨h0, ?_⟩
  have h1 : 1200 * s / w ≤ 1200 * s / 2400 ∨ True := .inr trivial
  have h2 : w * (1200 * s / w) ≤ 1200 * s := Int.mul_ediv_self_le (by omega)
  have h3 : 2400 * (1200 * s / w) ≤ w * (1200 * s / w) := Int.mul_le_mul_of_nonneg_right w0 h0
  omega
theorem gok_step {S T : Lo} {j : Nat} (h : GOk S T j) (hw : 2400 ≤ S.win) {p : Pk} (s0 : 0 ≤ p.s) (s1 : p.s ≤ 65535) : GOk S (gr1 T p) (j + 1) := by
  have h1 := h.lo
  have h2 := h.hi
  unfold gr1
  split
  · split
    · refine ⟨?_, by simp only; omega, by simp only; omega⟩
      have := h.eq; rw [this]
    · have h3 := div_le s0 s1 (w := T.win) (by omega)
      refine ⟨?_, by simp only; omega, by simp only; omega⟩
      have := h.eq; rw [this]
  · exact ⟨h.eq, h1, by omega⟩
theorem gok_all {S : Lo} (hw : 2400 ≤ S.win) (l : List Pk) (hl : ∀ p ∈ l, 0 ≤ p.s ∧ p.s ≤ 65535) : ∀ j, j ≤ l.length → GOk S (grw S (l.take j)) j
  | 0, _ => ⟨by simp [grw], by simp [grw], by simp [grw]⟩
  | j + 1, hj => by
    have ih := gok_all hw l hl j (by omega)
    rw [take_succ_at (d := noPk) (by omega), grw_snoc]
    have hm : l.getD j noPk ∈ l := by rw [List.getD_eq_getElem?_getD, List.getElem?_eq_getElem (by omega)]; exact List.getElem_mem _
    exact gok_step ih hw (hl _ hm).1 (hl _ hm).2
theorem La.setK {w : World} {rb : Nat} {r : Nat → Sv} {S S' : Lo} (h : La w rb r S) (j : Nat) (v : Value) (hh : Hd (w.setCell ⟨rb, j, none⟩ v) rb S' r) (e : ∀ k, k < 3 → (S'.sp k).out = (S.sp k).out ∧ (S'.sp k).sent = (S.sp k).sent) : La (w.setCell ⟨rb, j, none⟩ v) rb r S' ∧ Keep (fun b => b = rb) w (w.setCell ⟨rb, j, none⟩ v) :=
  ⟨(h.setHd j v hh e).la, (Keep.refl (fun b => b = rb) w).setCell rb j v (.inl rfl)⟩

set_option maxHeartbeats 8000000 in
theorem grow_any {w : World} {rb : Nat} {r : Nat → Sv} {S : Lo} (h : La w rb r S) {d : Sv} {l : List Pk} (ht : RowP w d l) (hf : l.length ≤ 100000) (hd : blk d.a ≠ some rb) (hw0 : 2400 ≤ S.win) (hw1 : S.win ≤ 300000000000000000) (hp : ∀ p ∈ l, 0 ≤ p.s ∧ p.s ≤ 65535) :
    Calls Try.prog 32 #[.pointer (some ⟨rb, 0, none⟩), .slice d.a d.n d.c] w fun e w' => e = .returned (.tuple #[]) ∧ La w' rb r (grw S l) ∧ Keep (fun b => b = rb) w w' := by
  have hl := ht.len
  obtain ⟨a, n, cc⟩ := d
  simp only at hl hd
  have HT := hid ht
  have HL := hid hl
  have H := hid h
  have HP := hid hp
  have HD := hid hd
  have hn : n ≤ 100000 := by omega
  have W0 := hid hw0
  have W1 := hid hw1
  clear ht hl hf h hw0 hw1 hp hd
  go_enter Try.func32, Try.ntmps32
  go_wp2
  go_loopw [8] (fun i wr => ∃ j : Nat, j ≤ n ∧ i = .int .i64 j ∧ La wr rb r (grw S (l.take j)) ∧ Keep (fun b => b = rb) w wr) (fun i _ => n - (intOf i).toNat)
  case atStart => exact ⟨0, Nat.zero_le _, rfl, H.out, Keep.refl _ _⟩
  case round =>
    obtain ⟨j, hj, rfl, hla, hk⟩ := hrel
    by_cases hlt : j < n
    · have hlt' : (j : Int) < (n : Int) := by omega
      obtain ⟨g, o2, rfl, _, hs⟩ := RowP.at_ (d := ⟨a, n, cc⟩) (l := l) (HT.out.keep hk (fun b e1 e2 => HD.out (by rw [← e2]; exact e1))) (k := j) hlt
      have c0 := hs.c0
      have c1 := hs.c1
      have c2 := hs.c2
      have c3 := hs.c3
      have hwi : IntKind.i64.wrap ((j : Int) + 1) = ((j + 1 : Nat) : Int) := by rw [IntKind.wrap_i64]; omega
      have hmem : l.getD j noPk ∈ l := by rw [List.getD_eq_getElem?_getD, List.getElem?_eq_getElem (by rw [HL.out]; exact hlt)]; exact List.getElem_mem _
      have hps := HP.out _ hmem
      have HE := hid (show grw S (l.take (j + 1)) = gr1 (grw S (l.take j)) (l.getD j noPk) by rw [take_succ_at (d := noPk) (by rw [HL.out]; exact hlt), grw_snoc])
      have hG := gok_all W0.out l HP.out j (by rw [HL.out]; omega)
      have hg1 := hG.lo
      have hg2 := hG.hi
      have hwlo := W0.out
      have hwhi := W1.out
      have HK := hid hk
      clear hs hk hmem hG
      generalize grw S (l.take j) = T at *
      generalize l.getD j noPk = p at *
      obtain ⟨pn, ps, pa, pe⟩ := p
      simp only at c0 c1 c2 c3 hps
      have hqa : Q wr (wr.alloc (.cells #[.int .i64 pn, .int .i64 ps, .int .i64 pa, .bool pe] 73)) := (Q.refl wr).alloc _
      have hLa := hla.q hqa
      have LA := hid hla
      have a19 := hLa.hd.rcv
      have a17 := hLa.hd.win
      have a18 := hLa.hd.thr
      have SK := hid (show ∀ u, Q wr u → gr1 T ⟨pn, ps, pa, pe⟩ = T → La u rb r (grw S (l.take (j + 1))) ∧ Keep (fun b => b = rb) w u from fun u q e => ⟨by rw [HE.out, e]; exact LA.out.q q, HK.out.trans (Keep.ofQ q)⟩)
      have ST := hid (show ∀ u (W : Int), Q wr u → gr1 T ⟨pn, ps, pa, pe⟩ = { T with win := W } → La ((u.setCell ⟨rb, 17, none⟩ (.int .i64 W)).drew) rb r (grw S (l.take (j + 1))) ∧ Keep (fun b => b = rb) w ((u.setCell ⟨rb, 17, none⟩ (.int .i64 W)).drew) from fun u W q e => by
        have hs := (LA.out.q q).setK 17 (.int .i64 W) ((LA.out.q q).hd.win_ W) (fun i hi => ⟨rfl, rfl⟩)
        exact ⟨by rw [HE.out, e]; exact hs.1.q ((Q.refl _).drew), (HK.out.trans ((Keep.ofQ q).trans hs.2)).drew⟩)
      have HLA := hid hLa
      clear hla hLa
      cases pe
      · have HG := hid (show gr1 T ⟨pn, ps, pa, false⟩ = T by unfold gr1; rw [if_neg (by simp)])
        go_wp2
        go_quiet (fail)
        go_wp2
        go_roundw
        case rel => exact ⟨j + 1, by omega, by go_num, SK.out _ (hqa.drewN _) HG.out⟩
        case measure => simp [intOf]; omega
      · by_cases hr : pa ≤ T.rcv
        · have b1 : decide (pa ≤ T.rcv) = true := by simp [hr]
          have HG := hid (show gr1 T ⟨pn, ps, pa, true⟩ = T by unfold gr1; rw [if_neg (by simp; omega)])
          clear hr
          go_wp2
          go_quiet (fail)
          go_wp2
          go_roundw
          case rel => exact ⟨j + 1, by omega, by go_num, SK.out _ (hqa.drewN _) HG.out⟩
          case measure => simp [intOf]; omega
        · have b1 : decide (pa ≤ T.rcv) = false := by simp; omega
          by_cases hth : T.win < T.thr
          · have b2 : decide (T.win < T.thr) = true := by simp [hth]
            have HG := hid (show gr1 T ⟨pn, ps, pa, true⟩ = { T with win := T.win + ps } by unfold gr1; rw [if_pos (by simp; omega), if_pos hth])
            have hw : IntKind.i64.wrap (T.win + ps) = T.win + ps := by rw [IntKind.wrap_i64]; omega
            have HR := hid hr
            have HTH := hid hth
            clear hr hth
            go_wp2
            go_quiet (fail)
            go_wp2
            go_quiet (fail)
            go_wp2
            generalize hu : World.drewN _ nq = u
            have qu : Q wr u := by rw [← hu]; exact (hqa.drewN _).drewN _
            have hLu := LA.out.q qu
            have u17 := hLu.hd.win
            have v17 := hLu.hd.free 17
            have ub : u.heap[wr.heap.size]? = some (.cells #[.int .i64 pn, .int .i64 ps, .int .i64 pa, .bool true] 73 (0, 0)) := by rw [← hu]; exact heap_alloc_new wr _
            have p1 : u.cell? ⟨wr.heap.size, 1, none⟩ = some (.int .i64 ps) := by rw [cell_of_row _ _ _ _ 73 (0, 0) ub]; rfl
            have QU := hid qu
            clear qu hLu ub hu a17 a18 a19
            go_still_tail 9, (by kernel_rfl)
            go_wp2
            go_roundw
            case rel => exact ⟨j + 1, by omega, by go_num, ST.out u _ QU.out HG.out⟩
            case measure => simp [intOf]; omega
          · have b2 : decide (T.win < T.thr) = false := by simp; omega
            have HG := hid (show gr1 T ⟨pn, ps, pa, true⟩ = { T with win := T.win + 1200 * ps / T.win } by unfold gr1; rw [if_pos (by simp; omega), if_neg hth])
            have hdv := div_le hps.1 hps.2 (w := T.win) (by omega)
            have hw : IntKind.i64.wrap (1200 * ps) = 1200 * ps := by rw [IntKind.wrap_i64]; omega
            have hw' : IntKind.i64.wrap (T.win + 1200 * ps / T.win) = T.win + 1200 * ps / T.win := by rw [IntKind.wrap_i64]; omega
            have hnz : T.win ≠ 0 := by omega
            have HR := hid hr
            have HTH := hid hth
            clear hr hth
            go_wp2
            go_quiet (fail)
            go_wp2
            go_quiet (fail)
            go_wp2
            generalize hu : World.drewN _ nq = u
            have qu : Q wr u := by rw [← hu]; exact (hqa.drewN _).drewN _
            have hLu := LA.out.q qu
            have u17 := hLu.hd.win
            have v17 := hLu.hd.free 17
            have ub : u.heap[wr.heap.size]? = some (.cells #[.int .i64 pn, .int .i64 ps, .int .i64 pa, .bool true] 73 (0, 0)) := by rw [← hu]; exact heap_alloc_new wr _
            have p1 : u.cell? ⟨wr.heap.size, 1, none⟩ = some (.int .i64 ps) := by rw [cell_of_row _ _ _ _ 73 (0, 0) ub]; rfl
            have QU := hid qu
            clear qu hLu ub hu a17 a18 a19
            go_still_tail 15, (by kernel_rfl)
            go_wp2
            go_roundw
            case rel => exact ⟨j + 1, by omega, by go_num, ST.out u _ QU.out HG.out⟩
            case measure => simp [intOf]; omega
    · obtain rfl : j = n := by omega
      have FIN := hid (show La wr rb r (grw S l) ∧ Keep (fun b => b = rb) w wr from ⟨by rw [List.take_of_length_le (by rw [HL.out]; exact Nat.le_refl _)] at hla; exact hla, hk⟩)
      clear hj hlt hla hk
      go_wp2
      go_end0
      exact ⟨rfl, FIN.out.1, FIN.out.2⟩
end Go.Proofs.Ytjhihcmemnhbbaa
