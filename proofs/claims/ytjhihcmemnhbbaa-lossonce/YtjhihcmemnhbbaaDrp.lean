/-
  What Drop does, and what the document's In answers: contracts that the walk of the law LossOnce uses.
-/
import Derived.Test.YtjhihcmemnhbbaaWk
namespace Go.Proofs.Ytjhihcmemnhbbaa
open Go.RowKit
set_option linter.unusedVariables false
set_option maxRecDepth 20000

def drpE (k : Int) : Int := spE k
def drpL (S : Lo) (k : Int) : List Pk := if drpE k = 0 then (S.sp k.toNat).out else []
def drpS (S : Lo) (k : Int) : Lo := if drpE k = 0 then S.put k.toNat { S.sp k.toNat with out := [], last := -1, lt := -1 } else S
def DropAns (w : World) (rb : Nat) (r : Nat → Sv) (S' : Lo) (L : List Pk) (E : Int) (e : Ending) (w' : World) : Prop :=
  ∃ x r', e = .returned (.tuple #[.slice x.a x.n x.c, .int .i64 E]) ∧ RowI w' x (L.map (·.n)) ∧ Wr w w' rb r r' S' ∧ ∀ b, blk x.a = some b → w.heap.size ≤ b ∧ ¬ Fp rb r' b

set_option maxHeartbeats 2000000 in
theorem drop_any {N : Nat} {w : World} {rb : Nat} {r : Nat → Sv} {S : Lo} (h : La w rb r S) (hO : Ok N S) (k : Int) :
    Calls Try.prog 19 #[.pointer (some ⟨rb, 0, none⟩), .int .i64 k] w fun e w' => DropAns w rb r (drpS S k) (drpL S k) (drpE k) e w' := by
  have A := hid (checkSpace_any (w := w) k)
  by_cases hk0 : spE k = 0
  · have hk1 : 0 ≤ k ∧ k < 3 := by
      unfold spE at hk0
      by_cases e : 0 ≤ k ∧ k < 3
      · exact e
      · rw [if_neg e] at hk0; omega
    obtain ⟨j, rfl⟩ : ∃ j : Nat, k = (j : Int) := ⟨k.toNat, by omega⟩
    have hj : j < 3 := by omega
    have hk3 : (j : Int) < 3 := by omega
    have EE := hid (show drpE j = 0 ∧ drpL S j = (S.sp j).out ∧ drpS S j = S.put j { S.sp j with out := [], last := -1, lt := -1 } by
      have e0 : drpE (j : Int) = 0 := hk0
      unfold drpL drpS
      rw [e0, if_pos rfl, if_pos rfl]
      exact ⟨rfl, rfl, rfl⟩)
    rw [hk0] at A
    have c0 := h.hd.out hj
    have NUM := hid (numbers_any (h.rs.o j hj) (by have := (hO.sp j hj).few; omega))
    have H := hid h
    clear h hO hk0 hk1
    go_enter Try.func19, Try.ntmps19
    go_wp2_with fail
    refine A.out.mono ?_
    rintro e w1 ⟨rfl, rfl⟩
    go_wp2_with fail
    refine NUM.out.mono ?_
    rintro e w2 ⟨x, rfl, hx, q2, nx⟩
    have hL := H.out.q q2
    have d0 := hL.hd.out hj
    have f0 := hL.hd.free (2 + j * 5)
    have W1 := hL.newOut hj (Keep.refl _ w2) (d := nilS) (l := []) (sub_nil _ 73 4) (fun b e => by simp [nilS, blk] at e)
    have d3 : (w2.setCell ⟨rb, 2 + j * 5, none⟩ (.slice none 0 0)).cell? ⟨rb, 2 + j * 5 + 3, none⟩ = some (.int .i64 (S.sp j).last) := by have := W1.la.hd.last hj; rw [put_sp] at this; exact this
    have f3 : (w2.setCell ⟨rb, 2 + j * 5, none⟩ (.slice none 0 0)).frozen? ⟨rb, 2 + j * 5 + 3, none⟩ = false := W1.la.hd.free (2 + j * 5 + 3)
    have W2 := W1.la.setHd (2 + j * 5 + 3) (.int .i64 (-1)) (W1.la.hd.last_ hj (-1)) (fun i hi => by
      by_cases e1 : i = j
      · subst e1; rw [put_sp]; exact ⟨rfl, rfl⟩
      · simp only [Lo.put, upd_other _ _ e1]; exact ⟨trivial, trivial⟩)
    have d4 : ((w2.setCell ⟨rb, 2 + j * 5, none⟩ (.slice none 0 0)).setCell ⟨rb, 2 + j * 5 + 3, none⟩ (.int .i64 (-1))).cell? ⟨rb, 2 + j * 5 + 4, none⟩ = some (.int .i64 (S.sp j).lt) := by have := W2.la.hd.lt_ hj; rw [put_sp, put_sp] at this; exact this
    have f4 : ((w2.setCell ⟨rb, 2 + j * 5, none⟩ (.slice none 0 0)).setCell ⟨rb, 2 + j * 5 + 3, none⟩ (.int .i64 (-1))).frozen? ⟨rb, 2 + j * 5 + 4, none⟩ = false := W2.la.hd.free (2 + j * 5 + 4)
    have W3 := W2.la.setHd (2 + j * 5 + 4) (.int .i64 (-1)) (W2.la.hd.ltm_ hj (-1)) (fun i hi => by
      by_cases e1 : i = j
      · subst e1; rw [put_sp]; exact ⟨rfl, rfl⟩
      · simp only [Lo.put, upd_other _ _ e1]; exact ⟨trivial, trivial⟩)
    have WT := Wr.ql q2 H.out (W1.trans (W2.trans W3))
    rw [put_sp, put_put, put_sp, put_put] at WT
    have FPN : ∀ b, Fp rb (updr r (2 * j) nilS) b → Fp rb r b := by
      rintro b (rfl | ⟨i, hi, e⟩)
      · exact .inl rfl
      · by_cases e1 : i = 2 * j
        · subst e1; rw [updr_same] at e; simp [nilS, blk] at e
        · rw [updr_other r nilS e1] at e; exact .inr ⟨i, hi, e⟩
    have xr : ∀ b, blk x.a = some b → ¬ Fp rb r b := fun b e1 e2 => by have := nx b e1; have := H.out.lt b e2; omega
    have FIN := hid (show DropAns w rb r (drpS S j) (drpL S j) (drpE j) (.returned (.tuple #[.slice x.a x.n x.c, .int .i64 0])) (((w2.setCell ⟨rb, 2 + j * 5, none⟩ (.slice none 0 0)).setCell ⟨rb, 2 + j * 5 + 3, none⟩ (.int .i64 (-1))).setCell ⟨rb, 2 + j * 5 + 4, none⟩ (.int .i64 (-1))) from by
      rw [EE.out.1, EE.out.2.1, EE.out.2.2]
      have hrb := H.out.hd.lt
      have kk : Keep (fun b => b = rb) w2 (((w2.setCell ⟨rb, 2 + j * 5, none⟩ (.slice none 0 0)).setCell ⟨rb, 2 + j * 5 + 3, none⟩ (.int .i64 (-1))).setCell ⟨rb, 2 + j * 5 + 4, none⟩ (.int .i64 (-1))) := (((Keep.refl (fun b => b = rb) w2).setCell rb _ _ (.inl rfl)).setCell rb _ _ (.inl rfl)).setCell rb _ _ (.inl rfl)
      exact ⟨x, _, rfl, hx.keep kk (fun b e1 e2 => by have := nx b e1; omega), WT, fun b e => ⟨nx b e, fun e2 => xr b e (FPN b e2)⟩⟩)
    have d0' : w2.cell? ⟨rb, 2 + j * 5, none⟩ = some (.slice (r (2 * j)).a (r (2 * j)).n (r (2 * j)).c) := d0
    clear hL W1 W2 W3 WT FPN xr hx q2 nx d0
    obtain ⟨xa, xn, xc⟩ := x
    go_wp2
    go_ret2
    exact FIN.out
  · have hb : (spE k != 0) = true := by simpa using hk0
    have hb2 : (spE k == 0) = false := by simpa using hk0
    have EE := hid (show drpL S k = [] ∧ drpS S k = S by unfold drpL drpS drpE; rw [if_neg hk0, if_neg hk0]; exact ⟨rfl, rfl⟩)
    have H := hid h
    clear h hO hk0
    go_enter Try.func19, Try.ntmps19
    go_wp2_with fail
    refine A.out.mono ?_
    rintro e w1 ⟨rfl, rfl⟩
    go_wp2
    go_ret2
    rw [EE.out.1, EE.out.2]
    exact ⟨nilS, r, rfl, sub_nil _ 3 1, Wr.refl H.out, fun b e => by simp [nilS, blk] at e⟩
end Go.Proofs.Ytjhihcmemnhbbaa
