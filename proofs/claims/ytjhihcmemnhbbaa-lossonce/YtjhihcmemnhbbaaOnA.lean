/-
  What Ack, Fire and Drop tell, against the law's book: used by the walk of the law LossOnce.
-/
import Derived.Test.YtjhihcmemnhbbaaOnB
namespace Go.Proofs.Ytjhihcmemnhbbaa
open Go.RowKit
set_option linter.unusedVariables false
set_option maxRecDepth 20000

/-- A book that take can go through. -/
structure Bd (l : List On) (U : Int) : Prop where
  len : l.length ≤ 12288
  sum : U = sumB l
  sz : ∀ x ∈ l, 0 ≤ x.s ∧ x.s ≤ 65535
theorem BR.bd {N : Nat} {S : Lo} {l : List On} {U : Int} (h : BR S l U) (hO : Ok N S) : Bd l U := ⟨h.few hO, h.sum, h.size hO⟩
theorem tkB_bd {k : Int} : ∀ {ns : List Int} {l l' : List On} {U U' : Int} {b : Bool}, Bd l U → tkB k ns l U = (b, l', U') → Bd l' U'
  | [], l, l', U, U', b, h, e => by
    simp only [tkB, Prod.mk.injEq] at e
    obtain ⟨_, rfl, rfl⟩ := e
    exact h
  | n :: ns, l, l', U, U', b, h, e => by
    rw [tkB] at e
    by_cases h0 : atB l k n l.length < 0
    · rw [if_pos h0] at e
      simp only [Prod.mk.injEq] at e
      obtain ⟨_, rfl, rfl⟩ := e
      exact h
    · rw [if_neg h0] at e
      have hlt := atB_lt l k n (by omega)
      refine tkB_bd (ns := ns) ⟨?_, ?_, fun x hx => h.sz x (List.mem_of_mem_eraseIdx hx)⟩ e
      · rw [List.length_eraseIdx]; have := h.len; split <;> omega
      · rw [sumB_erase hlt, h.sum]
theorem btake_true {w : World} {bb : Nat} {d0 : Sv} {l0 l1 : List On} {U0 U1 : Int} (h : Bk w bb d0 l0 U0) (hb : Bd l0 U0) (k : Int) {x : Sv} {ns : List Int} (hx : RowI w x ns) (hfar : blk x.a ≠ some bb) (ht : tkB k ns l0 U0 = (true, l1, U1)) :
    Calls Try.prog 17 #[.pointer (some ⟨bb, 0, none⟩), .int .i64 k, .slice x.a x.n x.c] w fun e w' => e = .returned (.bool true) ∧ ∃ d, Bk w' bb d l1 U1 ∧ Keep (fun b => b = bb) w w' ∧ ∀ b, blk d.a = some b → blk d0.a = some b ∨ w.heap.size ≤ b := by
  have h1 := btake_any h hb.len hb.sum hb.sz k hx hfar
  rw [ht] at h1
  exact h1
theorem ack_br {N : Nat} {S S' : Lo} {l : List On} {U : Int} {k E : Int} {zs : List Spn} {A L : List Pk} (h : BR S l U) (P : AckP N S k zs S' A L E) :
    (∀ n ∈ A.map (·.n), inS zs n = true) ∧ (∀ n ∈ L.map (·.n), inS zs n = false) ∧ ∃ l1 U1 l2 U2, tkB k (A.map (·.n)) l U = (true, l1, U1) ∧ tkB k (L.map (·.n)) l1 U1 = (true, l2, U2) ∧ BR S' l2 U2 := by
  by_cases hc : A = [] ∨ E ≠ 0
  · obtain ⟨rfl, rfl, _, ho⟩ := P.no hc
    exact ⟨(fun n hn => by cases hn), (fun n hn => by cases hn), l, U, l, U, rfl, rfl, h.same ho P.sent⟩
  · obtain ⟨j, hj, rfl, _, _, _, _, _, hA, f, hL, ho, ho2⟩ := P.yes (by omega) (fun e => hc (.inl e))
    obtain ⟨l1, U1, t1, b1⟩ := h.take (S' := S.put j { S.sp j with out := (S.sp j).out.filter (fun p => !inS zs p.n) }) hj (fun p => inS zs p.n) (by rw [put_sp]) (fun i hi hne => by simp only [Lo.put, upd_other _ _ hne]) (fun i hi => by
      by_cases e : i = j
      · subst e; rw [put_sp]
      · simp only [Lo.put, upd_other _ _ e])
    obtain ⟨l2, U2, t2, b2⟩ := b1.take (S' := S') hj f (by rw [put_sp]; exact ho) (fun i hi hne => by simp only [Lo.put, upd_other _ _ hne]; exact ho2 i hi hne) (fun i hi => by
      rw [P.sent i hi]
      by_cases e : i = j
      · subst e; rw [put_sp]
      · simp only [Lo.put, upd_other _ _ e])
    rw [put_sp] at t2
    refine ⟨fun n hn => ?_, fun n hn => ?_, l1, U1, l2, U2, by rw [hA]; exact t1, by rw [hL]; exact t2, b2⟩
    · obtain ⟨p, hp, rfl⟩ := List.mem_map.1 hn
      rw [hA] at hp
      exact (List.mem_filter.1 hp).2
    · obtain ⟨p, hp, rfl⟩ := List.mem_map.1 hn
      rw [hL] at hp
      simpa using (List.mem_filter.1 (List.mem_filter.1 hp).1).2
theorem fire_br {N : Nat} {S S' : Lo} {l : List On} {U : Int} {sp : Int} {pb : Bool} {L : List Pk} (h : BR S l U) (P : FireP N S S' L sp pb) :
    (pb = true → L = []) ∧ ∃ l1 U1, tkB sp (L.map (·.n)) l U = (true, l1, U1) ∧ BR S' l1 U1 := by
  rcases P.out with ⟨rfl, ho⟩ | ⟨rfl, j, f, hj, rfl, hL, ho, ho2⟩
  · exact ⟨fun _ => rfl, l, U, rfl, h.same ho P.sent⟩
  · obtain ⟨l1, U1, t1, b1⟩ := h.take hj f ho ho2 P.sent
    exact ⟨(fun e => by cases e), l1, U1, by rw [hL]; exact t1, b1⟩
theorem drop_br {S : Lo} {l : List On} {U : Int} {k : Int} (h : BR S l U) :
    ∃ l1 U1, tkB k ((drpL S k).map (·.n)) l U = (true, l1, U1) ∧ BR (drpS S k) l1 U1 ∧ ∀ x ∈ l1, x.k ≠ k := by
  by_cases h0 : drpE k = 0
  · have hk : 0 ≤ k ∧ k < 3 := by
      unfold drpE spE at h0
      by_cases e : 0 ≤ k ∧ k < 3
      · exact e
      · rw [if_neg e] at h0; omega
    obtain ⟨j, rfl⟩ : ∃ j : Nat, k = (j : Int) := ⟨k.toNat, by omega⟩
    have hj : j < 3 := by omega
    have eL : drpL S (j : Int) = (S.sp j).out.filter (fun _ => true) := by
      unfold drpL; rw [if_pos h0, Int.toNat_natCast]; exact (List.filter_eq_self.2 (fun _ _ => rfl)).symm
    have eS : drpS S (j : Int) = S.put j { S.sp j with out := [], last := -1, lt := -1 } := by unfold drpS; rw [if_pos h0, Int.toNat_natCast]
    obtain ⟨l1, U1, t1, b1⟩ := h.take (S' := drpS S (j : Int)) hj (fun _ => true) (by rw [eS, put_sp]; simp) (fun i hi hne => by rw [eS]; simp only [Lo.put, upd_other _ _ hne]) (fun i hi => by
      rw [eS]
      by_cases e : i = j
      · subst e; rw [put_sp]
      · simp only [Lo.put, upd_other _ _ e])
    refine ⟨l1, U1, by rw [eL]; exact t1, b1, spB_none ?_⟩
    rw [b1.sp j hj, eS, put_sp]; rfl
  · have eL : drpL S k = [] := by unfold drpL; rw [if_neg h0]
    have eS : drpS S k = S := by unfold drpS; rw [if_neg h0]
    refine ⟨l, U, by rw [eL]; rfl, by rw [eS]; exact h, fun x hx e => h0 ?_⟩
    have := h.rng x hx
    unfold drpE spE
    rw [if_pos (by omega)]
end Go.Proofs.Ytjhihcmemnhbbaa
