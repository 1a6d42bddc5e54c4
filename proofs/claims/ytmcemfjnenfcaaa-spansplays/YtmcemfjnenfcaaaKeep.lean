/-
  What keepMost and Raise do to a set: contracts that the statements' walks use.
-/
import Derived.Test.YtmcemfjnenfcaaaSet
namespace Go.Proofs.Ytmcemfjnenfcaaa
open Go.RowKit
set_option linter.unusedVariables false

/-- A set in memory: its own cells, and its row of spans, in another block. -/
structure St (w : World) (rb : Nat) (a : Option Addr) (n c : Nat) (most floor : Int) (xs : List Sp) : Prop where
  hd : Hd w 54 rb most floor a n c
  own : Own w 0 a n c xs
  ne : blk a ≠ some rb

/-- The blocks that a set's call may turn. -/
def Fp (rb : Nat) (a : Option Addr) : Nat → Prop := fun k => k = rb ∨ blk a = some k


theorem St.len {w : World} {rb : Nat} {a : Option Addr} {n c : Nat} {most floor : Int} {xs : List Sp} (h : St w rb a n c most floor xs) : xs.length = n := h.own.len
theorem St.q {w w' : World} {rb : Nat} {a : Option Addr} {n c : Nat} {most floor : Int} {xs : List Sp} (h : St w rb a n c most floor xs) (k : Q w w') : St w' rb a n c most floor xs := ⟨h.hd.q k, h.own.q k, h.ne⟩
theorem St.drewN {w : World} {rb : Nat} {a : Option Addr} {n c : Nat} {most floor : Int} {xs : List Sp} (h : St w rb a n c most floor xs) (k : Nat) : St (w.drewN k) rb a n c most floor xs := h.q ((Q.refl w).drewN k)
theorem St.keep {F : Nat → Prop} {w w' : World} {rb : Nat} {a : Option Addr} {n c : Nat} {most floor : Int} {xs : List Sp} (h : St w rb a n c most floor xs) (k : Keep F w w') (h1 : ¬ F rb) (h2 : ∀ b, blk a = some b → ¬ F b) : St w' rb a n c most floor xs := ⟨h.hd.keep k h1, h.own.keep k h2, h.ne⟩
theorem St.cells {w : World} {rb : Nat} {a : Option Addr} {n c : Nat} {most floor : Int} {xs : List Sp} (h : St w rb a n c most floor xs) (hn : 0 < n) : ∃ b, a = some ⟨b, 0, none⟩ ∧ Cel w b 0 xs ∧ b ≠ rb := by
  obtain ⟨b, off, e, hc⟩ := h.own.seg.cel h.len hn
  rcases h.own.row with ⟨h0, _⟩ | ⟨g, cur, e2, _⟩
  · rw [h0] at e; cases e
  · rw [e2] at e; cases e
    exact ⟨b, e2, hc, fun h3 => h.ne (by rw [e2, h3]; rfl)⟩
/-- The floor is set. -/
theorem St.floor_ {w : World} {rb : Nat} {a : Option Addr} {n c : Nat} {most floor : Int} {xs : List Sp} (h : St w rb a n c most floor xs) (q : Int) : St (w.setCell ⟨rb, 1, none⟩ (.int .i64 q)) rb a n c most q xs :=
  ⟨h.hd.floor_ q, h.own.keep ((Keep.refl (fun k => k = rb) w).setCell rb 1 _ (.inl rfl)) (fun b hb e => h.ne (by rw [hb, e])), h.ne⟩
/-- The list is set: to a row that is there. -/
theorem St.list_ {w : World} {rb : Nat} {a a' : Option Addr} {n c n' c' : Nat} {most floor : Int} {ys : List Sp} (h : Hd w 54 rb most floor a n c) (ho : Own w 0 a' n' c' ys) (hne : blk a' ≠ some rb) : St (w.setCell ⟨rb, 2, none⟩ (.slice a' n' c')) rb a' n' c' most floor ys :=
  ⟨h.list_ a' n' c', ho.keep ((Keep.refl (fun k => k = rb) w).setCell rb 2 _ (.inl rfl)) (fun b hb e => hne (by rw [hb, e])), hne⟩

set_option maxHeartbeats 1000000 in
theorem keepMost_few (rb : Nat) (a : Option Addr) (n c : Nat) (most floor : Int) (xs : List Sp) (w : World) (hs : St w rb a n c most floor xs) (h : (n : Int) ≤ most) (hn : n ≤ 100) :
    Calls Try.prog 27 #[.pointer (some ⟨rb, 0, none⟩)] w fun e w' => e = .returned (.tuple #[]) ∧ ∃ k, w' = w.drewN k := by
  have c0 := hs.hd.c0
  have c2 := hs.hd.c2
  clear hs
  go_enter Try.func27, Try.ntmps27
  go_wp2
  go_quiet (fail)
  go_wp2
  refine bodyPost_ret (results_none rfl _ _ _) rfl ?_
  exact ⟨rfl, _, rfl⟩

set_option maxHeartbeats 1000000 in
theorem keepMost_many (rb : Nat) (a : Option Addr) (n c : Nat) (most floor : Int) (xs : List Sp) (w : World) (hs : St w rb a n c most floor xs) (h : most < (n : Int)) (hn : n ≤ 100) (hm : 0 < n) (hx : (xs.getD 0 (0, 0)).2 ≤ 4611686018427387904) (hx' : 0 ≤ (xs.getD 0 (0, 0)).2) :
    Calls Try.prog 27 #[.pointer (some ⟨rb, 0, none⟩)] w fun e w' => e = .returned (.tuple #[]) ∧ St w' rb a (n - 1) c most ((xs.getD 0 (0, 0)).2 + 1) (xs.drop 1) ∧ Keep (Fp rb a) w w' := by
  have c0 := hs.hd.c0
  have c1 := hs.hd.c1
  have c2 := hs.hd.c2
  have f1 := hs.hd.free 1
  have f2 := hs.hd.free 2
  obtain ⟨b, rfl, hc, hbr⟩ := hs.cells hm
  obtain ⟨d0, d1, d2⟩ := hc.at_ hs.len hm
  have h' : ¬ (n : Int) ≤ most := by omega
  have hm' : (0 : Int) < (n : Int) := by omega
  have HS := hid hs
  simp only [Nat.zero_mul, Nat.add_zero, Nat.zero_add] at d0 d1 d2
  generalize xs.getD 0 (0, 0) = y at *
  clear hs hc
  go_enter Try.func27, Try.ntmps27
  go_wp2
  go_quiet (fail)
  go_wp2_with fail
  have S1 := hid ((HS.out.drewN nq).floor_ (y.2 + 1))
  have K1 := hid (((Keep.refl (Fp rb (some ⟨b, 0, none⟩)) w).drewN nq).setCell rb 1 (.int .i64 (y.2 + 1)) (.inl (.inl rfl)))
  have fr := S1.out.hd.free 2
  refine (delete_any 0 _ n c 1 xs _ S1.out.own (by omega) hn).mono ?_
  rintro e w2 ⟨rfl, ho2, hk2⟩
  have hd2 := S1.out.hd.keep hk2 (fun e => hbr (by cases e; rfl))
  have fr2 := hd2.free 2
  have cc2 := hd2.c2
  have H2 := hid hd2
  have O2 := hid ho2
  have K2 := hid (K1.out.trans (hk2.mono (fun i _ e => .inr e)))
  clear ho2 hk2 hd2
  go_wp2
  go_end0
  refine ⟨rfl, St.list_ H2.out O2.out (fun e => hbr (by cases e; rfl)), K2.out.setCell rb 2 _ (.inl (.inl rfl))⟩

theorem keepMost_any (rb : Nat) (a : Option Addr) (n c : Nat) (most floor : Int) (xs : List Sp) (w : World) (hs : St w rb a n c most floor xs) (hn : n ≤ 100) (hm : 0 < n) (hap : Ap floor xs) (f0 : 0 ≤ floor) :
    Calls Try.prog 27 #[.pointer (some ⟨rb, 0, none⟩)] w fun e w' => e = .returned (.tuple #[]) ∧ (∃ n', St w' rb a n' c most (fitF most floor xs) (fitL most xs)) ∧ Keep (Fp rb a) w w' := by
  have hl := hs.len
  unfold fitF fitL
  rw [hl]
  by_cases h : most < (n : Int)
  · have hx : xs.getD 0 (0, 0) ∈ xs := by
      rw [List.getD_eq_getElem?_getD, List.getElem?_eq_getElem (by omega)]; simp
    have := hap.mem _ hx
    refine (keepMost_many rb a n c most floor xs w hs h hn hm (by omega) (by omega)).mono ?_
    rintro e w' ⟨rfl, h1, h2⟩
    rw [if_pos h, if_pos h]
    exact ⟨rfl, ⟨_, h1⟩, h2⟩
  · refine (keepMost_few rb a n c most floor xs w hs (by omega) hn).mono ?_
    rintro e w' ⟨rfl, k, rfl⟩
    rw [if_neg h, if_neg h]
    exact ⟨rfl, ⟨_, hs.drewN k⟩, (Keep.refl _ w).drewN k⟩

end Go.Proofs.Ytmcemfjnenfcaaa
