/-
  What a request that is taken has: plain mathematics; and the law's own look at a text.
-/
import Derived.Test.YthefijjdffafkaaDoorRnZ
import Derived.Test.YthefijjdffafkaaDoorDoD
namespace Go.Proofs.YthefijjdffafkaaDoor
open Go.RowKit
set_option linter.unusedVariables false
set_option maxRecDepth 20000

theorem fstE_take {l : List Fd} (h : fstE l = 0) (k : Nat) : fstE (l.take k) = 0 := by
  by_cases h0 : fstE (l.take k) = 0
  · exact h0
  · exfalso
    have h1 : fstS (l.take k) = (l.take k, fstE (l.take k)) := Prod.ext (fstS_one _) rfl
    generalize fstE (l.take k) = y at *
    have h2 : fstE l = y := by
      conv => lhs; rw [← List.take_append_drop k l]
      unfold fstE fstS
      rw [List.foldl_append]
      have h3 : (l.take k).foldl (fun (st : List Fd × Int) f => (st.1 ++ [f], orE st.2 (oneE st.1 f))) ([], 0) = (l.take k, y) := h1
      rw [h3]
      exact fstS_stop _ _ _ h0
    exact h0 (h2.symm.trans h)
theorem one_zero {l : List Fd} {k : Nat} {p : Fd} (h : fstE l = 0) (hp : l[k]? = some p) : oneE (l.take k) p = 0 := by
  have h1 := fstE_take h (k + 1)
  rw [take_snoc hp, fstE_snoc] at h1
  exact (orE_zero h1).2
theorem fnd_size {l : List Fd} (h : BdF l) (n : ByteArray) : ((fnd l n).getD ⟨#[]⟩).size ≤ 140737488355328 := by
  unfold fnd
  cases hf : l.find? (fun f => eqS f.1 n) with
  | none => exact Nat.zero_le _
  | some p => exact (h p (List.mem_of_find?_eq_some hf)).2
/-- A byte that is seen; one that ends no line; one that a told name may have. -/
def visB (n : Nat) : Bool := !(decide (n ≤ 32) || decide (127 ≤ n))
def nbB (n : Nat) : Bool := !(decide (n = 0) || decide (n = 13) || decide (n = 10))
def nfB (n : Nat) : Bool := !(decide (n ≤ 32) || decide (127 ≤ n) || decide (n = 58) || (decide (65 ≤ n) && decide (n ≤ 90)))
theorem allB_mono {p q : Nat → Bool} (h : ∀ n, n < 256 → p n = true → q n = true) {s : ByteArray} (hs : allB p s = true) : allB q s = true := by
  rw [allB_iff] at hs ⊢
  exact fun j hj => h _ (UInt8.toNat_lt _) (hs j hj)
theorem tok_vis : ∀ n, n < 256 → tokB n = true → visB n = true := by decide +kernel
theorem aut_vis : ∀ n, n < 256 → autB n = true → visB n = true := by decide +kernel
theorem pt_vis : ∀ n, n < 256 → ptB n = true → visB n = true := by decide +kernel
theorem ins_nb : ∀ n, n < 256 → insB n = true → nbB n = true := by decide +kernel
theorem tok_nb : ∀ n, n < 256 → tokB n = true → nbB n = true := by decide +kernel
theorem tok_nf : ∀ n, n < 256 → tokB n = true → ncB n = true → nfB n = true := by decide +kernel
/-- What is clean of a field. -/
structure ClF (p : Fd) : Prop where
  ne : eqS p.1 ⟨#[]⟩ = false
  nb : allB nbB p.1 = true
  vb : allB nbB p.2 = true
  hp : hopS p = false
  ho : eqS p.1 kHos = false
  nf : allB nfB p.1 = true
theorem ne_eqS {s : ByteArray} (h : neS s = true) : eqS s ⟨#[]⟩ = false := by
  cases he : eqS s ⟨#[]⟩ with
  | false => rfl
  | true => rw [(eqS_iff s ⟨#[]⟩).1 he] at h; exact absurd h (by decide)
theorem clf_of {l : List Fd} (h : fstE l = 0) {p : Fd} (hp : p ∈ plnL l) : ClF p := by
  unfold plnL at hp
  rw [List.mem_filter] at hp
  obtain ⟨hm, hq⟩ := hp
  obtain ⟨k, hk⟩ := List.getElem?_of_mem hm
  have h1 := one_zero h hk
  unfold oneE at h1
  obtain ⟨_, h2⟩ := orE_zero h1
  obtain ⟨h3, h4⟩ := orE_zero h2
  obtain ⟨h5, _⟩ := orE_zero h4
  have hps : psS p.1 = false := by cases hx : psS p.1 with | false => rfl | true => rw [hx] at hq; exact absurd hq (by simp)
  have hho : eqS p.1 kHos = false := by cases hx : eqS p.1 kHos with | false => rfl | true => rw [hx] at hq; exact absurd hq (by simp)
  have hhp : hopS p = false := by cases hx : hopS p with | false => rfl | true => rw [hx] at h5; simp at h5
  unfold txE at h3
  rw [hps] at h3
  have hnm : nmS p.1 = true := by cases hx : nmS p.1 with | true => rfl | false => rw [hx] at h3; simp at h3
  rw [hnm] at h3
  have hvl : vlS p.2 = true := by cases hx : vlS p.2 with | true => rfl | false => rw [hx] at h3; simp at h3
  unfold nmS tkS at hnm
  simp only [Bool.and_eq_true] at hnm
  unfold vlS at hvl
  simp only [Bool.and_eq_true] at hvl
  obtain ⟨⟨hn1, hn2⟩, hn3⟩ := hnm
  refine ⟨ne_eqS hn1, allB_mono tok_nb hn2, allB_mono ins_nb hvl.1, hhp, hho, ?_⟩
  rw [allB_iff] at hn2 hn3 ⊢
  exact fun j hj => tok_nf _ (UInt8.toNat_lt _) (hn2 j hj) (hn3 j hj)
/-- What is clean of a request's own texts. -/
structure ClR (m s a p : ByteArray) : Prop where
  vm : allB visB m = true
  vs : allB visB s = true
  va : allB visB a = true
  vp : allB visB p = true
  nm : eqS m ⟨#[]⟩ = false
  na : eqS a ⟨#[]⟩ = false
  c : eqS m kCNT = eqS p ⟨#[]⟩
theorem clr_of {l : List Fd} {c s : Int} (h : chE l c s = 0) : ClR (metO l) (schO l) (autO l) (patO l) ∧ fstE l = 0 := by
  obtain ⟨_, h1⟩ := orE_zero h
  obtain ⟨hf, h2⟩ := orE_zero h1
  obtain ⟨hme, h3⟩ := orE_zero h2
  obtain ⟨hmi, hau⟩ := orE_zero h3
  refine ⟨?_, hf⟩
  -- the method
  have hM : tkS (metO l) = true := by
    unfold metE at hme
    unfold metO
    cases hx : fnd l kMet with
    | none => rw [hx] at hme; simp at hme
    | some m =>
      rw [hx] at hme
      dsimp only at hme
      cases ht : tkS m with
      | true => exact ht
      | false => rw [ht] at hme; simp at hme
  unfold tkS at hM
  rw [Bool.and_eq_true] at hM
  -- the authority
  have hA : auS (autO l) = true := by
    unfold autE at hau
    unfold autO
    cases hx : autW l with
    | none => rw [hx] at hau; simp at hau
    | some a =>
      rw [hx] at hau
      dsimp only at hau
      cases ht : auS a with
      | true => exact ht
      | false => rw [ht] at hau; simp at hau
  unfold auS at hA
  rw [Bool.and_eq_true] at hA
  unfold midE at hmi
  cases hc : eqS (metO l) kCNT with
  | true =>
    rw [hc, if_pos rfl] at hmi
    obtain ⟨e1, e2⟩ := tun_none hmi
    rw [e1, e2]
    exact ⟨allB_mono tok_vis hM.2, rfl, allB_mono aut_vis hA.2, rfl, ne_eqS hM.1, ne_eqS hA.1, by rw [hc]; rfl⟩
  | false =>
    rw [hc, if_neg (by decide)] at hmi
    unfold tarE at hmi
    cases hb : (fnd l kSch).isSome && (fnd l kPat).isSome with
    | false => rw [hb] at hmi; simp at hmi
    | true =>
      rw [hb, if_pos rfl] at hmi
      cases hd : (eqS (schO l) kHttp || eqS (schO l) kHttps) && paS (metO l) (patO l) with
      | false => rw [hd] at hmi; simp at hmi
      | true =>
        rw [Bool.and_eq_true, Bool.or_eq_true] at hd
        obtain ⟨hs, hp⟩ := hd
        have hS : allB visB (schO l) = true := by
          rcases hs with h | h
          · rw [(eqS_iff _ _).1 h]; decide +kernel
          · rw [(eqS_iff _ _).1 h]; decide +kernel
        unfold paS at hp
        rw [Bool.or_eq_true, Bool.and_eq_true, Bool.and_eq_true] at hp
        have hP : allB visB (patO l) = true ∧ eqS (patO l) ⟨#[]⟩ = false := by
          rcases hp with ⟨_, h⟩ | ⟨h1, h2⟩
          · rw [(eqS_iff _ _).1 h]; exact ⟨by decide +kernel, by decide +kernel⟩
          · refine ⟨allB_mono pt_vis h2, ?_⟩
            cases he : eqS (patO l) ⟨#[]⟩ with
            | false => rfl
            | true => rw [(eqS_iff _ _).1 he] at h1; exact absurd h1 (by decide)
        exact ⟨allB_mono tok_vis hM.2, hS, allB_mono aut_vis hA.2, hP.1, ne_eqS hM.1, ne_eqS hA.1, by rw [hc, hP.2]⟩
set_option maxHeartbeats 4000000 in
theorem bad_no (s : ByteArray) (w : World) (hs : s.size ≤ 140737488355328) (h : allB nbB s = true) : Calls Tryd.prog 11 #[.string s] w fun e w' => e = .returned (.bool false) ∧ w' = w := by
  have HS := hid hs
  have HA := hid ((allB_iff nbB s).1 h)
  clear hs h
  go_enter Tryd.func11, Tryd.ntmps11
  go_wp2
  go_loop [3, 6] (fun b i => ∃ k : Nat, k ≤ s.size ∧ i = .int .i64 (k : Int)) (fun _ i => s.size - (intOf i).toNat)
  case atStart => exact ⟨0, by omega, rfl⟩
  case round =>
    obtain ⟨k, hk, rfl⟩ := hrel
    by_cases hlt : k < s.size
    · have hix := fun W => str_ix s k hlt W
      have hki : (k : Int) < (s.size : Int) := by omega
      have hk0 : (0 : Int) ≤ (k : Int) := by omega
      have hkb : (k : Int) < 140737488355328 := by have := HS.out; omega
      have hcb : (s[k]'hlt).toNat < 256 := UInt8.toNat_lt _
      have hn := HA.out k hlt
      generalize (s[k]'hlt).toNat = c at *
      simp only [nbB, Bool.not_eq_true', Bool.or_eq_false_iff, decide_eq_false_iff_not] at hn
      obtain ⟨⟨h0, h13⟩, h10⟩ := hn
      have e0 : ((c : Int) == 0) = false := by simp; omega
      have e1 : ((c : Int) == 13) = false := by simp; omega
      have e2 : ((c : Int) == 10) = false := by simp; omega
      go_wp2
      go_round
      case rel => exact ⟨k + 1, by omega, by go_num⟩
      case measure => simp [intOf]; omega
    · have hki : ¬ (k : Int) < (s.size : Int) := by omega
      go_wp2
      go_ret
      exact ⟨rfl, rfl⟩
end Go.Proofs.YthefijjdffafkaaDoor
