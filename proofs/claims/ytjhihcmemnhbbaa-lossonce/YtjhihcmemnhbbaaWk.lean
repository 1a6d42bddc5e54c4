/-
  What the statements ask of Ack and Fire: contracts that their walks use.
-/
import Derived.Test.YtjhihcmemnhbbaaFal
namespace Go.Proofs.Ytjhihcmemnhbbaa
open Go.RowKit
set_option linter.unusedVariables false
set_option maxRecDepth 20000

theorem lost_lt {ack now pt : Int} {p : Pk} (h : lostP ack now pt p = true) : p.n < ack := by
  simp only [lostP, Bool.or_eq_true, Bool.and_eq_true, decide_eq_true_eq] at h
  omega
/-- What Fire brings. -/
structure FireP (N : Nat) (S S' : Lo) (L : List Pk) (sp : Int) (pb : Bool) : Prop where
  ok : Ok N S'
  ack : ∀ k, k < 3 → (S'.sp k).ack = (S.sp k).ack
  lost : ∀ p ∈ L, ∃ j : Nat, j < 3 ∧ sp = (j : Int) ∧ p.n < (S.sp j).ack
  out : (L = [] ∧ ∀ k, k < 3 → (S'.sp k).out = (S.sp k).out) ∨ (pb = false ∧ ∃ (j : Nat) (f : Pk → Bool), j < 3 ∧ sp = (j : Int) ∧ L = (S.sp j).out.filter f ∧ (S'.sp j).out = (S.sp j).out.filter (fun p => !f p) ∧ ∀ k, k < 3 → k ≠ j → (S'.sp k).out = (S.sp k).out)
  sent : ∀ k, k < 3 → (S'.sp k).sent = (S.sp k).sent
def FireW (N : Nat) (w : World) (rb : Nat) (r : Nat → Sv) (S : Lo) (e : Ending) (w' : World) : Prop := ∃ S' L sp pb E, FireAns w rb r S' L sp pb E e w' ∧ FireP N S S' L sp pb
theorem fire_any {N : Nat} {w : World} {rb : Nat} {r : Nat → Sv} {S : Lo} (h : La w rb r S) (hO : Ok N S) (hN : N ≤ 4398046511103) (now : Int) :
    Calls Try.prog 18 #[.pointer (some ⟨rb, 0, none⟩), .int .i64 now] w fun e w' => FireW N w rb r S e w' := by
  by_cases hc : ckE S now = 0
  · have hck : S.now ≤ now ∧ now ≤ 1099511627776 := by
      unfold ckE at hc
      by_cases e : S.now ≤ now ∧ now ≤ 1099511627776
      · exact e
      · rw [if_neg e] at hc; omega
    have hO1 : Ok N { S with now := now } := ok_now hO hck.1 hck.2
    by_cases hn : nxP S = -1 ∨ now < nxA S
    · refine (fire_none h hO now hc hn).mono ?_
      rintro e w' ⟨he, hW⟩
      exact ⟨_, [], _, _, _, fire_nil he hW, hO1, fun _ _ => rfl, (fun p hp => by cases hp), .inl ⟨rfl, fun _ _ => rfl⟩, fun _ _ => rfl⟩
    · have h1 : nxP S ≠ -1 := fun e => hn (.inl e)
      have h2 : ¬ now < nxA S := fun e => hn (.inr e)
      cases hb : nxB S
      · have hr := nx_lt hb h1
        obtain ⟨j, hj⟩ : ∃ j : Nat, nxP S = (j : Int) := ⟨(nxP S).toNat, by omega⟩
        have hj3 : j < 3 := by omega
        have hn0 := hO.now0
        refine (fire_loss h hO hN now hc h1 h2 hb hj3 hj).mono ?_
        intro e w' hF
        obtain ⟨f1, f2, f3, f4, f5, f6⟩ := ok_fnd hO1 hj3 (by omega) hck.2 hN
        refine ⟨_, _, _, _, _, hF, f1, fun k hk => ?_, fun p hp => ⟨j, hj3, rfl, lost_lt (List.mem_filter.1 hp).2⟩, .inr ⟨rfl, j, lostP ((S.sp j).ack) now (pat { S with now := now }), hj3, rfl, rfl, ?_, fun k hk hne => ?_⟩, fun k hk => ?_⟩
        · by_cases e : k = j
          · subst e; exact f5
          · rw [f4 k e]
        · exact f3
        · rw [f4 k hne]
        · by_cases e : k = j
          · subst e; exact f6
          · rw [f4 k e]
      · refine (fire_probe h hO now hc h1 h2 hb).mono ?_
        rintro e w' ⟨he, hW⟩
        have o1 := hO.prb0
        have hO2 : Ok N { S with now := now, prb := min (S.prb + 1) 20 } := ⟨hO1.most0, hO1.most1, hO1.now0, hO1.now1, hO1.win0, hO1.win1, hO1.thr0, hO1.thr1, hO1.rcv0, hO1.rcv1, (by simp only; omega), (by simp only; omega), hO1.lat0, hO1.lat1, hO1.lea0, hO1.lea1, hO1.smo0, hO1.smo1, hO1.var0, hO1.var1, hO1.sp⟩
        exact ⟨_, [], _, _, _, fire_nil he hW, hO2, fun _ _ => rfl, (fun p hp => by cases hp), .inl ⟨rfl, fun _ _ => rfl⟩, fun _ _ => rfl⟩
  · refine (fire_bad h now hc).mono ?_
    rintro e w' ⟨he, rfl⟩
    exact ⟨_, [], _, _, _, fire_nil he (Wr.refl h), hO, fun _ _ => rfl, (fun p hp => by cases hp), .inl ⟨rfl, fun _ _ => rfl⟩, fun _ _ => rfl⟩

/-- What Ack brings. -/
structure AckP (N : Nat) (S : Lo) (k : Int) (l : List Spn) (S' : Lo) (A L : List Pk) (E : Int) : Prop where
  ok : Ok N S'
  no : A = [] ∨ E ≠ 0 → A = [] ∧ L = [] ∧ (∀ i, i < 3 → (S'.sp i).ack = (S.sp i).ack) ∧ ∀ i, i < 3 → (S'.sp i).out = (S.sp i).out
  yes : E = 0 → A ≠ [] → ∃ j : Nat, j < 3 ∧ k = (j : Int) ∧ 0 < l.length ∧ 0 ≤ lastTo l ∧ (S'.sp j).ack ≤ max (S.sp j).ack (lastTo l) ∧ (∀ i, i < 3 → i ≠ j → (S'.sp i).ack = (S.sp i).ack) ∧ (∀ p ∈ L, p.n < (S'.sp j).ack) ∧ A = (S.sp j).out.filter (fun p => inS l p.n) ∧ ∃ f : Pk → Bool, L = ((S.sp j).out.filter (fun p => !inS l p.n)).filter f ∧ (S'.sp j).out = ((S.sp j).out.filter (fun p => !inS l p.n)).filter (fun p => !f p) ∧ ∀ i, i < 3 → i ≠ j → (S'.sp i).out = (S.sp i).out
  sent : ∀ i, i < 3 → (S'.sp i).sent = (S.sp i).sent
theorem ack_p {N : Nat} {S : Lo} (hO : Ok N S) (hN : N ≤ 4398046511103) (k : Int) (l : List Spn) (delay now : Int) : AckP N S k l (ackS S k l delay now) (ackA S k l delay now) (ackL S k l delay now) (ackE S k l delay now) := by
  by_cases hE : ackE S k l delay now = 0
  · have hc : chE S k now = 0 := by
      have h0 := hE
      unfold ackE at h0
      by_cases e : chE S k now = 0
      · exact e
      · rw [if_pos e] at h0; exact h0
    obtain ⟨k0, k1, n0, n1⟩ := chE_zero hc
    obtain ⟨j, rfl⟩ : ∃ j : Nat, k = (j : Int) := ⟨k.toNat, by omega⟩
    have hj : j < 3 := by omega
    have hEE := hE
    unfold ackE at hEE
    rw [if_neg (by simp [hc])] at hEE
    rw [show ((j : Int)).toNat = j from Int.toNat_natCast j] at hEE
    have hbad : ackBad S j l = false := by
      cases h : ackBad S j l with
      | false => rfl
      | true => rw [h] at hEE; simp at hEE
    rw [hbad] at hEE
    have hd : 0 ≤ delay := by
      by_cases e : delay < 0 ∨ 4611686018427387903 < delay
      · rw [if_neg (by simp), if_pos e] at hEE; omega
      · omega
    have hrg : rgt l = true := by
      unfold ackBad at hbad
      cases h : rgt l with
      | true => rfl
      | false => rw [h] at hbad; simp at hbad
    have hsr := rgt_srt hrg
    by_cases hne : arrL S j l = []
    · have eA : ackA S j l delay now = [] := by unfold ackA; rw [if_pos hE]; exact hne
      have eL : ackL S j l delay now = [] := by unfold ackL; rw [if_neg (fun h => h.2 hne)]
      have eS : ackS S j l delay now = { S with now := now } := by unfold ackS; rw [if_pos hE, if_pos (show arrL S (j : Int).toNat l = [] from hne)]
      refine ⟨by rw [eS]; exact ok_now hO n0 n1, fun _ => ⟨eA, eL, fun i hi => by rw [eS], fun i hi => by rw [eS]⟩, fun _ h => absurd eA h, fun i hi => by rw [eS]⟩
    · have eA : ackA S j l delay now = arrL S j l := by unfold ackA; rw [if_pos hE]; rfl
      have eL : ackL S j l delay now = fndL (ack5 S j l delay now) j now := by unfold ackL; rw [if_pos ⟨hE, hne⟩]; rfl
      have eS : ackS S j l delay now = fndS (ack5 S j l delay now) j now := by unfold ackS; rw [if_pos hE, if_neg (show ¬ arrL S (j : Int).toNat l = [] from hne)]; rfl
      obtain ⟨a1, a2, a3, a4, a5, a6⟩ := ok_ack5 hO hj n0 n1 hd hne
      have hn0 := hO.now0
      obtain ⟨f1, f2, f3, f4, f5, f6⟩ := ok_fnd a1 hj (by omega) n1 hN
      have hlt : (lastP (arrL S j l)).n ≤ lastTo l ∧ 0 ≤ lastTo l := by
        have h0 : 0 < (arrL S j l).length := List.length_pos_iff.2 hne
        have h1 : lastP (arrL S j l) ∈ arrL S j l := by
          unfold lastP; rw [List.getD_eq_getElem?_getD, List.getElem?_eq_getElem (by omega)]; exact List.getElem_mem _
        have h2 := (List.mem_filter.1 h1).2
        obtain ⟨i, hi, h3, h4⟩ := (inS_iff l _).1 h2
        have hm : gS l i ∈ l := by unfold gS; rw [List.getD_eq_getElem?_getD, List.getElem?_eq_getElem hi]; exact List.getElem_mem _
        have h5 := srt_mem hsr.1 _ hm
        unfold lastTo
        omega
      refine ⟨by rw [eS]; exact f1, ?_, fun _ _ => ⟨j, hj, rfl, hsr.2.1, hlt.2, ?_, ?_, ?_, ?_, lostP ((ack5 S j l delay now).sp j).ack now (pat (ack5 S j l delay now)), ?_, ?_, ?_⟩, fun i hi => ?_⟩
      · rintro (h | h)
        · rw [eA] at h; exact absurd h hne
        · exact absurd hE h
      · rw [eS, f5, a5]; omega
      · intro i hi hne'; rw [eS, f4 i hne', a4 i hne']
      · intro p hp
        rw [eL] at hp
        rw [eS, f5]
        exact lost_lt (List.mem_filter.1 hp).2
      · rw [eA]; rfl
      · rw [eL]; unfold fndL; rw [a3]; rfl
      · rw [eS, f3]; unfold fndR; rw [a3]; rfl
      · intro i hi hne'; rw [eS, f4 i hne', a4 i hne']
      · by_cases e : i = j
        · subst e; rw [eS, f6, a6]
        · rw [eS, f4 i e, a4 i e]
  · have eA : ackA S k l delay now = [] := by unfold ackA; rw [if_neg hE]
    have eL : ackL S k l delay now = [] := by unfold ackL; rw [if_neg (fun h => hE h.1)]
    have eS : ackS S k l delay now = S := by unfold ackS; rw [if_neg hE]
    exact ⟨by rw [eS]; exact hO, fun _ => ⟨eA, eL, fun i hi => by rw [eS], fun i hi => by rw [eS]⟩, fun h => absurd h hE, fun i hi => by rw [eS]⟩
end Go.Proofs.Ytjhihcmemnhbbaa
