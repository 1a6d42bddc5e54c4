/-
  What rightSpans, cut and sample answer and do: contracts that the statements' walks use.
-/
import Derived.Test.YtjhihcmemnhbbaaHld
import Derived.Test.YtjhihcmemnhbbaaSnt
import Derived.StillTailTactics
namespace Go.Proofs.Ytjhihcmemnhbbaa
open Go.RowKit
set_option linter.unusedVariables false
set_option maxRecDepth 20000

def okSp (least : Int) (x : Spn) : Bool := decide (least ≤ x.1) && (decide (x.1 ≤ x.2) && decide (x.2 ≤ 4611686018427387903))
def rgtL : Int → List Spn → Bool
  | _, [] => true
  | least, x :: r => okSp least x && rgtL (x.2 + 2) r
def rgt (l : List Spn) : Bool := decide (1 ≤ l.length ∧ l.length ≤ 64) && rgtL 0 l
theorem rgtL_ge {l : List Spn} {m : Int} (h : rgtL m l = true) (h0 : 0 ≤ m) : Srt l ∧ ∀ x ∈ l, m ≤ x.1 := by
  induction l generalizing m with
  | nil => exact ⟨trivial, fun x hx => by cases hx⟩
  | cons y r ih =>
    simp only [rgtL, okSp, Bool.and_eq_true, decide_eq_true_eq] at h
    have h2 := ih h.2 (by omega)
    refine ⟨⟨by omega, h.1.2.1, h.1.2.2, fun z hz => by have := h2.2 z hz; omega, h2.1⟩, fun x hx => ?_⟩
    rcases List.mem_cons.1 hx with rfl | hx
    · exact h.1.1
    · have := h2.2 x hx; omega
theorem rgt_srt {l : List Spn} (h : rgt l = true) : Srt l ∧ 0 < l.length ∧ l.length ≤ 64 := by
  simp only [rgt, Bool.and_eq_true, decide_eq_true_eq] at h
  exact ⟨(rgtL_ge h.2 (by omega)).1, h.1.1, h.1.2⟩

set_option maxHeartbeats 4000000 in
theorem rightSpans_any {w : World} {a : Option Addr} {m c : Nat} {l : List Spn} (ht : SegS w a l) (hl : l.length = m) :
    Calls Try.prog 25 #[.slice a m c] w fun e w' => e = .returned (.bool (rgt l)) ∧ Q w w' := by
  have HT := hid ht
  have HL := hid hl
  by_cases h1 : m < 1
  · have b1 : decide ((m : Int) < 1) = true := by simp; omega
    have HR := hid (show rgt l = false by unfold rgt; have : ¬ (1 ≤ l.length ∧ l.length ≤ 64) := (by omega); simp [this])
    obtain rfl : m = 0 := by omega
    clear ht hl h1 b1
    go_enter Try.func25, Try.ntmps25
    go_wp2
    go_ret
    exact ⟨ret_bool HR.out.symm, Q.refl w⟩
  · have b1 : decide ((m : Int) < 1) = false := by simp; omega
    have b1' : (m < 1) = False := by simp; omega
    by_cases h2 : 64 < m
    · have b2 : decide ((64 : Int) < (m : Int)) = true := by simp; omega
      have HR := hid (show rgt l = false by unfold rgt; have : ¬ (1 ≤ l.length ∧ l.length ≤ 64) := (by omega); simp [this])
      clear ht hl
      go_enter Try.func25, Try.ntmps25
      go_wp2
      go_ret
      exact ⟨ret_bool HR.out.symm, Q.refl w⟩
    · have b2 : decide ((64 : Int) < (m : Int)) = false := by simp; omega
      have hm : m ≤ 64 := by omega
      have HR := hid (show rgt l = rgtL 0 l by unfold rgt; have : (1 ≤ l.length ∧ l.length ≤ 64) := (by omega); simp [this])
      clear ht hl h2
      go_enter Try.func25, Try.ntmps25
      go_wp2
      go_loopw [3, 16] (fun x i wr => ∃ (j : Nat) (least : Int), j ≤ m ∧ i = .int .i64 j ∧ x = .int .i64 least ∧ 0 ≤ least ∧ rgt l = rgtL least (l.drop j) ∧ Q w wr) (fun _ i _ => m - (intOf i).toNat)
      case atStart => exact ⟨0, 0, Nat.zero_le _, rfl, rfl, Int.le_refl _, by rw [HR.out]; rfl, Q.refl w⟩
      case round =>
        obtain ⟨j, least, hj, rfl, rfl, hl0, hr, hq⟩ := hrel
        have HJR := hid hr
        have HQ := hid hq
        by_cases hlt : j < m
        · have hlt' : (j : Int) < (m : Int) := by omega
          have hjl : j < l.length := by have := HL.out; omega
          obtain ⟨g, o2, rfl, hc⟩ := (HT.out.q hq) (by intro e; rw [e] at hjl; simp at hjl)
          have hS := hc j hjl
          have c0 := hS.c0
          have c1 := hS.c1
          obtain ⟨x, hx⟩ : ∃ x, x = l.getD j (0, 0) := ⟨_, rfl⟩
          rw [← hx] at c0 c1
          have hd : l.drop j = x :: l.drop (j + 1) := by
            rw [List.drop_eq_getElem_cons hjl, hx, List.getD_eq_getElem?_getD, List.getElem?_eq_getElem hjl]; rfl
          have HRX := hid (show rgt l = (okSp least x && rgtL (x.2 + 2) (l.drop (j + 1))) by rw [HJR.out, hd]; rfl)
          have hwi : IntKind.i64.wrap ((j : Int) + 1) = ((j + 1 : Nat) : Int) := by rw [IntKind.wrap_i64]; omega
          clear hS hc hq hr hx hd hjl
          by_cases g1 : x.1 < least
          · have d1 : decide (x.1 < least) = true := by simp [g1]
            have HF := hid (show rgt l = false by rw [HRX.out]; have : okSp least x = false := (by unfold okSp; simp; omega); rw [this]; rfl)
            clear g1
            go_wp2
            go_ret
            exact ⟨ret_bool HF.out.symm, HQ.out.alloc _⟩
          · have d1 : decide (x.1 < least) = false := by simp; omega
            by_cases g2 : x.2 < x.1
            · have d2 : decide (x.2 < x.1) = true := by simp [g2]
              have HF := hid (show rgt l = false by rw [HRX.out]; have : okSp least x = false := (by unfold okSp; simp; omega); rw [this]; rfl)
              clear g1 g2
              go_wp2
              go_ret
              exact ⟨ret_bool HF.out.symm, HQ.out.alloc _⟩
            · have d2 : decide (x.2 < x.1) = false := by simp; omega
              by_cases g3 : 4611686018427387903 < x.2
              · have d3 : decide (4611686018427387903 < x.2) = true := by simp [g3]
                have HF := hid (show rgt l = false by rw [HRX.out]; have : okSp least x = false := (by unfold okSp; simp; omega); rw [this]; rfl)
                clear g1 g2 g3
                go_wp2
                go_ret
                exact ⟨ret_bool HF.out.symm, HQ.out.alloc _⟩
              · have d3 : decide (4611686018427387903 < x.2) = false := by simp; omega
                have hw2 : IntKind.i64.wrap (x.2 + 2) = x.2 + 2 := by rw [IntKind.wrap_i64]; omega
                have HF2 := hid (show rgt l = rgtL (x.2 + 2) (l.drop (j + 1)) by rw [HRX.out]; have : okSp least x = true := (by unfold okSp; simp; omega); rw [this]; rfl)
                have HX2 := hid (show 0 ≤ x.2 + 2 by omega)
                clear g1 g2 g3 hl0
                go_wp2
                go_roundw
                case rel => exact ⟨j + 1, x.2 + 2, by omega, by go_num, rfl, HX2.out, HF2.out, HQ.out.alloc _⟩
                case measure => simp [intOf]; omega
        · obtain rfl : j = m := by omega
          have HF := hid (show rgt l = true by rw [HJR.out, List.drop_of_length_le (by have := HL.out; omega)]; rfl)
          clear hq hr hlt hj
          go_wp2
          go_ret
          exact ⟨ret_bool HF.out.symm, HQ.out⟩

def cutM (S : Lo) (k : Nat) (delay : Int) : Int := if k = 2 then min delay S.most else 0
theorem cut_any {w : World} {rb : Nat} {r : Nat → Sv} {S : Lo} (h : La w rb r S) (k : Nat) (hk : k < 3) (delay : Int) : Calls Try.prog 31 #[.pointer (some ⟨rb, 0, none⟩), .int .i64 (k : Int), .int .i64 delay] w fun e w' => e = .returned (.int .i64 (cutM S k delay)) ∧ w = w' := by
  have c0 := h.hd.c0
  clear h
  by_cases h2 : k = 2
  · subst h2
    have HE := hid (show cutM S 2 delay = min delay S.most by unfold cutM; rw [if_pos rfl])
    go_enter Try.func31, Try.ntmps31
    go_wp2
    go_ret
    exact ⟨ret_int HE.out.symm, rfl⟩
  · have HE := hid (show cutM S k delay = 0 by unfold cutM; rw [if_neg h2])
    have b1 : ((k : Int) != 2) = true := by simp; omega
    clear h2
    go_enter Try.func31, Try.ntmps31
    go_wp2
    go_ret
    exact ⟨ret_int HE.out.symm, rfl⟩

def smpX (S : Lo) (lat cut : Int) : Int := if min S.lea lat + cut ≤ lat then lat - cut else lat
def smpS (S : Lo) (lat cut : Int) : Lo := if S.smp = true then { S with lat := lat, lea := min S.lea lat, var := (3 * S.var + max (S.smo - smpX S lat cut) (smpX S lat cut - S.smo)) / 4, smo := (7 * S.smo + smpX S lat cut) / 8 } else { S with lat := lat, smp := true, lea := lat, smo := lat, var := lat / 2 }

set_option maxHeartbeats 4000000 in
theorem sample_any {N : Nat} {w : World} {rb : Nat} {r : Nat → Sv} {S : Lo} (h : La w rb r S) (hO : Ok N S) (lat cut : Int) (l0 : 0 ≤ lat) (l1 : lat ≤ 1099511627776) (c0 : 0 ≤ cut) (c1 : cut ≤ 16383) :
    Calls Try.prog 30 #[.pointer (some ⟨rb, 21, none⟩), .int .i64 lat, .int .i64 cut] w fun e w' => e = .returned (.tuple #[]) ∧ Wr w w' rb r r (smpS S lat cut) := by
  have f22 := h.hd.free 22
  have k22 := h.hd.lat
  have W1 := h.setHd 22 (.int .i64 lat) (h.hd.lat_ lat) (fun i hi => ⟨rfl, rfl⟩)
  have k21 := W1.la.hd.smp
  have f21 := W1.la.hd.free 21
  simp only at k21
  cases hsm : S.smp
  · rw [hsm] at k21
    have W2 := W1.la.setHd 21 (.bool true) (W1.la.hd.smp_ true) (fun i hi => ⟨rfl, rfl⟩)
    have k23 := W2.la.hd.lea
    have f23 := W2.la.hd.free 23
    have W3 := W2.la.setHd 23 (.int .i64 lat) (W2.la.hd.lea_ lat) (fun i hi => ⟨rfl, rfl⟩)
    have k24 := W3.la.hd.smo
    have f24 := W3.la.hd.free 24
    have W4 := W3.la.setHd 24 (.int .i64 lat) (W3.la.hd.smo_ lat) (fun i hi => ⟨rfl, rfl⟩)
    have k25 := W4.la.hd.var
    have f25 := W4.la.hd.free 25
    have W5 := W4.la.setHd 25 (.int .i64 (lat / 2)) (W4.la.hd.var_ (lat / 2)) (fun i hi => ⟨rfl, rfl⟩)
    have FIN := hid (W1.trans (W2.trans (W3.trans (W4.trans W5))))
    have HS := hid (show smpS S lat cut = { S with lat := lat, smp := true, lea := lat, smo := lat, var := lat / 2 } by unfold smpS; rw [if_neg (by simp [hsm])])
    clear W1 W2 W3 W4 W5 h hO hsm
    go_enter Try.func30, Try.ntmps30
    go_wp2
    (try simp only [Exit.inBlock, Exit.then]); refine bodyPost_ret (results_none rfl _ _ _) rfl ?_
    exact ⟨rfl, by rw [HS.out]; exact FIN.out⟩
  · rw [hsm] at k21
    have k23 := W1.la.hd.lea
    have f23 := W1.la.hd.free 23
    have W2 := W1.la.setHd 23 (.int .i64 (min S.lea lat)) (W1.la.hd.lea_ (min S.lea lat)) (fun i hi => ⟨rfl, rfl⟩)
    have j23 := W2.la.hd.lea
    have j25 := W2.la.hd.var
    have j24 := W2.la.hd.smo
    have g25 := W2.la.hd.free 25
    simp only at k23 j23 j25 j24
    have o1 := hO.lea0
    have o2 := hO.lea1
    have o3 := hO.smo0
    have o4 := hO.smo1
    have o5 := hO.var0
    have o6 := hO.var1
    have o7 := hO.lat1
    obtain ⟨X, hX⟩ : ∃ X, X = smpX S lat cut := ⟨_, rfl⟩
    have X0 : 0 ≤ X ∧ X ≤ 1099511627776 := by rw [hX]; unfold smpX; split <;> omega
    obtain ⟨w2, hw2⟩ : ∃ w2, w2 = (w.setCell ⟨rb, 22, none⟩ (.int .i64 lat)).setCell ⟨rb, 23, none⟩ (.int .i64 (min S.lea lat)) := ⟨_, rfl⟩
    rw [← hw2] at W2 j23 j25 j24 g25
    have W3 := W2.la.setHd 25 (.int .i64 ((3 * S.var + max (S.smo - X) (X - S.smo)) / 4)) (W2.la.hd.var_ _) (fun i hi => ⟨rfl, rfl⟩)
    have W4 := W3.la.setHd 24 (.int .i64 ((7 * S.smo + X) / 8)) (W3.la.hd.smo_ _) (fun i hi => ⟨rfl, rfl⟩)
    have FIN := hid ((W1.trans (W2.trans (W3.trans W4))).qr ((Q.refl _).drew))
    have g24 := W2.la.hd.free 24
    have HS := hid (show smpS S lat cut = { S with lat := lat, lea := min S.lea lat, var := (3 * S.var + max (S.smo - X) (X - S.smo)) / 4, smo := (7 * S.smo + X) / 8 } by unfold smpS; rw [if_pos hsm, ← hX])
    have HW2 := hid hw2.symm
    have HX := hid hX
    have hwA : IntKind.i64.wrap (min S.lea lat + cut) = min S.lea lat + cut := by rw [IntKind.wrap_i64]; omega
    have hwB : IntKind.i64.wrap (lat - cut) = lat - cut := by rw [IntKind.wrap_i64]; omega
    have hwC : IntKind.i64.wrap (3 * S.var) = 3 * S.var := by rw [IntKind.wrap_i64]; omega
    have hwD : IntKind.i64.wrap (S.smo - X) = S.smo - X := by rw [IntKind.wrap_i64]; omega
    have hwE : IntKind.i64.wrap (X - S.smo) = X - S.smo := by rw [IntKind.wrap_i64]; omega
    have hwF : IntKind.i64.wrap (3 * S.var + max (S.smo - X) (X - S.smo)) = 3 * S.var + max (S.smo - X) (X - S.smo) := by rw [IntKind.wrap_i64]; omega
    have hwG : IntKind.i64.wrap (7 * S.smo) = 7 * S.smo := by rw [IntKind.wrap_i64]; omega
    have hwH : IntKind.i64.wrap (7 * S.smo + X) = 7 * S.smo + X := by rw [IntKind.wrap_i64]; omega
    clear W1 W2 W3 W4 h hO hsm hw2 o1 o2 o7
    by_cases hc : min S.lea lat + cut ≤ lat
    · have b1 : decide (min S.lea lat + cut ≤ lat) = true := by simp [hc]
      have hXv : lat - cut = X := by rw [hX]; unfold smpX; rw [if_pos hc]
      clear hc hX
      go_enter Try.func30, Try.ntmps30
      go_wp2
      rw [HW2.out]
      go_still_tail 23, (by kernel_rfl)
      go_wp2
      go_end0
      exact ⟨rfl, by rw [HS.out]; exact FIN.out⟩
    · have b1 : decide (min S.lea lat + cut ≤ lat) = false := by simp; omega
      obtain rfl : X = lat := by rw [hX]; unfold smpX; rw [if_neg hc]
      clear hc hX
      go_enter Try.func30, Try.ntmps30
      go_wp2
      rw [HW2.out]
      go_still_tail 23, (by kernel_rfl)
      go_wp2
      go_end0
      exact ⟨rfl, by rw [HS.out]; exact FIN.out⟩
end Go.Proofs.Ytjhihcmemnhbbaa
