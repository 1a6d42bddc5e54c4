/-
  What the document's own answer for layer 2 does (Good, cut, In, Has, Same, Raise): contracts that the walks of the laws use.
-/
import Derived.Test.YtmcemfjnenfcaaaIns
import Derived.Test.YtmcemfjnenfcaaaShared
namespace Go.Proofs.Ytmcemfjnenfcaaa
open Go.RowKit
set_option linter.unusedVariables false

set_option maxHeartbeats 400000 in
theorem good_any (most : Int) (w : World) : Calls Try.prog 9 #[.int .i64 most] w fun e w' => e = .returned (.bool (decide (1 ≤ most ∧ most ≤ 64))) ∧ w = w' := by
  by_cases h1 : 1 ≤ most
  · have hb : decide (1 ≤ most) = true := by simp [h1]
    go_enter Try.func9, Try.ntmps9
    go_wp2
    go_ret
    exact ⟨ret_bool (by simp [h1]), rfl⟩
  · have hb : decide (1 ≤ most) = false := by simp [h1]
    go_enter Try.func9, Try.ntmps9
    go_wp2
    go_ret
    exact ⟨ret_bool (by simp), rfl⟩

set_option maxHeartbeats 1000000 in
theorem cut_any (a b f t : Int) (w : World) (h0 : 0 ≤ a) (h1 : a ≤ 4611686018427387904) (h2 : 0 ≤ b) (h3 : b ≤ 4611686018427387904) (k0 : 0 ≤ f) (k1 : f ≤ 4611686018427387904) (k2 : 0 ≤ t) (k3 : t ≤ 4611686018427387904) :
    Calls Try.prog 28 #[.int .i64 a, .int .i64 b, .int .i64 f, .int .i64 t] w fun e w' => e = .returned (.int .i64 (ov (f, t) (a, b))) ∧ w = w' := by
  go_enter Try.func28, Try.ntmps28
  go_wp2
  all_goals
    go_ret
    exact ⟨ret_int (by simp only [ov]; omega), rfl⟩

set_option maxHeartbeats 1000000 in
theorem in_any (a : Option Addr) (n c : Nat) (xs : List Sp) (x : Int) (w : World) (hs : Seg w a xs) (hl : xs.length = n) (hn : n ≤ 9223372036854775807) :
    Calls Try.prog 21 #[.slice a n c, .int .i64 x] w fun e w' => e = .returned (.bool (inB xs x)) ∧ w = w' := by
  have HS := hid hs
  have HL := hid hl
  clear hs hl
  go_enter Try.func21, Try.ntmps21
  go_wp2
  go_loopw [5] (fun i wr => ∃ k : Nat, k ≤ n ∧ i = .int .i64 k ∧ w = wr ∧ inB xs x = inB (xs.drop k) x) (fun i _ => n - (intOf i).toNat)
  case atStart => exact ⟨0, Nat.zero_le _, rfl, rfl, rfl⟩
  case round =>
    obtain ⟨k, hk, rfl, rfl, hin⟩ := hrel
    have HI := hid hin
    clear hin
    by_cases hlt : k < n
    · obtain ⟨b, off, rfl, d0, d1, d2⟩ := seg_last HS.out HL.out hlt
      have hlt' : (k : Int) < (n : Int) := by omega
      have HE := hid (inB_step xs x k (by rw [HL.out]; exact hlt))
      generalize xs.getD k (0, 0) = y at *
      by_cases h1 : y.1 ≤ x
      · by_cases h2 : x ≤ y.2
        · go_wp2
          go_ret
          exact ⟨ret_bool (by rw [HI.out, HE.out]; simp [h1, h2]), rfl⟩
        · go_wp2
          go_roundw
          case rel => exact ⟨k + 1, by omega, by go_num, trivial, by rw [HI.out, HE.out]; simp [h2]⟩
          case measure => simp [intOf]; omega
      · have h1' : decide (y.1 ≤ x) = false := by simp [h1]
        go_wp2
        go_roundw
        case rel => exact ⟨k + 1, by omega, by go_num, trivial, by rw [HI.out, HE.out]; simp [h1]⟩
        case measure => simp [intOf]; omega
    · obtain rfl : k = n := by omega
      go_wp2
      go_ret
      exact ⟨ret_bool (by rw [HI.out, List.drop_of_length_le (by rw [HL.out]; exact Nat.le_refl _)]; rfl), rfl⟩

set_option maxHeartbeats 1000000 in
theorem same_any (a1 a2 : Option Addr) (n c1 c2 : Nat) (xs : List Sp) (w : World) (h1 : Seg w a1 xs) (h2 : Seg w a2 xs) (hl : xs.length = n) (hn : n ≤ 100) :
    Calls Try.prog 30 #[.slice a1 n c1, .slice a2 n c2] w fun e w' => e = .returned (.bool true) ∧ ∃ k, w' = w.drewN k := by
  have H1 := hid h1
  have H2 := hid h2
  have HL := hid hl
  clear h1 h2 hl
  have hne : ((n : Int) != n) = false := by simp
  go_enter Try.func30, Try.ntmps30
  go_wp2
  go_loopw [5] (fun i wr => ∃ k : Nat, k ≤ n ∧ i = .int .i64 k ∧ ∃ m, wr = w.drewN m) (fun i _ => n - (intOf i).toNat)
  case atStart => exact ⟨0, Nat.zero_le _, rfl, 0, rfl⟩
  case round =>
    obtain ⟨k, hk, rfl, m, rfl⟩ := hrel
    by_cases hlt : k < n
    · obtain ⟨b1, o1, rfl, d0, d1, _⟩ := seg_last (H1.out.q ((Q.refl w).drewN m)) HL.out hlt
      obtain ⟨b2, o2, rfl, g0, g1, _⟩ := seg_last (H2.out.q ((Q.refl w).drewN m)) HL.out hlt
      have hlt' : (k : Int) < (n : Int) := by omega
      generalize xs.getD k (0, 0) = y at *
      generalize hwm : w.drewN m = wm at *
      have HW := hid hwm
      clear hwm
      go_wp2
      go_quiet (fail)
      go_wp2
      go_roundw
      case rel => exact ⟨k + 1, by omega, by go_num, m + nq, by rw [← HW.out]; simp [World.drewN, Nat.add_assoc]⟩
      case measure => simp [intOf]; omega
    · obtain rfl : k = n := by omega
      go_wp2
      go_ret
      exact ⟨rfl, m, rfl⟩

/-- The document's set in memory. -/
structure Rt (w : World) (rd : Nat) (a : Option Addr) (n c : Nat) (most floor : Int) (xs : List Sp) : Prop where
  hd : Hd w 36 rd most floor a n c
  seg : Seg w a xs
  len : xs.length = n
  ne : blk a ≠ some rd
  lt : ∀ b, blk a = some b → b < w.heap.size
theorem Rt.keep {F : Nat → Prop} {w w' : World} {rd : Nat} {a : Option Addr} {n c : Nat} {most floor : Int} {xs : List Sp} (h : Rt w rd a n c most floor xs) (k : Keep F w w') (h1 : ¬ F rd) (h2 : ∀ b, blk a = some b → ¬ F b) : Rt w' rd a n c most floor xs :=
  ⟨h.hd.keep k h1, h.seg.keep k h2, h.len, h.ne, fun b hb => Nat.lt_of_lt_of_le (h.lt b hb) k.size⟩
theorem Rt.q {w w' : World} {rd : Nat} {a : Option Addr} {n c : Nat} {most floor : Int} {xs : List Sp} (h : Rt w rd a n c most floor xs) (k : Q w w') : Rt w' rd a n c most floor xs := h.keep (Keep.ofQ (F := fun _ => False) k) id (fun _ _ => id)

def rhadB (floor : Int) (xs : List Sp) (x : Int) : Bool := decide (0 ≤ x ∧ x < floor) || inB xs x

set_option maxHeartbeats 1000000 in
theorem rhas_any (rd : Nat) (a : Option Addr) (n c : Nat) (most floor : Int) (xs : List Sp) (x : Int) (w : World) (hs : Rt w rd a n c most floor xs) (hn : n ≤ 100) :
    Calls Try.prog 19 #[.pointer (some ⟨rd, 0, none⟩), .int .i64 x] w fun e w' => e = .returned (.bool (rhadB floor xs x)) ∧ w = w' := by
  have c1 := hs.hd.c1
  have c2 := hs.hd.c2
  have HI := hid (in_any a n c xs x w hs.seg hs.len (by omega))
  clear hs
  by_cases h0 : 0 ≤ x
  · by_cases h1 : x < floor
    · have hb : decide (0 ≤ x) = true := by simp [h0]
      go_enter Try.func19, Try.ntmps19
      go_wp2_with fail
      go_ret
      exact ⟨ret_bool (by simp [rhadB, h0, h1]), rfl⟩
    · have hb : decide (0 ≤ x) = true := by simp [h0]
      go_enter Try.func19, Try.ntmps19
      go_wp2_with fail
      refine HI.out.mono ?_
      rintro e w' ⟨rfl, rfl⟩
      go_wp2
      go_ret
      exact ⟨ret_bool (by simp [rhadB]; intro h2 h3; omega), rfl⟩
  · have hb : decide (0 ≤ x) = false := by simp [h0]
    go_enter Try.func19, Try.ntmps19
    go_wp2_with fail
    refine HI.out.mono ?_
    rintro e w' ⟨rfl, rfl⟩
    go_wp2
    go_ret
    exact ⟨ret_bool (by simp [rhadB]; intro h2 h3; omega), rfl⟩

theorem rhad_eq {floor : Int} {xs : List Sp} (h : Ap floor xs) (f0 : 0 ≤ floor) (x : Int) : rhadB floor xs x = hadB floor xs x := by
  unfold rhadB hadB
  by_cases hx : x < floor
  · rw [if_pos hx]
    have : inB xs x = false := by
      rw [← Bool.not_eq_true, inB_iff]
      rintro ⟨y, hy, h1, h2⟩
      have := h.mem y hy
      omega
    rw [this]; simp [hx]
  · rw [if_neg hx]; simp [hx]

theorem Q.setCell {a b : World} (h : Q a b) (r j : Nat) (v : Value) (hr : a.heap.size ≤ r) : Q a (b.setCell ⟨r, j, none⟩ v) :=
  ((Keep.ofQ (F := fun _ => False) h).setCell r j v (.inr hr)).toQ (fun _ _ => id)

section
variable {ops : Array Oper} {rest : List Oper} {o : Oper} {act : Act} {w : World} {R : Exit → Act → World → Prop}
/-- append of one span, in a plain walk. -/
theorem wpList_append_one (hg : o.guard = none) (s x : Operand) (hop : o.op = Op.call { callee := Callee.builtin Builtin.append, args := #[s, x], argTypes := #[30, 30] }) (hty : o.type = 30)
    (base : Nat) (a : Option Addr) (n cap : Nat) (xs : List Sp) (hs : act.eval s = .slice a n cap) (vb : Nat) (p : Sp) (hx : act.eval x = .slice (some ⟨vb, 0, none⟩) 1 1) (ho : Own w base a n cap xs) (hv : One w vb p) (hn : n ≤ 100) (hb : base ≤ w.heap.size)
    (hK : ∀ a' cap' w', Own w' base a' (n + 1) cap' (xs ++ [p]) → Keep (fun b => blk a = some b) w w' → wpList Try.prog ops R rest (act.put o.dst (.slice a' (n + 1) cap')) w') :
    wpList Try.prog ops R (o :: rest) act w := by
  obtain ⟨a', cap', w', hr, h1, h2, h3⟩ := append_one ho hv hn hb
  have hr' : (Builtin.append_ #[30, 30] o.type #[.slice a n cap, .slice (some ⟨vb, 0, none⟩) 1 1]).run Try.prog w = .ok (.slice a' (n + 1) cap') w' := by rw [hty]; exact hr
  exact Lib.wpList_append_run w hg s x 30 30 hop _ _ hs hx _ _ hr' (hK a' cap' w' h1 h3)
end

end Go.Proofs.Ytmcemfjnenfcaaa
