/-
  The document's reader in memory, and what the document's Left, Bytes, word and id do: contracts that the statements' walks use.
-/
import Derived.Test.YtbhhajmfdffdbaaHd
import Derived.Test.YtbhhajmfdffdbaaVer
import Derived.Test.YtbhhajmfdffdbaaRefReaderTwo
namespace Go.Proofs.Ytbhhajmfdffdbaa
open Go.RowKit
set_option linter.unusedVariables false
set_option maxRecDepth 20000

/-- The document's reader: its bytes, its place, its fault. -/
structure Dr (w : World) (rb : Nat) (a : Option Addr) (n c : Nat) (zs : List Int) (p f : Int) : Prop where
  rdr : Rdr w 65 rb a n c p f
  seg : Seg w a zs
  len : zs.length = n
  by_ : ∀ y ∈ zs, 0 ≤ y ∧ y < 256
  small : n ≤ 1048576
  nc : n ≤ c
  alt : zs ≠ [] → ∀ b, blk a = some b → b < rb
  p0 : 0 ≤ p
  p1 : p ≤ n
section
variable {w w' : World} {rb : Nat} {a : Option Addr} {n c : Nat} {zs : List Int} {p f : Int}
theorem Dr.off (h : Dr w rb a n c zs p f) : SegOff rb w a zs := ⟨h.seg, fun hne ad e => by
  have := h.alt hne ad.block (by rw [e]; rfl)
  omega⟩
theorem seg_keepC {F : Nat → Prop} (h : Seg w a zs) (k : Keep F w w') (hF : zs ≠ [] → ∀ b, blk a = some b → ¬ F b) : Seg w' a zs := by
  by_cases hz : zs = []
  · subst hz; exact seg_nil _ _
  · exact h.keep k (hF hz)
theorem Dr.pl_ (h : Dr w rb a n c zs p f) : Pl zs p := ⟨h.by_, h.p0, by rw [h.len]; exact h.p1⟩
theorem Dr.keep {F : Nat → Prop} (h : Dr w rb a n c zs p f) (k : Keep F w w') (hF : ∀ i, F i → rb < i) : Dr w' rb a n c zs p f :=
  ⟨(k.block rb h.rdr.lt (fun e => by have := hF _ e; omega)).trans h.rdr, seg_keepC h.seg k (fun hne b hb e => by have := h.alt hne b hb; have := hF _ e; omega), h.len, h.by_, h.small, h.nc, h.alt, h.p0, h.p1⟩
theorem Dr.q (h : Dr w rb a n c zs p f) (k : Q w w') : Dr w' rb a n c zs p f := h.keep (Keep.ofQ (F := fun _ => False) k) (fun _ e => e.elim)
theorem Dr.turn {q g : Int} (h : Dr w rb a n c zs p f) (k : Keep (fun k => k = rb) w w') (r : Rdr w' 65 rb a n c q g) (q0 : 0 ≤ q) (q1 : q ≤ n) : Dr w' rb a n c zs q g :=
  ⟨r, seg_keepC h.seg k (fun hne b hb e => by have := h.alt hne b hb; omega), h.len, h.by_, h.small, h.nc, h.alt, q0, q1⟩
end
section
variable (rb : Nat) (a : Option Addr) (n c : Nat) (zs : List Int) (p f : Int) (w : World)
set_option maxHeartbeats 1000000 in
theorem rleft_any (hn : n ≤ 140737488355328) (hp : 0 ≤ p) (hpn : p ≤ n) (hr : Rdr w 65 rb a n c p f) :
    Calls Try.prog 30 #[.pointer (some ⟨rb, 0, none⟩)] w fun e w' => e = .returned (.int .i64 (if f = 0 then (n : Int) - p else 0)) ∧ ∃ k, w' = w.drewN k := by
  have c0 := hr.c0
  have c1 := hr.c1
  have c2 := hr.c2
  clear hr
  by_cases hf : f = 0
  · subst hf
    go_enter Try.func30, Try.ntmps30
    go_wp2
    go_quiet (fail)
    go_wp2
    go_ret
    exact ⟨rfl, _, rfl⟩
  · have hb : (f != 0) = true := by simp [hf]
    rw [if_neg hf]
    clear hf
    go_enter Try.func30, Try.ntmps30
    go_wp2
    go_ret
    exact ⟨rfl, 0, rfl⟩
/-- Bytes that are there. -/
theorem rbytes_ok (k : Int) (hk : 0 ≤ k) (hpk : p + k ≤ n) (h : Dr w rb a n c zs p 0) :
    Calls Try.prog 29 #[.pointer (some ⟨rb, 0, none⟩), .int .i64 k] w fun e w' => ∃ r : Sv, e = .returned (.slice r.a r.n r.c) ∧ Keep (fun i => i = rb) w w' ∧ Dr w' rb a n c zs (p + k) 0 ∧ Row w' r ((zs.drop p.toNat).take k.toNat) ∧ New w.heap.size r := by
  have h0 := h.p0
  have hsm := h.small
  obtain ⟨p, rfl⟩ := Int.eq_ofNat_of_zero_le h0
  obtain ⟨k, rfl⟩ := Int.eq_ofNat_of_zero_le hk
  have hnc := h.nc
  have hl := h.len
  have hbl : ((zs.drop p).take k).length = k := by simp; omega
  refine (rbytes_k rb a _ n c p k _ ((zs.drop p).take k) w (by omega) hnc (by omega) h.rdr (slice_run a n c p k (by omega)) hbl (seg_cut h.seg (by omega) (by omega))).mono ?_
  rintro e w' ⟨g, rfl, ho, hr, hown, hg⟩
  exact ⟨⟨some ⟨g, 0, none⟩, k, k⟩, rfl, ho.keep, h.turn ho.keep hr (by omega) (by omega), hown.row (by simp), by intro b hb; cases hb; exact (hown.lt g rfl).1⟩
/-- Bytes that are not there. -/
theorem rbytes_no (k : Int) (hk : 0 ≤ k) (hpk : (n : Int) < p + k) (h : Dr w rb a n c zs p 0) :
    Calls Try.prog 29 #[.pointer (some ⟨rb, 0, none⟩), .int .i64 k] w fun e w' => ∃ r : Sv, e = .returned (.slice r.a r.n r.c) ∧ Keep (fun i => i = rb) w w' ∧ Dr w' rb a n c zs p 12 ∧ Row w' r [] ∧ New w.heap.size r := by
  have hsm := h.small
  refine (rbytes_short rb a n c p k w (by omega) h.p0 h.p1 hk (by omega) h.rdr).mono ?_
  rintro e w' ⟨rfl, ho, hr⟩
  exact ⟨nilS, rfl, ho.keep, h.turn ho.keep hr h.p0 h.p1, sub_nil _ _ _, new_nil _⟩
theorem rbyte_at (h : Dr w rb a n c zs p 0) : Calls Try.prog 28 #[.pointer (some ⟨rb, 0, none⟩)] w fun e w' => Keep (fun i => i = rb) w w' ∧ ((∃ m q, oneO zs p = .ok m q ∧ e = .returned (.int .i64 m) ∧ Dr w' rb a n c zs q 0) ∨ (∃ m, oneO zs p = .bad 12 ∧ e = .returned (.int .i64 m) ∧ Dr w' rb a n c zs p 12)) := by
  have hsm := h.small
  have hp0 := h.p0
  refine (rbyte_any rb a n c zs p 0 w h.len (by omega) h.nc h.p0 h.p1 h.by_ h.off h.rdr).mono ?_
  rintro e w' ⟨rfl, ho, hr⟩
  rw [take_small (by omega)] at hr ⊢
  by_cases hf : (zs.length : Int) - p < 1
  · rw [if_pos hf] at hr ⊢
    exact ⟨ho.keep, .inr ⟨_, by unfold oneO; rw [if_pos hf], rfl, h.turn ho.keep hr h.p0 h.p1⟩⟩
  · rw [if_neg hf] at hr ⊢
    have e0 : (List.take (Int.toNat 1) (zs.drop p.toNat)).getD 0 0 = zs.getD p.toNat 0 := by simp [List.getD_eq_getElem?_getD]
    refine ⟨ho.keep, .inl ⟨_, p + 1, by unfold oneO; rw [if_neg hf], ?_, h.turn ho.keep hr (by omega) (by have := h.len; omega)⟩⟩
    dsimp only
    rw [e0]
end
set_option maxHeartbeats 1000000 in
theorem word_any (x : Sv) (l : List Int) (w : World) (hr : Row w x l) (hl : l.length ≤ 4) (hb : ∀ y ∈ l, 0 ≤ y ∧ y < 256) : Calls Try.prog 31 #[.slice x.a x.n x.c] w fun e w' => e = .returned (.int .i64 (val 0 l)) ∧ w = w' := by
  obtain ⟨xa, xn, xc⟩ := x
  have hn : l.length = xn := Row.len hr
  dsimp only at *
  have HS := hid hr.seg
  have HB := hid hb
  have HN := hid hn
  have hx4 : xn ≤ 4 := by omega
  clear hr hl hb hn
  go_enter Try.func31, Try.ntmps31
  go_wp2
  go_loop [3, 4] (fun m i => ∃ k : Nat, k ≤ xn ∧ i = .int .i64 k ∧ m = .int .i64 (val 0 (l.take k))) (fun _ i => ((xn : Int) - intOf i).toNat)
  case atStart => exact ⟨0, by omega, rfl, rfl⟩
  case round =>
    obtain ⟨k, hk, rfl, rfl⟩ := hrel
    by_cases hlt : k < xn
    · obtain ⟨g, off, rfl, hc⟩ := HS.out (by intro e; have := HN.out; rw [e] at this; simp at this; omega)
      have hcell := hc k (by have := HN.out; omega)
      have hy := getD_bound HB.out k (by have := HN.out; omega)
      have hv := val32 (l := l.take k) (take_bound HB.out k) (by have := List.length_take_le k l; omega)
      have HV := hid (show val 0 (l.take (k + 1)) = val 0 (l.take k) * 256 + l.getD k 0 from by rw [take_snoc l k (by have := HN.out; omega), val_snoc])
      obtain ⟨hy0, hy1⟩ := hy
      obtain ⟨hv0, hv1⟩ := hv
      have hki : (k : Int) < (xn : Int) := by omega
      clear hc
      generalize l.getD k 0 = y at *
      generalize val 0 (l.take k) = v at *
      go_wp2
      go_round
      case rel => exact ⟨k + 1, by omega, by go_num, by rw [HV.out]⟩
      case measure => simp [intOf]; omega
    · obtain rfl : xn = k := by omega
      have hki : ¬ (xn : Int) < (xn : Int) := by omega
      go_wp2
      go_ret
      exact ⟨ret_int (by rw [List.take_of_length_le (by rw [HN.out]; omega)]), rfl⟩
/-- What id tells. -/
def AnsI (w : World) (rb : Nat) (a : Option Addr) (n c : Nat) (zs : List Int) (p : Int) (e : Ending) (w' : World) : Prop :=
  Keep (fun i => i = rb) w w' ∧ ((∃ d q r, idO zs p = .ok d q ∧ e = .returned (.tuple #[.slice r.a r.n r.c, .int .i64 0]) ∧ Row w' r d ∧ New w.heap.size r ∧ Dr w' rb a n c zs q 0) ∨ (∃ x, x ≠ 0 ∧ idO zs p = .bad x ∧ e = .returned (.tuple #[.slice none 0 0, .int .i64 x])))
set_option maxHeartbeats 1000000 in
theorem rid_at (rb : Nat) (a : Option Addr) (n c : Nat) (zs : List Int) (p : Int) (w : World) (h : Dr w rb a n c zs p 0) : Calls Try.prog 32 #[.pointer (some ⟨rb, 0, none⟩)] w fun e w' => AnsI w rb a n c zs p e w' := by
  have HH := hid h
  clear h
  go_enter Try.func32, Try.ntmps32
  go_wp2_with fail
  refine (rbyte_at rb a n c zs p w HH.out).mono ?_
  rintro e w1 ⟨hk, ⟨m, q, ho, rfl, hr⟩ | ⟨m, ho, rfl, hr⟩⟩
  rotate_left
  · have c2 := hr.rdr.c2
    have HX := hid (show AnsI w rb a n c zs p (.returned (.tuple #[.slice none 0 0, .int .i64 12])) w1 from ⟨hk, .inr ⟨12, by omega, by unfold idO; rw [ho]; rfl, rfl⟩⟩)
    clear hk ho hr
    go_wp2
    go_ret2
    exact HX.out
  have c2 := hr.rdr.c2
  have hpl := oneO_pl HH.out.pl_ ho
  have hm0 : 0 ≤ m := hpl.2.2.2.2.1
  have HO := hid (show idO zs p = if 20 < m then .bad 61 else someO zs q m from by unfold idO; rw [ho]; rfl)
  have K1 := hid hk
  have R1 := hid hr
  clear hk hr ho hpl
  by_cases h20 : 20 < m
  · have HX := hid (show AnsI w rb a n c zs p (.returned (.tuple #[.slice none 0 0, .int .i64 61])) w1 from ⟨K1.out, .inr ⟨61, by omega, by rw [HO.out, if_pos h20], rfl⟩⟩)
    go_wp2
    go_ret2
    exact HX.out
  have h20' : decide (20 < m) = false := by simp; omega
  have HO2 := hid (show idO zs p = if (n : Int) - q < m then .bad 12 else .ok ((zs.drop q.toNat).take m.toNat) (q + m) from by rw [HO.out, if_neg h20]; unfold someO; rw [R1.out.len])
  by_cases hsh : (n : Int) - q < m
  · go_wp2_with fail
    refine (rbytes_no rb a n c zs q w1 m hm0 (by omega) R1.out).mono ?_
    rintro e w2 ⟨r, rfl, hk, hr, _, _⟩
    have c2' := hr.rdr.c2
    have HX := hid (show AnsI w rb a n c zs p (.returned (.tuple #[.slice none 0 0, .int .i64 12])) w2 from ⟨K1.out.trans hk, .inr ⟨12, by omega, by rw [HO2.out, if_pos hsh], rfl⟩⟩)
    clear hk hr c2
    go_wp2
    go_ret2
    exact HX.out
  · go_wp2_with fail
    refine (rbytes_ok rb a n c zs q w1 m hm0 (by omega) R1.out).mono ?_
    rintro e w2 ⟨r, rfl, hk, hr, hrow, hnew⟩
    have c2' := hr.rdr.c2
    have HX := hid (show AnsI w rb a n c zs p (.returned (.tuple #[.slice r.a r.n r.c, .int .i64 0])) w2 from ⟨K1.out.trans hk, .inl ⟨_, q + m, r, by rw [HO2.out, if_neg (by omega)], rfl, hrow, hnew.mono K1.out.size, hr⟩⟩)
    clear hk hr hrow hnew c2
    go_wp2
    go_ret2
    exact HX.out
end Go.Proofs.Ytbhhajmfdffdbaa
