/-
  What varint's reader's Bytes and Byte do, each at every state: contracts that a statement's walk uses.
-/
import Derived.Test.YtekpepnonhbkcaaReader
import Derived.BigQuiet
import Derived.Deep.QuietTactic
import Derived.Deep.RegionWith
namespace Go.Proofs.Ytekpepnonhbkcaa
open Go.RowKit
set_option maxRecDepth 20000
set_option linter.unusedVariables false

/-- What is read by Bytes(k): the bytes, the place and the fault behind it. -/
def takeR (zs : List Int) (p f k : Int) : List Int × Int × Int :=
  if f ≠ 0 then ([], p, f) else if k < 0 then ([], p, 10) else if (zs.length : Int) - p < k then ([], p, 12) else ((zs.drop p.toNat).take k.toNat, p + k, 0)

theorem slice_run (a : Option Addr) (n c p k : Nat) (hpk : p + k ≤ c) (u : World) :
    (Instr.slice 24 (.slice a n c) (some (.int .i64 p)) (some (.int .i64 ((p : Int) + k))) none).run Try.prog u = .ok (.slice (if c = p then a else a.map (·.add p)) k (c - p)) u := by
  have h := run_slice_lh (P := Try.prog) u 24 a n c Try.underlying24 .i64 .i64 p ((p : Int) + k) (by omega) (by omega) (by omega)
  rw [h]
  obtain ⟨i0, hi, hz0, hz1, hz2⟩ := info_parts info5
  have e : Try.prog.elem 24 = 5 := by kernel_rfl
  simp [sizeOf, typeInfo, e, hi, hz1, sliced, Result.andThen]
  rw [show ((p : Int) + k).toNat = p + k from by omega]
  simp

theorem addr_plus (b off j : Nat) : (⟨b, off, none⟩ : Addr).add j = ⟨b, off + j, none⟩ := by
  by_cases h0 : j = 0
  · simp [Addr.add, h0]
  · simp [Addr.add, h0]

theorem seg_cut {w : World} {a : Option Addr} {zs : List Int} {c p k : Nat} (h : Seg w a zs) (hc : zs.length ≤ c) (hpk : p + k ≤ zs.length) :
    Seg w (if c = p then a else a.map (·.add p)) ((zs.drop p).take k) := by
  intro hne
  have hk : 0 < k := by
    cases k with
    | zero => simp at hne
    | succ m => omega
  obtain ⟨b, off, rfl, hcell⟩ := h (by intro e; simp [e] at hne)
  rw [if_neg (by omega)]
  refine ⟨b, off + p, by simp [addr_plus], fun i hi => ?_⟩
  have hi' : i < k := by have := List.length_take_le k (zs.drop p); omega
  rw [Nat.add_assoc, hcell (p + i) (by omega)]
  simp [List.getD_eq_getElem?_getD, hi']

theorem segoff_cut {w : World} {rb : Nat} {a : Option Addr} {zs : List Int} {c p k : Nat} (h : SegOff rb w a zs) (hc : zs.length ≤ c) (hpk : p + k ≤ zs.length) :
    SegOff rb w (if c = p then a else a.map (·.add p)) ((zs.drop p).take k) := by
  refine ⟨seg_cut h.1 hc hpk, ?_⟩
  intro hne ad e
  have hz : zs ≠ [] := by intro e; simp [e] at hne
  by_cases hcp : c = p
  · rw [if_pos hcp] at e; exact h.2 hz ad e
  · rw [if_neg hcp] at e
    cases a with
    | none => simp at e
    | some ad0 =>
      simp only [Option.map_some, Option.some.injEq] at e
      subst e
      have : (ad0.add p).block = ad0.block := by unfold Addr.add; split <;> rfl
      rw [this]
      exact h.2 hz ad0 rfl

theorem Own.weak {w : World} {base base' : Nat} {a : Option Addr} {n cap : Nat} {zs : List Int} (h : Own w base a n cap zs) (hb : base' ≤ base) : Own w base' a n cap zs := by
  refine ⟨h.1, ?_⟩
  rcases h.2 with h2 | ⟨g, cap, cur, hv, hg, r⟩
  · exact .inl h2
  · exact .inr ⟨g, cap, cur, hv, Nat.le_trans hb hg, r⟩

theorem Own.only {w w' : World} {rb base g n cap : Nat} {zs : List Int} (h : Own w base (some ⟨g, 0, none⟩) n cap zs) (k : Only rb w w') (hne : g ≠ rb) : Own w' base (some ⟨g, 0, none⟩) n cap zs := by
  have hlt := (World.ownsRow.lt h g rfl).2
  refine ⟨h.1, ?_⟩
  rcases h.2 with h2 | ⟨g', cap', cur, hv, hg, hb, r⟩
  · exact .inl h2
  · refine .inr ⟨g', cap', cur, hv, hg, ?_, r⟩
    simp only [Value.slice.injEq, Option.some.injEq, Addr.mk.injEq, and_true, true_and] at hv
    obtain ⟨rfl, _⟩ := hv
    rw [k.block hlt hne]; exact hb

theorem takeR_len (zs : List Int) (p f k : Int) (hp : 0 ≤ p) (hpn : p ≤ zs.length) : 0 ≤ (takeR zs p f k).2.1 ∧ (takeR zs p f k).2.1 ≤ zs.length := by
  unfold takeR
  repeat' split
  all_goals first | omega | (dsimp only; omega)

theorem takeR_bytes {zs : List Int} {p f k : Int} (hz : ∀ y ∈ zs, 0 ≤ y ∧ y < 256) : ∀ y ∈ (takeR zs p f k).1, 0 ≤ y ∧ y < 256 := by
  intro y hy
  unfold takeR at hy
  repeat' split at hy
  · simp at hy
  · simp at hy
  · simp at hy
  · exact hz y (List.mem_of_mem_drop (List.mem_of_mem_take hy))

set_option maxHeartbeats 1000000 in
theorem take_f (rb : Nat) (a : Option Addr) (n c : Nat) (p f k : Int) (w : World) (hf : f ≠ 0) (hr : Rdr w 107 rb a n c p f) :
    Calls Try.prog 77 #[.pointer (some ⟨rb, 0, none⟩), .int .i64 k] w fun e w' => e = .returned (.slice none 0 0) ∧ w = w' := by
  have c2 := hr.c2
  have hb : (f != 0) = true := by simp [hf]
  clear hr
  go_enter Try.func77, Try.ntmps77
  go_wp2
  go_ret
  exact ⟨rfl, rfl⟩

set_option maxHeartbeats 1000000 in
theorem take_neg (rb : Nat) (a : Option Addr) (n c : Nat) (p k : Int) (w : World) (hk : k < 0) (hr : Rdr w 107 rb a n c p 0) :
    Calls Try.prog 77 #[.pointer (some ⟨rb, 0, none⟩), .int .i64 k] w fun e w' => e = .returned (.slice none 0 0) ∧ Only rb w w' ∧ Rdr w' 107 rb a n c p 10 := by
  have c2 := hr.c2
  have f2 := hr.free 2
  have HR := hid hr
  clear hr
  go_enter Try.func77, Try.ntmps77
  go_wp2
  go_ret
  exact ⟨rfl, (Only.refl _ _).setCell _ _, HR.out.fault_ _⟩

set_option maxHeartbeats 1000000 in
theorem take_short (rb : Nat) (a : Option Addr) (n c : Nat) (p k : Int) (w : World) (hn : n ≤ 140737488355328) (hp : 0 ≤ p) (hpn : p ≤ n) (hk : 0 ≤ k) (hs : (n : Int) - p < k) (hr : Rdr w 107 rb a n c p 0) :
    Calls Try.prog 77 #[.pointer (some ⟨rb, 0, none⟩), .int .i64 k] w fun e w' => e = .returned (.slice none 0 0) ∧ Only rb w w' ∧ Rdr w' 107 rb a n c p 12 := by
  have c0 := hr.c0
  have c1 := hr.c1
  have c2 := hr.c2
  have f2 := hr.free 2
  have HR := hid hr
  have t1 : decide ((n : Int) - p < k) = true := by simp; omega
  clear hr
  go_enter Try.func77, Try.ntmps77
  go_wp2
  go_quiet (fail)
  go_wp2
  go_ret
  exact ⟨rfl, ((Only.refl _ _).drewN _).setCell _ _, (HR.out.drewN _).fault_ _⟩

set_option maxHeartbeats 1000000 in
theorem take_k (rb : Nat) (a a' : Option Addr) (n c p k c' : Nat) (w : World) (hn : n ≤ 140737488355328) (hnc : n ≤ c) (hpk : p + k ≤ n) (hr : Rdr w 107 rb a n c p 0)
    (hsl : ∀ u, (Instr.slice 24 (.slice a n c) (some (.int .i64 p)) (some (.int .i64 ((p : Int) + k))) none).run Try.prog u = .ok (.slice a' k c') u) :
    Calls Try.prog 77 #[.pointer (some ⟨rb, 0, none⟩), .int .i64 k] w fun e w' => e = .returned (.slice a' k c') ∧ Only rb w w' ∧ Rdr w' 107 rb a n c ((p : Int) + k) 0 := by
  have c0 := hr.c0
  have c1 := hr.c1
  have c2 := hr.c2
  have f1 := hr.free 1
  have HR := hid hr
  have t1 : decide ((n : Int) - p < k) = false := by simp; omega
  clear hr
  go_enter Try.func77, Try.ntmps77
  go_wp2
  go_quiet (fail)
  go_wp2
  go_quiet (fail)
  go_wp2
  go_ret
  exact ⟨rfl, ((Only.refl _ _).drewN _).setCell _ _, (HR.out.drewN _).at_ _⟩

theorem take_any (rb : Nat) (a : Option Addr) (n c : Nat) (zs : List Int) (p f k : Int) (w : World) (hl : zs.length = n) (hn : n ≤ 140737488355328) (hnc : n ≤ c) (hp : 0 ≤ p) (hpn : p ≤ n) (hs : SegOff rb w a zs) (hr : Rdr w 107 rb a n c p f) :
    Calls Try.prog 77 #[.pointer (some ⟨rb, 0, none⟩), .int .i64 k] w fun e w' => ∃ a' m c', e = .returned (.slice a' m c') ∧ Only rb w w' ∧ Rdr w' 107 rb a n c (takeR zs p f k).2.1 (takeR zs p f k).2.2 ∧ SegOff rb w' a' (takeR zs p f k).1 ∧ (takeR zs p f k).1.length = m ∧ m ≤ n := by
  unfold takeR
  by_cases hf : f = 0
  · subst hf
    rw [if_neg (by simp)]
    by_cases hk : k < 0
    · rw [if_pos hk]
      refine (take_neg rb a n c p k w hk hr).mono ?_
      rintro e w' ⟨rfl, ho, hr'⟩
      exact ⟨none, 0, 0, rfl, ho, hr', ⟨seg_nil _ _, fun _ ad h => by cases h⟩, rfl, Nat.zero_le _⟩
    · rw [if_neg hk]
      by_cases hsh : (n : Int) - p < k
      · rw [hl, if_pos hsh]
        refine (take_short rb a n c p k w hn hp hpn (by omega) hsh hr).mono ?_
        rintro e w' ⟨rfl, ho, hr'⟩
        exact ⟨none, 0, 0, rfl, ho, hr', ⟨seg_nil _ _, fun _ ad h => by cases h⟩, rfl, Nat.zero_le _⟩
      · rw [hl, if_neg hsh]
        obtain ⟨p, rfl⟩ := Int.eq_ofNat_of_zero_le hp
        obtain ⟨k, rfl⟩ := Int.eq_ofNat_of_zero_le (a := k) (by omega)
        refine (take_k rb a _ n c p k _ w hn hnc (by omega) hr (slice_run a n c p k (by omega))).mono ?_
        rintro e w' ⟨rfl, ho, hr'⟩
        refine ⟨_, k, _, rfl, ho, hr', segoff_cut (hs.only ho) (by omega) (by omega), ?_, by omega⟩
        simp
        omega
  · rw [if_pos hf]
    refine (take_f rb a n c p f k w hf hr).mono ?_
    rintro e w' ⟨rfl, rfl⟩
    exact ⟨none, 0, 0, rfl, Only.refl _ _, hr, ⟨seg_nil _ _, fun _ ad h => by cases h⟩, rfl, Nat.zero_le _⟩

set_option maxHeartbeats 1000000 in
theorem bytes_any (rb : Nat) (a : Option Addr) (n c : Nat) (zs : List Int) (p f k : Int) (w : World) (hl : zs.length = n) (hn : n ≤ 140737488355328) (hnc : n ≤ c) (hp : 0 ≤ p) (hpn : p ≤ n) (hs : SegOff rb w a zs) (hr : Rdr w 107 rb a n c p f) :
    Calls Try.prog 75 #[.pointer (some ⟨rb, 0, none⟩), .int .i64 k] w fun e w' => ∃ g m, e = .returned (.slice (some ⟨g, 0, none⟩) m m) ∧ Only rb w w' ∧ Rdr w' 107 rb a n c (takeR zs p f k).2.1 (takeR zs p f k).2.2 ∧ Own w' w.heap.size (some ⟨g, 0, none⟩) m m (takeR zs p f k).1 ∧ m ≤ n := by
  have HT := hid (take_any rb a n c zs p f k w hl hn hnc hp hpn hs hr)
  clear hl hs hr
  generalize takeR zs p f k = t at *
  obtain ⟨bs, p', f'⟩ := t
  simp only at HT ⊢
  go_enter Try.func75, Try.ntmps75
  go_wp2_with fail
  refine HT.out.mono ?_
  rintro e w1 ⟨a', m, c', rfl, ho, hr', hs', hm, hmn⟩
  have O1 := hid ho
  have R1 := hid hr'
  have S1 := hid hs'
  have M1 := hid hm
  clear ho hr' hs' hm
  go_wp2_with fail
  refine (copy_any a' m c' bs _ M1.out (by omega) S1.out.1).mono ?_
  rintro e w2 ⟨g, rfl, hq2, ho2, _⟩
  have H2 := hid hq2
  have O2 := hid ho2
  clear hq2 ho2
  go_wp2
  go_ret
  exact ⟨g, m, rfl, O1.out.trans (Only.q H2.out), R1.out.q H2.out, O2.out.weak O1.out.size, hmn⟩

set_option maxHeartbeats 1000000 in
theorem byte_any (rb : Nat) (a : Option Addr) (n c : Nat) (zs : List Int) (p f : Int) (w : World) (hl : zs.length = n) (hn : n ≤ 140737488355328) (hnc : n ≤ c) (hp : 0 ≤ p) (hpn : p ≤ n) (hz : ∀ y ∈ zs, 0 ≤ y ∧ y < 256) (hs : SegOff rb w a zs) (hr : Rdr w 107 rb a n c p f) :
    Calls Try.prog 62 #[.pointer (some ⟨rb, 0, none⟩)] w fun e w' => e = .returned (.int .i64 ((takeR zs p f 1).1.getD 0 0)) ∧ Only rb w w' ∧ Rdr w' 107 rb a n c (takeR zs p f 1).2.1 (takeR zs p f 1).2.2 := by
  have HT := hid (take_any rb a n c zs p f 1 w hl hn hnc hp hpn hs hr)
  have HB := hid (takeR_bytes (p := p) (f := f) (k := 1) hz)
  clear hl hs hr hz
  generalize takeR zs p f 1 = t at *
  obtain ⟨bs, p', f'⟩ := t
  simp only at HT HB ⊢
  go_enter Try.func62, Try.ntmps62
  go_wp2_with fail
  refine HT.out.mono ?_
  rintro e w1 ⟨a', m, c', rfl, ho, hr', hs', hm, hmn⟩
  have O1 := hid ho
  have R1 := hid hr'
  cases bs with
  | nil =>
    simp at hm
    subst hm
    clear ho hr' hs'
    go_wp2
    go_ret
    exact ⟨rfl, O1.out, R1.out⟩
  | cons y r =>
    obtain ⟨b, off, rfl, hc⟩ := hs'.1 (by simp)
    have hc0 : w1.cell? ⟨b, off, none⟩ = some (.int .u8 y) := by have := hc 0 (by simp); simpa using this
    have hm0 : 0 < m := by simp at hm; omega
    have hm1 : (0 : Int) < (m : Int) := by omega
    have e0 : ((m : Int) == 0) = false := by simp; omega
    have hy := HB.out y (by simp)
    obtain ⟨hy0, hy1⟩ := hy
    clear ho hr' hs' hc hm
    go_wp2
    go_ret
    exact ⟨rfl, O1.out, R1.out⟩

end Go.Proofs.Ytekpepnonhbkcaa
