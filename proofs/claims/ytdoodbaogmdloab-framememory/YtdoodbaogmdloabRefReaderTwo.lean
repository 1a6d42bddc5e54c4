/-
  What the document's own reader's Bytes and Byte do, each at every state: contracts that a statement's walk uses.
-/
import Derived.Test.YtdoodbaogmdloabReaderTwo
import Derived.Test.YtdoodbaogmdloabRefReader
import Derived.Deep.RegionHeld3
import Derived.BigQuiet
import Derived.Deep.QuietTactic
import Derived.Deep.RegionWith
namespace Go.Proofs.Ytdoodbaogmdloab
open Go.RowKit
set_option maxRecDepth 20000
set_option linter.unusedVariables false

set_option maxHeartbeats 1000000 in
theorem rbytes_f (rb : Nat) (a : Option Addr) (n c : Nat) (p f k : Int) (w : World) (hf : f ≠ 0) (hr : Rdr w 43 rb a n c p f) :
    Calls Try.prog 38 #[.pointer (some ⟨rb, 0, none⟩), .int .i64 k] w fun e w' => e = .returned (.slice none 0 0) ∧ w = w' := by
  have c2 := hr.c2
  have hb : (f != 0) = true := by simp [hf]
  clear hr
  go_enter Try.func38, Try.ntmps38
  go_wp2
  go_ret
  exact ⟨rfl, rfl⟩

set_option maxHeartbeats 1000000 in
theorem rbytes_neg (rb : Nat) (a : Option Addr) (n c : Nat) (p k : Int) (w : World) (hk : k < 0) (hr : Rdr w 43 rb a n c p 0) :
    Calls Try.prog 38 #[.pointer (some ⟨rb, 0, none⟩), .int .i64 k] w fun e w' => e = .returned (.slice none 0 0) ∧ Only rb w w' ∧ Rdr w' 43 rb a n c p 10 := by
  have c2 := hr.c2
  have f2 := hr.free 2
  have HR := hid hr
  clear hr
  go_enter Try.func38, Try.ntmps38
  go_wp2
  go_ret
  exact ⟨rfl, (Only.refl _ _).setCell _ _, HR.out.fault_ _⟩

set_option maxHeartbeats 1000000 in
theorem rbytes_short (rb : Nat) (a : Option Addr) (n c : Nat) (p k : Int) (w : World) (hn : n ≤ 140737488355328) (hp : 0 ≤ p) (hpn : p ≤ n) (hk : 0 ≤ k) (hs : (n : Int) - p < k) (hr : Rdr w 43 rb a n c p 0) :
    Calls Try.prog 38 #[.pointer (some ⟨rb, 0, none⟩), .int .i64 k] w fun e w' => e = .returned (.slice none 0 0) ∧ Only rb w w' ∧ Rdr w' 43 rb a n c p 12 := by
  have c0 := hr.c0
  have c1 := hr.c1
  have c2 := hr.c2
  have f2 := hr.free 2
  have HR := hid hr
  have t1 : decide ((n : Int) - p < k) = true := by simp; omega
  clear hr
  go_enter Try.func38, Try.ntmps38
  go_wp2
  go_quiet (fail)
  go_wp2
  go_ret
  exact ⟨rfl, ((Only.refl _ _).drewN _).setCell _ _, (HR.out.drewN _).fault_ _⟩

set_option maxHeartbeats 1000000 in
theorem rbytes_k (rb : Nat) (a a' : Option Addr) (n c p k c' : Nat) (bs : List Int) (w : World) (hn : n ≤ 140737488355328) (hnc : n ≤ c) (hpk : p + k ≤ n) (hr : Rdr w 43 rb a n c p 0)
    (hsl : ∀ u, (Instr.slice 22 (.slice a n c) (some (.int .i64 p)) (some (.int .i64 ((p : Int) + k))) none).run Try.prog u = .ok (.slice a' k c') u) (hbl : bs.length = k) (hseg : Seg w a' bs) :
    Calls Try.prog 38 #[.pointer (some ⟨rb, 0, none⟩), .int .i64 k] w fun e w' => ∃ g, e = .returned (.slice (some ⟨g, 0, none⟩) k k) ∧ Only rb w w' ∧ Rdr w' 43 rb a n c ((p : Int) + k) 0 ∧ Own w' w.heap.size (some ⟨g, 0, none⟩) k k bs ∧ g ≠ rb := by
  have c0 := hr.c0
  have c1 := hr.c1
  have c2 := hr.c2
  have f1 := hr.free 1
  have hlt := hr.lt
  have HR := hid hr
  have t1 : decide ((n : Int) - p < k) = false := by simp; omega
  have hwr : IntKind.i64.wrap ((p : Int) + k) = (p : Int) + k := by rw [wrap_i64]; omega
  have HC := hid (fun u (hq : Q w u) => rcopy_any a' k c' bs u hbl (by omega) (hseg.q hq))
  clear hr hseg hbl
  go_enter Try.func38, Try.ntmps38
  go_wp2
  go_quiet (fail)
  go_wp2
  have d0 : (w.drewN nq).cell? ⟨rb, 0, none⟩ = some (.slice a n c) := c0
  have d1 : (w.drewN nq).cell? ⟨rb, 1, none⟩ = some (.int .i64 p) := c1
  go_region_held3 (fun w' => w'.cell? ⟨rb, 0, none⟩ = some (.slice a n c) ∧ w'.cell? ⟨rb, 1, none⟩ = some (.int .i64 p)) (simp [go_sem, *])
    ((go_at_call 4; refine (HC.out _ (by repeat (first | exact Q.refl _ | apply Q.drewN | apply Q.drew))).mono ?_; rintro e w' ⟨g, rfl, hq, ho, hg⟩; have k0 : w'.cell? ⟨rb, 0, none⟩ = some (.slice a n c) := (hq.cell (p := ⟨rb, 0, none⟩) hlt).trans c0; have k1 : w'.cell? ⟨rb, 1, none⟩ = some (.int .i64 p) := (hq.cell (p := ⟨rb, 1, none⟩) hlt).trans c1))
  have Q1 : Q w w' := Q.trans ((Q.refl w).drewN (nq + 1)) hq
  have r1 := HR.out.q Q1
  have f1' := r1.free 1
  have hg' : w.heap.size ≤ g := hg
  have hne : g ≠ rb := by omega
  have O1 := hid (show Own w' w.heap.size (some ⟨g, 0, none⟩) k k bs from ho)
  have R1 := hid r1
  have H1 := hid Q1
  clear hq ho r1 Q1 d0 d1 hg
  go_wp2
  go_ret
  exact ⟨g, rfl, (Only.q H1.out).setCell _ _, R1.out.at_ _, O1.out.only ((Only.refl _ _).setCell _ _) hne, hne⟩

theorem rbytes_any (rb : Nat) (a : Option Addr) (n c : Nat) (zs : List Int) (p f k : Int) (w : World) (hl : zs.length = n) (hn : n ≤ 140737488355328) (hnc : n ≤ c) (hp : 0 ≤ p) (hpn : p ≤ n) (hs : SegOff rb w a zs) (hr : Rdr w 43 rb a n c p f) :
    Calls Try.prog 38 #[.pointer (some ⟨rb, 0, none⟩), .int .i64 k] w fun e w' => ∃ a' m c', e = .returned (.slice a' m c') ∧ Only rb w w' ∧ Rdr w' 43 rb a n c (takeR zs p f k).2.1 (takeR zs p f k).2.2 ∧ Seg w' a' (takeR zs p f k).1 ∧ (takeR zs p f k).1.length = m ∧ m ≤ n := by
  unfold takeR
  by_cases hf : f = 0
  · subst hf
    rw [if_neg (by simp)]
    by_cases hk : k < 0
    · rw [if_pos hk]
      refine (rbytes_neg rb a n c p k w hk hr).mono ?_
      rintro e w' ⟨rfl, ho, hr'⟩
      exact ⟨none, 0, 0, rfl, ho, hr', seg_nil _ _, rfl, Nat.zero_le _⟩
    · rw [if_neg hk]
      by_cases hsh : (n : Int) - p < k
      · rw [hl, if_pos hsh]
        refine (rbytes_short rb a n c p k w hn hp hpn (by omega) hsh hr).mono ?_
        rintro e w' ⟨rfl, ho, hr'⟩
        exact ⟨none, 0, 0, rfl, ho, hr', seg_nil _ _, rfl, Nat.zero_le _⟩
      · rw [hl, if_neg hsh]
        obtain ⟨p, rfl⟩ := Int.eq_ofNat_of_zero_le hp
        obtain ⟨k, rfl⟩ := Int.eq_ofNat_of_zero_le (a := k) (by omega)
        have hbl : ((zs.drop p).take k).length = k := by simp; omega
        refine (rbytes_k rb a _ n c p k _ _ w hn hnc (by omega) hr (slice_run a n c p k (by omega)) hbl (seg_cut hs.1 (by omega) (by omega))).mono ?_
        rintro e w' ⟨g, rfl, ho, hr', ho', _⟩
        exact ⟨_, k, _, rfl, ho, hr', ho'.seg, hbl, by omega⟩
  · rw [if_pos hf]
    refine (rbytes_f rb a n c p f k w hf hr).mono ?_
    rintro e w' ⟨rfl, rfl⟩
    exact ⟨none, 0, 0, rfl, Only.refl _ _, hr, seg_nil _ _, rfl, Nat.zero_le _⟩

set_option maxHeartbeats 1000000 in
theorem rbyte_any (rb : Nat) (a : Option Addr) (n c : Nat) (zs : List Int) (p f : Int) (w : World) (hl : zs.length = n) (hn : n ≤ 140737488355328) (hnc : n ≤ c) (hp : 0 ≤ p) (hpn : p ≤ n) (hz : ∀ y ∈ zs, 0 ≤ y ∧ y < 256) (hs : SegOff rb w a zs) (hr : Rdr w 43 rb a n c p f) :
    Calls Try.prog 39 #[.pointer (some ⟨rb, 0, none⟩)] w fun e w' => e = .returned (.int .i64 ((takeR zs p f 1).1.getD 0 0)) ∧ Only rb w w' ∧ Rdr w' 43 rb a n c (takeR zs p f 1).2.1 (takeR zs p f 1).2.2 := by
  have HT := hid (rbytes_any rb a n c zs p f 1 w hl hn hnc hp hpn hs hr)
  have HB := hid (takeR_bytes (p := p) (f := f) (k := 1) hz)
  clear hl hs hr hz
  generalize takeR zs p f 1 = t at *
  obtain ⟨bs, p', f'⟩ := t
  simp only at HT HB ⊢
  go_enter Try.func39, Try.ntmps39
  go_wp2_with fail
  refine HT.out.mono ?_
  rintro e w1 ⟨a', m, c', rfl, ho, hr', hs', hm, hmn⟩
  have O1 := hid ho
  have R1 := hid hr'
  cases bs with
  | nil =>
    simp at hm
    subst hm
    clear ho hr' hs'
    go_wp2
    go_ret
    exact ⟨rfl, O1.out, R1.out⟩
  | cons y r =>
    obtain ⟨b, off, rfl, hc⟩ := hs' (by simp)
    have hc0 : w1.cell? ⟨b, off, none⟩ = some (.int .u8 y) := by have := hc 0 (by simp); simpa using this
    have hm0 : 0 < m := by simp at hm; omega
    have hm1 : (0 : Int) < (m : Int) := by omega
    have e0 : ((m : Int) == 0) = false := by simp; omega
    have hy := HB.out y (by simp)
    obtain ⟨hy0, hy1⟩ := hy
    clear ho hr' hs' hc hm
    go_wp2
    go_ret
    exact ⟨rfl, O1.out, R1.out⟩

end Go.Proofs.Ytdoodbaogmdloab
