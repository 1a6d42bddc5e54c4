/-
  What varint's reader's Bytes and Byte do, each at every state: contracts that a statement's walk uses.
-/
import Derived.Test.YtdlefmlienfjhaaReader
import Derived.BigQuiet
import Derived.Deep.QuietTactic
import Derived.Deep.RegionWith
namespace Go.Proofs.Ytdlefmlienfjhaa
open Go.RowKit
set_option maxRecDepth 20000
set_option linter.unusedVariables false

/-- What is read by Bytes(k): the bytes, the place and the fault behind it. -/
def takeR (zs : List Int) (p f k : Int) : List Int × Int × Int :=
  if f ≠ 0 then ([], p, f) else if k < 0 then ([], p, 10) else if (zs.length : Int) - p < k then ([], p, 12) else ((zs.drop p.toNat).take k.toNat, p + k, 0)

theorem slice_run (a : Option Addr) (n c p k : Nat) (hpk : p + k ≤ c) (u : World) :
    (Instr.slice 30 (.slice a n c) (some (.int .i64 p)) (some (.int .i64 ((p : Int) + k))) none).run Try.prog u = .ok (.slice (if c = p then a else a.map (·.add p)) k (c - p)) u := by
  have h := run_slice_lh (P := Try.prog) u 30 a n c Try.underlying30 .i64 .i64 p ((p : Int) + k) (by omega) (by omega) (by omega)
  rw [h]
  obtain ⟨i0, hi, hz0, hz1, hz2⟩ := info_parts info5
  have e : Try.prog.elem 30 = 5 := by kernel_rfl
  simp [sizeOf, typeInfo, e, hi, hz1, sliced, Result.andThen]
  rw [show ((p : Int) + k).toNat = p + k from by omega]
  simp

theorem addr_plus (b off j : Nat) : (⟨b, off, none⟩ : Addr).add j = ⟨b, off + j, none⟩ := by
  by_cases h0 : j = 0
  · simp [Addr.add, h0]
  · simp [Addr.add, h0]

theorem seg_cut {w : World} {a : Option Addr} {zs : List Int} {c p k : Nat} (h : Seg w a zs) (hc : zs.length ≤ c) (hpk : p + k ≤ zs.length) :
    Seg w (if c = p then a else a.map (·.add p)) ((zs.drop p).take k) := by
  intro hne
  have hk : 0 < k := by
    cases k with
    | zero => simp at hne
    | succ m => omega
  obtain ⟨b, off, rfl, hcell⟩ := h (by intro e; simp [e] at hne)
  rw [if_neg (by omega)]
  refine ⟨b, off + p, by simp [addr_plus], fun i hi => ?_⟩
  have hi' : i < k := by have := List.length_take_le k (zs.drop p); omega
  rw [Nat.add_assoc, hcell (p + i) (by omega)]
  simp [List.getD_eq_getElem?_getD, hi']

theorem segoff_cut {w : World} {rb : Nat} {a : Option Addr} {zs : List Int} {c p k : Nat} (h : SegOff rb w a zs) (hc : zs.length ≤ c) (hpk : p + k ≤ zs.length) :
    SegOff rb w (if c = p then a else a.map (·.add p)) ((zs.drop p).take k) := by
  refine ⟨seg_cut h.1 hc hpk, ?_⟩
  intro hne ad e
  have hz : zs ≠ [] := by intro e; simp [e] at hne
  by_cases hcp : c = p
  · rw [if_pos hcp] at e; exact h.2 hz ad e
  · rw [if_neg hcp] at e
    cases a with
    | none => simp at e
    | some ad0 =>
      simp only [Option.map_some, Option.some.injEq] at e
      subst e
      have : (ad0.add p).block = ad0.block := by unfold Addr.add; split <;> rfl
      rw [this]
      exact h.2 hz ad0 rfl

theorem Own.weak {w : World} {base base' : Nat} {a : Option Addr} {n cap : Nat} {zs : List Int} (h : Own w base a n cap zs) (hb : base' ≤ base) : Own w base' a n cap zs := by
  refine ⟨h.1, ?_⟩
  rcases h.2 with h2 | ⟨g, cap, cur, hv, hg, r⟩
  · exact .inl h2
  · exact .inr ⟨g, cap, cur, hv, Nat.le_trans hb hg, r⟩

theorem Own.only {w w' : World} {rb base g n cap : Nat} {zs : List Int} (h : Own w base (some ⟨g, 0, none⟩) n cap zs) (k : Only rb w w') (hne : g ≠ rb) : Own w' base (some ⟨g, 0, none⟩) n cap zs := by
  have hlt := (World.ownsRow.lt h g rfl).2
  refine ⟨h.1, ?_⟩
  rcases h.2 with h2 | ⟨g', cap', cur, hv, hg, hb, r⟩
  · exact .inl h2
  · refine .inr ⟨g', cap', cur, hv, hg, ?_, r⟩
    simp only [Value.slice.injEq, Option.some.injEq, Addr.mk.injEq, and_true, true_and] at hv
    obtain ⟨rfl, _⟩ := hv
    rw [k.block hlt hne]; exact hb

theorem takeR_len (zs : List Int) (p f k : Int) (hp : 0 ≤ p) (hpn : p ≤ zs.length) : 0 ≤ (takeR zs p f k).2.1 ∧ (takeR zs p f k).2.1 ≤ zs.length := by
  unfold takeR
  repeat' split
  all_goals first | omega | (dsimp only; omega)

theorem takeR_bytes {zs : List Int} {p f k : Int} (hz : ∀ y ∈ zs, 0 ≤ y ∧ y < 256) : ∀ y ∈ (takeR zs p f k).1, 0 ≤ y ∧ y < 256 := by
  intro y hy
  unfold takeR at hy
  repeat' split at hy
  · simp at hy
  · simp at hy
  · simp at hy
  · exact hz y (List.mem_of_mem_drop (List.mem_of_mem_take hy))
end Go.Proofs.Ytdlefmlienfjhaa
