/-
  A row of bools beside a queue, in memory: for the walks of the laws SendqArrives and SendqLimits.
-/
import Derived.Test.YtppemfdoogmeeaaLose
import Derived.Test.YtppemfdoogmeeaaRefW
import Derived.Test.YtppemfdoogmeeaaOpen
namespace Go.Proofs.Ytppemfdoogmeeaa
open Go.RowKit
set_option linter.unusedVariables false

abbrev bools (gs : List Bool) : List Value := gs.map .bool
abbrev RowB (w : World) (d : Sv) (gs : List Bool) : Prop := Sub w 4 1 d.a d.n d.c (bools gs)
theorem RowB.len {w : World} {d : Sv} {gs : List Bool} (h : RowB w d gs) : gs.length = d.n := by simpa using h.1
theorem rowb_cells {w : World} {d : Sv} {gs : List Bool} (h : RowB w d gs) (hn : 0 < d.n) : ∃ g o, d.a = some ⟨g, o, none⟩ ∧ (∀ j, w.frozen? ⟨g, j, none⟩ = false) ∧ ∀ i, i < d.n → w.cell? ⟨g, o + i, none⟩ = some (.bool (gs.getD i false)) := by
  have hl := h.len
  obtain ⟨g, o, ha, hf, hc⟩ := h.some_ hn
  refine ⟨g, o, ha, hf, fun i hi => hc i _ ?_⟩
  rw [List.getElem?_map, List.getD_eq_getElem?_getD, List.getElem?_eq_getElem (by omega)]; rfl
theorem RowB.set {w : World} {d : Sv} {gs : List Bool} (h : RowB w d gs) {g o k : Nat} (ha : d.a = some ⟨g, o, none⟩) (hk : k < d.n) (v : Bool) : RowB (w.setCell ⟨g, o + k, none⟩ (.bool v)) d (gs.set k v) := by
  have := Sub.set h ha (j := k) (by omega) (.bool v)
  show Sub _ 4 1 _ _ _ (bools (gs.set k v))
  rw [show bools (gs.set k v) = (bools gs).set k (.bool v) from List.map_set]
  exact this
theorem rowb_one {w : World} {d : Sv} {gs : List Bool} (v : Bool) (h : RowB w d gs) (hn : d.n ≤ 1099511627776) :
    ∃ d' w', (Builtin.append_ #[42, 42] 42 #[.slice d.a d.n d.c, .slice (some ⟨w.heap.size, 0, none⟩) 1 1]).run Try.prog (w.alloc (.cells #[.bool v] 4)) = .ok (.slice d'.a d'.n d'.c) w' ∧ RowB w' d' (gs ++ [v]) ∧ Keep (fun b => blk d.a = some b) w w' ∧ (∀ b, blk d'.a = some b → blk d.a = some b ∨ w.heap.size ≤ b) := by
  obtain ⟨i0, hi, hz0, hz1, hz2⟩ := info_parts info4
  obtain ⟨a', c', w', h1, h2, h3, h4⟩ := app_one (v := .bool v) Try.underlying42 hi hz0 hz1 hz2 (by omega) rfl rfl h hn
  exact ⟨⟨a', d.n + 1, c'⟩, w', h1, by show Sub _ _ _ _ _ _ (bools _); rw [show bools (gs ++ [v]) = bools gs ++ [.bool v] from List.map_append]; exact h2, h3, h4⟩
theorem getD_set {gs : List Bool} {k i : Nat} {v : Bool} (hk : k < gs.length) : (gs.set k v).getD i false = if i = k then v else gs.getD i false := by
  simp only [List.getD_eq_getElem?_getD, List.getElem?_set]
  by_cases h : i = k
  · subst h; simp [hk]
  · rw [if_neg (fun e => h e.symm), if_neg h]

/-- A queue and a row of bools, apart from one another and from all that was there. -/
structure Inv3 (W w : World) (rb : Nat) (d m gv : Sv) (room : Int) (s : S) (gs : List Bool) : Prop where
  bf : Bf w rb d m room s
  ok : Ok room s
  rg : RowB w gv gs
  ng : ∀ b, blk gv.a = some b → ¬ Fp rb d m b
  w1 : ∀ i, Fp rb d m i → W.heap.size ≤ i
  w2 : ∀ b, blk gv.a = some b → W.heap.size ≤ b
  q : Q W w
section
variable {W w w' : World} {rb : Nat} {d m d' m' gv gv' : Sv} {room : Int} {s s' : S} {gs gs' : List Bool}
theorem Inv3.go (h : Inv3 W w rb d m gv room s gs) (k : Q w w') : Inv3 W w' rb d m gv room s gs := ⟨h.bf.q k, h.ok, h.rg.q k, h.ng, h.w1, h.w2, h.q.trans k⟩
/-- The queue has gone on. -/
theorem Inv3.step (h : Inv3 W w rb d m gv room s gs) (b : Bf w' rb d' m' room s') (o : Ok room s') (k : Keep (Fp rb d m) w w') (f : ∀ i, Fp rb d' m' i → Fp rb d m i ∨ w.heap.size ≤ i) : Inv3 W w' rb d' m' gv room s' gs := by
  refine ⟨b, o, h.rg.keep k h.ng, fun x hx hF => ?_, fun i hi => ?_, h.w2, ?_⟩
  · rcases f x hF with hh | hh
    · exact h.ng x hx hh
    · have := h.rg.lt x hx; omega
  · rcases f i hi with hh | hh
    · exact h.w1 i hh
    · have := h.q.size; omega
  · exact ((Keep.ofQ (F := fun i => W.heap.size ≤ i) h.q).trans (k.mono (fun i _ e => h.w1 i e))).toQ (fun i hi e => by omega)
/-- The bools have. -/
theorem Inv3.bool (h : Inv3 W w rb d m gv room s gs) (r : RowB w' gv' gs') (k : Keep (fun b => blk gv.a = some b) w w') (f : ∀ b, blk gv'.a = some b → blk gv.a = some b ∨ w.heap.size ≤ b) : Inv3 W w' rb d m gv' room s gs' := by
  refine ⟨h.bf.keep k (fun i hi e => h.ng i e hi), h.ok, r, fun x hx hF => ?_, h.w1, fun b hb => ?_, ?_⟩
  · rcases f x hx with hh | hh
    · exact h.ng x hh hF
    · have := h.bf.lt x hF; omega
  · rcases f b hb with hh | hh
    · exact h.w2 b hh
    · have := h.q.size; omega
  · exact ((Keep.ofQ (F := fun i => W.heap.size ≤ i) h.q).trans (k.mono (fun i _ e => h.w2 i e))).toQ (fun i hi e => by omega)
theorem Inv3.set (h : Inv3 W w rb d m gv room s gs) {g o k : Nat} (ha : gv.a = some ⟨g, o, none⟩) (hk : k < gv.n) (v : Bool) : Inv3 W (w.setCell ⟨g, o + k, none⟩ (.bool v)) rb d m gv room s (gs.set k v) :=
  h.bool (h.rg.set ha hk v) ((Keep.refl (fun b => blk gv.a = some b) w).setCell g _ _ (.inl (by rw [ha]; rfl))) (fun b hb => .inl hb)
end

/-- A part of a slice of bytes. -/
theorem seg_part {w : World} {a : Option Addr} {zs : List Int} (h : Seg w a zs) (P K : Nat) : Seg w (Option.map (fun x => x.add P) a) ((zs.drop P).take K) := by
  intro hne
  obtain ⟨b, off, rfl, hc⟩ := h (by intro e; rw [e] at hne; simp at hne)
  have h1 := seg_take (seg_drop (b := b) (off := off) (zs := zs) (fun hh => ⟨b, off, rfl, hc⟩) P) K
  rw [show Option.map (fun x => x.add P) (some (⟨b, off, none⟩ : Addr)) = some ⟨b, off + P, none⟩ from by simp only [Option.map_some, addr_add]]
  exact h1 hne
end Go.Proofs.Ytppemfdoogmeeaa
