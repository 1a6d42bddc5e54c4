/-
  What a side has said, and what it has to say, in memory: rows of its own, apart from one another. Nothing is proved of a statement here.
-/
import Derived.Test.YtekpepnonhbkcaaSyR
namespace Go.Proofs.Ytekpepnonhbkcaa
open Go.RowKit
set_option linter.unusedVariables false
set_option maxRecDepth 20000

/-- A flight: its level, its data's slice, what that holds. -/
structure Fl where
  lv : Int
  d : Sv
  z : List Int
def flc (F : Fl) : List Value := [.int .i64 F.lv, .slice F.d.a F.d.n F.d.c]
def flv (Fs : List Fl) : List Value := Fs.flatMap flc
theorem flv_app (A B : List Fl) : flv (A ++ B) = flv A ++ flv B := by simp [flv]
theorem flv_one (F : Fl) : flv [F] = flc F := by simp [flv]
theorem flv_len (A : List Fl) : (flv A).length = A.length * 2 := by
  induction A with
  | nil => rfl
  | cons a l ih => rw [show flv (a :: l) = flc a ++ flv l from rfl, List.length_append, ih, List.length_cons]; show 2 + l.length * 2 = _; omega
abbrev RowF (w : World) (o : Sv) (Fs : List Fl) : Prop := Sub w 53 2 o.a o.n o.c (flv Fs)
theorem RowF.len {w : World} {o : Sv} {Fs : List Fl} (h : RowF w o Fs) : Fs.length = o.n := by
  have := Sub.len h
  rw [flv_len] at this
  omega
theorem ShAt.keep {F : Nat → Prop} {w w' : World} {sb : Nat} {S : Sh} (h : ShAt w sb S) (k : Keep F w w') (hn : ¬ F sb) : ShAt w' sb S := ⟨(k.block sb h.lt hn).trans h.row, h.own, h.root⟩
/-- The side's own rows, apart from one another; B: what was made since. -/
structure Sd (w : World) (B sb : Nat) (S : Sh) (sd : List Int) (Fs : List Fl) : Prop where
  at_ : ShAt w sb S
  hB : B ≤ sb
  sr : Row w S.said sd
  fr : RowF w S.out Fs
  dr : ∀ F ∈ Fs, Row w F.d F.z
  bs : ∀ b, blk S.said.a = some b → B ≤ b ∧ b ≠ sb
  bo : ∀ b, blk S.out.a = some b → B ≤ b ∧ b ≠ sb ∧ blk S.said.a ≠ some b
  bd : ∀ F ∈ Fs, ∀ b, blk F.d.a = some b → B ≤ b ∧ b ≠ sb ∧ blk S.said.a ≠ some b ∧ blk S.out.a ≠ some b
  pd : Fs.Pairwise fun F G => ∀ b, blk F.d.a = some b → blk G.d.a ≠ some b
def Mine (sb : Nat) (S : Sh) (Fs : List Fl) (b : Nat) : Prop := b = sb ∨ blk S.said.a = some b ∨ blk S.out.a = some b ∨ ∃ F ∈ Fs, blk F.d.a = some b
theorem Sd.mine {w : World} {B sb : Nat} {S : Sh} {sd : List Int} {Fs : List Fl} (h : Sd w B sb S sd Fs) {b : Nat} (m : Mine sb S Fs b) : B ≤ b ∧ b < w.heap.size := by
  rcases m with rfl | m | m | ⟨F, hF, m⟩
  · exact ⟨h.hB, h.at_.lt⟩
  · exact ⟨(h.bs b m).1, Sub.lt h.sr b m⟩
  · exact ⟨(h.bo b m).1, Sub.lt h.fr b m⟩
  · exact ⟨(h.bd F hF b m).1, Sub.lt (h.dr F hF) b m⟩
/-- .. under what leaves these blocks. -/
theorem Sd.keep {F : Nat → Prop} {w w' : World} {B sb : Nat} {S : Sh} {sd : List Int} {Fs : List Fl} (h : Sd w B sb S sd Fs) (k : Keep F w w') (hF : ∀ b, Mine sb S Fs b → ¬ F b) : Sd w' B sb S sd Fs :=
  ⟨h.at_.keep k (hF _ (.inl rfl)), h.hB, Sub.keep h.sr k (fun b e => hF _ (.inr (.inl e))), Sub.keep h.fr k (fun b e => hF _ (.inr (.inr (.inl e)))), fun G hG => Sub.keep (h.dr G hG) k (fun b e => hF _ (.inr (.inr (.inr ⟨G, hG, e⟩)))), h.bs, h.bo, h.bd, h.pd⟩
theorem Sd.q {w w' : World} {B sb : Nat} {S : Sh} {sd : List Int} {Fs : List Fl} (h : Sd w B sb S sd Fs) (k : Q w w') : Sd w' B sb S sd Fs := h.keep (Keep.ofQ (F := fun _ => False) k) (fun _ _ => id)
/-- What was said grows. -/
theorem Sd.up {w : World} {B sb : Nat} {S : Sh} {sd ms : List Int} {Fs : List Fl} {m : Sv} (h : Sd w B sb S sd Fs) (hm : Seg w m.a ms) (hl : ms.length = m.n) (hn : S.said.n + m.n ≤ 1000000) :
    ∃ x w1, (Builtin.append_ #[24, 24] 24 #[.slice S.said.a S.said.n S.said.c, .slice m.a m.n m.c]).run Try.prog w = .ok (.slice x.a x.n x.c) w1 ∧ ShAt w1 sb S ∧ Sd (w1.setCell ⟨sb, 39, none⟩ (.slice x.a x.n x.c)) B sb { S with said := x } (sd ++ ms) Fs ∧
      Keep (Mine sb S Fs) w (w1.setCell ⟨sb, 39, none⟩ (.slice x.a x.n x.c)) ∧ ∀ b, Mine sb { S with said := x } Fs b → Mine sb S Fs b ∨ w.heap.size ≤ b := by
  obtain ⟨x, w1, hr, hrow, hk, hb⟩ := row_append (ty := 24) h.sr (src_seg (c := m.c) hm hl) hn
  have hlt := h.at_.lt
  have hB := h.hB
  have a1 : ShAt w1 sb S := h.at_.keep hk (fun e => (h.bs sb e).2 rfl)
  have k2 : Keep (fun b => b = sb) w1 (w1.setCell ⟨sb, 39, none⟩ (.slice x.a x.n x.c)) := (Keep.refl _ _).setCell _ _ _ (.inl rfl)
  have hxb : ∀ b, blk x.a = some b → blk S.said.a = some b ∨ b = w.heap.size := by
    intro b e
    rcases hb with h1 | h1
    · exact .inl (by rw [← h1]; exact e)
    · rw [h1] at e
      simp only [Option.some.injEq] at e
      exact .inr e.symm
  have hxs : ∀ b, blk x.a = some b → B ≤ b ∧ b ≠ sb := by
    intro b e
    rcases hxb b e with e1 | e1
    · exact h.bs b e1
    · omega
  have hxo : ∀ b, b < w.heap.size → blk S.said.a ≠ some b → blk x.a ≠ some b := by
    intro b h1 h2 e
    rcases hxb b e with e1 | e1
    · exact h2 e1
    · omega
  refine ⟨x, w1, hr, a1, ⟨a1.setSaid x, h.hB, Sub.keep hrow k2 (fun b e e2 => (hxs b e).2 e2), Sub.keep (Sub.keep h.fr hk (fun b e => (h.bo b e).2.2)) k2 (fun b e => (h.bo b e).2.1), fun F hF => Sub.keep (Sub.keep (h.dr F hF) hk (fun b e => (h.bd F hF b e).2.2.1)) k2 (fun b e => (h.bd F hF b e).2.1), hxs, fun b e => ⟨(h.bo b e).1, (h.bo b e).2.1, hxo b (Sub.lt h.fr b e) (h.bo b e).2.2⟩, fun F hF b e => ⟨(h.bd F hF b e).1, (h.bd F hF b e).2.1, hxo b (Sub.lt (h.dr F hF) b e) (h.bd F hF b e).2.2.1, (h.bd F hF b e).2.2.2⟩, h.pd⟩, ?_, ?_⟩
  · exact (hk.mono (G := Mine sb S Fs) (fun i _ e => .inr (.inl e))).trans' k2 (fun i _ e => .inl e)
  · rintro b (e | e | e | e)
    · exact .inl (.inl e)
    · rcases hxb b e with e1 | e1
      · exact .inl (.inr (.inl e1))
      · exact .inr (by omega)
    · exact .inl (.inr (.inr (.inl e)))
    · exact .inl (.inr (.inr (.inr e)))
theorem info53 : (Try.prog.info? 53).map (fun i => (i.zero, i.size, i.bytes)) = some (some (.agg #[.int .i64 0, .slice none 0 0]), 2, 32) := by kernel_rfl
/-- append of one struct out of a new block of its own. -/
theorem app_st {w : World} {t e : TypeId} {z : Value} {cs : Array Value} {a : Option Addr} {n cap by_ size : Nat} {vs : List Value} {i0 : TypeInfo} (ht : Try.prog.underlying t = some (.slice e)) (hi : Try.prog.info? e = some i0) (hz0 : i0.zero = some z) (hz1 : i0.size = size) (hz2 : i0.bytes = by_) (hby : by_ ≤ 32) (hzs : z.cells.size = size) (hc : cs.size = size) (hv : ∀ v ∈ cs.toList, v.oneCell' = true)
    (hs : Sub w e size a n cap vs) (hn : n ≤ 4398046511104) :
    ∃ a' cap' w', (Builtin.append_ #[t, t] t #[.slice a n cap, .slice (some ⟨w.heap.size, 0, none⟩) 1 1]).run Try.prog (w.alloc (.cells cs e)) = .ok (.slice a' (n + 1) cap') w' ∧ Sub w' e size a' (n + 1) cap' (vs ++ cs.toList) ∧ Keep (fun b => blk a = some b) w w' ∧ (∀ b, blk a' = some b → blk a = some b ∨ w.heap.size ≤ b) := by
  have hq : Q w (w.alloc (.cells cs e)) := (Q.refl w).alloc _
  have hg : (w.alloc (.cells cs e)).heap[w.heap.size]? = some (.cells cs e (0, 0)) := heap_alloc_new w _
  have hsrc : ∀ j u, cs.toList[j]? = some u → (w.alloc (.cells cs e)).cell? ((⟨w.heap.size, 0, none⟩ : Addr).add j) = some u := by
    intro j u hj
    rw [addr_add, cell_of_row _ _ _ _ e (0, 0) hg, Nat.zero_add]
    simpa using hj
  have hmul : (n + 1 + (n + 1) / 4 + 192) * by_ ≤ 281474976710656 := Nat.le_trans (Nat.mul_le_mul_left _ hby) (by omega)
  obtain ⟨a', cap', w', hr, h1, h2, h3⟩ := sub_append (P := Try.prog) (ty := t) ht hi hz0 hz1 hz2 hzs (hs.q hq) (Src.ofSlice _ ht ⟨w.heap.size, 0, none⟩ 1 1 cs.toList (by simp [hc]) hsrc hv) (by unfold maxLen; omega) hmul
  refine ⟨a', cap', w', hr, h1, (Keep.ofQ hq).trans h2, fun b hb => ?_⟩
  rcases h3 with h | h
  · exact .inl (by rw [← h]; exact hb)
  · rw [h] at hb
    simp at hb
    right
    have := hq.size
    omega
/-- A new flight, as yet empty. -/
theorem Sd.flight {w : World} {B sb : Nat} {S : Sh} {sd : List Int} {Fs : List Fl} (h : Sd w B sb S sd Fs) (lv : Int) (hn : S.out.n ≤ 1000) :
    ∃ x w1, (Builtin.append_ #[50, 50] 50 #[.slice S.out.a S.out.n S.out.c, .slice (some ⟨w.heap.size, 0, none⟩) 1 1]).run Try.prog (w.alloc (.cells #[.int .i64 lv, .slice none 0 0] 53)) = .ok (.slice x.a x.n x.c) w1 ∧ ShAt w1 sb S ∧ Sd (w1.setCell ⟨sb, 62, none⟩ (.slice x.a x.n x.c)) B sb { S with out := x } sd (Fs ++ [⟨lv, nilS, []⟩]) ∧
      Keep (Mine sb S Fs) w (w1.setCell ⟨sb, 62, none⟩ (.slice x.a x.n x.c)) ∧ ∀ b, Mine sb { S with out := x } (Fs ++ [⟨lv, nilS, []⟩]) b → Mine sb S Fs b ∨ w.heap.size ≤ b := by
  obtain ⟨i0, hi, hz0, hz1, hz2⟩ := info_parts info53
  obtain ⟨a', c', w1, hr, hrow, hk, hb⟩ := app_st (cs := #[.int .i64 lv, .slice none 0 0]) Try.underlying50 hi hz0 hz1 hz2 (by omega) rfl rfl (by intro v hv; simp at hv; rcases hv with rfl | rfl <;> rfl) h.fr (by omega)
  have hlt := h.at_.lt
  have hB := h.hB
  have a1 : ShAt w1 sb S := h.at_.keep hk (fun e => (h.bo sb e).2.1 rfl)
  have k2 : Keep (fun b => b = sb) w1 (w1.setCell ⟨sb, 62, none⟩ (.slice a' (S.out.n + 1) c')) := (Keep.refl _ _).setCell _ _ _ (.inl rfl)
  have hxs : ∀ b, blk a' = some b → B ≤ b ∧ b ≠ sb ∧ blk S.said.a ≠ some b := by
    intro b e
    rcases hb b e with e1 | e1
    · exact h.bo b e1
    · exact ⟨by omega, by omega, fun e2 => by have := Sub.lt h.sr b e2; omega⟩
  have hxo : ∀ b, b < w.heap.size → blk S.out.a ≠ some b → blk a' ≠ some b := by
    intro b h1 h2 e
    rcases hb b e with e1 | e1
    · exact h2 e1
    · omega
  have hd : ∀ F ∈ Fs ++ [(⟨lv, nilS, []⟩ : Fl)], F ∈ Fs ∨ F = ⟨lv, nilS, []⟩ := by intro F hF; simpa using hF
  refine ⟨⟨a', S.out.n + 1, c'⟩, w1, hr, a1, ⟨a1.setOut ⟨a', S.out.n + 1, c'⟩, h.hB, Sub.keep (Sub.keep h.sr hk (fun b e e2 => (h.bo b e2).2.2 e)) k2 (fun b e => (h.bs b e).2), ?_, ?_, h.bs, hxs, ?_, ?_⟩, ?_, ?_⟩
  · show Sub _ _ _ _ _ _ (flv _)
    rw [flv_app, flv_one]
    exact Sub.keep hrow k2 (fun b e => (hxs b e).2.1)
  · intro F hF
    rcases hd F hF with hF | rfl
    · exact Sub.keep (Sub.keep (h.dr F hF) hk (fun b e => (h.bd F hF b e).2.2.2)) k2 (fun b e => (h.bd F hF b e).2.1)
    · exact sub_nil _ _ _
  · intro F hF b e
    rcases hd F hF with hF | rfl
    · exact ⟨(h.bd F hF b e).1, (h.bd F hF b e).2.1, (h.bd F hF b e).2.2.1, hxo b (Sub.lt (h.dr F hF) b e) (h.bd F hF b e).2.2.2⟩
    · cases e
  · refine List.pairwise_append.2 ⟨h.pd, List.pairwise_singleton _ _, fun F hF G hG b e => ?_⟩
    obtain rfl : G = ⟨lv, nilS, []⟩ := by simpa using hG
    intro e2
    cases e2
  · exact (hk.mono (G := Mine sb S Fs) (fun i _ e => .inr (.inr (.inl e)))).trans' k2 (fun i _ e => .inl e)
  · rintro b (e | e | e | ⟨F, hF, e⟩)
    · exact .inl (.inl e)
    · exact .inl (.inr (.inl e))
    · rcases hb b e with e1 | e1
      · exact .inl (.inr (.inr (.inl e1)))
      · exact .inr e1
    · rcases hd F hF with hF | rfl
      · exact .inl (.inr (.inr (.inr ⟨F, hF, e⟩)))
      · cases e
/-- The last flight's data grow. -/
theorem Sd.push {w : World} {B sb : Nat} {S : Sh} {sd ms : List Int} {Gs : List Fl} {F : Fl} {m : Sv} (h : Sd w B sb S sd (Gs ++ [F])) (hm : Seg w m.a ms) (hl : ms.length = m.n) (hn : F.d.n + m.n ≤ 1000000) :
    ∃ g off z w1, S.out.a = some ⟨g, off, none⟩ ∧ Gs.length < S.out.n ∧ SY sb g off S.out w ∧ w.cell? ⟨g, off + Gs.length * 2 + 1, none⟩ = some (.slice F.d.a F.d.n F.d.c) ∧ (Builtin.append_ #[24, 24] 24 #[.slice F.d.a F.d.n F.d.c, .slice m.a m.n m.c]).run Try.prog w.drew = .ok (.slice z.a z.n z.c) w1 ∧
      SY sb g off S.out w1 ∧ w1.cell? ⟨g, off + Gs.length * 2 + 1, none⟩ = some (.slice F.d.a F.d.n F.d.c) ∧ w1.frozen? ⟨g, off + Gs.length * 2 + 1, none⟩ = false ∧ SY sb g off S.out (w1.setCell ⟨g, off + Gs.length * 2 + 1, none⟩ (.slice z.a z.n z.c)) ∧
      Sd (w1.setCell ⟨g, off + Gs.length * 2 + 1, none⟩ (.slice z.a z.n z.c)) B sb S sd (Gs ++ [⟨F.lv, z, F.z ++ ms⟩]) ∧
      Keep (Mine sb S (Gs ++ [F])) w (w1.setCell ⟨g, off + Gs.length * 2 + 1, none⟩ (.slice z.a z.n z.c)) ∧ ∀ b, Mine sb S (Gs ++ [⟨F.lv, z, F.z ++ ms⟩]) b → Mine sb S (Gs ++ [F]) b ∨ w.heap.size ≤ b := by
  have hFm : F ∈ Gs ++ [F] := by simp
  have hln := RowF.len h.fr
  rw [List.length_append, List.length_singleton] at hln
  have hq : Q w w.drew := (Q.refl w).drew
  obtain ⟨x, w1, hr, hrow, hk0, hb⟩ := row_append (ty := 24) (Sub.q (h.dr F hFm) hq) (src_seg (c := m.c) (hm.q hq) hl) hn
  have hk : Keep (fun b => blk F.d.a = some b) w w1 := (Keep.ofQ hq).trans hk0
  obtain ⟨g, off, ha, hf, hc⟩ := Sub.some_ h.fr (by omega)
  have hgo : blk S.out.a = some g := by rw [ha]; rfl
  have hne := h.bo g hgo
  have hFg : ¬ blk F.d.a = some g := fun e => (h.bd F hFm g e).2.2.2 hgo
  have hFs : ¬ blk F.d.a = some sb := fun e => (h.bd F hFm sb e).2.1 rfl
  have hlt := h.at_.lt
  have hB := h.hB
  have hcell : w.cell? ⟨g, off + Gs.length * 2 + 1, none⟩ = some (.slice F.d.a F.d.n F.d.c) := by
    have := hc (Gs.length * 2 + 1) (.slice F.d.a F.d.n F.d.c) (by rw [flv_app, flv_one, List.getElem?_append_right (by rw [flv_len]; omega), flv_len, Nat.add_sub_cancel_left]; rfl)
    rw [Nat.add_assoc]
    exact this
  have hsy : SY sb g off S.out w := by
    have := h.at_.out
    rw [ha] at this
    exact this
  have fr1 : RowF w1 S.out (Gs ++ [F]) := Sub.keep h.fr hk (fun b e e2 => (h.bd F hFm b e2).2.2.2 e)
  have hfz : w1.frozen? ⟨g, off + Gs.length * 2 + 1, none⟩ = false := by
    obtain ⟨g', off', ha', hf', _⟩ := Sub.some_ fr1 (by omega)
    rw [ha] at ha'
    cases ha'
    exact hf' _
  have k2 : Keep (fun b => b = g) w1 (w1.setCell ⟨g, off + Gs.length * 2 + 1, none⟩ (.slice x.a x.n x.c)) := (Keep.refl _ _).setCell _ _ _ (.inl rfl)
  have a1 : ShAt w1 sb S := h.at_.keep hk hFs
  have hgs : ¬ sb = g := fun e => hne.2.1 e.symm
  have hxb : ∀ b, blk x.a = some b → blk F.d.a = some b ∨ b = w.heap.size := by
    intro b e
    rcases hb with h1 | h1
    · exact .inl (by rw [← h1]; exact e)
    · rw [h1] at e
      simp only [Option.some.injEq] at e
      exact .inr e.symm
  have hd : ∀ G ∈ Gs ++ [(⟨F.lv, x, F.z ++ ms⟩ : Fl)], G ∈ Gs ∨ G = ⟨F.lv, x, F.z ++ ms⟩ := by intro F hF; simpa using hF
  have hpd := List.pairwise_append.1 h.pd
  have hxs : ∀ b, blk x.a = some b → B ≤ b ∧ b ≠ sb ∧ blk S.said.a ≠ some b ∧ blk S.out.a ≠ some b := by
    intro b e
    rcases hxb b e with e1 | e1
    · exact h.bd F hFm b e1
    · exact ⟨by omega, by omega, fun e2 => by have := Sub.lt h.sr b e2; omega, fun e2 => by have := Sub.lt h.fr b e2; omega⟩
  refine ⟨g, off, x, w1, ha, by omega, hsy, hcell, hr, hk.cell hsy hFs, hk.cell hcell hFg, hfz, k2.cell (hk.cell hsy hFs) hgs, ⟨a1.keep k2 hgs, h.hB, Sub.keep (Sub.keep h.sr hk (fun b e e2 => (h.bd F hFm b e2).2.2.1 e)) k2 (fun b e e2 => hne.2.2 (by rw [← e2]; exact e)), ?_, ?_, h.bs, h.bo, ?_, ?_⟩, ?_, ?_⟩
  · have h1 := Sub.set fr1 ha (j := Gs.length * 2 + 1) (by omega) (.slice x.a x.n x.c)
    rw [← Nat.add_assoc] at h1
    show Sub _ _ _ _ _ _ (flv _)
    have e : (flv (Gs ++ [F])).set (Gs.length * 2 + 1) (.slice x.a x.n x.c) = flv (Gs ++ [⟨F.lv, x, F.z ++ ms⟩]) := by
      rw [flv_app, flv_app, flv_one, flv_one, List.set_append_right _ _ (by rw [flv_len]; omega), flv_len, Nat.add_sub_cancel_left]
      rfl
    rw [← e]
    exact h1
  · intro G hG
    rcases hd G hG with hG | rfl
    · exact Sub.keep (Sub.keep (h.dr G (by simp [hG])) hk (fun b e e2 => hpd.2.2 G hG F (by simp) b e e2)) k2 (fun b e e2 => (h.bd G (by simp [hG]) b e).2.2.2 (by rw [e2]; exact hgo))
    · exact Sub.keep hrow k2 (fun b e e2 => (hxs b e).2.2.2 (by rw [e2]; exact hgo))
  · intro G hG b e
    rcases hd G hG with hG | rfl
    · exact h.bd G (by simp [hG]) b e
    · exact hxs b e
  · refine List.pairwise_append.2 ⟨hpd.1, List.pairwise_singleton _ _, fun G hG H hH b e => ?_⟩
    obtain rfl : H = ⟨F.lv, x, F.z ++ ms⟩ := by simpa using hH
    intro e2
    rcases hxb b e2 with e1 | e1
    · exact hpd.2.2 G hG F (by simp) b e e1
    · have := Sub.lt (h.dr G (by simp [hG])) b e
      omega
  · exact (hk.mono (G := Mine sb S (Gs ++ [F])) (fun i _ e => .inr (.inr (.inr ⟨F, hFm, e⟩)))).trans' k2 (fun i _ e => .inr (.inr (.inl (by rw [e]; exact hgo))))
  · rintro b (e | e | e | ⟨G, hG, e⟩)
    · exact .inl (.inl e)
    · exact .inl (.inr (.inl e))
    · exact .inl (.inr (.inr (.inl e)))
    · rcases hd G hG with hG | rfl
      · exact .inl (.inr (.inr (.inr ⟨G, by simp [hG], e⟩)))
      · rcases hxb b e with e1 | e1
        · exact .inl (.inr (.inr (.inr ⟨F, hFm, e1⟩)))
        · exact .inr (by omega)
end Go.Proofs.Ytekpepnonhbkcaa
