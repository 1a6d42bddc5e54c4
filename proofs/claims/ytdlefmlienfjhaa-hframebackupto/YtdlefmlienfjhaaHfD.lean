/-
  More of a reader of frames: pass, numberOf, Feed, End, Done, finish, enter: contracts that the statements' walks use.
-/
import Derived.Test.YtdlefmlienfjhaaCct
namespace Go.Proofs.Ytdlefmlienfjhaa
open Go.RowKit
set_option linter.unusedVariables false
set_option maxRecDepth 20000

theorem row_cap {w : World} {x : Sv} {zs : List Int} (h : Row w x zs) : x.n ≤ x.c := by
  rcases h.2 with ⟨_, h1, h2⟩ | ⟨g, off, cur, _, _, h1, _⟩
  · omega
  · exact h1
theorem HI.c0 {w : World} {rb : Nat} {H : Hf} {s : Sv} (h : HI w rb H s) : w.cell? ⟨rb, 0, none⟩ = some (.int .i64 H.st) := h.c 0 _ rfl
theorem HI.c1 {w : World} {rb : Nat} {H : Hf} {s : Sv} (h : HI w rb H s) : w.cell? ⟨rb, 1, none⟩ = some (.int .i64 H.lim) := h.c 1 _ rfl
theorem HI.c2 {w : World} {rb : Nat} {H : Hf} {s : Sv} (h : HI w rb H s) : w.cell? ⟨rb, 2, none⟩ = some (.slice s.a s.n s.c) := h.c 2 _ rfl
theorem HI.c3 {w : World} {rb : Nat} {H : Hf} {s : Sv} (h : HI w rb H s) : w.cell? ⟨rb, 3, none⟩ = some (.bool H.ended) := h.c 3 _ rfl
theorem HI.c4 {w : World} {rb : Nat} {H : Hf} {s : Sv} (h : HI w rb H s) : w.cell? ⟨rb, 4, none⟩ = some (.int .i64 H.begun) := h.c 4 _ rfl
theorem HI.c5 {w : World} {rb : Nat} {H : Hf} {s : Sv} (h : HI w rb H s) : w.cell? ⟨rb, 5, none⟩ = some (.bool H.ins) := h.c 5 _ rfl
theorem HI.c6 {w : World} {rb : Nat} {H : Hf} {s : Sv} (h : HI w rb H s) : w.cell? ⟨rb, 6, none⟩ = some (.int .i64 H.fr) := h.c 6 _ rfl
theorem HI.c7 {w : World} {rb : Nat} {H : Hf} {s : Sv} (h : HI w rb H s) : w.cell? ⟨rb, 7, none⟩ = some (.int .i64 H.left) := h.c 7 _ rfl
theorem HI.c8 {w : World} {rb : Nat} {H : Hf} {s : Sv} (h : HI w rb H s) : w.cell? ⟨rb, 8, none⟩ = some (.bool H.done) := h.c 8 _ rfl
theorem HI.c9 {w : World} {rb : Nat} {H : Hf} {s : Sv} (h : HI w rb H s) : w.cell? ⟨rb, 9, none⟩ = some (.int .i64 H.fault) := h.c 9 _ rfl
/-- The row's words lie where those of another one lay, or nowhere. -/
def From (s s' : Sv) : Prop := ∀ b, blk s'.a = some b → blk s.a = some b
theorem From.refl (s : Sv) : From s s := fun _ h => h
theorem From.trans {a b c : Sv} (h : From a b) (k : From b c) : From a c := fun i e => h i (k i e)
theorem From.nil (s : Sv) : From s nilS := fun b e => by cases e
set_option maxHeartbeats 4000000 in
theorem pass_any (rb : Nat) (H : Hf) (s : Sv) (k : Nat) (w : World) (h : HI w rb H s) (hk : k ≤ H.held.length) (hn : s.n ≤ 140737488355328) :
    Calls Try.prog 40 #[.pointer (some ⟨rb, 0, none⟩), .int .i64 (k : Int)] w fun e w' => ∃ s' : Sv, e = .returned (.slice s.a k s.c) ∧ HI w' rb { H with held := H.held.drop k } s' ∧ Keep (fun b => b = rb) w w' ∧ From s s' ∧ Seg w' s.a (H.held.take k) := by
  have hl := h.len
  have hsc := row_cap h.r
  have hseg : Seg w s.a (H.held.take k) := seg_take (Row.seg h.r) k
  have c2 := h.c2
  have f2 := h.f 2
  have hto := slice_toB s.a s.n s.c k (by omega) (by omega)
  have hfr := slice_fromB s.a s.n s.c k (by omega)
  have hrow := Sub.slice h.r (k := k) (by omega) (if s.c = k then s.a else s.a.map (·.add k)) (by rw [Nat.mul_one])
  have hfrom : From s ⟨if s.c = k then s.a else s.a.map (·.add k), s.n - k, s.c - k⟩ := fun b e => by
    rw [← blk_slice (size := 1) (k := k) (cap := s.c) (a := s.a) (a' := if s.c = k then s.a else s.a.map (·.add k)) (by rw [Nat.mul_one])]
    exact e
  have hset1 : HI (w.setCell ⟨rb, 2, none⟩ (.slice (if s.c = k then s.a else s.a.map (·.add k)) (s.n - k) (s.c - k))) rb { H with held := H.held.drop k } ⟨if s.c = k then s.a else s.a.map (·.add k), s.n - k, s.c - k⟩ :=
    ⟨hC_set h.b 2 _ { H with held := H.held.drop k } ⟨if s.c = k then s.a else s.a.map (·.add k), s.n - k, s.c - k⟩ rfl, by
      refine Sub.keep ?_ (keepSet w rb 2 _) (fun b e e2 => h.d b (hfrom b e) e2)
      have := hrow
      rw [Nat.mul_one] at this
      show Sub _ _ _ _ _ _ (u8s _)
      rw [show u8s (H.held.drop k) = (u8s H.held).drop k from List.map_drop]
      exact this, fun b e => h.d b (hfrom b e)⟩
  have hk1 := keepSet w rb 2 (.slice (if s.c = k then s.a else s.a.map (·.add k)) (s.n - k) (s.c - k))
  have hseg1 : Seg (w.setCell ⟨rb, 2, none⟩ (.slice (if s.c = k then s.a else s.a.map (·.add k)) (s.n - k) (s.c - k))) s.a (H.held.take k) := Seg.keep hseg hk1 (fun b e e2 => h.d b e e2)
  have hsd := h.d
  have hdl : (H.held.drop k).length = s.n - k := by rw [List.length_drop]; omega
  generalize hD : H.held.drop k = D at *
  generalize hT : H.held.take k = T at *
  generalize hS : (⟨if s.c = k then s.a else s.a.map (·.add k), s.n - k, s.c - k⟩ : Sv) = S at *
  have HA := hid (And.intro hset1 (And.intro hk1 (And.intro hseg1 hfrom)))
  have HS := hid hS
  clear hrow hset1 hk1 hseg1 hfrom hS hseg hD hT h
  generalize (if s.c = k then s.a else s.a.map (·.add k)) = a1 at *
  obtain ⟨sa, sn, sc⟩ := s
  dsimp only at *
  by_cases hz : k = sn
  · subst hz
    have hDn : D = [] := List.eq_nil_of_length_eq_zero (by omega)
    subst hDn
    have HW := hid (show HI ((w.setCell ⟨rb, 2, none⟩ (.slice a1 (k - k) (sc - k))).setCell ⟨rb, 2, none⟩ (.slice none 0 0)) rb { H with held := [] } nilS from
      ⟨hC_set HA.out.1.b 2 _ { H with held := [] } nilS rfl, sub_nil _ _ _, fun b e => by cases e⟩)
    have HK := hid (HA.out.2.1.trans (keepSet _ rb 2 (.slice none 0 0)))
    have HG := hid (Seg.keep HA.out.2.2.1 (keepSet _ rb 2 (.slice none 0 0)) (fun b e e2 => hsd b e e2))
    rw [Nat.sub_self] at *
    clear hdl hsd
    go_enter Try.func40, Try.ntmps40
    go_wp2
    go_ret
    exact ⟨nilS, rfl, HW.out, HK.out, From.nil _, HG.out⟩
  · have hkn : k < sn := by omega
    have hne : (((sn - k : Nat) : Int) == 0) = false := beq_eq_false_iff_ne.2 (by omega)
    clear hdl hsd hz
    go_enter Try.func40, Try.ntmps40
    go_wp2
    go_ret
    exact ⟨S, rfl, HA.out.1, HA.out.2.1, HA.out.2.2.2, HA.out.2.2.1⟩
set_option maxHeartbeats 4000000 in
theorem number_of_any (a : Option Addr) (n c : Nat) (zs : List Int) (w : World) (hl : zs.length = n) (hn : n ≤ 140737488355328) (hz : ∀ y ∈ zs, 0 ≤ y ∧ y < 256) (hs : Seg w a zs) :
    Calls Try.prog 43 #[.slice a n c] w fun e w' => e = .returned (.tuple #[.int .i64 (numE zs).1, .int .i64 (numE zs).2]) ∧ w = w' := by
  have HG := hid (get_any a n c zs 0 w hl (by omega) hz hs)
  obtain ⟨m, p, f, hx⟩ : ∃ m p f, rd zs 0 = (m, p, f) := ⟨_, _, _, rfl⟩
  have HE := hid (show numE zs = if f ≠ 0 ∨ p ≠ zs.length then (0, 54) else (m, 0) by unfold numE; rw [hx])
  rw [hx] at HG
  rw [hl] at HE
  clear hx hl hz hs
  by_cases hf : f = 0
  · subst hf
    by_cases hp : p = (n : Int)
    · subst hp
      rw [HE.out, if_neg (by simp)]
      clear HE
      go_enter Try.func43, Try.ntmps43
      go_wp2_with (go_at_call 50; refine HG.out.mono ?_; rintro e w1 ⟨rfl, rfl⟩)
      go_ret2
      exact ⟨rfl, rfl⟩
    · rw [HE.out, if_pos (.inr hp)]
      have hpb : (p != (n : Int)) = true := by simp [hp]
      clear HE hp
      go_enter Try.func43, Try.ntmps43
      go_wp2_with (go_at_call 50; refine HG.out.mono ?_; rintro e w1 ⟨rfl, rfl⟩)
      go_ret2
      exact ⟨rfl, rfl⟩
  · rw [HE.out, if_pos (.inl hf)]
    have hfb : (f != 0) = true := by simp [hf]
    clear HE hf
    go_enter Try.func43, Try.ntmps43
    go_wp2_with (go_at_call 50; refine HG.out.mono ?_; rintro e w1 ⟨rfl, rfl⟩)
    go_ret2
    exact ⟨rfl, rfl⟩
theorem isref_any (n : Int) (w : World) : Calls Try.prog 55 #[.int .i64 n] w fun e w' => e = .returned (.bool (decide (2 ≤ n ∧ n ≤ 5))) ∧ w = w' := by
  by_cases h0 : 2 ≤ n
  · by_cases h1 : n ≤ 5
    · rw [decide_eq_true (⟨h0, h1⟩ : 2 ≤ n ∧ n ≤ 5)]
      go_enter Try.func55, Try.ntmps55
      go_wp2
      go_ret
      exact ⟨rfl, rfl⟩
    · rw [decide_eq_false (fun h => h1 h.2 : ¬ (2 ≤ n ∧ n ≤ 5))]
      go_enter Try.func55, Try.ntmps55
      go_wp2
      go_ret
      exact ⟨rfl, rfl⟩
  · rw [decide_eq_false (fun h => h0 h.1 : ¬ (2 ≤ n ∧ n ≤ 5))]
    go_enter Try.func55, Try.ntmps55
    go_wp2
    go_ret
    exact ⟨rfl, rfl⟩
theorem done_any (rb : Nat) (H : Hf) (s : Sv) (w : World) (h : HI w rb H s) : Calls Try.prog 19 #[.pointer (some ⟨rb, 0, none⟩)] w fun e w' => e = .returned (.bool H.done) ∧ w = w' := by
  have c8 := h.c8
  clear h
  go_enter Try.func19, Try.ntmps19
  go_wp2
  go_ret
  exact ⟨rfl, rfl⟩
theorem end_any (rb : Nat) (H : Hf) (s : Sv) (w : World) (h : HI w rb H s) (he : H.ended = false) : Calls Try.prog 17 #[.pointer (some ⟨rb, 0, none⟩)] w fun e w' => e = .returned (.int .i64 0) ∧ HI w' rb (H.fini true) s ∧ Keep (fun b => b = rb) w w' := by
  have c3 := h.c3
  have f3 := h.f 3
  have HS := hid (h.set 3 (.bool true) (H.fini true) rfl rfl)
  have HK := hid (keepSet w rb 3 (.bool true))
  rw [he] at c3
  clear h
  go_enter Try.func17, Try.ntmps17
  go_wp2
  go_ret
  exact ⟨rfl, HS.out, HK.out⟩
/-- The reader behind Feed: as it was, but for the bytes; behind a fault none are taken. -/
def fdF (H : Hf) (y : List Int) : Hf := if H.fault = 0 then H.app y else H
theorem keepOwn {F : Nat → Prop} {w w' : World} (rb : Nat) (h : Keep (fun b => b = rb) w w') (hF : F rb) : Keep F w w' := h.mono (fun i _ e => by rw [e]; exact hF)
set_option maxHeartbeats 4000000 in
theorem feed_any (rb : Nat) (H : Hf) (s x : Sv) (ys : List Int) (w : World) (h : HI w rb H s) (he : H.ended = false) (hx : Seg w x.a ys) (hxl : ys.length = x.n) (hn : H.held.length + ys.length ≤ 140737488355328) :
    Calls Try.prog 12 #[.pointer (some ⟨rb, 0, none⟩), .slice x.a x.n x.c] w fun e w' => ∃ s' : Sv, e = .returned (.int .i64 0) ∧ HI w' rb (fdF H ys) s' ∧ Keep (fun b => b = rb ∨ blk s.a = some b) w w' ∧ (∀ b, blk s'.a = some b → blk s.a = some b ∨ w.heap.size ≤ b) := by
  have hl := h.len
  have c3 := h.c3
  have c9 := h.c9
  rw [he] at c3
  by_cases hf : H.fault = 0
  · have hfd : fdF H ys = H.app ys := by unfold fdF; rw [if_pos hf]
    obtain ⟨y, w1, hrun, hrow, hk, hbb⟩ := row_appendB (ty := 30) h.r (src_seg (c := x.c) hx hxl) (by omega)
    have c2 := h.c2
    have hb1 : w1.heap[rb]? = some (.cells (hC H s) 76 (0, 0)) := (hk.block rb h.lt (fun e => h.d rb e rfl)).trans h.b
    have f2 : w1.frozen? ⟨rb, 2, none⟩ = false := frozen_of_row w1 _ 2 _ 76 hb1
    have g2 : w1.cell? ⟨rb, 2, none⟩ = some (.slice s.a s.n s.c) := by rw [cell_of_row w1 _ 2 _ 76 (0, 0) hb1]; rfl
    have hrl := h.lt
    have hyb : ∀ b, blk y.a = some b → blk s.a = some b ∨ w.heap.size ≤ b := fun b e => by
      rcases hbb with h2 | h2
      · exact .inl (by rw [← h2]; exact e)
      · rw [h2] at e; cases e; exact .inr (Nat.le_refl _)
    have hyr : ∀ b, blk y.a = some b → b ≠ rb := fun b e => by
      rcases hyb b e with h2 | h2
      · exact h.d b h2
      · omega
    have HS := hid (show HI (w1.setCell ⟨rb, 2, none⟩ (.slice y.a y.n y.c)) rb (H.app ys) y from
      ⟨hC_set hb1 2 _ (H.app ys) y rfl, Sub.keep hrow (keepSet _ rb 2 _) (fun b e e2 => hyr b e e2), hyr⟩)
    have HK := hid (show Keep (fun b => b = rb ∨ blk s.a = some b) w (w1.setCell ⟨rb, 2, none⟩ (.slice y.a y.n y.c)) from (hk.mono (fun i _ h => .inr h)).trans (keepOwn rb (keepSet _ rb 2 _) (.inl rfl)))
    have HY := hid hyb
    rw [hfd]
    rw [hf] at c9
    obtain ⟨sa, sn, sc⟩ := s
    obtain ⟨xa, xn, xc⟩ := x
    obtain ⟨ya, yn, yc⟩ := y
    dsimp only at *
    clear hfd hrow hk hbb hb1 hyb hyr h hl hn hx hxl hrl
    go_enter Try.func12, Try.ntmps12
    go_wp2_with (at_builtin; refine Lib.wpList_append_run _ rfl _ _ _ _ rfl _ _ rfl rfl _ _ hrun ?_)
    go_ret
    exact ⟨⟨ya, yn, yc⟩, rfl, HS.out, HK.out, HY.out⟩
  · have hfd : fdF H ys = H := by unfold fdF; rw [if_neg hf]
    have hfb : (H.fault == 0) = false := beq_eq_false_iff_ne.2 hf
    have HH := hid h
    rw [hfd]
    obtain ⟨sa, sn, sc⟩ := s
    obtain ⟨xa, xn, xc⟩ := x
    dsimp only at *
    clear hfd hf h hl hn hx hxl
    go_enter Try.func12, Try.ntmps12
    go_wp2
    go_ret
    exact ⟨⟨sa, sn, sc⟩, rfl, HH.out, Keep.refl _ _, fun b e => .inl e⟩
set_option maxHeartbeats 4000000 in
theorem finish_any (rb : Nat) (H : Hf) (s : Sv) (w : World) (h : HI w rb H s) : Calls Try.prog 32 #[.pointer (some ⟨rb, 0, none⟩)] w fun e w' => e = .returned (.tuple #[]) ∧ HI w' rb (fini H) s ∧ Keep (fun b => b = rb) w w' := by
  have hl := h.len
  have c0 := h.c0
  have c2 := h.c2
  have c4 := h.c4
  have c5 := h.c5
  have c8 := h.c8
  have c9 := h.c9
  have f8 := h.f 8
  have f9 := h.f 9
  have HK8 := hid (keepSet w rb 8 (.bool true))
  have HK9 := hid (fun x : Int => keepSet w rb 9 (.int .i64 x))
  have HS8 := hid (h.set 8 (.bool true) { H with done := true } rfl rfl)
  have HS9 := hid (fun x : Int => h.set 9 (.int .i64 x) { H with fault := x } rfl rfl)
  by_cases h1 : H.ins = true
  · have HE := hid (show fini H = { H with fault := 12 } by unfold fini; rw [if_pos (.inl h1)])
    rw [HE.out]
    rw [h1] at c5
    clear HE h hl
    go_enter Try.func32, Try.ntmps32
    go_wp2
    go_end0
    exact ⟨rfl, HS9.out 12, HK9.out 12⟩
  have h1b : H.ins = false := by simpa using h1
  rw [h1b] at c5
  by_cases h2 : 0 < H.held.length
  · have HE := hid (show fini H = { H with fault := 12 } by unfold fini; rw [if_pos (.inr h2)])
    rw [HE.out]
    have hnb : 0 < s.n := by omega
    clear HE h hl
    go_enter Try.func32, Try.ntmps32
    go_wp2
    go_end0
    exact ⟨rfl, HS9.out 12, HK9.out 12⟩
  have hnb : ¬ 0 < s.n := by omega
  have hor : ¬ (H.ins = true ∨ 0 < H.held.length) := fun x => x.elim h1 h2
  by_cases h3 : H.st = 2
  · have HE := hid (show fini H = { H with fault := 172 } by unfold fini; rw [if_neg hor, if_pos h3])
    rw [HE.out]
    rw [h3] at c0
    clear HE h hl hor h1 h2
    go_enter Try.func32, Try.ntmps32
    go_wp2
    go_end0
    exact ⟨rfl, HS9.out 172, HK9.out 172⟩
  have h3b : (H.st == 2) = false := beq_eq_false_iff_ne.2 h3
  by_cases h4 : H.begun = 0
  · have HE := hid (show fini H = { H with fault := 183 } by unfold fini; rw [if_neg hor, if_neg h3, if_pos h4])
    rw [HE.out]
    rw [h4] at c4
    clear HE h hl hor h1 h2 h3
    go_enter Try.func32, Try.ntmps32
    go_wp2
    go_end0
    exact ⟨rfl, HS9.out 183, HK9.out 183⟩
  have h4b : (H.begun == 0) = false := beq_eq_false_iff_ne.2 h4
  have HE := hid (show fini H = { H with done := true } by unfold fini; rw [if_neg hor, if_neg h3, if_neg h4])
  rw [HE.out]
  clear HE h hl hor h1 h2 h3 h4
  go_enter Try.func32, Try.ntmps32
  go_wp2
  go_end0
  exact ⟨rfl, HS8.out, HK8.out⟩
end Go.Proofs.Ytdlefmlienfjhaa
