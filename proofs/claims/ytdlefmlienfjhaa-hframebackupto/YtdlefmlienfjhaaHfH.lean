/-
  A reader's take: a contract that the statements' walks use.
-/
import Derived.Test.YtdlefmlienfjhaaTkR
import Derived.Deep.RegionWith
import Derived.Deep.Cut
import Derived.Deep.CutRange
namespace Go.Proofs.Ytdlefmlienfjhaa
open Go.RowKit
set_option linter.unusedVariables false
set_option maxRecDepth 100000

theorem results31 (tmps : Array Value) (w : World) (eb : Nat) (ev : Ev) (y : Sv) (o : Bool) (h2 : tmps.getD 2 undef = .pointer (some ⟨eb, 0, none⟩)) (h3 : tmps.getD 3 undef = .bool o) (hb : w.heap[eb]? = some (.cells (eC ev y) 41 (0, 0))) :
    (results Try.f31 tmps).run Try.prog w = .ok (.tuple #[.agg (eC ev y), .bool o]) w := by
  have h2' : tmps[2]?.getD undef = .pointer (some ⟨eb, 0, none⟩) := by simpa using h2
  have h3' : tmps[3]?.getD undef = .bool o := by simpa using h3
  have c0 : w.cell? ⟨eb, 0, none⟩ = some (.int .i64 ev.k) := by rw [cell_of_row w eb 0 _ 41 (0, 0) hb]; rfl
  have c1 : w.cell? ⟨eb, 1, none⟩ = some (.slice y.a y.n y.c) := by rw [cell_of_row w eb 1 _ 41 (0, 0) hb]; rfl
  have c2 : w.cell? ⟨eb, 2, none⟩ = some (.int .i64 ev.s0) := by rw [cell_of_row w eb 2 _ 41 (0, 0) hb]; rfl
  have c3 : w.cell? ⟨eb, 3, none⟩ = some (.int .i64 ev.s1) := by rw [cell_of_row w eb 3 _ 41 (0, 0) hb]; rfl
  have c4 : w.cell? ⟨eb, 4, none⟩ = some (.int .i64 ev.s2) := by rw [cell_of_row w eb 4 _ 41 (0, 0) hb]; rfl
  have c5 : w.cell? ⟨eb, 5, none⟩ = some (.int .i64 ev.i) := by rw [cell_of_row w eb 5 _ 41 (0, 0) hb]; rfl
  simp [results, Try.f31, go_sem, h2', h3', c0, c1, c2, c3, c4, c5]
/-- What pass leaves. -/
structure Psd (w : World) (rb : Nat) (H : Hf) (s s2 : Sv) (w2 : World) : Prop where
  h : HI w2 rb { H with held := H.held.drop (tkN H) } s2
  k : Keep (fun b => b = rb) w w2
  f : From s s2
  g : Seg w2 s.a (H.held.take (tkN H))
  e : EB w2 w.heap.size ev0 nilS
/-- The reader behind the payload's bytes. -/
structure Tkd (w : World) (rb : Nat) (H : Hf) (s s2 : Sv) (w3 : World) : Prop where
  h : HI w3 rb (adv H (tkN H)) s2
  k : Keep (fun b => b = rb) w w3
  f : From s s2
  g : Seg w3 s.a (H.held.take (tkN H))
  e : EB w3 w.heap.size ev0 nilS
theorem Psd.tkd {w : World} {rb : Nat} {H : Hf} {s s2 : Sv} {wc : World} (h : Psd w rb H s s2 wc) (h0 : HI w rb H s) :
    Tkd w rb H s s2 ((wc.setCell ⟨rb, 7, none⟩ (.int .i64 (H.left - tkN H))).setCell ⟨rb, 5, none⟩ (.bool (decide ((tkN H : Int) < H.left)))) := by
  have k1 : Keep (fun b => b = rb) wc ((wc.setCell ⟨rb, 7, none⟩ (.int .i64 (H.left - tkN H))).setCell ⟨rb, 5, none⟩ (.bool (decide ((tkN H : Int) < H.left)))) := (keepSet _ rb 7 _).trans (keepSet _ rb 5 _)
  have hl := h0.lt
  have hd : decide (0 < H.left - (tkN H : Int)) = decide ((tkN H : Int) < H.left) := decide_eq_decide.2 (by omega)
  have ha : adv H (tkN H) = { H with held := H.held.drop (tkN H), left := H.left - tkN H, ins := decide ((tkN H : Int) < H.left) } := by unfold adv; rw [hd]
  exact ⟨by rw [ha]; exact (h.h.set 7 _ { H with held := H.held.drop (tkN H), left := H.left - tkN H } rfl rfl).set 5 _ _ rfl rfl, h.k.trans k1, h.f, h.g.keep k1 (fun b e e2 => h0.d b e e2), h.e.keep k1 (fun e => by omega)⟩
theorem tk_put {w w4 : World} {rb : Nat} {G : Hf} {s2 : Sv} (h : HI w4 rb G s2) (k : Keep (fun b => b = rb) w w4) (hne : w.heap.size ≠ rb) (hs : ∀ b, blk s2.a = some b → b ≠ w.heap.size) (cs : Array Value) :
    HI (w4.setRow w.heap.size cs) rb G s2 ∧ Keep (fun b => b = rb) w (w4.setRow w.heap.size cs) :=
  ⟨h.keep ((Keep.refl (fun b => b = w.heap.size) w4).setRow _ _ (.inl rfl)) (fun e => hne e.symm) (fun b e e2 => hs b e e2), k.setRow _ _ (.inr (Nat.le_refl _))⟩
theorem row_put {w w4 : World} {y : Sv} {zs : List Int} (r : Row w4 y zs) (hn : New (w.heap.size + 1) y) (cs : Array Value) : Row (w4.setRow w.heap.size cs) y zs ∧ New w.heap.size y :=
  ⟨Sub.keep r ((Keep.refl (fun b => b = w.heap.size) w4).setRow _ _ (.inl rfl)) (fun b e e2 => by have := hn b e; omega), hn.mono (by omega)⟩
set_option maxHeartbeats 8000000 in
theorem take_any (rb : Nat) (H : Hf) (s : Sv) (w : World) (h : HI w rb H s) (hk : Hin H) (hn : s.n ≤ 140737488355328) :
    Calls Try.prog 31 #[.pointer (some ⟨rb, 0, none⟩)] w fun e w' => ∃ s' : Sv, HI w' rb (tak H).2 s' ∧ Keep (fun b => b = rb) w w' ∧ From s s' ∧ ∃ (ev : Ev) (y : Sv), e = .returned (.tuple #[.agg (eC ev y), .bool (tak H).1.isSome]) ∧ ∀ x, (tak H).1 = some x → ev = x ∧ Row w' y x.d ∧ New w.heap.size y := by
  have hl := h.len
  have hlt : w.heap.size ≠ rb := by have := h.lt; omega
  have ht := tkN_le hk
  have HH := hid h
  have c2 := h.c2
  have c7 := h.c7
  have hw1 : Q w (w.alloc (.cells #[.int .i64 0, .slice none 0 0, .int .i64 0, .int .i64 0, .int .i64 0, .int .i64 0] 41)) := (Q.refl w).alloc _
  have h1 := HH.out.q hw1
  have g2 := h1.c2
  have g7_1 := h1.c7
  have HP := hid (fun u (k : Q w u) => pass_any rb H s (tkN H) u (HH.out.q k) ht.2.1 hn)
  have hmin : ((tkN H : Nat) : Int) = min H.left (s.n : Int) := by rw [ht.2.2, hl]
  rw [hmin] at HP
  clear h
  go_enter Try.func31, Try.ntmps31
  go_upto_region 1 with fail
  go_cut [4] from 5 to 16 (fun v wx => ∃ s2 : Sv, v = .slice s.a (tkN H) s.c ∧ Psd w rb H s s2 wx)
  case first =>
    go_region_with (go_at_call 40; refine (HP.out _ (by first | assumption | (repeat (first | exact Q.refl _ | apply Q.drewN | apply Q.drew | apply Q.alloc)))).mono ?_; rintro e w2 ⟨s2, rfl, h2, k2, f2, sg2⟩; have HZ := hid (show Psd w rb H s s2 w2 from ⟨h2, (((Keep.refl _ w).alloc _).drew).trans k2, f2, sg2, EB.keep (show EB (w.alloc _).drew w.heap.size ev0 nilS from heap_alloc_new w _) k2 (fun e => hlt e)⟩); clear h2 k2 f2 sg2)
    all_goals (go_wp2_with fail; go_meet; exact ⟨_, rfl, HZ.out⟩)
  case rest =>
    obtain ⟨s2, rfl, hz⟩ := hcut
    have g5 := hz.h.c5
    have g6 := hz.h.c6
    have g7 := hz.h.c7
    have e5 := hz.h.f 5
    have e7 := hz.h.f 7
    have TK := hid (hz.tkd HH.out)
    have hw7 : IntKind.i64.wrap (H.left - (tkN H : Int)) = H.left - tkN H := by have := hk.n; rw [wrap_i64]; omega
    have hT : (H.held.take (tkN H)).length = tkN H := by rw [List.length_take]; omega
    have hTz : ∀ y ∈ H.held.take (tkN H), 0 ≤ y ∧ y < 256 := fun y hy => hk.z y (List.mem_of_mem_take hy)
    have hTn : tkN H ≤ 140737488355328 := by omega
    have HT := hid hT
    have HTZ := hid hTz
    have hzh := hz.h
    clear hT hTz hz
    dsimp only at g5 g6 g7
    have hadv : ∀ f : Int, { H with held := H.held.drop (tkN H), left := H.left - tkN H, ins := decide (0 < H.left - tkN H), fault := f } = { adv H (tkN H) with fault := f } := fun _ => rfl
    have HCL := hid (fun u (hs : Seg u s.a (H.held.take (tkN H))) => clone_any ⟨s.a, tkN H, s.c⟩ (H.held.take (tkN H)) u hs HT.out hTn)
    have HST := hid (fun u (hs : Seg u s.a (H.held.take (tkN H))) => settings_any s.a (tkN H) s.c (H.held.take (tkN H)) u HT.out hTn HTZ.out hs)
    have HNU := hid (fun u (hs : Seg u s.a (H.held.take (tkN H))) => number_of_any s.a (tkN H) s.c (H.held.take (tkN H)) u HT.out hTn HTZ.out hs)
    have g9 := hzh.c9
    have e9 := hzh.f 9
    rw [hk.u] at g9
    clear g2 g7_1 h1 hw1 HP hmin c2 c7 ht hl
    have hSN : ∀ b, blk s2.a = some b → b ≠ w.heap.size := fun b e e2 => by have := Sub.lt HH.out.r b (TK.out.f b e); omega
    have hEL := lt_of_block TK.out.e
    have hE := TK.out.e
    have d0 := hE.c0
    have d2 := hE.c2
    have d3 := hE.c3
    have d4 := hE.c4
    have d5 := hE.c5
    have p0 := hE.f 0
    have hSN2 := hid hSN
    have hNe : ∀ b, blk s.a = some b → b ≠ w.heap.size := fun b e e2 => by have := Sub.lt HH.out.r b e; omega
    have HNE := hid hNe
    have HSW := hid (fun (u : World) (k : Keep (fun b => b = rb) w u) => k.size)
    clear hE hNe hSN
    by_cases h0 : H.fr = 0
    · have HE := hid (show tak H = ((if H.fr = 0 ∧ 0 < tkN H then some ⟨2, H.held.take (tkN H), 0, 0, 0, 0⟩ else none), adv H (tkN H)) from tak_data H (by rw [h0]; rfl))
      rw [h0] at g6
      have h0' := hid h0
      clear h0 g9 e9 HST HNU d0 d2 d3 d4 d5 p0
      by_cases hp : 0 < tkN H
      · go_wp2_with (first
          | (go_at_call 41; refine (HCL.out _ TK.out.g).mono ?_; rintro e w4 ⟨⟨ya, yn, yc⟩, rfl, q4, r4, n4⟩; have X4 := hid (And.intro (TK.out.h.q q4) (And.intro (TK.out.k.trans (Keep.ofQ q4)) (And.intro r4 (n4.mono (show w.heap.size + 1 ≤ _ by omega))))); have hE4 := TK.out.e.q q4; clear q4 r4 n4)
          | (refine wpList_store_row rfl 41 _ _ rfl w.heap.size (eC ⟨2, [], 0, 0, 0, 0⟩ ⟨ya, yn, yc⟩) rfl rfl 41 _ hE4 info41 rfl (one41 _ _) ?_))
        refine bodyPost_ret (results31 _ _ w.heap.size ⟨2, [], 0, 0, 0, 0⟩ ⟨ya, yn, yc⟩ _ rfl rfl (hE4.put _ _)) rfl ?_
        rw [show tak H = (some ⟨2, H.held.take (tkN H), 0, 0, 0, 0⟩, adv H (tkN H)) from by rw [HE.out, if_pos ⟨h0'.out, hp⟩]]
        have hpt := tk_put X4.out.1 X4.out.2.1 hlt hSN2.out (eC ⟨2, [], 0, 0, 0, 0⟩ ⟨ya, yn, yc⟩)
        have hrp := row_put X4.out.2.2.1 X4.out.2.2.2 (eC ⟨2, [], 0, 0, 0, 0⟩ ⟨ya, yn, yc⟩)
        exact ⟨s2, hpt.1, hpt.2, TK.out.f, ⟨2, H.held.take (tkN H), 0, 0, 0, 0⟩, ⟨ya, yn, yc⟩, rfl, fun x e => by cases e; exact ⟨rfl, hrp⟩⟩
      · go_wp2_with (first
          | (go_at_call 41; refine (HCL.out _ TK.out.g).mono ?_; rintro e w4 ⟨⟨ya, yn, yc⟩, rfl, q4, r4, n4⟩; have X4 := hid (And.intro (TK.out.h.q q4) (And.intro (TK.out.k.trans (Keep.ofQ q4)) (And.intro r4 (n4.mono (show w.heap.size + 1 ≤ _ by omega))))); have hE4 := TK.out.e.q q4; clear q4 r4 n4)
          | (refine wpList_store_row rfl 41 _ _ rfl w.heap.size (eC ⟨2, [], 0, 0, 0, 0⟩ ⟨ya, yn, yc⟩) rfl rfl 41 _ hE4 info41 rfl (one41 _ _) ?_))
        refine bodyPost_ret (results31 _ _ w.heap.size ⟨2, [], 0, 0, 0, 0⟩ ⟨ya, yn, yc⟩ _ rfl rfl (hE4.put _ _)) rfl ?_
        rw [show tak H = (none, adv H (tkN H)) from by rw [HE.out, if_neg (fun h => hp h.2)]]
        have hpt := tk_put X4.out.1 X4.out.2.1 hlt hSN2.out (eC ⟨2, [], 0, 0, 0, 0⟩ ⟨ya, yn, yc⟩)
        exact ⟨s2, hpt.1, hpt.2, TK.out.f, ⟨2, [], 0, 0, 0, 0⟩, ⟨ya, yn, yc⟩, rfl, fun x e => by cases e⟩
    by_cases h1 : H.fr = 1
    · have HE := hid (show tak H = (some ⟨1, H.held.take (tkN H), 0, 0, 0, 0⟩, adv H (tkN H)) by unfold tak; rw [if_neg h0, if_pos h1]; rfl)
      rw [h1] at g6
      clear h0 h1 g9 e9 HST HNU d0 d2 d3 d4 d5 p0
      go_wp2_with (first
          | (go_at_call 41; refine (HCL.out _ TK.out.g).mono ?_; rintro e w4 ⟨⟨ya, yn, yc⟩, rfl, q4, r4, n4⟩; have X4 := hid (And.intro (TK.out.h.q q4) (And.intro (TK.out.k.trans (Keep.ofQ q4)) (And.intro r4 (n4.mono (show w.heap.size + 1 ≤ _ by omega))))); have hE4 := TK.out.e.q q4; clear q4 r4 n4)
          | (refine wpList_store_row rfl 41 _ _ rfl w.heap.size (eC ⟨1, [], 0, 0, 0, 0⟩ ⟨ya, yn, yc⟩) rfl rfl 41 _ hE4 info41 rfl (one41 _ _) ?_))
      refine bodyPost_ret (results31 _ _ w.heap.size ⟨1, [], 0, 0, 0, 0⟩ ⟨ya, yn, yc⟩ _ rfl rfl (hE4.put _ _)) rfl ?_
      rw [HE.out]
      have hpt := tk_put X4.out.1 X4.out.2.1 hlt hSN2.out (eC ⟨1, [], 0, 0, 0, 0⟩ ⟨ya, yn, yc⟩)
      have hrp := row_put X4.out.2.2.1 X4.out.2.2.2 (eC ⟨1, [], 0, 0, 0, 0⟩ ⟨ya, yn, yc⟩)
      exact ⟨s2, hpt.1, hpt.2, TK.out.f, ⟨1, H.held.take (tkN H), 0, 0, 0, 0⟩, ⟨ya, yn, yc⟩, rfl, fun x e => by cases e; exact ⟨rfl, hrp⟩⟩
    by_cases h4 : H.fr = 4
    · have HE := hid (show tak H = ((if (setE (H.held.take (tkN H))).2 = 0 then some ⟨3, [], (setE (H.held.take (tkN H))).1.1, (setE (H.held.take (tkN H))).1.2.1, (setE (H.held.take (tkN H))).1.2.2, 0⟩ else none), { adv H (tkN H) with fault := (setE (H.held.take (tkN H))).2 }) by unfold tak; rw [if_neg h0, if_neg h1, if_pos h4]; rfl)
      rw [h4] at g6
      clear h0 h1 h4 HCL HNU
      unfold setA at HST
      obtain ⟨a0, a1, a2, ae, hSE⟩ : ∃ a0 a1 a2 ae, setE (H.held.take (tkN H)) = ((a0, a1, a2), ae) := ⟨_, _, _, _, rfl⟩
      rw [hSE] at HE HST
      dsimp only at HE HST
      have HTA := hid (TK.out.h)
      go_wp2_with (first
        | (go_at_call 42; refine (HST.out _ (TK.out.g.keep (keepSet _ w.heap.size 0 _) (fun b e e2 => HNE.out b e e2))).mono ?_; rintro e w4 ⟨rfl, q4⟩; have hE4 := (TK.out.e.set 0 (.int .i64 3) ⟨3, [], 0, 0, 0, 0⟩ nilS rfl).q q4; have X4 := hid (And.intro ((TK.out.h.keep (keepSet _ w.heap.size 0 (.int .i64 3)) (fun e => hlt e.symm) (fun b e e2 => hSN2.out b e e2)).q q4) ((TK.out.k.setCell w.heap.size 0 (.int .i64 3) (.inr (Nat.le_refl _))).trans (Keep.ofQ q4))); have i2 := hE4.c2; have i3 := hE4.c3; have i4 := hE4.c4; have j2 := hE4.f 2; have j3 := hE4.f 3; have j4 := hE4.f 4; have m9 := X4.out.1.c9; have n9 := X4.out.1.f 9; clear q4))
      generalize hR : Code.region 12 _ true = CC
      have eR : CC = Code.region 12 (RofN Try.f31 12) true := hR.symm.trans (by kernel_rfl)
      clear hR
      subst eR
      have hE5 := ((hE4.set 2 (.int .i64 a0) ⟨3, [], a0, 0, 0, 0⟩ nilS rfl).set 3 (.int .i64 a1) ⟨3, [], a0, a1, 0, 0⟩ nilS rfl).set 4 (.int .i64 a2) ⟨3, [], a0, a1, a2, 0⟩ nilS rfl
      have K5 := hid (((keepSet w4 w.heap.size 2 (.int .i64 a0)).trans (keepSet _ w.heap.size 3 (.int .i64 a1))).trans (keepSet _ w.heap.size 4 (.int .i64 a2)))
      have X5 := hid (X4.out.1.keep K5.out (fun e => hlt e.symm) (fun b e e2 => hSN2.out b e e2))
      have hE6 := hE5.keep (keepSet _ rb 9 (.int .i64 ae)) (fun e => hlt e)
      have X6 := hid (X5.out.set 9 (.int .i64 ae) { adv H (tkN H) with fault := ae } rfl rfl)
      have K6 := hid ((X4.out.2.trans' K5.out (fun i hi e => by omega)).trans (keepSet _ rb 9 (.int .i64 ae)))
      refine tk12 rb w.heap.size ⟨3, [], a0, a1, a2, 0⟩ nilS ae _ _ hE6 X6.out.c9 ?_
      intro W qW
      have HX := hid qW
      clear i2 i3 i4 j2 j3 j4 m9 n9 qW
      by_cases hae : ae = 0
      · subst hae
        go_wp2
        refine bodyPost_ret (results31 _ _ w.heap.size ⟨3, [], a0, a1, a2, 0⟩ nilS _ rfl rfl (hE6.q HX.out)) rfl ?_
        rw [HE.out]
        exact ⟨s2, X6.out.q HX.out, K6.out.trans (Keep.ofQ HX.out), TK.out.f, ⟨3, [], a0, a1, a2, 0⟩, nilS, rfl, fun x e => by cases e; exact ⟨rfl, sub_nil _ _ _, new_nil _⟩⟩
      · have haeb : (ae == 0) = false := beq_eq_false_iff_ne.2 hae
        go_wp2
        refine bodyPost_ret (results31 _ _ w.heap.size ⟨3, [], a0, a1, a2, 0⟩ nilS _ rfl rfl (hE6.q HX.out)) rfl ?_
        rw [show tak H = (none, { adv H (tkN H) with fault := ae }) from by rw [HE.out, if_neg hae]]
        exact ⟨s2, X6.out.q HX.out, K6.out.trans (Keep.ofQ HX.out), TK.out.f, ⟨3, [], a0, a1, a2, 0⟩, nilS, by first | rfl | (rw [haeb]; rfl), fun x e => by cases e⟩
    by_cases h7 : H.fr = 7 ∨ H.fr = 13
    · have HE := hid (show tak H = ((if (numE (H.held.take (tkN H))).2 = 0 ∧ H.fr = 7 then some ⟨4, [], 0, 0, 0, (numE (H.held.take (tkN H))).1⟩ else none), { adv H (tkN H) with fault := (numE (H.held.take (tkN H))).2 }) by unfold tak; rw [if_neg h0, if_neg h1, if_neg h4, if_pos h7]; rfl)
      have hne : (numE (H.held.take (tkN H))).2 = 0 ∨ (numE (H.held.take (tkN H))).2 = 54 := by unfold numE; split; exact .inr rfl; exact .inl rfl
      have b0 : (H.fr == 0) = false := beq_eq_false_iff_ne.2 h0
      have b1 : (H.fr == 1) = false := beq_eq_false_iff_ne.2 h1
      have b4 : (H.fr == 4) = false := beq_eq_false_iff_ne.2 h4
      obtain ⟨an, ae, hSE⟩ : ∃ an ae, numE (H.held.take (tkN H)) = (an, ae) := ⟨_, _, rfl⟩
      rw [hSE] at HE HNU hne
      dsimp only at HE HNU hne
      have G6 := hid g6
      have key : ∀ x7 : Bool, (H.fr == 7) = x7 → (x7 = true ∨ (x7 = false ∧ (H.fr == 13) = true)) := by
        intro x7 e
        rcases h7 with h | h
        · exact .inl (by rw [← e, h]; rfl)
        · exact .inr ⟨by rw [← e, h]; rfl, by rw [h]; rfl⟩
      obtain ⟨x7, hx7⟩ : ∃ x7, (H.fr == 7) = x7 := ⟨_, rfl⟩
      have kc := key x7 hx7
      have HX7 := hid hx7
      have HH7 := hid h7
      clear h0 h1 h4 h7 HCL HST key
      rcases kc with rfl | ⟨rfl, b13⟩
      all_goals
        go_wp2_with (first
          | (go_at_call 43; refine (HNU.out _ (TK.out.g.keep (keepSet _ w.heap.size 0 _) (fun b e e2 => HNE.out b e e2))).mono ?_; rintro e w4 ⟨rfl, rfl⟩; have hE4 := (TK.out.e.set 0 (.int .i64 4) ⟨4, [], 0, 0, 0, 0⟩ nilS rfl); have X4 := hid (And.intro (TK.out.h.keep (keepSet _ w.heap.size 0 (.int .i64 4)) (fun e => hlt e.symm) (fun b e e2 => hSN2.out b e e2)) (TK.out.k.setCell w.heap.size 0 (.int .i64 4) (.inr (Nat.le_refl _)))); have i5 := hE4.c5; have j5 := hE4.f 5; have m9 := X4.out.1.c9; have n9 := X4.out.1.f 9))
        generalize hR : Code.region 17 _ true = CC
        have eR : CC = Code.region 17 (RofN Try.f31 17) true := hR.symm.trans (by kernel_rfl)
        clear hR
        subst eR
        have hE5 := hE4.set 5 (.int .i64 an) ⟨4, [], 0, 0, 0, an⟩ nilS rfl
        have K5 := hid (keepSet (((wc.setCell ⟨rb, 7, none⟩ (.int .i64 (H.left - tkN H))).setCell ⟨rb, 5, none⟩ (.bool (decide ((tkN H : Int) < H.left)))).setCell ⟨w.heap.size, 0, none⟩ (.int .i64 4)) w.heap.size 5 (.int .i64 an))
        have X5 := hid (X4.out.1.keep K5.out (fun e => hlt e.symm) (fun b e e2 => hSN2.out b e e2))
        have hE6 := hE5.keep (keepSet _ rb 9 (.int .i64 ae)) (fun e => hlt e)
        have X6 := hid (X5.out.set 9 (.int .i64 ae) { adv H (tkN H) with fault := ae } rfl rfl)
        have K6 := hid ((X4.out.2.trans' K5.out (fun i hi e => by omega)).trans (keepSet _ rb 9 (.int .i64 ae)))
        rcases hne with rfl | rfl
        · refine tk17 rb w.heap.size ⟨4, [], 0, 0, 0, an⟩ nilS H.fr _ _ hE6 X6.out.c9 X6.out.c6 ?_
          intro W qW
          have HX := hid qW
          clear i5 j5 m9 n9 qW
          go_wp2
          refine bodyPost_ret (results31 _ _ w.heap.size ⟨4, [], 0, 0, 0, an⟩ nilS _ rfl rfl (hE6.q HX.out)) rfl ?_
          first
            | (have hfr : H.fr = 7 := eq_of_beq HX7.out
               rw [show tak H = (some ⟨4, [], 0, 0, 0, an⟩, { adv H (tkN H) with fault := 0 }) from by rw [HE.out, if_pos (by first | exact ⟨rfl, hfr⟩ | exact ⟨trivial, hfr⟩ | exact hfr)]]
               exact ⟨s2, X6.out.q HX.out, K6.out.trans (Keep.ofQ HX.out), TK.out.f, ⟨4, [], 0, 0, 0, an⟩, nilS, by first | rfl | (rw [HX7.out]; rfl), fun x e => by cases e; exact ⟨rfl, sub_nil _ _ _, new_nil _⟩⟩)
            | (have hfr : ¬ H.fr = 7 := fun h => by have := HX7.out; rw [h] at this; cases this
               rw [show tak H = (none, { adv H (tkN H) with fault := 0 }) from by rw [HE.out, if_neg (by first | exact fun h => hfr h.2 | exact hfr)]]
               exact ⟨s2, X6.out.q HX.out, K6.out.trans (Keep.ofQ HX.out), TK.out.f, ⟨4, [], 0, 0, 0, an⟩, nilS, by first | rfl | (rw [HX7.out]; rfl), fun x e => by cases e⟩)
        · refine tk17b rb w.heap.size ⟨4, [], 0, 0, 0, an⟩ nilS _ _ hE6 X6.out.c9 ?_
          intro W qW
          have HX := hid qW
          clear i5 j5 m9 n9 qW
          go_wp2
          refine bodyPost_ret (results31 _ _ w.heap.size ⟨4, [], 0, 0, 0, an⟩ nilS _ rfl rfl (hE6.q HX.out)) rfl ?_
          rw [show tak H = (none, { adv H (tkN H) with fault := 54 }) from by rw [HE.out, if_neg (fun h => by cases h.1)]]
          exact ⟨s2, X6.out.q HX.out, K6.out.trans (Keep.ofQ HX.out), TK.out.f, ⟨4, [], 0, 0, 0, an⟩, nilS, rfl, fun x e => by cases e⟩
    · have HE := hid (show tak H = (none, adv H (tkN H)) by unfold tak; rw [if_neg h0, if_neg h1, if_neg h4, if_neg h7]; rfl)
      have b0 : (H.fr == 0) = false := beq_eq_false_iff_ne.2 h0
      have b1 : (H.fr == 1) = false := beq_eq_false_iff_ne.2 h1
      have b4 : (H.fr == 4) = false := beq_eq_false_iff_ne.2 h4
      have b7 : (H.fr == 7) = false := beq_eq_false_iff_ne.2 (fun h => h7 (.inl h))
      have b13 : (H.fr == 13) = false := beq_eq_false_iff_ne.2 (fun h => h7 (.inr h))
      have hE4 := TK.out.e
      clear h0 h1 h4 h7 HCL HST HNU d0 d2 d3 d4 d5 p0
      go_wp2_with (refine wpList_store_row rfl 41 _ _ rfl w.heap.size (eC ev0 nilS) rfl rfl 41 _ hE4 info41 rfl (one41 _ _) ?_)
      refine bodyPost_ret (results31 _ _ w.heap.size ev0 nilS _ rfl rfl (hE4.put _ _)) rfl ?_
      rw [HE.out]
      have hpt := tk_put TK.out.h TK.out.k hlt hSN2.out (eC ev0 nilS)
      exact ⟨s2, hpt.1, hpt.2, TK.out.f, ev0, nilS, rfl, fun x e => by cases e⟩
end Go.Proofs.Ytdlefmlienfjhaa
