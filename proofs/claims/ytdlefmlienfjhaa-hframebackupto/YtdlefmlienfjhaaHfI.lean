/-
  A reader's Next: a contract that the statements' walks use.
-/
import Derived.Test.YtdlefmlienfjhaaHfH
import Derived.Test.YtdlefmlienfjhaaNxR
namespace Go.Proofs.Ytdlefmlienfjhaa
open Go.RowKit
set_option linter.unusedVariables false
set_option maxRecDepth 100000

theorem results14 (tmps : Array Value) (w : World) (eb : Nat) (ev : Ev) (y : Sv) (o : Bool) (f : Int) (h2 : tmps.getD 2 undef = .pointer (some ⟨eb, 0, none⟩)) (h3 : tmps.getD 3 undef = .bool o) (h4 : tmps.getD 4 undef = .int .i64 f) (hb : w.heap[eb]? = some (.cells (eC ev y) 41 (0, 0))) :
    (results Try.f14 tmps).run Try.prog w = .ok (.tuple #[.agg (eC ev y), .bool o, .int .i64 f]) w := by
  have h2' : tmps[2]?.getD undef = .pointer (some ⟨eb, 0, none⟩) := by simpa using h2
  have h3' : tmps[3]?.getD undef = .bool o := by simpa using h3
  have h4' : tmps[4]?.getD undef = .int .i64 f := by simpa using h4
  have c0 : w.cell? ⟨eb, 0, none⟩ = some (.int .i64 ev.k) := by rw [cell_of_row w eb 0 _ 41 (0, 0) hb]; rfl
  have c1 : w.cell? ⟨eb, 1, none⟩ = some (.slice y.a y.n y.c) := by rw [cell_of_row w eb 1 _ 41 (0, 0) hb]; rfl
  have c2 : w.cell? ⟨eb, 2, none⟩ = some (.int .i64 ev.s0) := by rw [cell_of_row w eb 2 _ 41 (0, 0) hb]; rfl
  have c3 : w.cell? ⟨eb, 3, none⟩ = some (.int .i64 ev.s1) := by rw [cell_of_row w eb 3 _ 41 (0, 0) hb]; rfl
  have c4 : w.cell? ⟨eb, 4, none⟩ = some (.int .i64 ev.s2) := by rw [cell_of_row w eb 4 _ 41 (0, 0) hb]; rfl
  have c5 : w.cell? ⟨eb, 5, none⟩ = some (.int .i64 ev.i) := by rw [cell_of_row w eb 5 _ 41 (0, 0) hb]; rfl
  simp [results, Try.f14, go_sem, h2', h3', h4', c0, c1, c2, c3, c4, c5]
/-- So many bytes are held, as the memory has it. -/
def hln (w : World) (rb : Nat) : Nat := match w.cell? ⟨rb, 2, none⟩ with
  | some (.slice _ n _) => n
  | _ => 0
theorem hln_of {w : World} {rb : Nat} {H : Hf} {s : Sv} (h : HI w rb H s) : hln w rb = H.held.length := by unfold hln; rw [h.c2, h.len]
/-- Next's loop. -/
structure NR (w : World) (rb eb : Nat) (H : Hf) (s : Sv) (wr : World) (G : Hf) (t : Sv) (k : Nat) (ev : Ev) (y : Sv) : Prop where
  h : HI wr rb G t
  ok : Hok G
  kp : Keep (fun b => b = rb) w wr
  f : From s t
  e : EB wr eb ev y
  l : G.held.length < k
  m : G.held.length ≤ H.held.length
  n : nxt k G = nxt (H.held.length + 1) H
theorem com_in {H : Hf} (hk : Hok H) (hf : H.fault = 0) (h : (com H).1 = true) : Hin (com H).2 := by
  unfold com at h ⊢
  by_cases hi : H.ins = true
  · rw [if_pos hi]; exact hk.in_ hi hf
  · rw [if_neg hi] at h ⊢
    by_cases he : (ent H).1 = true
    · rw [if_pos he]; exact (ent_in hk he).1
    · rw [if_neg he] at h; cases h
theorem finA_plain {C : Hf} (h : C.fault = 0) (he : C.ended = false) : finA C = C := by
  have h0 : fin0 C = C := by unfold fin0; rw [if_neg (fun h => by rw [he] at h; cases h.2)]
  unfold finA
  rw [h0, if_pos h]
theorem finA_fault {C : Hf} (h : C.fault ≠ 0) : finA C = { C with held := [] } := by
  have h0 : fin0 C = C := by unfold fin0; rw [if_neg (fun x => h x.1)]
  unfold finA
  rw [h0, if_neg h]
theorem finA_end0 {C : Hf} (h : C.fault = 0) (he : C.ended = true) (hf : (fini C).fault = 0) : finA C = fini C := by
  have h0 : fin0 C = fini C := by unfold fin0; rw [if_pos ⟨h, he⟩]
  unfold finA
  rw [h0, if_pos hf]
theorem finA_end1 {C : Hf} (h : C.fault = 0) (he : C.ended = true) (hf : (fini C).fault ≠ 0) : finA C = { fini C with held := [] } := by
  have h0 : fin0 C = fini C := by unfold fin0; rw [if_pos ⟨h, he⟩]
  unfold finA
  rw [h0, if_neg hf]
theorem HI.nil {w : World} {rb : Nat} {H : Hf} {s : Sv} (h : HI w rb H s) : HI (w.setCell ⟨rb, 2, none⟩ (.slice none 0 0)) rb { H with held := [] } nilS :=
  ⟨hC_set h.b 2 _ { H with held := [] } nilS rfl, sub_nil _ _ _, fun b e => by cases e⟩
/-- The end of Next. -/
abbrev NxE (w : World) (rb : Nat) (H : Hf) (s : Sv) : Ending → World → Prop := fun e w' => ∃ s' : Sv, HI w' rb (nxtF H).2 s' ∧ Keep (fun b => b = rb) w w' ∧ From s s' ∧ ∃ (ev : Ev) (y : Sv), e = .returned (.tuple #[.agg (eC ev y), .bool (nxtF H).1.isSome, .int .i64 (if (nxtF H).1.isSome then 0 else (nxtF H).2.fault)]) ∧ (∀ x, (nxtF H).1 = some x → ev = x ∧ Row w' y x.d ∧ New w.heap.size y) ∧ ((nxtF H).1 = none → ev = ev0 ∧ y = nilS)
theorem nx_end {w : World} {rb : Nat} {H : Hf} {s : Sv} {F : Hf} {t : Sv} {u v : World} (hn : nxtF H = (none, F)) (h : HI u rb F t) (k : Keep (fun b => b = rb) w u) (f : From s t) (kv : Keep (fun b => b = w.heap.size) u v) (he : EB v w.heap.size ev0 nilS) (hne : w.heap.size ≠ rb) (hs : ∀ b, blk t.a = some b → b ≠ w.heap.size) :
    NxE w rb H s (.returned (.tuple #[.agg (eC ev0 nilS), .bool false, .int .i64 F.fault])) v := by
  refine ⟨t, ?_, k.trans' kv (fun i hi e => by omega), f, ev0, nilS, ?_, ?_, ?_⟩
  · rw [hn]; exact h.keep kv (fun e => hne e.symm) (fun b e e2 => hs b e e2)
  · rw [hn]; rfl
  · rw [hn]; intro x e; cases e
  · intro _; exact ⟨rfl, rfl⟩
set_option maxHeartbeats 16000000 in
theorem next_any (rb : Nat) (H : Hf) (s : Sv) (w : World) (h : HI w rb H s) (hk : Hok H) (hn : s.n ≤ 140737488355328) :
    Calls Try.prog 14 #[.pointer (some ⟨rb, 0, none⟩)] w (NxE w rb H s) := by
  have hl := h.len
  have hlt : w.heap.size ≠ rb := by have := h.lt; omega
  have HH := hid h
  have HNE := hid (fun (t : Sv) (f : From s t) b (e : blk t.a = some b) => show b ≠ w.heap.size from fun e2 => by have := Sub.lt HH.out.r b (f b e); omega)
  have hw1 : Q w (w.alloc (.cells #[.int .i64 0, .slice none 0 0, .int .i64 0, .int .i64 0, .int .i64 0, .int .i64 0] 41)) := (Q.refl w).alloc _
  have H0 := hid (show NR w rb w.heap.size H s (w.alloc (.cells #[.int .i64 0, .slice none 0 0, .int .i64 0, .int .i64 0, .int .i64 0, .int .i64 0] 41)) H s (H.held.length + 1) ev0 nilS from
    ⟨h.q hw1, hk, (Keep.refl _ w).alloc _, From.refl _, heap_alloc_new w _, Nat.lt_succ_self _, Nat.le_refl _, rfl⟩)
  clear h hw1 hk
  go_enter Try.func14, Try.ntmps14
  go_wp2
  go_loopw [3] (fun v wr => ∃ (b : Bool) (G : Hf) (t : Sv) (k : Nat) (ev : Ev) (y : Sv), v = .bool b ∧ NR w rb w.heap.size H s wr G t k ev y) (fun _ wr => hln wr rb)
  case atStart => exact ⟨false, H, s, H.held.length + 1, ev0, nilS, rfl, H0.out⟩
  case round =>
    obtain ⟨b, G, t, k, ev, y, rfl, hR⟩ := hrel
    have R := hid hR
    clear hR H0
    have c9 := R.out.h.c9
    have hN : nxtF H = (match nxt k G with | (some e, G) => (some e, G) | (none, G) => (none, finA G)) := by rw [R.out.n]; rfl
    obtain ⟨k, rfl⟩ : ∃ k', k = k' + 1 := ⟨k - 1, by have := R.out.l; omega⟩
    have HSN := HNE.out t R.out.f
    by_cases hf : G.fault = 0
    · have HCO := hid (comes_any rb G t wr R.out.h R.out.ok hf (by have := R.out.h.len; have := R.out.m; omega))
      rw [hf] at c9
      have hcl := hid (fun (x : Sv) (fx : From t x) => From.trans R.out.f fx)
      cases hc : (com G).1 with
      | true =>
        have hin := com_in R.out.ok hf hc
        have hst : stp G = (true, (tak (com G).2).1, (tak (com G).2).2) := by unfold stp; rw [if_neg (by omega), if_pos hc]
        have hless := stp_less R.out.ok (by rw [hst])
        rw [hst] at hless
        have hnx : nxt (k + 1) G = (match (tak (com G).2).1 with | some e => (some e, (tak (com G).2).2) | none => nxt k (tak (com G).2).2) := by rw [nxt, hst, if_pos rfl]; rfl
        rw [hnx] at hN
        rw [hc] at HCO
        have HNX := hid (hnx.symm.trans R.out.n)
        have hcle : (com G).2.held.length ≤ G.held.length := by
          unfold com
          split
          · exact Nat.le_refl _
          · split
            · rename_i he; have := (ent_in R.out.ok he).2; show (ent G).2.held.length ≤ _; omega
            · rename_i he; show (ent G).2.held.length ≤ _; rw [(ent_no R.out.ok (by simpa using he)).2.1]; exact Nat.le_refl _
        generalize (com G).2 = C at *
        have HTK := hid (fun u x (hx : HI u rb C x) (hxn : x.n ≤ 140737488355328) => take_any rb C x u hx hin hxn)
        have HLE := hid hless
        have HN := hid hN
        have hRl := R.out.l
        have hRm := R.out.m
        clear hnx hst hin hless hN hf hc
        go_wp2_with (first
          | (go_at_call 30; refine HCO.out.mono ?_; rintro e w2 ⟨x2, rfl, h2, k2, f2⟩; have X2 := hid (And.intro h2 (And.intro (R.out.kp.trans k2) (hcl.out x2 f2))); have E2 := hid (R.out.e.keep k2 (fun e => hlt e)); have hx2 : x2.n ≤ 140737488355328 := (by have := h2.len; omega); clear h2 k2 f2)
          | (go_at_call 31; refine (HTK.out _ x2 X2.out.1 hx2).mono ?_; rintro e w3 ⟨x3, h3, k3, f3, ev3, y3, rfl, hx3⟩; have X3 := hid (And.intro h3 (And.intro (X2.out.2.1.trans k3) (X2.out.2.2.trans f3))); have E3 := hid (E2.out.keep k3 (fun e => hlt e)); have hE3 := E3.out; have Y3 := hid hx3; have S3 := hid (And.intro X2.out.2.1.size (show w.heap.size < w2.heap.size from lt_of_block E2.out)); clear h3 k3 f3 hx3)
          | (refine wpList_store_row rfl 41 _ _ rfl w.heap.size (eC ev3 y3) rfl rfl 41 _ hE3 info41 rfl (one41 _ _) ?_; refine Hid.out ?_))
        refine hid ?_
        have hE4 := hE3.put ev3 y3
        have hpt := tk_put X3.out.1 X3.out.2.1 hlt (HNE.out x3 X3.out.2.2) (eC ev3 y3)
        cases ht : (tak C).1 with
        | some x =>
          rw [ht] at HN
          obtain ⟨rfl, hrow, hnew⟩ := Y3.out x ht
          have hrp := row_put (w := w) hrow (hnew.mono (by have := S3.out.2; omega)) (eC ev3 y3)
          have HRP := hid (And.intro hE4 (And.intro hpt hrp))
          clear hrow hnew hpt hrp ht hE4 hE3
          generalize World.setRow w3 _ _ = w4 at *
          have hE4 := HRP.out.1
          go_wp2_with (first
            | (refine wpList_load_row rfl 41 _ rfl w.heap.size rfl 41 (eC ev3 y3) (0, 0) _ hE4 Try.underlying41 rfl info41 ?_)
            | (refine wpList_store_row rfl 41 _ _ rfl w.heap.size (eC ev3 y3) rfl rfl 41 _ hE4 info41 rfl (one41 _ _) ?_))
          rw [setRow_self hE4]
          refine bodyPost_ret (results14 _ _ w.heap.size ev3 y3 _ _ rfl rfl rfl hE4) rfl ?_
          refine ⟨x3, ?_, HRP.out.2.1.2, X3.out.2.2, ev3, y3, ?_, ?_, ?_⟩
          · rw [HN.out]; exact HRP.out.2.1.1
          · rw [HN.out]; rfl
          · rw [HN.out]; intro x e; cases e; exact ⟨rfl, HRP.out.2.2⟩
          · rw [HN.out]; intro e; cases e
        | none =>
          rw [ht] at HNX HN
          have HRP := hid (And.intro hE4 hpt)
          clear hpt ht hE4 hE3
          generalize World.setRow w3 _ _ = w4 at *
          have hRR : NR w rb w.heap.size H s w4 (tak C).2 x3 k ev3 y3 := ⟨HRP.out.2.1, HLE.out.1, HRP.out.2.2, X3.out.2.2, HRP.out.1, by have := HLE.out.2; (try dsimp only at this); omega, by have := HLE.out.2; (try dsimp only at this); omega, HNX.out⟩
          have HM := hid (show hln w4 rb < hln wr rb from by rw [hln_of hRR.h, hln_of R.out.h]; exact HLE.out.2)
          have HRR := hid hRR
          clear hRR
          go_wp2
          go_roundw
          case rel => exact ⟨false, (tak C).2, x3, k, ev3, y3, rfl, HRR.out⟩
          case measure => exact HM.out
      | false =>
        have hst : stp G = (false, none, (com G).2) := by unfold stp; rw [if_neg (by omega), if_neg (by rw [hc]; simp)]
        have hnx : nxt (k + 1) G = (none, (com G).2) := by rw [nxt, hst, if_neg (by simp)]
        rw [hnx] at hN
        rw [hc] at HCO
        generalize (com G).2 = C at *
        have HN := hid hN
        clear hst hnx hN hf hc
        go_wp2_with (first
          | (go_at_call 30; refine HCO.out.mono ?_; rintro e w2 ⟨x2, rfl, h2, k2, f2⟩; have X2 := hid (And.intro h2 (And.intro (R.out.kp.trans k2) (hcl.out x2 f2))); have E2 := hid (R.out.e.keep k2 (fun e => hlt e)); have d9 := h2.c9; have d3 := h2.c3; have d2 := h2.c2; have f2' := h2.f 2; clear h2 k2 f2; refine Hid.out ?_))
        refine hid ?_
        have HSN := HNE.out x2 X2.out.2.2
        by_cases hcf : C.fault = 0
        · rw [hcf] at d9
          cases he : C.ended with
          | false =>
            rw [he] at d3
            have hF := finA_plain hcf he
            have HF := hid (show nxtF H = (none, C) from by rw [HN.out, hF])
            have HC0 := hid hcf
            clear he hF hcf
            go_wp2_with fail
            generalize hR : Code.region 9 _ true = CC
            have eR : CC = Code.region 9 (RofN Try.f14 9) true := hR.symm.trans (by kernel_rfl)
            clear hR
            subst eR
            refine nx9 rb w.heap.size 0 _ _ (by intro c a d v w h; cases d <;> exact h) ⟨Keep.refl _ _, (by have := HI.c9 (X2.out.1); rw [HC0.out] at this; exact this), ⟨_, _, E2.out⟩, hlt⟩ ?_
            intro v kv ev9
            have HKV := hid (And.intro kv ev9)
            clear kv ev9
            go_wp2
            refine bodyPost_ret (results14 _ _ w.heap.size ev0 nilS _ _ rfl rfl rfl HKV.out.2) rfl ?_
            have hend := nx_end HF.out X2.out.1 X2.out.2.1 (X2.out.2.2) HKV.out.1 HKV.out.2 hlt HSN
            rw [HC0.out] at hend
            exact hend
          | true =>
            rw [he] at d3
            have HFI := hid (finish_any rb C x2 w2 X2.out.1)
            have HE0 := hid he
            have HC0 := hid hcf
            clear he hcf
            go_wp2_with (go_at_call 32; refine HFI.out.mono ?_; rintro e w3 ⟨rfl, h3, k3⟩; have X3 := hid (And.intro h3 (X2.out.2.1.trans k3)); have E3 := hid (E2.out.keep k3 (fun e => hlt e)); have y9 := h3.c9; have y2 := h3.c2; have y2' := h3.f 2; clear h3 k3; refine Hid.out ?_)
            refine hid ?_
            by_cases hff : (fini C).fault = 0
            · have HF := hid (show nxtF H = (none, fini C) from by rw [HN.out, finA_end0 HC0.out HE0.out hff])
              have HFF := hid hff
              rw [hff] at y9
              clear hff
              generalize fini C = F at *
              go_wp2_with fail
              generalize hR : Code.region 9 _ true = CC
              have eR : CC = Code.region 9 (RofN Try.f14 9) true := hR.symm.trans (by kernel_rfl)
              clear hR
              subst eR
              refine nx9 rb w.heap.size 0 _ _ (by intro c a d v w h; cases d <;> exact h) ⟨Keep.refl _ _, (by have := HI.c9 (X3.out.1); rw [HFF.out] at this; exact this), ⟨_, _, E3.out⟩, hlt⟩ ?_
              intro v kv ev9
              have HKV := hid (And.intro kv ev9)
              clear kv ev9
              go_wp2
              refine bodyPost_ret (results14 _ _ w.heap.size ev0 nilS _ _ rfl rfl rfl HKV.out.2) rfl ?_
              have hend := nx_end HF.out X3.out.1 X3.out.2 (X2.out.2.2) HKV.out.1 HKV.out.2 hlt HSN
              rw [HFF.out] at hend
              exact hend
            · have HF := hid (show nxtF H = (none, { fini C with held := [] }) from by rw [HN.out, finA_end1 HC0.out HE0.out hff])
              have hfb : ((fini C).fault != 0) = true := by simp [hff]
              clear hff
              generalize fini C = F at *
              have HNI := hid X3.out.1.nil
              have HKN := hid (X3.out.2.trans (keepSet w3 rb 2 (.slice none 0 0)))
              have HEN := hid (E3.out.keep (keepSet w3 rb 2 (.slice none 0 0)) (fun e => hlt e))
              go_wp2_with fail
              generalize hR : Code.region 9 _ true = CC
              have eR : CC = Code.region 9 (RofN Try.f14 9) true := hR.symm.trans (by kernel_rfl)
              clear hR
              subst eR
              refine nx9 rb w.heap.size _ _ _ (by intro c a d v w h; cases d <;> exact h) ⟨Keep.refl _ _, HI.c9 (HNI.out), ⟨_, _, HEN.out⟩, hlt⟩ ?_
              intro v kv ev9
              have HKV := hid (And.intro kv ev9)
              clear kv ev9
              go_wp2
              refine bodyPost_ret (results14 _ _ w.heap.size ev0 nilS _ _ rfl rfl rfl HKV.out.2) rfl ?_
              have hend := nx_end HF.out HNI.out HKN.out (From.nil s) HKV.out.1 HKV.out.2 hlt (fun b e => by cases e)
              exact hend
        · have hcb : (C.fault == 0) = false := beq_eq_false_iff_ne.2 hcf
          have hcb' : (C.fault != 0) = true := by simp [hcf]
          have HF := hid (show nxtF H = (none, { C with held := [] }) from by rw [HN.out, finA_fault hcf])
          clear hcf
          have HNI := hid X2.out.1.nil
          have HKN := hid (X2.out.2.1.trans (keepSet w2 rb 2 (.slice none 0 0)))
          have HEN := hid (E2.out.keep (keepSet w2 rb 2 (.slice none 0 0)) (fun e => hlt e))
          go_wp2_with fail
          generalize hR : Code.region 9 _ true = CC
          have eR : CC = Code.region 9 (RofN Try.f14 9) true := hR.symm.trans (by kernel_rfl)
          clear hR
          subst eR
          refine nx9 rb w.heap.size _ _ _ (by intro c a d v w h; cases d <;> exact h) ⟨Keep.refl _ _, HI.c9 (HNI.out), ⟨_, _, HEN.out⟩, hlt⟩ ?_
          intro v kv ev9
          have HKV := hid (And.intro kv ev9)
          clear kv ev9
          go_wp2
          refine bodyPost_ret (results14 _ _ w.heap.size ev0 nilS _ _ rfl rfl rfl HKV.out.2) rfl ?_
          have hend := nx_end HF.out HNI.out HKN.out (From.nil s) HKV.out.1 HKV.out.2 hlt (fun b e => by cases e)
          exact hend
    · have hst : stp G = (false, none, G) := by unfold stp; rw [if_pos hf]
      have hnx : nxt (k + 1) G = (none, G) := by rw [nxt, hst, if_neg (by simp)]
      rw [hnx] at hN
      have hcb : (G.fault == 0) = false := beq_eq_false_iff_ne.2 hf
      have hcb' : (G.fault != 0) = true := by simp [hf]
      have HF := hid (show nxtF H = (none, { G with held := [] }) from by rw [hN]; show (none, finA G) = _; rw [finA_fault hf])
      have d2 := R.out.h.c2
      have f2' := R.out.h.f 2
      clear hst hnx hN hf
      have HNI := hid R.out.h.nil
      have HKN := hid (R.out.kp.trans (keepSet wr rb 2 (.slice none 0 0)))
      have HEN := hid (R.out.e.keep (keepSet wr rb 2 (.slice none 0 0)) (fun e => hlt e))
      go_wp2_with fail
      generalize hR : Code.region 9 _ true = CC
      have eR : CC = Code.region 9 (RofN Try.f14 9) true := hR.symm.trans (by kernel_rfl)
      clear hR
      subst eR
      refine nx9 rb w.heap.size _ _ _ (by intro c a d v w h; cases d <;> exact h) ⟨Keep.refl _ _, HI.c9 (HNI.out), ⟨_, _, HEN.out⟩, hlt⟩ ?_
      intro v kv ev9
      have HKV := hid (And.intro kv ev9)
      clear kv ev9
      go_wp2
      refine bodyPost_ret (results14 _ _ w.heap.size ev0 nilS _ _ rfl rfl rfl HKV.out.2) rfl ?_
      have hend := nx_end HF.out HNI.out HKN.out (From.nil s) HKV.out.1 HKV.out.2 hlt (fun b e => by cases e)
      exact hend
end Go.Proofs.Ytdlefmlienfjhaa
