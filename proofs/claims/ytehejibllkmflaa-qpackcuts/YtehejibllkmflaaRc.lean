/-
  The decoder's takeNamed where it refuses: a contract that the statements' walks use.
-/
import Derived.Test.YtehejibllkmflaaRb
namespace Go.Proofs.Ytehejibllkmflaa
open Go.RowKit
set_option linter.unusedVariables false
set_option maxRecDepth 20000

theorem mem_sum {l : List Fd} {f : Fd} (h : f ∈ l) : szF f ≤ sumF l := by
  induction l with
  | nil => cases h
  | cons a r ih =>
    rw [sumF_cons]
    have h1 := sumF_nn r
    have h2 := szF_pos a
    rcases List.mem_cons.1 h with rfl | h
    · omega
    · have := ih h; omega
theorem nam_size {g : Nat} {es : List Fd} {n : Int} {st : Bool} {f : Fd} (hs : sumF es ≤ 100000000) (h : namO g es n st = some f) : (f.1.size : Int) ≤ 100000000 ∧ (f.2.size : Int) ≤ 100000000 := by
  unfold namO at h
  split at h
  · unfold stO at h
    split at h
    · cases h
      have h1 := stN_len n.toNat
      have h2 := stV_len n.toNat
      simp only [str_len]
      omega
    · cases h
  · unfold entO at h
    split at h
    · cases h
    · have := mem_sum (List.mem_of_getElem? h)
      unfold szF at this
      omega
set_option maxHeartbeats 16000000 in
theorem named_bad (db : Nat) (D : Dk) (es : List Fd) (rb : Nat) (x : Sv) (zs : List Int) (p : Nat) (st : Bool) (y : Int) (w : World) (h : TR w db D es rb x zs p) (ho : nmdO D.cap D.gone es zs p st = .bad y) :
    Calls Try.prog 35 #[.pointer (some ⟨db, 0, none⟩), .pointer (some ⟨rb, 0, none⟩), .bool st] w fun e w' => e = .panicked [refP y] ∧ Keep (fun b => b = rb) w w' := by
  unfold nmdO at ho
  cases hn : numO zs p 6 with
  | bad z =>
    rw [hn] at ho
    simp only [TO.bad.injEq] at ho
    subst ho
    have HN := hid (fun u (k : Q w u) => numR_bad rb x zs p 6 z u (h.r.q k) hn)
    clear h hn
    go_enter Try.func35, Try.ntmps35
    go_wp2_with (go_at_call 38; refine (HN.out _ ((Q.refl w).alloc _)).mono ?_; rintro e w1 ⟨rfl, q1⟩)
    exact ⟨rfl, rfl, Keep.ofQ (((Q.refl w).alloc _).trans q1)⟩
  | ok n q1 =>
    rw [hn] at ho
    simp only at ho
    cases ht : txtO zs q1 7 with
    | bad z =>
      rw [ht] at ho
      simp only at ho
      by_cases hz : z = 12
      · rw [if_pos hz] at ho
        simp only [TO.bad.injEq] at ho
        subst ho
        subst hz
        have hnl := num_le h.r.z hn
        have HN := hid (fun u (k : Q w u) => numR_ok rb x zs p 6 n q1 u (h.r.q k) hn hnl.1)
        have HE : Hid (∀ u, TR u db D es rb x zs q1 → Calls Try.prog 41 #[.pointer (some ⟨db, 0, none⟩), .int .i64 n, .bool st] u fun e w' => e = entA (namO D.gone es n st) ∧ Q u w') := hid (fun u k => dent_any db D es n st u k.i k.g hnl.2.2.1 hnl.2.2.2)
        have HTR := hid h
        have hrl := lt_of_block h.r.b
        have hdl := lt_of_block h.i.b
        have hel : ∀ b, blk D.e.a = some b → b < w.heap.size := fun b e => Sub.lt h.i.r b e
        have hrd := h.n
        clear h hn
        generalize namO D.gone es n st = o at *
        have HA := hid (show entA o = .returned (.tuple #[.agg #[.string (o.getD (⟨#[]⟩, ⟨#[]⟩)).1, .string (o.getD (⟨#[]⟩, ⟨#[]⟩)).2], .bool o.isSome]) from rfl)
        rw [HA.out] at HE
        clear HA
        generalize hfn : (o.getD (⟨#[]⟩, ⟨#[]⟩)).1 = fn at *
        generalize hfv : (o.getD (⟨#[]⟩, ⟨#[]⟩)).2 = fv at *
        generalize hob : o.isSome = ob at *
        go_enter Try.func35, Try.ntmps35
        have HBX := hid (heap_alloc_new w (.cells #[.pointer (some ⟨rb, 0, none⟩)] 78))
        have HQ0 := hid ((Q.refl w).alloc (.cells #[.pointer (some ⟨rb, 0, none⟩)] 78))
        go_wp2_with fail
        generalize hW : World.alloc w _ = W0 at *
        clear hW
        refine (HN.out _ HQ0.out).mono ?_
        rintro e w1 ⟨rfl, g1, k1⟩
        have T1 := hid (TR.rd (HTR.out.q HQ0.out) g1 k1 (fun e => hrd e.symm) (fun b e => HTR.out.e b e))
        have K1 := hid (show Keep (fun b => b = rb) w w1 from (Keep.ofQ HQ0.out).trans k1)
        have X1 := hid (show w1.heap[w.heap.size]? = some (.cells #[.pointer (some ⟨rb, 0, none⟩)] 78 (0, 0)) from (k1.block _ (lt_of_block HBX.out) (by omega)).trans HBX.out)
        clear g1 k1 HN HBX HQ0
        go_wp2_with (go_at_call 41; refine (HE.out _ T1.out).mono ?_; rintro e w2 ⟨rfl, q2⟩; refine Hid.out ?_)
        refine hid ?_
        go_wp2_with fail
        have T2 := hid (T1.out.q q2)
        have K2 := hid (show Keep (fun b => b = rb) w w2 from K1.out.trans (Keep.ofQ q2))
        have X2 := hid (blk_q q2 X1.out)
        have hs2 : w.heap.size ≤ w2.heap.size := K2.out.size
        have hx2 := lt_of_block X2.out
        clear q2 T1 K1 X1 HE
        have HF := hid (heap_alloc_new w2 (.cells #[.string fn, .string fv] 23))
        have HQ := hid ((Q.refl w2).alloc (.cells #[.string fn, .string fv] 23))
        generalize hW : World.alloc w2 _ = W2 at *
        clear hW
        have hfs : w2.heap.size < W2.heap.size := lt_of_block HF.out
        generalize hfbn : w2.heap.size = fb at *
        have HR := hid (fun x u => refuse_ok x u)
        have HX := hid (fun x u => refuse_no x u)
        refine (fault54_bad w.heap.size fb rb x zs q1 12 W2 (blk_q HQ.out X2.out) (T2.out.r.q HQ.out) ht).mono ?_
        rintro e w3 ⟨rfl, q3⟩
        have K3 := hid (show Keep (fun b => b = rb) w w3 from (K2.out.trans (Keep.ofQ HQ.out)).trans (Keep.ofQ q3))
        clear q3 T2 K2 X2 HQ HF
        go_wp2_with (first  | (go_at_call 39; refine (HX.out _ _).mono ?_; rintro e w5 ⟨rfl, rfl⟩))
        exact ⟨rfl, rfl, K3.out⟩
      · rw [if_neg hz] at ho
        have e12 : (z == 12) = false := by simp [hz]
        have hz0 : z ≠ 0 := by
          unfold txtO at ht
          split at ht
          · cases ht; omega
          · split at ht
            · cases ht; omega
            · cases ht
        have e0 : (z != 0) = true := by simp [hz0]
        have e0' : (z == 0) = false := by simp [hz0]
        cases hob2 : (namO D.gone es n st).isSome with
        | true =>
          rw [hob2] at ho
          simp only [if_true, TO.bad.injEq] at ho
          subst ho
          have hnl := num_le h.r.z hn
          have HN := hid (fun u (k : Q w u) => numR_ok rb x zs p 6 n q1 u (h.r.q k) hn hnl.1)
          have HE : Hid (∀ u, TR u db D es rb x zs q1 → Calls Try.prog 41 #[.pointer (some ⟨db, 0, none⟩), .int .i64 n, .bool st] u fun e w' => e = entA (namO D.gone es n st) ∧ Q u w') := hid (fun u k => dent_any db D es n st u k.i k.g hnl.2.2.1 hnl.2.2.2)
          have HTR := hid h
          have hrl := lt_of_block h.r.b
          have hdl := lt_of_block h.i.b
          have hel : ∀ b, blk D.e.a = some b → b < w.heap.size := fun b e => Sub.lt h.i.r b e
          have hrd := h.n
          clear h hn
          generalize namO D.gone es n st = o at *
          have HA := hid (show entA o = .returned (.tuple #[.agg #[.string (o.getD (⟨#[]⟩, ⟨#[]⟩)).1, .string (o.getD (⟨#[]⟩, ⟨#[]⟩)).2], .bool o.isSome]) from rfl)
          rw [HA.out] at HE
          clear HA
          generalize hfn : (o.getD (⟨#[]⟩, ⟨#[]⟩)).1 = fn at *
          generalize hfv : (o.getD (⟨#[]⟩, ⟨#[]⟩)).2 = fv at *
          rw [hob2] at HE
          go_enter Try.func35, Try.ntmps35
          have HBX := hid (heap_alloc_new w (.cells #[.pointer (some ⟨rb, 0, none⟩)] 78))
          have HQ0 := hid ((Q.refl w).alloc (.cells #[.pointer (some ⟨rb, 0, none⟩)] 78))
          go_wp2_with fail
          generalize hW : World.alloc w _ = W0 at *
          clear hW
          refine (HN.out _ HQ0.out).mono ?_
          rintro e w1 ⟨rfl, g1, k1⟩
          have T1 := hid (TR.rd (HTR.out.q HQ0.out) g1 k1 (fun e => hrd e.symm) (fun b e => HTR.out.e b e))
          have K1 := hid (show Keep (fun b => b = rb) w w1 from (Keep.ofQ HQ0.out).trans k1)
          have X1 := hid (show w1.heap[w.heap.size]? = some (.cells #[.pointer (some ⟨rb, 0, none⟩)] 78 (0, 0)) from (k1.block _ (lt_of_block HBX.out) (by omega)).trans HBX.out)
          clear g1 k1 HN HBX HQ0
          go_wp2_with (go_at_call 41; refine (HE.out _ T1.out).mono ?_; rintro e w2 ⟨rfl, q2⟩; refine Hid.out ?_)
          refine hid ?_
          go_wp2_with fail
          have T2 := hid (T1.out.q q2)
          have K2 := hid (show Keep (fun b => b = rb) w w2 from K1.out.trans (Keep.ofQ q2))
          have X2 := hid (blk_q q2 X1.out)
          have hs2 : w.heap.size ≤ w2.heap.size := K2.out.size
          have hx2 := lt_of_block X2.out
          clear q2 T1 K1 X1 HE
          have HF := hid (heap_alloc_new w2 (.cells #[.string fn, .string fv] 23))
          have HQ := hid ((Q.refl w2).alloc (.cells #[.string fn, .string fv] 23))
          generalize hW : World.alloc w2 _ = W2 at *
          clear hW
          have hfs : w2.heap.size < W2.heap.size := lt_of_block HF.out
          generalize hfbn : w2.heap.size = fb at *
          have HR := hid (fun x u => refuse_ok x u)
          have HX := hid (fun x u => refuse_no x u)
          refine (fault54_bad w.heap.size fb rb x zs q1 z W2 (blk_q HQ.out X2.out) (T2.out.r.q HQ.out) ht).mono ?_
          rintro e w3 ⟨rfl, q3⟩
          have K3 := hid (show Keep (fun b => b = rb) w w3 from (K2.out.trans (Keep.ofQ HQ.out)).trans (Keep.ofQ q3))
          clear q3 T2 K2 X2 HQ HF
          have R0 := hid (fun x u => refuse_ok x u)
          have R1 := hid (fun x u => refuse_ok x u)
          go_wp2_with (first | (go_at_call 39; refine (R0.out _ _).mono ?_; rintro e w4 ⟨rfl, rfl⟩; clear R0) | (go_at_call 39; refine (R1.out _ _).mono ?_; rintro e w4 ⟨rfl, rfl⟩; clear R1) | (go_at_call 39; refine (HX.out _ _).mono ?_; rintro e w5 ⟨rfl, rfl⟩))
          exact ⟨rfl, rfl, K3.out⟩
        | false =>
          rw [hob2] at ho
          simp only [Bool.false_eq_true, if_false, TO.bad.injEq] at ho
          subst ho
          have hnl := num_le h.r.z hn
          have HN := hid (fun u (k : Q w u) => numR_ok rb x zs p 6 n q1 u (h.r.q k) hn hnl.1)
          have HE : Hid (∀ u, TR u db D es rb x zs q1 → Calls Try.prog 41 #[.pointer (some ⟨db, 0, none⟩), .int .i64 n, .bool st] u fun e w' => e = entA (namO D.gone es n st) ∧ Q u w') := hid (fun u k => dent_any db D es n st u k.i k.g hnl.2.2.1 hnl.2.2.2)
          have HTR := hid h
          have hrl := lt_of_block h.r.b
          have hdl := lt_of_block h.i.b
          have hel : ∀ b, blk D.e.a = some b → b < w.heap.size := fun b e => Sub.lt h.i.r b e
          have hrd := h.n
          clear h hn
          generalize namO D.gone es n st = o at *
          have HA := hid (show entA o = .returned (.tuple #[.agg #[.string (o.getD (⟨#[]⟩, ⟨#[]⟩)).1, .string (o.getD (⟨#[]⟩, ⟨#[]⟩)).2], .bool o.isSome]) from rfl)
          rw [HA.out] at HE
          clear HA
          generalize hfn : (o.getD (⟨#[]⟩, ⟨#[]⟩)).1 = fn at *
          generalize hfv : (o.getD (⟨#[]⟩, ⟨#[]⟩)).2 = fv at *
          rw [hob2] at HE
          go_enter Try.func35, Try.ntmps35
          have HBX := hid (heap_alloc_new w (.cells #[.pointer (some ⟨rb, 0, none⟩)] 78))
          have HQ0 := hid ((Q.refl w).alloc (.cells #[.pointer (some ⟨rb, 0, none⟩)] 78))
          go_wp2_with fail
          generalize hW : World.alloc w _ = W0 at *
          clear hW
          refine (HN.out _ HQ0.out).mono ?_
          rintro e w1 ⟨rfl, g1, k1⟩
          have T1 := hid (TR.rd (HTR.out.q HQ0.out) g1 k1 (fun e => hrd e.symm) (fun b e => HTR.out.e b e))
          have K1 := hid (show Keep (fun b => b = rb) w w1 from (Keep.ofQ HQ0.out).trans k1)
          have X1 := hid (show w1.heap[w.heap.size]? = some (.cells #[.pointer (some ⟨rb, 0, none⟩)] 78 (0, 0)) from (k1.block _ (lt_of_block HBX.out) (by omega)).trans HBX.out)
          clear g1 k1 HN HBX HQ0
          go_wp2_with (go_at_call 41; refine (HE.out _ T1.out).mono ?_; rintro e w2 ⟨rfl, q2⟩; refine Hid.out ?_)
          refine hid ?_
          go_wp2_with fail
          have T2 := hid (T1.out.q q2)
          have K2 := hid (show Keep (fun b => b = rb) w w2 from K1.out.trans (Keep.ofQ q2))
          have X2 := hid (blk_q q2 X1.out)
          have hs2 : w.heap.size ≤ w2.heap.size := K2.out.size
          have hx2 := lt_of_block X2.out
          clear q2 T1 K1 X1 HE
          have HF := hid (heap_alloc_new w2 (.cells #[.string fn, .string fv] 23))
          have HQ := hid ((Q.refl w2).alloc (.cells #[.string fn, .string fv] 23))
          generalize hW : World.alloc w2 _ = W2 at *
          clear hW
          have hfs : w2.heap.size < W2.heap.size := lt_of_block HF.out
          generalize hfbn : w2.heap.size = fb at *
          have HR := hid (fun x u => refuse_ok x u)
          have HX := hid (fun x u => refuse_no x u)
          refine (fault54_bad w.heap.size fb rb x zs q1 z W2 (blk_q HQ.out X2.out) (T2.out.r.q HQ.out) ht).mono ?_
          rintro e w3 ⟨rfl, q3⟩
          have K3 := hid (show Keep (fun b => b = rb) w w3 from (K2.out.trans (Keep.ofQ HQ.out)).trans (Keep.ofQ q3))
          clear q3 T2 K2 X2 HQ HF
          have R0 := hid (fun x u => refuse_ok x u)
          go_wp2_with (first | (go_at_call 39; refine (R0.out _ _).mono ?_; rintro e w4 ⟨rfl, rfl⟩; clear R0) | (go_at_call 39; refine (HX.out _ _).mono ?_; rintro e w5 ⟨rfl, rfl⟩))
          exact ⟨rfl, rfl, K3.out⟩
    | ok s q2 =>
      rw [ht] at ho
      simp only at ho
      cases hf : namO D.gone es n st with
      | none =>
        rw [hf] at ho
        simp only [TO.bad.injEq] at ho
        subst ho
        have hob2 : (namO D.gone es n st).isSome = false := by rw [hf]; rfl
        clear hf
        have hnl := num_le h.r.z hn
        have HN := hid (fun u (k : Q w u) => numR_ok rb x zs p 6 n q1 u (h.r.q k) hn hnl.1)
        have HE : Hid (∀ u, TR u db D es rb x zs q1 → Calls Try.prog 41 #[.pointer (some ⟨db, 0, none⟩), .int .i64 n, .bool st] u fun e w' => e = entA (namO D.gone es n st) ∧ Q u w') := hid (fun u k => dent_any db D es n st u k.i k.g hnl.2.2.1 hnl.2.2.2)
        have HTR := hid h
        have hrl := lt_of_block h.r.b
        have hdl := lt_of_block h.i.b
        have hel : ∀ b, blk D.e.a = some b → b < w.heap.size := fun b e => Sub.lt h.i.r b e
        have hrd := h.n
        clear h hn
        generalize namO D.gone es n st = o at *
        have HA := hid (show entA o = .returned (.tuple #[.agg #[.string (o.getD (⟨#[]⟩, ⟨#[]⟩)).1, .string (o.getD (⟨#[]⟩, ⟨#[]⟩)).2], .bool o.isSome]) from rfl)
        rw [HA.out] at HE
        clear HA
        generalize hfn : (o.getD (⟨#[]⟩, ⟨#[]⟩)).1 = fn at *
        generalize hfv : (o.getD (⟨#[]⟩, ⟨#[]⟩)).2 = fv at *
        rw [hob2] at HE
        go_enter Try.func35, Try.ntmps35
        have HBX := hid (heap_alloc_new w (.cells #[.pointer (some ⟨rb, 0, none⟩)] 78))
        have HQ0 := hid ((Q.refl w).alloc (.cells #[.pointer (some ⟨rb, 0, none⟩)] 78))
        go_wp2_with fail
        generalize hW : World.alloc w _ = W0 at *
        clear hW
        refine (HN.out _ HQ0.out).mono ?_
        rintro e w1 ⟨rfl, g1, k1⟩
        have T1 := hid (TR.rd (HTR.out.q HQ0.out) g1 k1 (fun e => hrd e.symm) (fun b e => HTR.out.e b e))
        have K1 := hid (show Keep (fun b => b = rb) w w1 from (Keep.ofQ HQ0.out).trans k1)
        have X1 := hid (show w1.heap[w.heap.size]? = some (.cells #[.pointer (some ⟨rb, 0, none⟩)] 78 (0, 0)) from (k1.block _ (lt_of_block HBX.out) (by omega)).trans HBX.out)
        clear g1 k1 HN HBX HQ0
        go_wp2_with (go_at_call 41; refine (HE.out _ T1.out).mono ?_; rintro e w2 ⟨rfl, q2⟩; refine Hid.out ?_)
        refine hid ?_
        go_wp2_with fail
        have T2 := hid (T1.out.q q2)
        have K2 := hid (show Keep (fun b => b = rb) w w2 from K1.out.trans (Keep.ofQ q2))
        have X2 := hid (blk_q q2 X1.out)
        have hs2 : w.heap.size ≤ w2.heap.size := K2.out.size
        have hx2 := lt_of_block X2.out
        clear q2 T1 K1 X1 HE
        have HF := hid (heap_alloc_new w2 (.cells #[.string fn, .string fv] 23))
        have HQ := hid ((Q.refl w2).alloc (.cells #[.string fn, .string fv] 23))
        generalize hW : World.alloc w2 _ = W2 at *
        clear hW
        have hfs : w2.heap.size < W2.heap.size := lt_of_block HF.out
        generalize hfbn : w2.heap.size = fb at *
        have HR := hid (fun x u => refuse_ok x u)
        have HX := hid (fun x u => refuse_no x u)
        refine (fault54_ok w.heap.size fb rb x zs q1 s q2 fn fv W2 (blk_q HQ.out X2.out) HF.out (T2.out.r.q HQ.out) ht (txt_le T2.out.r.z ht).1 (by omega) (fun b e => by have := (T2.out.xd b e).2.2; omega)).mono ?_
        rintro e w3 ⟨rfl, f3, g3, k3⟩
        have T3 := hid (TR.rd (T2.out.q HQ.out) g3 k3 (by omega) (fun b e h => by
          rcases h with h | h
          · exact T2.out.e b e h
          · have := hel b e; omega))
        have F3 := hid f3
        have K3 := hid (show Keep (fun b => b = rb) w w3 from (K2.out.trans (Keep.ofQ HQ.out)).trans' k3 (fun i hi e => by
          rcases e with e | e
          · exact e
          · omega))
        clear f3 g3 k3 T2 K2 X2 HQ HF
        have R0 := hid (fun x u => refuse_ok x u)
        go_wp2_with (first | (go_at_call 39; refine (R0.out _ _).mono ?_; rintro e w4 ⟨rfl, rfl⟩; clear R0) | (go_at_call 39; refine (HX.out _ _).mono ?_; rintro e w5 ⟨rfl, rfl⟩))
        exact ⟨rfl, rfl, K3.out⟩
      | some f =>
        obtain ⟨gn, gv⟩ := f
        rw [hf] at ho
        simp only at ho
        unfold insO at ho
        by_cases hcs : D.cap < szF (gn, s)
        · rw [if_pos hcs] at ho
          simp only [TO.bad.injEq] at ho
          subst ho
          have hob2 : (namO D.gone es n st).isSome = true := by rw [hf]; rfl
          have hgn : ((namO D.gone es n st).getD (⟨#[]⟩, ⟨#[]⟩)).1 = gn := by rw [hf]; rfl
          have hgs : (gn.size : Int) ≤ 1000000000 := by have := nam_size h.sb hf; simp only at this; omega
          have hnl := num_le h.r.z hn
          have HN := hid (fun u (k : Q w u) => numR_ok rb x zs p 6 n q1 u (h.r.q k) hn hnl.1)
          have HE : Hid (∀ u, TR u db D es rb x zs q1 → Calls Try.prog 41 #[.pointer (some ⟨db, 0, none⟩), .int .i64 n, .bool st] u fun e w' => e = entA (namO D.gone es n st) ∧ Q u w') := hid (fun u k => dent_any db D es n st u k.i k.g hnl.2.2.1 hnl.2.2.2)
          have HTR := hid h
          have hrl := lt_of_block h.r.b
          have hdl := lt_of_block h.i.b
          have hel : ∀ b, blk D.e.a = some b → b < w.heap.size := fun b e => Sub.lt h.i.r b e
          have hrd := h.n
          clear h hn hf
          generalize namO D.gone es n st = o at *
          have HA := hid (show entA o = .returned (.tuple #[.agg #[.string (o.getD (⟨#[]⟩, ⟨#[]⟩)).1, .string (o.getD (⟨#[]⟩, ⟨#[]⟩)).2], .bool o.isSome]) from rfl)
          rw [HA.out] at HE
          clear HA
          generalize hfn : (o.getD (⟨#[]⟩, ⟨#[]⟩)).1 = fn at *
          generalize hfv : (o.getD (⟨#[]⟩, ⟨#[]⟩)).2 = fv at *
          rw [hob2] at HE
          clear hfn
          subst hgn
          go_enter Try.func35, Try.ntmps35
          have HBX := hid (heap_alloc_new w (.cells #[.pointer (some ⟨rb, 0, none⟩)] 78))
          have HQ0 := hid ((Q.refl w).alloc (.cells #[.pointer (some ⟨rb, 0, none⟩)] 78))
          go_wp2_with fail
          generalize hW : World.alloc w _ = W0 at *
          clear hW
          refine (HN.out _ HQ0.out).mono ?_
          rintro e w1 ⟨rfl, g1, k1⟩
          have T1 := hid (TR.rd (HTR.out.q HQ0.out) g1 k1 (fun e => hrd e.symm) (fun b e => HTR.out.e b e))
          have K1 := hid (show Keep (fun b => b = rb) w w1 from (Keep.ofQ HQ0.out).trans k1)
          have X1 := hid (show w1.heap[w.heap.size]? = some (.cells #[.pointer (some ⟨rb, 0, none⟩)] 78 (0, 0)) from (k1.block _ (lt_of_block HBX.out) (by omega)).trans HBX.out)
          clear g1 k1 HN HBX HQ0
          go_wp2_with (go_at_call 41; refine (HE.out _ T1.out).mono ?_; rintro e w2 ⟨rfl, q2⟩; refine Hid.out ?_)
          refine hid ?_
          go_wp2_with fail
          have T2 := hid (T1.out.q q2)
          have K2 := hid (show Keep (fun b => b = rb) w w2 from K1.out.trans (Keep.ofQ q2))
          have X2 := hid (blk_q q2 X1.out)
          have hs2 : w.heap.size ≤ w2.heap.size := K2.out.size
          have hx2 := lt_of_block X2.out
          clear q2 T1 K1 X1 HE
          have HF := hid (heap_alloc_new w2 (.cells #[.string fn, .string fv] 23))
          have HQ := hid ((Q.refl w2).alloc (.cells #[.string fn, .string fv] 23))
          generalize hW : World.alloc w2 _ = W2 at *
          clear hW
          have hfs : w2.heap.size < W2.heap.size := lt_of_block HF.out
          generalize hfbn : w2.heap.size = fb at *
          have HR := hid (fun x u => refuse_ok x u)
          have HX := hid (fun x u => refuse_no x u)
          refine (fault54_ok w.heap.size fb rb x zs q1 s q2 fn fv W2 (blk_q HQ.out X2.out) HF.out (T2.out.r.q HQ.out) ht (txt_le T2.out.r.z ht).1 (by omega) (fun b e => by have := (T2.out.xd b e).2.2; omega)).mono ?_
          rintro e w3 ⟨rfl, f3, g3, k3⟩
          have T3 := hid (TR.rd (T2.out.q HQ.out) g3 k3 (by omega) (fun b e h => by
            rcases h with h | h
            · exact T2.out.e b e h
            · have := hel b e; omega))
          have F3 := hid f3
          have K3 := hid (show Keep (fun b => b = rb) w w3 from (K2.out.trans (Keep.ofQ HQ.out)).trans' k3 (fun i hi e => by
            rcases e with e | e
            · exact e
            · omega))
          clear f3 g3 k3 T2 K2 X2 HQ HF
          have c0 : w3.cell? ⟨fb, 0, none⟩ = some (.string fn) := by rw [cell_of_row w3 _ 0 _ 23 (0, 0) F3.out]; rfl
          have c1 : w3.cell? ⟨fb, 1, none⟩ = some (.string s) := by rw [cell_of_row w3 _ 1 _ 23 (0, 0) F3.out]; rfl
          have HI := hid (dins_bad db D es (fn, s) w3 T3.out.i hcs hgs (by have := (txt_le T3.out.r.z ht).2.2; show ((s.size : Nat) : Int) ≤ _; omega))
          dsimp only at HI
          clear T3 F3
          go_wp2_with (first | (go_at_call 39; refine (HR.out _ _).mono ?_; rintro e w4 ⟨rfl, rfl⟩) | (go_at_call 37; refine HI.out.mono ?_; rintro e w5 ⟨rfl, q5⟩))
          exact ⟨rfl, rfl, K3.out.trans (Keep.ofQ q5)⟩
        · rw [if_neg hcs] at ho
          cases ho
end Go.Proofs.Ytehejibllkmflaa
