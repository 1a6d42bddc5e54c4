/-
  What take does: a contract that the statements' walks use.
-/
import Derived.Test.YtjhihcmemnhbbaaNum
namespace Go.Proofs.Ytjhihcmemnhbbaa
open Go.RowKit
set_option linter.unusedVariables false
set_option maxRecDepth 20000

def kp (pr : Pk → Bool) (l : List Pk) (j : Nat) : List Pk := (l.take j).filter (fun p => !pr p)
def tk (pr : Pk → Bool) (l : List Pk) (j : Nat) : List Pk := (l.take j).filter pr
theorem kp_len (pr : Pk → Bool) (l : List Pk) (j : Nat) : (kp pr l j).length ≤ j := by
  unfold kp
  have := List.length_filter_le (fun p => !pr p) (l.take j)
  simp at this; omega
theorem kp_yes {pr : Pk → Bool} {l : List Pk} {j : Nat} (h : j < l.length) (hp : pr (l.getD j noPk) = true) : kp pr l (j + 1) = kp pr l j ∧ tk pr l (j + 1) = tk pr l j ++ [l.getD j noPk] := by
  unfold kp tk
  rw [take_succ_at (d := noPk) h, List.filter_append, List.filter_append]
  generalize l.getD j noPk = p at *
  simp [hp]
theorem kp_no {pr : Pk → Bool} {l : List Pk} {j : Nat} (h : j < l.length) (hp : pr (l.getD j noPk) = false) : kp pr l (j + 1) = kp pr l j ++ [l.getD j noPk] ∧ tk pr l (j + 1) = tk pr l j := by
  unfold kp tk
  rw [take_succ_at (d := noPk) h, List.filter_append, List.filter_append]
  generalize l.getD j noPk = p at *
  simp [hp]

/-- What holds behind j packets: what is kept stands ahead of the packets that were there. -/
structure TInv (w : World) (d : Sv) (pr : Pk → Bool) (l : List Pk) (j : Nat) (wr : World) (t : Sv) : Prop where
  row : RowP wr d (kp pr l j ++ l.drop (kp pr l j).length)
  tkn : RowP wr t (tk pr l j)
  new : ∀ b, blk t.a = some b → w.heap.size ≤ b
  keep : Keep (fun b => blk d.a = some b) w wr

theorem TInv.yes {w wr w2 : World} {d t t2 : Sv} {pr : Pk → Bool} {l : List Pk} {j : Nat} (h : TInv w d pr l j wr t) (hj : j < l.length) (hp : pr (l.getD j noPk) = true) (hd : ∀ b, blk d.a = some b → b < w.heap.size)
    (hk : Keep (fun b => blk t.a = some b) wr w2) (hr : RowP w2 t2 (tk pr l j ++ [l.getD j noPk])) (hb : ∀ b, blk t2.a = some b → blk t.a = some b ∨ wr.heap.size ≤ b) : TInv w d pr l (j + 1) w2 t2 := by
  have e := kp_yes hj hp
  refine ⟨?_, by rw [e.2]; exact hr, fun b e1 => ?_, ?_⟩
  · rw [e.1]; exact h.row.keep hk (fun b e1 e2 => by have := hd b e1; have := h.new b e2; omega)
  · rcases hb b e1 with e2 | e2
    · exact h.new b e2
    · have := h.keep.size; omega
  · exact h.keep.trans' hk (fun i hi e1 => by have := h.new i e1; omega)
theorem TInv.no {w wr w2 : World} {d t : Sv} {pr : Pk → Bool} {l : List Pk} {j : Nat} (h : TInv w d pr l j wr t) (hj : j < l.length) (hp : pr (l.getD j noPk) = false) (hd : ∀ b, blk d.a = some b → b < w.heap.size)
    (hk : Keep (fun b => blk d.a = some b) wr w2) (hr : RowP w2 d (kp pr l j ++ l.getD j noPk :: l.drop ((kp pr l j).length + 1))) : TInv w d pr l (j + 1) w2 t := by
  have e := kp_no hj hp
  refine ⟨?_, ?_, h.new, h.keep.trans hk⟩
  · rw [e.1]; simpa using hr
  · rw [e.2]; exact h.tkn.keep hk (fun b e1 e2 => by have := hd b e2; have := h.new b e1; omega)
theorem TInv.q {w wr w2 : World} {d t : Sv} {pr : Pk → Bool} {l : List Pk} {j : Nat} (h : TInv w d pr l j wr t) (q : Q wr w2) : TInv w d pr l j w2 t :=
  ⟨h.row.q q, h.tkn.q q, h.new, h.keep.trans (Keep.ofQ q)⟩

/-- What take answers and leaves. -/
def TkAns (w : World) (rb : Nat) (r : Nat → Sv) (S : Lo) (k : Nat) (pr : Pk → Bool) (l : List Pk) (e : Ending) (w' : World) : Prop :=
  ∃ t r', e = .returned (.slice t.a t.n t.c) ∧ RowP w' t (l.filter pr) ∧ Wr w w' rb r r' (S.put k { S.sp k with out := l.filter (fun p => !pr p) }) ∧ (∀ b, blk t.a = some b → w.heap.size ≤ b) ∧ ∀ b, Fp rb r' b → Fp rb r b
theorem fp_same {rb i : Nat} {r : Nat → Sv} {d : Sv} (hi : i < 6) (e : blk d.a = blk (r i).a) : ∀ b, Fp rb (updr r i d) b → Fp rb r b := by
  rintro b (rfl | ⟨j, hj, e1⟩)
  · exact .inl rfl
  · by_cases h : j = i
    · subst h; rw [updr_same] at e1; exact .inr ⟨j, hj, by rw [← e]; exact e1⟩
    · rw [updr_other r d h] at e1; exact .inr ⟨j, hj, e1⟩

set_option maxHeartbeats 4000000 in
theorem takeA_any {w : World} {rb : Nat} {r : Nat → Sv} {S : Lo} (h : La w rb r S) {k : Nat} (hk : k < 3) (hf : (S.sp k).out.length ≤ 4096) (x1 : Nat) (pr : Pk → Bool)
    (hcall : ∀ (u : World) (p : Pk), p ∈ (S.sp k).out → Keep (fun b => blk (r (2 * k)).a = some b) w u → Calls Try.prog 28 #[Value.agg #[.int .i64 p.n, .int .i64 p.s, .int .i64 p.a, .bool p.e], .pointer (some ⟨x1, 0, none⟩)] u fun e u' => e = .returned (.bool (pr p)) ∧ Q u u') :
    Calls Try.prog 27 #[.pointer (some ⟨rb, 2 + k * 5, none⟩), .func (.func 28) #[] #[.pointer (some ⟨x1, 0, none⟩)]] w fun e w' => TkAns w rb r S k pr (S.sp k).out e w' := by
  have c := h.hd.out hk
  have ht := h.rs.o k hk
  have hl := ht.len
  have hd := h.rs.lt (i := 2 * k) (by omega)
  have hne := h.rs.far (2 * k) (by omega)
  have H := hid h
  have HC := hid hcall
  obtain ⟨l, hll⟩ : ∃ l, l = (S.sp k).out := ⟨_, rfl⟩
  rw [← hll] at HC hl ht hf
  have HD := hid hd
  have HLL := hid hll
  have HNE := hid hne
  rw [← hll]
  clear h hcall hd hll hne
  obtain ⟨dd, hdd⟩ : ∃ dd, dd = r (2 * k) := ⟨_, rfl⟩
  rw [← hdd] at c ht hl HD HC HNE
  have HDD := hid hdd
  clear hdd
  obtain ⟨a, n, cc⟩ := dd
  simp only at hl
  have HT := hid ht
  have HL := hid hl
  have hn : n ≤ 4096 := by omega
  have hcap := ht.cap
  have T0 := hid (show TInv w ⟨a, n, cc⟩ pr l 0 w nilS from ⟨by simpa [kp] using ht, sub_nil w 73 4, fun b e => by simp [nilS, blk] at e, Keep.refl _ _⟩)
  clear ht hl hf
  go_enter Try.func27, Try.ntmps27
  go_wp2
  go_loopw [5, 6, 19] (fun tv kv i wr => ∃ (j : Nat) (t : Sv), j ≤ n ∧ i = .int .i64 j ∧ tv = .slice t.a t.n t.c ∧ kv = .slice a (kp pr l j).length cc ∧ TInv w ⟨a, n, cc⟩ pr l j wr t) (fun _ _ i _ => n - (intOf i).toNat)
  case atStart => exact ⟨0, nilS, Nat.zero_le _, rfl, rfl, by simp [kp], T0.out⟩
  case round =>
    obtain ⟨j, t, hj, rfl, rfl, rfl, hT⟩ := hrel
    have HTI := hid hT
    by_cases hlt : j < n
    · have hlt' : (j : Int) < (n : Int) := by omega
      have hjl : j < l.length := by rw [HL.out]; exact hlt
      have hkl := kp_len pr l j
      obtain ⟨g, o2, rfl, _, hs⟩ := RowP.at_ (d := ⟨a, n, cc⟩) hT.row (k := j) hlt
      have hel : (kp pr l j ++ l.drop (kp pr l j).length).getD j noPk = l.getD j noPk := by
        rw [List.getD_eq_getElem?_getD, List.getD_eq_getElem?_getD, List.getElem?_append_right hkl, List.getElem?_drop]
        congr 2; omega
      rw [hel] at hs
      have hmem : l.getD j noPk ∈ l := by
        rw [List.getD_eq_getElem?_getD, List.getElem?_eq_getElem hjl]; exact List.getElem_mem _
      have c0 := hs.c0
      have c1 := hs.c1
      have c2 := hs.c2
      have c3 := hs.c3
      have hwi : IntKind.i64.wrap ((j : Int) + 1) = ((j + 1 : Nat) : Int) := by rw [IntKind.wrap_i64]; omega
      have hqa : Q wr (wr.alloc (.cells #[.int .i64 (l.getD j noPk).n, .int .i64 (l.getD j noPk).s, .int .i64 (l.getD j noPk).a, .bool (l.getD j noPk).e] 73)) := (Q.refl wr).alloc _
      have hbx : (wr.alloc (.cells #[.int .i64 (l.getD j noPk).n, .int .i64 (l.getD j noPk).s, .int .i64 (l.getD j noPk).a, .bool (l.getD j noPk).e] 73)).heap[wr.heap.size]? = some (.cells #[.int .i64 (l.getD j noPk).n, .int .i64 (l.getD j noPk).s, .int .i64 (l.getD j noPk).a, .bool (l.getD j noPk).e] 73 (0, 0)) := heap_alloc_new wr _
      have CL := hid (HC.out _ _ hmem (hT.keep.trans (Keep.ofQ hqa)))
      have TA := hid (hT.q hqa)
      have HBX := hid hbx
      have HJL := hid hjl
      have HKL := hid hkl
      have CAP := hid (Sub.cap hT.row)
      clear hs hqa hbx hT hel hmem hkl hjl HC
      cases hp : pr (l.getD j noPk)
      · rw [hp] at CL
        have HP := hid hp
        clear hp
        obtain ⟨p, hpp⟩ : ∃ p, p = l.getD j noPk := ⟨_, rfl⟩
        rw [← hpp] at c0 c1 c2 c3 CL TA HBX HP
        have HPP := hid hpp
        clear hpp
        go_wp2_with fail
        refine CL.out.mono ?_
        rintro e w1 ⟨rfl, q1⟩
        have T1 := TA.out.q q1
        have hb1 := (Below.block q1 _ (lt_of_block HBX.out)).trans HBX.out
        have d0 : w1.cell? ⟨wr.heap.size, 0, none⟩ = some (.int .i64 p.n) := by rw [cell_of_row _ _ _ _ 73 (0, 0) hb1]; rfl
        have d1 : w1.cell? ⟨wr.heap.size, 1, none⟩ = some (.int .i64 p.s) := by rw [cell_of_row _ _ _ _ 73 (0, 0) hb1]; rfl
        have d2 : w1.cell? ⟨wr.heap.size, 2, none⟩ = some (.int .i64 p.a) := by rw [cell_of_row _ _ _ _ 73 (0, 0) hb1]; rfl
        have d3 : w1.cell? ⟨wr.heap.size, 3, none⟩ = some (.bool p.e) := by rw [cell_of_row _ _ _ _ 73 (0, 0) hb1]; rfl
        have hdr : l.drop (kp pr l j).length = l.getD (kp pr l j).length noPk :: l.drop ((kp pr l j).length + 1) := by
          have h1 : (kp pr l j).length < l.length := by have := HKL.out; have := HJL.out; omega
          rw [List.drop_eq_getElem_cons h1, List.getD_eq_getElem?_getD, List.getElem?_eq_getElem h1]; rfl
        have hrow := T1.row
        rw [hdr] at hrow
        obtain ⟨w2, hr2, hrow2, hk2⟩ := rowP_over (d := ⟨some ⟨g, o2, none⟩, n, cc⟩) p _ hrow
        have REL := hid (show TInv w ⟨some ⟨g, o2, none⟩, n, cc⟩ pr l (j + 1) w2 t from T1.no HJL.out (by rw [← HPP.out]; exact HP.out) HD.out hk2 (by rw [← HPP.out]; exact hrow2))
        have KL := hid (show (kp pr l (j + 1)).length = (kp pr l j).length + 1 by rw [(kp_no HJL.out (by rw [← HPP.out]; exact HP.out)).1]; simp)
        clear T1 hb1 q1 hrow hrow2 hk2 hdr
        simp only at hr2
        generalize (kp pr l j).length = K at *
        go_wp2_with (at_builtin; refine Lib.wpList_append_run _ rfl _ _ _ _ rfl _ _ rfl rfl _ _ hr2 ?_)
        go_roundw
        case rel => exact ⟨j + 1, t, by omega, by go_num, rfl, by rw [KL.out], REL.out⟩
        case measure => simp [intOf]; omega
      · rw [hp] at CL
        have HP := hid hp
        clear hp
        obtain ⟨p, hpp⟩ : ∃ p, p = l.getD j noPk := ⟨_, rfl⟩
        rw [← hpp] at c0 c1 c2 c3 CL TA HBX HP
        have HPP := hid hpp
        clear hpp
        go_wp2_with fail
        refine CL.out.mono ?_
        rintro e w1 ⟨rfl, q1⟩
        have T1 := TA.out.q q1
        have hb1 := (Below.block q1 _ (lt_of_block HBX.out)).trans HBX.out
        have d0 : w1.cell? ⟨wr.heap.size, 0, none⟩ = some (.int .i64 p.n) := by rw [cell_of_row _ _ _ _ 73 (0, 0) hb1]; rfl
        have d1 : w1.cell? ⟨wr.heap.size, 1, none⟩ = some (.int .i64 p.s) := by rw [cell_of_row _ _ _ _ 73 (0, 0) hb1]; rfl
        have d2 : w1.cell? ⟨wr.heap.size, 2, none⟩ = some (.int .i64 p.a) := by rw [cell_of_row _ _ _ _ 73 (0, 0) hb1]; rfl
        have d3 : w1.cell? ⟨wr.heap.size, 3, none⟩ = some (.bool p.e) := by rw [cell_of_row _ _ _ _ 73 (0, 0) hb1]; rfl
        have htl : t.n ≤ 4096 := by
          have h1 := T1.tkn.len
          have h2 : (tk pr l j).length ≤ j := by unfold tk; have := List.length_filter_le pr (l.take j); simp at this; omega
          omega
        obtain ⟨t2, w2, hr2, hrow2, hk2, hb2⟩ := rowP_one p T1.tkn (by omega)
        have REL := hid (show TInv w ⟨some ⟨g, o2, none⟩, n, cc⟩ pr l (j + 1) w2 t2 from T1.yes HJL.out (by rw [← HPP.out]; exact HP.out) HD.out hk2 (by rw [← HPP.out]; exact hrow2) hb2)
        have KL := hid (show (kp pr l (j + 1)).length = (kp pr l j).length by rw [(kp_yes HJL.out (by rw [← HPP.out]; exact HP.out)).1])
        clear T1 hb1 q1 hrow2 hk2 hb2 htl
        generalize (kp pr l j).length = K at *
        obtain ⟨ta, tn, tc⟩ := t
        simp only at hr2
        go_wp2_with (at_builtin; refine Lib.wpList_append_run _ rfl _ _ _ _ rfl _ _ rfl rfl _ _ hr2 ?_)
        go_roundw
        case rel => exact ⟨j + 1, t2, by omega, by go_num, rfl, by rw [KL.out], REL.out⟩
        case measure => simp [intOf]; omega
    · obtain rfl : j = n := by omega
      have hk0 := hT.keep
      have hhd := H.out.hd.keep hk0 (fun e => HNE.out e)
      have cc0 := hhd.out hk
      have ff0 := hhd.free (2 + k * 5)
      rw [← HDD.out] at cc0
      have hall : l.take j = l := List.take_of_length_le (by rw [HL.out]; exact Nat.le_refl _)
      have hfin : kp pr l j = l.filter (fun p => !pr p) := by unfold kp; rw [hall]
      have hft : tk pr l j = l.filter pr := by unfold tk; rw [hall]
      have hrow : RowP wr ⟨a, (kp pr l j).length, cc⟩ (kp pr l j) := by
        have h1 := hT.row
        have h2 : (kp pr l j).length ≤ j := kp_len pr l j
        refine ⟨by rw [flt_len pcl_len], ?_⟩
        rcases h1.2 with ⟨e1, e2, e3⟩ | ⟨g, off, cur, e1, hg, g1, g2, g3, g4⟩
        · simp only at e1 e2 e3
          exact .inl ⟨e1, by simp only; omega, e3⟩
        · simp only at e1 g1 g2 g3 g4
          refine .inr ⟨g, off, cur, e1, hg, by simp only; omega, g2, g3, fun i hi => ?_⟩
          simp only at hi
          rw [g4 i (by omega), flt_append, List.getElem?_append_left (by rw [flt_len pcl_len]; exact hi)]
      have W := H.out.newOut (d := ⟨a, (kp pr l j).length, cc⟩) (l := kp pr l j) hk (by rw [← HDD.out]; exact hk0) hrow (fun b e => .inl (by rw [← HDD.out]; exact e))
      rw [hfin] at W
      have htn := hT.tkn
      rw [hft] at htn
      have hne : ∀ b, blk t.a = some b → b ≠ rb := fun b e e2 => by have := hT.new b e; have := H.out.hd.lt; omega
      have hrt : RowP (wr.setCell ⟨rb, 2 + k * 5, none⟩ (.slice a (kp pr l j).length cc)) t (l.filter pr) := htn.keep ((Keep.refl (fun b => b = rb) wr).setCell rb _ _ (.inl rfl)) (fun b e1 e2 => hne b e1 e2)
      have FIN := hid (And.intro W (And.intro hrt hT.new))
      rw [hfin] at FIN
      clear hT hk0 hhd hall hft hrow W htn hne hrt hj hlt HTI
      rw [hfin]
      clear hfin
      obtain ⟨ta, tn, tc⟩ := t
      generalize (l.filter (fun p => !pr p)).length = K at *
      go_wp2
      go_ret
      exact ⟨⟨ta, tn, tc⟩, _, rfl, FIN.out.2.1, FIN.out.1, FIN.out.2.2, fp_same (by omega) (by rw [← HDD.out])⟩

set_option maxHeartbeats 4000000 in
theorem takeL_any {w : World} {rb : Nat} {r : Nat → Sv} {S : Lo} (h : La w rb r S) {k : Nat} (hk : k < 3) (hf : (S.sp k).out.length ≤ 4096) (x1 x2 x3 : Nat) (pr : Pk → Bool)
    (hcall : ∀ (u : World) (p : Pk), p ∈ (S.sp k).out → Keep (fun b => blk (r (2 * k)).a = some b) w u → Calls Try.prog 44 #[Value.agg #[.int .i64 p.n, .int .i64 p.s, .int .i64 p.a, .bool p.e], .pointer (some ⟨x1, 0, none⟩), .pointer (some ⟨x2, 0, none⟩), .pointer (some ⟨x3, 0, none⟩)] u fun e u' => e = .returned (.bool (pr p)) ∧ Q u u') :
    Calls Try.prog 27 #[.pointer (some ⟨rb, 2 + k * 5, none⟩), .func (.func 44) #[] #[.pointer (some ⟨x1, 0, none⟩), .pointer (some ⟨x2, 0, none⟩), .pointer (some ⟨x3, 0, none⟩)]] w fun e w' => TkAns w rb r S k pr (S.sp k).out e w' := by
  have c := h.hd.out hk
  have ht := h.rs.o k hk
  have hl := ht.len
  have hd := h.rs.lt (i := 2 * k) (by omega)
  have hne := h.rs.far (2 * k) (by omega)
  have H := hid h
  have HC := hid hcall
  obtain ⟨l, hll⟩ : ∃ l, l = (S.sp k).out := ⟨_, rfl⟩
  rw [← hll] at HC hl ht hf
  have HD := hid hd
  have HLL := hid hll
  have HNE := hid hne
  rw [← hll]
  clear h hcall hd hll hne
  obtain ⟨dd, hdd⟩ : ∃ dd, dd = r (2 * k) := ⟨_, rfl⟩
  rw [← hdd] at c ht hl HD HC HNE
  have HDD := hid hdd
  clear hdd
  obtain ⟨a, n, cc⟩ := dd
  simp only at hl
  have HT := hid ht
  have HL := hid hl
  have hn : n ≤ 4096 := by omega
  have hcap := ht.cap
  have T0 := hid (show TInv w ⟨a, n, cc⟩ pr l 0 w nilS from ⟨by simpa [kp] using ht, sub_nil w 73 4, fun b e => by simp [nilS, blk] at e, Keep.refl _ _⟩)
  clear ht hl hf
  go_enter Try.func27, Try.ntmps27
  go_wp2
  go_loopw [5, 6, 19] (fun tv kv i wr => ∃ (j : Nat) (t : Sv), j ≤ n ∧ i = .int .i64 j ∧ tv = .slice t.a t.n t.c ∧ kv = .slice a (kp pr l j).length cc ∧ TInv w ⟨a, n, cc⟩ pr l j wr t) (fun _ _ i _ => n - (intOf i).toNat)
  case atStart => exact ⟨0, nilS, Nat.zero_le _, rfl, rfl, by simp [kp], T0.out⟩
  case round =>
    obtain ⟨j, t, hj, rfl, rfl, rfl, hT⟩ := hrel
    have HTI := hid hT
    by_cases hlt : j < n
    · have hlt' : (j : Int) < (n : Int) := by omega
      have hjl : j < l.length := by rw [HL.out]; exact hlt
      have hkl := kp_len pr l j
      obtain ⟨g, o2, rfl, _, hs⟩ := RowP.at_ (d := ⟨a, n, cc⟩) hT.row (k := j) hlt
      have hel : (kp pr l j ++ l.drop (kp pr l j).length).getD j noPk = l.getD j noPk := by
        rw [List.getD_eq_getElem?_getD, List.getD_eq_getElem?_getD, List.getElem?_append_right hkl, List.getElem?_drop]
        congr 2; omega
      rw [hel] at hs
      have hmem : l.getD j noPk ∈ l := by
        rw [List.getD_eq_getElem?_getD, List.getElem?_eq_getElem hjl]; exact List.getElem_mem _
      have c0 := hs.c0
      have c1 := hs.c1
      have c2 := hs.c2
      have c3 := hs.c3
      have hwi : IntKind.i64.wrap ((j : Int) + 1) = ((j + 1 : Nat) : Int) := by rw [IntKind.wrap_i64]; omega
      have hqa : Q wr (wr.alloc (.cells #[.int .i64 (l.getD j noPk).n, .int .i64 (l.getD j noPk).s, .int .i64 (l.getD j noPk).a, .bool (l.getD j noPk).e] 73)) := (Q.refl wr).alloc _
      have hbx : (wr.alloc (.cells #[.int .i64 (l.getD j noPk).n, .int .i64 (l.getD j noPk).s, .int .i64 (l.getD j noPk).a, .bool (l.getD j noPk).e] 73)).heap[wr.heap.size]? = some (.cells #[.int .i64 (l.getD j noPk).n, .int .i64 (l.getD j noPk).s, .int .i64 (l.getD j noPk).a, .bool (l.getD j noPk).e] 73 (0, 0)) := heap_alloc_new wr _
      have CL := hid (HC.out _ _ hmem (hT.keep.trans (Keep.ofQ hqa)))
      have TA := hid (hT.q hqa)
      have HBX := hid hbx
      have HJL := hid hjl
      have HKL := hid hkl
      have CAP := hid (Sub.cap hT.row)
      clear hs hqa hbx hT hel hmem hkl hjl HC
      cases hp : pr (l.getD j noPk)
      · rw [hp] at CL
        have HP := hid hp
        clear hp
        obtain ⟨p, hpp⟩ : ∃ p, p = l.getD j noPk := ⟨_, rfl⟩
        rw [← hpp] at c0 c1 c2 c3 CL TA HBX HP
        have HPP := hid hpp
        clear hpp
        go_wp2_with fail
        refine CL.out.mono ?_
        rintro e w1 ⟨rfl, q1⟩
        have T1 := TA.out.q q1
        have hb1 := (Below.block q1 _ (lt_of_block HBX.out)).trans HBX.out
        have d0 : w1.cell? ⟨wr.heap.size, 0, none⟩ = some (.int .i64 p.n) := by rw [cell_of_row _ _ _ _ 73 (0, 0) hb1]; rfl
        have d1 : w1.cell? ⟨wr.heap.size, 1, none⟩ = some (.int .i64 p.s) := by rw [cell_of_row _ _ _ _ 73 (0, 0) hb1]; rfl
        have d2 : w1.cell? ⟨wr.heap.size, 2, none⟩ = some (.int .i64 p.a) := by rw [cell_of_row _ _ _ _ 73 (0, 0) hb1]; rfl
        have d3 : w1.cell? ⟨wr.heap.size, 3, none⟩ = some (.bool p.e) := by rw [cell_of_row _ _ _ _ 73 (0, 0) hb1]; rfl
        have hdr : l.drop (kp pr l j).length = l.getD (kp pr l j).length noPk :: l.drop ((kp pr l j).length + 1) := by
          have h1 : (kp pr l j).length < l.length := by have := HKL.out; have := HJL.out; omega
          rw [List.drop_eq_getElem_cons h1, List.getD_eq_getElem?_getD, List.getElem?_eq_getElem h1]; rfl
        have hrow := T1.row
        rw [hdr] at hrow
        obtain ⟨w2, hr2, hrow2, hk2⟩ := rowP_over (d := ⟨some ⟨g, o2, none⟩, n, cc⟩) p _ hrow
        have REL := hid (show TInv w ⟨some ⟨g, o2, none⟩, n, cc⟩ pr l (j + 1) w2 t from T1.no HJL.out (by rw [← HPP.out]; exact HP.out) HD.out hk2 (by rw [← HPP.out]; exact hrow2))
        have KL := hid (show (kp pr l (j + 1)).length = (kp pr l j).length + 1 by rw [(kp_no HJL.out (by rw [← HPP.out]; exact HP.out)).1]; simp)
        clear T1 hb1 q1 hrow hrow2 hk2 hdr
        simp only at hr2
        generalize (kp pr l j).length = K at *
        go_wp2_with (at_builtin; refine Lib.wpList_append_run _ rfl _ _ _ _ rfl _ _ rfl rfl _ _ hr2 ?_)
        go_roundw
        case rel => exact ⟨j + 1, t, by omega, by go_num, rfl, by rw [KL.out], REL.out⟩
        case measure => simp [intOf]; omega
      · rw [hp] at CL
        have HP := hid hp
        clear hp
        obtain ⟨p, hpp⟩ : ∃ p, p = l.getD j noPk := ⟨_, rfl⟩
        rw [← hpp] at c0 c1 c2 c3 CL TA HBX HP
        have HPP := hid hpp
        clear hpp
        go_wp2_with fail
        refine CL.out.mono ?_
        rintro e w1 ⟨rfl, q1⟩
        have T1 := TA.out.q q1
        have hb1 := (Below.block q1 _ (lt_of_block HBX.out)).trans HBX.out
        have d0 : w1.cell? ⟨wr.heap.size, 0, none⟩ = some (.int .i64 p.n) := by rw [cell_of_row _ _ _ _ 73 (0, 0) hb1]; rfl
        have d1 : w1.cell? ⟨wr.heap.size, 1, none⟩ = some (.int .i64 p.s) := by rw [cell_of_row _ _ _ _ 73 (0, 0) hb1]; rfl
        have d2 : w1.cell? ⟨wr.heap.size, 2, none⟩ = some (.int .i64 p.a) := by rw [cell_of_row _ _ _ _ 73 (0, 0) hb1]; rfl
        have d3 : w1.cell? ⟨wr.heap.size, 3, none⟩ = some (.bool p.e) := by rw [cell_of_row _ _ _ _ 73 (0, 0) hb1]; rfl
        have htl : t.n ≤ 4096 := by
          have h1 := T1.tkn.len
          have h2 : (tk pr l j).length ≤ j := by unfold tk; have := List.length_filter_le pr (l.take j); simp at this; omega
          omega
        obtain ⟨t2, w2, hr2, hrow2, hk2, hb2⟩ := rowP_one p T1.tkn (by omega)
        have REL := hid (show TInv w ⟨some ⟨g, o2, none⟩, n, cc⟩ pr l (j + 1) w2 t2 from T1.yes HJL.out (by rw [← HPP.out]; exact HP.out) HD.out hk2 (by rw [← HPP.out]; exact hrow2) hb2)
        have KL := hid (show (kp pr l (j + 1)).length = (kp pr l j).length by rw [(kp_yes HJL.out (by rw [← HPP.out]; exact HP.out)).1])
        clear T1 hb1 q1 hrow2 hk2 hb2 htl
        generalize (kp pr l j).length = K at *
        obtain ⟨ta, tn, tc⟩ := t
        simp only at hr2
        go_wp2_with (at_builtin; refine Lib.wpList_append_run _ rfl _ _ _ _ rfl _ _ rfl rfl _ _ hr2 ?_)
        go_roundw
        case rel => exact ⟨j + 1, t2, by omega, by go_num, rfl, by rw [KL.out], REL.out⟩
        case measure => simp [intOf]; omega
    · obtain rfl : j = n := by omega
      have hk0 := hT.keep
      have hhd := H.out.hd.keep hk0 (fun e => HNE.out e)
      have cc0 := hhd.out hk
      have ff0 := hhd.free (2 + k * 5)
      rw [← HDD.out] at cc0
      have hall : l.take j = l := List.take_of_length_le (by rw [HL.out]; exact Nat.le_refl _)
      have hfin : kp pr l j = l.filter (fun p => !pr p) := by unfold kp; rw [hall]
      have hft : tk pr l j = l.filter pr := by unfold tk; rw [hall]
      have hrow : RowP wr ⟨a, (kp pr l j).length, cc⟩ (kp pr l j) := by
        have h1 := hT.row
        have h2 : (kp pr l j).length ≤ j := kp_len pr l j
        refine ⟨by rw [flt_len pcl_len], ?_⟩
        rcases h1.2 with ⟨e1, e2, e3⟩ | ⟨g, off, cur, e1, hg, g1, g2, g3, g4⟩
        · simp only at e1 e2 e3
          exact .inl ⟨e1, by simp only; omega, e3⟩
        · simp only at e1 g1 g2 g3 g4
          refine .inr ⟨g, off, cur, e1, hg, by simp only; omega, g2, g3, fun i hi => ?_⟩
          simp only at hi
          rw [g4 i (by omega), flt_append, List.getElem?_append_left (by rw [flt_len pcl_len]; exact hi)]
      have W := H.out.newOut (d := ⟨a, (kp pr l j).length, cc⟩) (l := kp pr l j) hk (by rw [← HDD.out]; exact hk0) hrow (fun b e => .inl (by rw [← HDD.out]; exact e))
      rw [hfin] at W
      have htn := hT.tkn
      rw [hft] at htn
      have hne : ∀ b, blk t.a = some b → b ≠ rb := fun b e e2 => by have := hT.new b e; have := H.out.hd.lt; omega
      have hrt : RowP (wr.setCell ⟨rb, 2 + k * 5, none⟩ (.slice a (kp pr l j).length cc)) t (l.filter pr) := htn.keep ((Keep.refl (fun b => b = rb) wr).setCell rb _ _ (.inl rfl)) (fun b e1 e2 => hne b e1 e2)
      have FIN := hid (And.intro W (And.intro hrt hT.new))
      rw [hfin] at FIN
      clear hT hk0 hhd hall hft hrow W htn hne hrt hj hlt HTI
      rw [hfin]
      clear hfin
      obtain ⟨ta, tn, tc⟩ := t
      generalize (l.filter (fun p => !pr p)).length = K at *
      go_wp2
      go_ret
      exact ⟨⟨ta, tn, tc⟩, _, rfl, FIN.out.2.1, FIN.out.1, FIN.out.2.2, fp_same (by omega) (by rw [← HDD.out])⟩
end Go.Proofs.Ytjhihcmemnhbbaa
