/-
  The four pseudo fields in any order: plain mathematics; a row of fields appended to another; two fields of a row changed.
-/
import Derived.Test.YthefijjdffafkaaDoorClM
import Derived.Test.YthefijjdffafkaaDoorTrW
import Derived.Deep.AppendSrc
namespace Go.Proofs.YthefijjdffafkaaDoor
open Go.RowKit
set_option linter.unusedVariables false
set_option maxRecDepth 20000

theorem RowG.cap {w : World} {x : Sv} {l : List Fd} (h : RowG w x l) : x.n ≤ x.c := by
  rcases h.2 with ⟨_, h1, h2⟩ | ⟨_, _, _, _, _, h1, _⟩
  · omega
  · exact h1
/-- A row of fields behind another. -/
theorem rowG_app {w : World} {d x : Sv} {l r : List Fd} (h : RowG w d l) (hx : RowG w x r) (hb : d.n + x.n ≤ 4398046511104) :
    ∃ d' w', (Builtin.append_ #[22, 22] 22 #[.slice d.a d.n d.c, .slice x.a x.n x.c]).run Tryd.prog w = .ok (.slice d'.a d'.n d'.c) w' ∧ RowG w' d' (l ++ r) ∧ Keep (fun b => blk d.a = some b) w w' ∧ (∀ b, blk d'.a = some b → blk d.a = some b ∨ w.heap.size ≤ b) := by
  obtain ⟨i0, hi, hz0, hz1, hz2⟩ := info_parts info37
  have hmul : (d.n + x.n + (d.n + x.n) / 4 + 192) * 32 ≤ 281474976710656 := by omega
  have hsrc : Src Tryd.prog 2 22 (.slice x.a x.n x.c) x.n (r.flatMap fcl) w := by
    rcases hx.2 with ⟨h1, h2, h3⟩ | ⟨g, off, cur, h1, hg, _, _, _, h4⟩
    · have hr : r.flatMap fcl = [] := List.eq_nil_of_length_eq_zero (by rw [hx.1, h2])
      rw [h1, h2, h3, hr]
      exact Src.ofNil w Tryd.underlying22 0
    · rw [h1]
      refine Src.ofSlice _ Tryd.underlying22 ⟨g, off, none⟩ x.n x.c _ hx.1 (fun j u hj => ?_) (fcl_one r)
      have hj' : j < x.n * 2 := by
        rcases Nat.lt_or_ge j (x.n * 2) with hh | hh
        · exact hh
        · rw [List.getElem?_eq_none (by rw [hx.1]; exact hh)] at hj; cases hj
      rw [addr_add, cell_of_row w g _ cur _ (0, 0) hg, h4 j hj', hj]
  obtain ⟨a', cap', w', hr, h1, h2, h3⟩ := sub_append (P := Tryd.prog) (ty := 22) Tryd.underlying22 hi hz0 hz1 hz2 rfl h hsrc (by unfold maxLen; omega) hmul
  refine ⟨⟨a', d.n + x.n, cap'⟩, w', hr, ?_, h2, fun b hb => ?_⟩
  · show Sub _ _ _ _ _ _ (List.flatMap fcl _)
    rw [List.flatMap_append]; exact h1
  · rcases h3 with h | h
    · exact .inl (by rw [← h]; exact hb)
    · have hb' : blk a' = some b := hb
      rw [h] at hb'
      cases hb'
      exact .inr (Nat.le_refl _)

theorem bd_app {a b : List Fd} (ha : BdF a) (hb : BdF b) : BdF (a ++ b) := fun p hp => by
  rcases List.mem_append.1 hp with h | h
  · exact ha p h
  · exact hb p h
/-- One field of a row changed. -/
theorem fcl_set (l : List Fd) (k : Nat) (p : Fd) : ((l.flatMap fcl).set (k * 2) (.string p.1)).set (k * 2 + 1) (.string p.2) = (l.set k p).flatMap fcl := by
  induction l generalizing k with
  | nil => simp
  | cons q r ih =>
    cases k with
    | zero => simp [fcl]
    | succ k =>
      have e1 : (k + 1) * 2 = k * 2 + 1 + 1 := by omega
      rw [e1]
      simp only [List.flatMap_cons, List.set_cons_succ, fcl, List.cons_append, List.nil_append]
      rw [← ih k]
theorem RowG.put {w : World} {n c : Nat} {l : List Fd} {g off : Nat} (h : RowG w ⟨some ⟨g, off, none⟩, n, c⟩ l) {k : Nat} (hk : k < n) (p : Fd) :
    RowG ((w.setCell ⟨g, off + k * 2, none⟩ (.string p.1)).setCell ⟨g, off + k * 2 + 1, none⟩ (.string p.2)) ⟨some ⟨g, off, none⟩, n, c⟩ (l.set k p) := by
  have h1 := Sub.set h (g := g) (off := off) (j := k * 2) rfl (by show k * 2 < n * 2; omega) (.string p.1)
  have h2 := Sub.set h1 (g := g) (off := off) (j := k * 2 + 1) rfl (by show k * 2 + 1 < n * 2; omega) (.string p.2)
  rw [fcl_set] at h2
  exact h2
/-- The orders of four. -/
def prm : List (List Nat) := [0, 1, 2, 3].flatMap fun a => [0, 1, 2, 3].flatMap fun b => [0, 1, 2, 3].flatMap fun c => [0, 1, 2, 3].flatMap fun d => if [a, b, c, d].eraseDups.length = 4 then [[a, b, c, d]] else []
def qL (π : List Nat) : List Fd := π.map fun i => lineL.getD i (⟨#[]⟩, ⟨#[]⟩)
def swp (π : List Nat) (a b : Nat) : List Nat := (π.set a (π.getD b 0)).set b (π.getD a 0)
theorem swp_in : ∀ π ∈ prm, ∀ a < 4, ∀ b < 4, swp π a b ∈ prm := by decide +kernel
theorem prm_len : ∀ π ∈ prm, π.length = 4 := by decide +kernel
theorem prm_perm : ∀ π ∈ prm, π.isPerm [0, 1, 2, 3] = true := by decide +kernel
theorem prm_fst : ∀ π ∈ prm, fstE (qL π) = 0 := by decide +kernel
theorem prm_siz : ∀ π ∈ prm, sizS (qL π) = sizS lineL := by decide +kernel
theorem prm_pln : ∀ π ∈ prm, plnL (qL π) = [] := by decide +kernel
def sixN : List ByteArray := [kMet, kSch, kAut, kPat, kHos, kLen]
theorem prm_fnd : ∀ π ∈ prm, ∀ n ∈ sixN, fnd (qL π) n = fnd lineL n := by decide +kernel
theorem qL_line : qL [0, 1, 2, 3] = lineL := rfl
theorem qL_any {π : List Nat} (h : π ∈ prm) (f : Fd → Bool) : (qL π).any f = lineL.any f := by
  have hp := List.isPerm_iff.1 (prm_perm π h)
  have hq : (qL π).Perm lineL := by rw [← qL_line]; exact hp.map _
  cases hl : lineL.any f with
  | true =>
    rw [List.any_eq_true] at hl ⊢
    obtain ⟨x, hx, hf⟩ := hl
    exact ⟨x, hq.mem_iff.2 hx, hf⟩
  | false =>
    rw [List.any_eq_false] at hl ⊢
    exact fun x hx => hl x (hq.mem_iff.1 hx)
theorem qL_set {π : List Nat} {a b : Nat} (h : π.length = 4) (ha : a < 4) (hb : b < 4) : ((qL π).set a ((qL π)[b]'(by simp [qL, h]; omega))).set b ((qL π)[a]'(by simp [qL, h]; omega)) = qL (swp π a b) := by
  unfold qL swp
  rw [List.map_set, List.map_set]
  have ga : π.getD a 0 = π[a]'(by omega) := by rw [List.getD_eq_getElem?_getD, List.getElem?_eq_getElem (by omega)]; rfl
  have gb : π.getD b 0 = π[b]'(by omega) := by rw [List.getD_eq_getElem?_getD, List.getElem?_eq_getElem (by omega)]; rfl
  rw [ga, gb]
  simp
/-- Two beginnings behind which everything is told alike. -/
def Eqv (p1 p2 : List Fd) : Prop := (∀ f : Fd → Bool, p1.any f = p2.any f) ∧ fnd p1 kLen = fnd p2 kLen
theorem Eqv.snoc {p1 p2 : List Fd} (h : Eqv p1 p2) (x : Fd) : Eqv (p1 ++ [x]) (p2 ++ [x]) := by
  refine ⟨fun f => by rw [List.any_append, List.any_append, h.1 f], ?_⟩
  rw [fnd_snoc, fnd_snoc, h.2]
theorem Eqv.one {p1 p2 : List Fd} (h : Eqv p1 p2) (x : Fd) : oneE p1 x = oneE p2 x := by
  unfold oneE plE lnE
  rw [h.1, (h.snoc x).2]
theorem Eqv.fold {p1 p2 : List Fd} (h : Eqv p1 p2) (l : List Fd) (y : Int) : (l.foldl (fun (st : List Fd × Int) f => (st.1 ++ [f], orE st.2 (oneE st.1 f))) (p1, y)).2 = (l.foldl (fun (st : List Fd × Int) f => (st.1 ++ [f], orE st.2 (oneE st.1 f))) (p2, y)).2 := by
  induction l generalizing p1 p2 y with
  | nil => rfl
  | cons x r ih =>
    rw [List.foldl_cons, List.foldl_cons]
    dsimp only
    rw [h.one x]
    exact ih (h.snoc x) _
theorem fnd_app (a b : List Fd) (n : ByteArray) : fnd (a ++ b) n = match fnd a n with | some v => some v | none => fnd b n := by
  unfold fnd
  rw [List.find?_append]
  cases a.find? fun f => eqS f.1 n with
  | some v => rfl
  | none => rfl
theorem fstE_app (a l : List Fd) : fstE (a ++ l) = (l.foldl (fun (st : List Fd × Int) f => (st.1 ++ [f], orE st.2 (oneE st.1 f))) (a, fstE a)).2 := by
  have h1 : fstS a = (a, fstE a) := Prod.ext (fstS_one _) rfl
  unfold fstS at h1
  conv => lhs; unfold fstE fstS
  rw [List.foldl_append, h1]
theorem ord_all {π : List Nat} (h : π ∈ prm) (l : List Fd) (c s : Int) : chE (qL π ++ l) c s = chE (lineL ++ l) c s ∧ rqO (qL π ++ l) = rqO (lineL ++ l) := by
  have hf : ∀ n ∈ sixN, fnd (qL π ++ l) n = fnd (lineL ++ l) n := fun n hn => by rw [fnd_app, fnd_app, prm_fnd π h n hn]
  have f1 := hf kMet (by simp [sixN])
  have f2 := hf kSch (by simp [sixN])
  have f3 := hf kAut (by simp [sixN])
  have f4 := hf kPat (by simp [sixN])
  have f5 := hf kHos (by simp [sixN])
  have f6 := hf kLen (by simp [sixN])
  have ha : ∀ f : Fd → Bool, (qL π ++ l).any f = (lineL ++ l).any f := fun f => by rw [List.any_append, List.any_append, qL_any h]
  have hlen : (qL π ++ l).length = (lineL ++ l).length := by
    rw [List.length_append, List.length_append]
    have : (qL π).length = 4 := by rw [qL, List.length_map]; exact prm_len π h
    rw [this]; rfl
  have hsz : sizS (qL π ++ l) = sizS (lineL ++ l) := by
    have := prm_siz π h
    unfold sizS at this ⊢
    rw [List.foldl_append, List.foldl_append, this]
  have hfe : fstE (qL π ++ l) = fstE (lineL ++ l) := by
    rw [fstE_app, fstE_app, prm_fst π h, show fstE lineL = 0 from by rw [← qL_line]; exact prm_fst _ (by decide +kernel)]
    exact Eqv.fold ⟨fun f => qL_any h f, prm_fnd π h kLen (by simp [sixN])⟩ l 0
  have hm : metE (qL π ++ l) = metE (lineL ++ l) := by unfold metE; rw [f1]
  have ho : metO (qL π ++ l) = metO (lineL ++ l) := by unfold metO; rw [f1]
  have hs : schO (qL π ++ l) = schO (lineL ++ l) := by unfold schO; rw [f2]
  have hp : patO (qL π ++ l) = patO (lineL ++ l) := by unfold patO; rw [f4]
  have hw : autW (qL π ++ l) = autW (lineL ++ l) := by unfold autW; rw [f3, f5]
  refine ⟨?_, ?_⟩
  · unfold chE muc midE tunE tarE autE
    rw [hlen, hsz, hfe, hm, ho, hs, hp, hw, f2, f3, f4]
    simp only [ha]
  · unfold rqO autO plnL lenL
    rw [ho, hs, hp, hw, f6, List.filter_append, List.filter_append]
    have e1 := prm_pln π h
    have e2 : plnL lineL = [] := by rw [← qL_line]; exact prm_pln _ (by decide +kernel)
    unfold plnL at e1 e2
    rw [e1, e2]
theorem ord_chR {π : List Nat} (h : π ∈ prm) (l : List Fd) (c s : Int) : chR (qL π ++ l) c s = chR (lineL ++ l) c s := by
  unfold chR
  rw [(ord_all h l c s).1, (ord_all h l c s).2]
end Go.Proofs.YthefijjdffafkaaDoor
