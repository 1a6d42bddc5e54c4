/-
  What a reading's ack does: a contract that the statements' walks use.
-/
import Derived.Test.YtdoodbaogmdloabStrm
import Derived.Deep.RegionHeld3
namespace Go.Proofs.Ytdoodbaogmdloab
open Go.RowKit
set_option linter.unusedVariables false
set_option maxRecDepth 20000

theorem info77 : (Try.prog.info? 36).map (fun i => (i.zero, i.size, i.bytes)) = some (some (.agg #[.int .i64 0, .int .i64 0]), 2, 16) := by kernel_rfl
theorem flatS_zero (n : Nat) : flatS (List.replicate n (0, 0)) = List.replicate (n * 2) (.int .i64 0) := by
  induction n with
  | zero => rfl
  | succ n ih =>
    rw [List.replicate_succ, show (n + 1) * 2 = n * 2 + 1 + 1 by omega, List.replicate_succ, List.replicate_succ, ← ih]
    rfl
theorem made_spans (n : Nat) : (madeCells (Value.agg #[.int .i64 0, .int .i64 0]).cells (n * 2)).toList = flatS (List.replicate n (0, 0)) := by
  rw [flatS_zero]
  apply List.ext_getElem?
  intro j
  by_cases hj : j < n * 2
  · have h2 : j % 2 = 0 ∨ j % 2 = 1 := by omega
    rcases h2 with h2 | h2 <;> simp [madeCells, Value.cells, hj, h2]
  · rw [List.getElem?_eq_none (by simp [madeCells, Value.cells]; omega), List.getElem?_eq_none (by simp; omega)]
theorem flatS_set (l : List (Int × Int)) : ∀ (j : Nat) (x y : Int), j < l.length → flatS (l.set j (x, y)) = ((flatS l).set (j * 2) (.int .i64 x)).set (j * 2 + 1) (.int .i64 y) := by
  induction l with
  | nil => intro j x y h; simp at h
  | cons a r ih =>
    intro j x y h
    cases j with
    | zero => rfl
    | succ j =>
      have := ih j x y (by simpa using h)
      rw [List.set_cons_succ, show flatS (a :: r.set j (x, y)) = .int .i64 a.1 :: .int .i64 a.2 :: flatS (r.set j (x, y)) from rfl, this]
      rw [show flatS (a :: r) = .int .i64 a.1 :: .int .i64 a.2 :: flatS r from rfl, show (j + 1) * 2 = j * 2 + 1 + 1 by omega]
      rfl

def akF (k dl : Int) (sp : List (Int × Int)) (e0 e1 e2 : Int) : Fr := ⟨k, 0, 0, 0, 0, false, [], [], sp, dl, e0, e1, e2⟩
def downsO (zs : List Int) : Nat → List (Int × Int) → Int → Out (List (Int × Int))
  | 0, acc, q => .ok acc q
  | n + 1, acc, q => (downO zs q ((acc.headD (0, 0)).1 - 2)).bind fun t q => (spanO zs q t).bind fun s q => downsO zs n (s :: acc) q
def ack5 (zs : List Int) (k dl : Int) (sp : List (Int × Int)) (q : Int) : Out Fr :=
  if k = 3 then (numO zs q).bind fun e0 q => (numO zs q).bind fun e1 q => (numO zs q).bind fun e2 q => .ok (akF k dl sp e0 e1 e2) q else .ok (akF k dl sp 0 0 0) q
def ack4 (zs : List Int) (k dl : Int) (n : Nat) (acc : List (Int × Int)) (q : Int) : Out Fr := (downsO zs n acc q).bind fun sp q => ack5 zs k dl sp q
def ack3 (zs : List Int) (k to dl o q : Int) : Out Fr := if 64 ≤ o then .bad 51 else (spanO zs q to).bind fun s q => ack4 zs k dl o.toNat [s] q
def ack2 (zs : List Int) (k to dl q : Int) : Out Fr := (numO zs q).bind fun o q => ack3 zs k to dl o q
def ack1 (zs : List Int) (k to q : Int) : Out Fr := (numO zs q).bind fun dl q => ack2 zs k to dl q
def ackO (zs : List Int) (p k : Int) : Out Fr := (numO zs p).bind fun to q => ack1 zs k to q

theorem downO_ok {zs : List Int} {p fr a q : Int} (hz : ∀ y ∈ zs, 0 ≤ y ∧ y < 256) (hp : 0 ≤ p) (hpl : p ≤ zs.length) (h : downO zs p fr = .ok a q) : 0 ≤ a ∧ a ≤ fr ∧ p < q ∧ q ≤ zs.length := by
  unfold downO at h
  cases hn : numO zs p with
  | ok m q' =>
    rw [hn] at h
    have := numO_ok hz hp hpl hn
    change (if _ then _ else _) = _ at h
    by_cases hc : fr - m < 0
    · rw [if_pos hc] at h; cases h
    · rw [if_neg hc] at h; cases h; omega
  | cut => rw [hn] at h; cases h
  | bad x => rw [hn] at h; cases h
theorem spanO_ok {zs : List Int} {p to q : Int} {s : Int × Int} (hz : ∀ y ∈ zs, 0 ≤ y ∧ y < 256) (hp : 0 ≤ p) (hpl : p ≤ zs.length) (h : spanO zs p to = .ok s q) : 0 ≤ s.1 ∧ s.1 ≤ to ∧ s.2 = to ∧ p < q ∧ q ≤ zs.length := by
  unfold spanO at h
  cases hn : downO zs p to with
  | ok m q' =>
    rw [hn] at h
    have := downO_ok hz hp hpl hn
    cases h
    exact ⟨this.1, this.2.1, rfl, this.2.2⟩
  | cut => rw [hn] at h; cases h
  | bad x => rw [hn] at h; cases h

theorem Fbk.span {w u : World} {rk rb g : Nat} {b : Sv} {zs : List Int} {pl q p0 : Int} {R F sb m : Nat} {f : Fr} {j : Nat} {x y : Int} (h : Fbk w u rk rb g b zs pl q R F f nilS nilS ⟨some ⟨sb, 0, none⟩, m, m⟩) (h0 : Rg w rk rb g b zs pl p0) (hj : j < m) :
    Fbk w ((u.setCell ⟨sb, j * 2, none⟩ (.int .i64 x)).setCell ⟨sb, j * 2 + 1, none⟩ (.int .i64 y)) rk rb g b zs pl q R F { f with sp := f.sp.set j (x, y) } nilS nilS ⟨some ⟨sb, 0, none⟩, m, m⟩ := by
  have k : Keep (fun i => i = sb) u ((u.setCell ⟨sb, j * 2, none⟩ (.int .i64 x)).setCell ⟨sb, j * 2 + 1, none⟩ (.int .i64 y)) := ((Keep.refl (fun i => i = sb) u).setCell _ _ _ (.inl rfl)).setCell _ _ _ (.inl rfl)
  have hsb : w.heap.size ≤ sb := h.hr.ns sb rfl
  obtain ⟨f1, d1, c1, s1, hres⟩ := h.res
  have hsl := RowS.len h.hr.sr
  have hsr : RowS ((u.setCell ⟨sb, j * 2, none⟩ (.int .i64 x)).setCell ⟨sb, j * 2 + 1, none⟩ (.int .i64 y)) ⟨some ⟨sb, 0, none⟩, m, m⟩ (f.sp.set j (x, y)) := by
    have s1 := h.hr.sr.set (g := sb) (off := 0) (j := j * 2) rfl (by show j * 2 < m * 2; omega) (.int .i64 x)
    have s2 := s1.set (g := sb) (off := 0) (j := j * 2 + 1) rfl (by show j * 2 + 1 < m * 2; omega) (.int .i64 y)
    rw [Nat.zero_add, Nat.zero_add] at s2
    show Sub _ _ _ _ _ _ (flatS _)
    rw [flatS_set _ _ _ _ (by rw [hsl]; exact hj)]
    exact s2
  have hdr := h.hr.dr
  have hcr := h.hr.cr
  refine ⟨h.keep.old k (fun i e => .inr (by rw [e]; exact hsb)), h.rg.keepNew k h0 (fun i e => by rw [e]; exact hsb), ⟨f1, d1, c1, s1, hres.keep k (fun e => h.mrs (by rw [e]; rfl))⟩, h.box.keep k (fun e => h.nrs (by rw [e]; rfl)), ⟨hdr.keep k (by intro i hi; cases hi), hcr.keep k (by intro i hi; cases hi), hsr, h.hr.nd, h.hr.nc, h.hr.ns⟩, h.r0, h.f0, h.ne, h.nrd, h.nrc, h.nrs, h.mrd, h.mrc, h.mrs⟩
end Go.Proofs.Ytdoodbaogmdloab
