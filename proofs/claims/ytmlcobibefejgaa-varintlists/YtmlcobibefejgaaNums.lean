/-
  Lists of numbers for layer 1: their forms one behind the other, and how an argument that is a slice of ints is opened. Nothing is proved of the statement here.
-/
import Derived.Test.YtmlcobibefejgaaOpen
import Derived.Test.YtmlcobibefejgaaMathTwo
namespace Go.Proofs.Ytmlcobibefejgaa
open Go.ChangeShapes Go.WideShapes Go.ChangeAt Go.RowKit
set_option linter.unusedVariables false

def flat (l : List Int) : List Int := (l.map form).flatten

theorem flat_nil : flat [] = [] := rfl
theorem flat_append (l r : List Int) : flat (l ++ r) = flat l ++ flat r := by simp [flat]
theorem flat_one (n : Int) : flat [n] = form n := by simp [flat]
theorem flat_step (l : List Int) (k : Nat) (h : k < l.length) : flat (l.take (k + 1)) = flat (l.take k) ++ form (l.getD k 0) := by
  rw [take_snoc l k h, flat_append, flat_one]
theorem flat_split (l : List Int) (k : Nat) (h : k < l.length) : flat l = flat (l.take k) ++ form (l.getD k 0) ++ flat (l.drop (k + 1)) := by
  rw [← flat_step l k h, ← flat_append, List.take_append_drop]
theorem flat_le (l : List Int) : (flat l).length ≤ 8 * l.length := by
  induction l with
  | nil => simp [flat]
  | cons x r ih =>
    have h := sz_le x
    have e : flat (x :: r) = form x ++ flat r := by simp [flat]
    rw [e, List.length_append, form_length, List.length_cons]
    omega
theorem flat_bytes (l : List Int) : ∀ u ∈ flat l, 0 ≤ u ∧ u < 256 := by
  intro u hu
  simp only [flat, List.mem_flatten, List.mem_map] at hu
  obtain ⟨x, ⟨n, _, rfl⟩, hx⟩ := hu
  exact form_bytes n u hx

theorem rd_flat (l : List Int) (k : Nat) (h : k < l.length) (h0 : 0 ≤ l.getD k 0) (h1 : l.getD k 0 ≤ 4611686018427387903) :
    rd (flat l) ((flat (l.take k)).length : Int) = (l.getD k 0, ((flat (l.take (k + 1))).length : Int), 0) := by
  rw [flat_step l k h, List.length_append, form_length]
  have := rd_form h0 h1 (flat (l.take k)) (flat (l.drop (k + 1)))
  rw [← flat_split l k h] at this
  rw [this]
  simp

theorem rd_end (l : List Int) : rd l (l.length : Int) = (0, 0, 12) := by
  rw [rd, if_neg (by omega), Int.toNat_natCast, List.drop_length]; rfl

/-- The ints that a slice of ints holds. -/
def SegI (w : World) (a : Option Addr) (zs : List Int) : Prop :=
  zs ≠ [] → ∃ b off, a = some ⟨b, off, none⟩ ∧ ∀ i, i < zs.length → w.cell? ⟨b, off + i, none⟩ = some (.int .i64 (zs.getD i 0))

theorem SegI.below {w w' : World} {a : Option Addr} {zs : List Int} (h : SegI w a zs) (hq : Below w.heap.size w w') : SegI w' a zs := by
  intro hne
  obtain ⟨b, off, ha, hc⟩ := h hne
  refine ⟨b, off, ha, fun i hi => ?_⟩
  rw [hq.cell (lt_of_cell (hc i hi))]
  exact hc i hi

theorem bytes3 : Try.prog.bytesOf 3 = 8 := by kernel_rfl
theorem cells3 : Try.prog.cellsOf 3 = 1 := by kernel_rfl

theorem open_nums {H : Type} {enc : TypeId × Value → H} {W : World} {a : Option Addr} {len cap : Nat} {d : DataW H} {p : List MemPlace}
    (h : DataW.Trod enc Try.prog W 0 (fun _ => true) true 51 (.slice a len cap) d p) :
    ∃ zs : List Int, zs.length = len ∧ SegI W a zs ∧ (∀ y ∈ zs, (Lit.int .i64 y).wf = true) ∧ len ≤ cap ∧ (a = none → len = 0 ∧ cap = 0) ∧ (len = 0 ∨ ∃ elems spare, d = .slice elems spare ∧ len ≤ elems.length + spare.length) := by
  obtain ⟨fuel, hf⟩ := h
  rcases open_ints Try.underlying51 Try.underlying3 cells3 hf with ⟨hcs, _⟩ | ⟨x, l, c, zs, hcs, _, hl, hm, hz, hx, hcell, hwz⟩
  · simp [Value.cells] at hcs
    obtain ⟨rfl, rfl, rfl⟩ := hcs
    exact ⟨[], rfl, fun h => absurd rfl h, by simp, Nat.le_refl _, fun _ => ⟨rfl, rfl⟩, .inl rfl⟩
  · simp [Value.cells] at hcs
    obtain ⟨rfl, rfl, rfl⟩ := hcs
    simp only [Prod.mk.injEq] at hx
    obtain ⟨rfl, _⟩ := hx
    have hz' : zs.length = cap := by simpa using hz
    refine ⟨zs.take len, by simp; omega, ?_, fun y hy => hwz y (List.mem_of_mem_take hy), hl, (fun h => by cases h), .inr ⟨_, _, rfl, by simp [lits]; omega⟩⟩
    intro hne
    have hlen : 0 < len := by
      cases len with
      | zero => simp at hne
      | succ k => omega
    obtain ⟨b, off, spot⟩ := x
    have hc := hcell 0 (by omega)
    have hspot : spot = none := by simpa [Addr.add] using World.cell?_spot hc
    subst hspot
    refine ⟨b, off, rfl, fun i hi => ?_⟩
    have hi' : i < len := by have := List.length_take_le len zs; omega
    have := hcell i (by omega)
    rw [addr_add] at this
    rw [this]
    simp [hi']

theorem len_le_nums {H : Type} {ts : List TypeId} {ds : List (DataW H)} {j len : Nat} {d : DataW H} (hsz : (DataW.weightsEach Try.prog ts ds).all (· ≤ reachBytes) = true) (ht : ts[j]? = some 51) (hd : ds[j]? = some d)
    (h : len = 0 ∨ ∃ elems spare, d = .slice elems spare ∧ len ≤ elems.length + spare.length) : len * 8 ≤ 140737488351232 := by
  rcases h with rfl | ⟨elems, spare, rfl, h⟩
  · omega
  · have := sized_slice hsz (j := j) (t := 51) (e := 3) ht hd Try.underlying51
    rw [bytes3] at this
    simp only [reachBytes] at this
    omega

end Go.Proofs.Ytmlcobibefejgaa
