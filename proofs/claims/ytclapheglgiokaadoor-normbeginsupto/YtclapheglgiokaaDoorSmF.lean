/-
  The document's Same of fields, the law's same of requests, where both are one: contracts that the statements' walks use.
-/
import Derived.Test.YtclapheglgiokaaDoorDoD
import Derived.BigRegion
import Derived.Laws.StructEq
namespace Go.Proofs.YtclapheglgiokaaDoor
open Go.RowKit
set_option linter.unusedVariables false
set_option maxRecDepth 20000

theorem ne37 (a b : ByteArray) (w : World) : (binOp BinOp.neq 57 (.agg #[.string a, .string b]) (.agg #[.string a, .string b])).run Tryd.prog w = .ok (.bool false) w := by
  have hi : ∀ (x : ByteArray) (u : World), (Op.equalIn 9999 9 (.string x) (.string x)).run Tryd.prog u = .ok true u := fun x u => by rw [run_equalIn_string u 9998 9 x x Tryd.underlying9, beq_self_eq_true]
  rw [run_neq_struct, run_equalIn_agg w 9999 57 _ _ (by kernel_rfl) (by kernel_rfl)]
  have p0 : ∀ u, (part 9 #[.string a, .string b] 0).run Tryd.prog u = .ok (.string a) u := fun u => by kernel_rfl
  have p1 : ∀ u, (part 9 #[.string a, .string b] 1).run Tryd.prog u = .ok (.string b) u := fun u => by kernel_rfl
  obtain ⟨f0, f1, hf, ⟨n0, t0, o0⟩, n1, t1, o1⟩ : ∃ f0 f1, (Tryd.prog.fieldsOf 57).toList = [f0, f1] ∧ (f0.name ≠ "_" ∧ f0.type = 9 ∧ f0.offset = 0) ∧ (f1.name ≠ "_" ∧ f1.type = 9 ∧ f1.offset = 1) := ⟨_, _, rfl, ⟨by decide, rfl, rfl⟩, by decide, rfl, rfl⟩
  rw [hf]
  simp only [Op.eqFields, if_pos n0, if_pos n1, t0, t1, o0, o1, Sem.run_bind, p0, p1, hi, Result.andThen_ok, Bool.not_true, Bool.false_eq_true, if_false, Sem.run_pure]
set_option maxHeartbeats 4000000 in
theorem same_any (x y : Sv) (l : List Fd) (w : World) (hx : SegF w x.a l) (hy : SegF w y.a l) (lx : l.length = x.n) (ly : l.length = y.n) (hb : l.length ≤ 4398046511104) : Calls Tryd.prog 17 #[.slice x.a x.n x.c, .slice y.a y.n y.c] w fun e w' => e = .returned (.bool true) ∧ Q w w' := by
  obtain ⟨xa, xn, xc⟩ := x
  obtain ⟨ya, yn, yc⟩ := y
  dsimp only at *
  subst lx
  subst ly
  have HX := hid hx
  have HY := hid hy
  have HB := hid hb
  have hne : ((l.length : Int) != (l.length : Int)) = false := by simp
  clear hx hy hb
  go_enter Tryd.func17, Tryd.ntmps17
  go_wp2
  go_loopw [5] (fun i wr => ∃ k : Nat, k ≤ l.length ∧ i = .int .i64 (k : Int) ∧ Q w wr) (fun i _ => l.length - (intOf i).toNat)
  case atStart => exact ⟨0, by omega, rfl, Q.refl w⟩
  case round =>
    obtain ⟨k, hk, rfl, hq⟩ := hrel
    have HQ := hid hq
    by_cases hlt : k < l.length
    · obtain ⟨g1, o1, ⟨p1, p2⟩, ha1, hp1, c0, c1⟩ := (HX.out.q hq).at hlt
      obtain ⟨g2, o2, ⟨q1, q2⟩, ha2, hp2, d0, d1⟩ := (HY.out.q hq).at hlt
      rw [hp1] at hp2
      cases hp2
      subst ha1
      subst ha2
      dsimp only at c0 c1 d0 d1
      have hki : (k : Int) < (l.length : Int) := by omega
      have hk0 : (0 : Int) ≤ (k : Int) := by omega
      have hkb : (k : Int) < 8796093022208 := by have := HB.out; omega
      have hnn := ne37 p1 p2
      clear hq hp1
      go_wp2_with fail
      go_region
      go_wp2
      go_roundw
      case rel => exact ⟨k + 1, by omega, by go_num, by first | exact HQ.out.drew | exact HQ.out.drewN _⟩
      case measure => simp [intOf]; omega
    · have hki : ¬ (k : Int) < (l.length : Int) := by omega
      clear hq
      go_wp2
      go_ret
      exact ⟨rfl, HQ.out⟩
end Go.Proofs.YtclapheglgiokaaDoor
