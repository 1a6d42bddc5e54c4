/-
  What the document's own Put does with a number that has a form, and bytes that grow by appends: groundwork for the document's Encode.
-/
import Derived.Test.YtdoodbaogmdloaaRChk
import Derived.Test.YtdoodbaogmdloaaEncTwo
import Derived.Test.YtdoodbaogmdloaaCopied
import Derived.Test.YtdoodbaogmdloaaRef
import Derived.Deep.RegionLaw
import Derived.BigRegion
namespace Go.Proofs.Ytdoodbaogmdloaa
open Go.RowKit
set_option linter.unusedVariables false
set_option maxRecDepth 20000

theorem rput_k (n : Int) (w : World) (h0 : 0 ≤ n) (h1 : n ≤ 4611686018427387903) :
    Calls Try.prog 36 #[.int .i64 n] w fun e w' => ∃ p : Sv, e = .returned (.slice p.a p.n p.c) ∧ Q w w' ∧ Row w' p (form n) ∧ New w.heap.size p := by
  refine (rput_ok n w (sz n) h0 h1 (hid rfl)).mono ?_
  rintro e w' ⟨g, rfl, q, ho⟩
  exact ⟨⟨some ⟨g, 0, none⟩, sz n, sz n⟩, rfl, q, Own.row ho (by simp), Own.new ho⟩

/-- Bytes of this call's own that grow. -/
structure EI (w0 wr : World) (x : Sv) (zs : List Int) : Prop where
  q : Q w0 wr
  row : Row wr x zs
  new : New w0.heap.size x
theorem EI.qr {w0 wr u : World} {x : Sv} {zs : List Int} (h : EI w0 wr x zs) (q : Q wr u) : EI w0 u x zs := ⟨h.q.trans q, Sub.q h.row q, h.new⟩
theorem EI.app {w0 u : World} {x y : Sv} {zs ys : List Int} (h : EI w0 u x zs) (hs : Seg u y.a ys) (hl : ys.length = y.n) (hn : zs.length + ys.length ≤ 1000000) :
    ∃ (x' : Sv) (w' : World), (Builtin.append_ #[22, 22] 22 #[.slice x.a x.n x.c, .slice y.a y.n y.c]).run Try.prog u = .ok (.slice x'.a x'.n x'.c) w' ∧ EI w0 w' x' (zs ++ ys) := by
  have hxl := h.row.len
  obtain ⟨x', w', hr, hrow, hk, hb⟩ := row_append (ty := 22) h.row (src_seg (c := y.c) hs hl) (by omega)
  have h2 := new_step rfl h.q h.new hk hb
  exact ⟨x', w', hr, h2.1, hrow, h2.2⟩

/-- The call of Put in a region that draws, by its contract. -/
theorem step_call36 {ops : Array Oper} {o : Oper} {a : Act} {w : World} {K : Act → World → Prop} {R : Exit → Act → World → Prop} {E : Prop} (hg : o.guard = none) (x : Operand) (t : TypeId) (hop : o.op = Op.call { callee := Callee.value (Operand.func 36), args := #[x], argTypes := #[t] })
    {xv : Value} (hx : a.eval x = xv) {R0 : Ending → World → Prop} (hc : Calls Try.prog 36 #[xv] w R0)
    (hR : ∀ e w', R0 e w' → ∃ v, e = .returned v ∧ K (a.put o.dst v) w') :
    if Region.wanted o (yielded ops a.tmps) = true then Oper.wp Try.prog o a w K R else E := by
  have hw : Region.wanted o (yielded ops a.tmps) = true := by simp [Region.wanted, hg]
  rw [if_pos hw]
  unfold Oper.wp
  have he : (execOp a.eval o).run Try.prog w = .ok (.enter 36 #[xv]) w := by
    have h1 : (Try.f36.name == "runtime.NumGoroutine") = false := by kernel_rfl
    have h1' : ¬ Try.f36.name = "runtime.NumGoroutine" := by simpa using h1
    have h2 : Try.f36.body.isSome = true := by kernel_rfl
    have h2' : ¬ Try.f36.body = none := by intro e; rw [e] at h2; cases h2
    simp [execOp, hop, resolve, invoke, Deferred.ofValue, callFunc, Try.func36, h1', h2', go_sem]
    rw [← hx]
    cases x <;> simp [Act.eval]
  rw [he]
  refine hc.mono ?_
  intro e w' h0
  obtain ⟨v, rfl, h1⟩ := hR e w' h0
  exact h1

/-- The numbers of an ack without its marks. -/
def ackH (f : Fr) : List Int :=
  match f.sp.reverse with
  | [] => []
  | t :: r => [t.2, f.dl, (r.length : Int), t.2 - t.1] ++ downs t r
theorem ackN_eq (f : Fr) : ackN f = ackH f ++ marks f := by
  unfold ackN ackH
  split <;> rename_i h <;> rw [h] <;> simp
/-- What of them is still to come when the first j spans are left. -/
def rem (l : List (Int × Int)) (m j : Nat) : List Int := if j = m + 1 then ((l.getD m (0, 0)).2 - (l.getD m (0, 0)).1) :: downs (l.getD m (0, 0)) (l.take m).reverse else downs (l.getD j (0, 0)) (l.take j).reverse
theorem rem_top (l : List (Int × Int)) (m : Nat) : rem l m (m + 1) = ((l.getD m (0, 0)).2 - (l.getD m (0, 0)).1) :: rem l m m := by
  unfold rem; rw [if_pos rfl, if_neg (by omega)]
theorem rem_step {l : List (Int × Int)} {m j : Nat} (hj : j + 1 ≤ m) (hm : l.length = m + 1) : rem l m (j + 1) = ((l.getD (j + 1) (0, 0)).1 - (l.getD j (0, 0)).2 - 2) :: ((l.getD j (0, 0)).2 - (l.getD j (0, 0)).1) :: rem l m j := by
  unfold rem
  rw [if_neg (by omega), if_neg (by omega), rev_take (by omega)]; rfl
theorem rem_zero (l : List (Int × Int)) (m : Nat) : rem l m 0 = [] := by unfold rem; rw [if_neg (by omega)]; rfl
theorem ackH_eq {f : Fr} {m : Nat} (hm : f.sp.length = m + 1) : ackH f = [(f.sp.getD m (0, 0)).2, f.dl, (m : Int)] ++ rem f.sp m (m + 1) := by
  have h1 : f.sp.reverse = f.sp.getD m (0, 0) :: (f.sp.take m).reverse := by
    have := rev_take (l := f.sp) (j := m) (by omega)
    rw [← hm, List.take_length] at this
    exact this
  unfold ackH rem
  rw [h1, if_pos rfl]
  simp [hm]
theorem ackH_len {f : Fr} (h : f.sp.length ≤ 64) : (forms (ackH f)).length ≤ 1056 := by
  have h1 := forms_len (ackH f)
  have h2 : (ackH f).length ≤ 132 := by
    unfold ackH
    have hr : f.sp.reverse.length ≤ 64 := by simpa using h
    split
    · simp
    · rename_i t r hh
      rw [hh] at hr
      simp only [List.length_append, downs_len, List.length_cons, List.length_nil] at hr ⊢
      omega
  omega
end Go.Proofs.Ytdoodbaogmdloaa
