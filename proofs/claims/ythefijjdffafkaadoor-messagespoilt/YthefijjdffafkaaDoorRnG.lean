/-
  Which texts are tokens, names, authorities, digits, paths: contracts that the statements' walks use.
-/
import Derived.Test.YthefijjdffafkaaDoorRnF
namespace Go.Proofs.YthefijjdffafkaaDoor
open Go.RowKit
set_option linter.unusedVariables false
set_option maxRecDepth 20000

theorem beq_eqS (a b : ByteArray) : (a.toList == b.toList) = eqS a b := by
  rw [ByteArray.toList_eq, ByteArray.toList_eq]; rfl
theorem emp_neS (a : ByteArray) : a.toList.isEmpty = !neS a := by
  rw [ByteArray.toList_eq]
  unfold neS
  simp
theorem emp_eqS (a : ByteArray) : (a.toList == (⟨#[]⟩ : ByteArray).toList) = !neS a := by
  rw [beq_eqS]
  unfold neS eqS
  cases a.data.toList <;> simp
def mTok : ByteArray := ⟨#[33, 35, 36, 37, 38, 39, 42, 43, 45, 46, 94, 95, 124, 126, 96]⟩
def mAut : ByteArray := ⟨#[45, 46, 95, 126, 58, 91, 93, 37]⟩
theorem asc_of (l : List UInt8) (h4 : 4 ≤ l.length) (h100 : l.length ≤ 100) (h : l.all (fun b => decide (b.toNat < 128)) = true) : Asc ⟨l.toArray⟩ := by
  refine ⟨h4, h100, fun j hj => ?_⟩
  have hj' : j < l.length := hj
  have := List.all_eq_true.1 h l[j] (List.getElem_mem hj')
  show (l.toArray[j]).toNat < 128
  simpa using this
theorem asc_tok : Asc mTok := asc_of _ (by decide) (by decide) (by decide)
theorem asc_aut : Asc mAut := asc_of _ (by decide) (by decide) (by decide)
theorem or_tok (r : Nat) : orB mTok r = tokB r := by
  have h : hasR mTok r = tokM.contains r := by
    unfold hasR
    rw [Bool.eq_iff_iff]
    simp [mTok, tokM]
    omega
  unfold orB tokB alB
  rw [h]
theorem or_aut (r : Nat) : orB mAut r = autB r := by
  have h : hasR mAut r = autM.contains r := by
    unfold hasR
    rw [Bool.eq_iff_iff]
    simp [mAut, autM]
    omega
  unfold orB autB alB
  rw [h]
/-- plainOr makes a function value that asks for the marks. -/
theorem plainOr_any (m : ByteArray) (w : World) : Calls Tryd.prog 49 #[.string m] w fun e w' => e = .returned (.func (.func 59) #[] #[.pointer (some ⟨w.heap.size, 0, none⟩)]) ∧ w' = w.alloc (.cells #[.string m] 9) := by
  have hmf : ∀ (fn : Fn) (first cap : Array Value) (w : World), (Instr.makeFunc fn first cap).run Tryd.prog w = .ok (.func fn first cap) w := fun _ _ _ _ => rfl
  go_enter Tryd.func49, Tryd.ntmps49
  go_wp2
  go_ret
  exact ⟨rfl, rfl⟩
theorem eg67 : ∀ (args : Array Value) (w : World), (callFunc 59 args).run Tryd.prog w = .ok (.enter 59 args) w := fun args w => by simp [callFunc, go_sem, Tryd.func59]; kernel_rfl

theorem eg59 : ∀ (args : Array Value) (w : World), (callFunc 51 args).run Tryd.prog w = .ok (.enter 51 args) w := fun args w => by simp [callFunc, go_sem, Tryd.func51]; kernel_rfl
theorem eg60 : ∀ (args : Array Value) (w : World), (callFunc 52 args).run Tryd.prog w = .ok (.enter 52 args) w := fun args w => by simp [callFunc, go_sem, Tryd.func52]; kernel_rfl
theorem eg62 : ∀ (args : Array Value) (w : World), (callFunc 54 args).run Tryd.prog w = .ok (.enter 54 args) w := fun args w => by simp [callFunc, go_sem, Tryd.func54]; kernel_rfl
theorem eg64 : ∀ (args : Array Value) (w : World), (callFunc 56 args).run Tryd.prog w = .ok (.enter 56 args) w := fun args w => by simp [callFunc, go_sem, Tryd.func56]; kernel_rfl
theorem token_any (s : ByteArray) (w : World) : Calls Tryd.prog 40 #[.string s] w fun e w' => e = .returned (.bool (tkS s)) ∧ Q w w' := by
  have he := emp_neS s
  have he2 := emp_eqS s
  have hd : tkS s = (neS s && allB tokB s) := rfl
  rw [hd]
  clear hd
  have H1 := hid (fun W => plainOr_any mTok W)
  have H2 := hid (fun W bx (hb : W.cell? ⟨bx, 0, none⟩ = some (.string mTok)) => every_any 59 #[.pointer (some ⟨bx, 0, none⟩)] tokB s W eg67 flat_tok (fun U r hr q => by
    have := por_any mTok r bx U asc_tok (by rw [q.cell (lt_of_cell hb)]; exact hb)
    rw [or_tok] at this
    exact this))
  have hm : mTok = ⟨mTok.data⟩ := rfl
  unfold mTok at H1 H2
  generalize allB tokB s = b at *
  generalize neS s = c at *
  go_enter Tryd.func40, Tryd.ntmps40
  cases c
  · go_wp2
    go_ret
    exact ⟨rfl, Q.refl _⟩
  · go_wp2_with (first
      | (go_at_call 49; refine (H1.out _).mono ?_; rintro e w1 ⟨rfl, rfl⟩)
      | (go_at_call 48; refine (H2.out _ _ (by rw [cell_of_row _ _ 0 _ 9 (0, 0) (heap_alloc_new _ _)]; rfl)).mono ?_; rintro e w2 ⟨rfl, q2⟩))
    go_ret
    exact ⟨by cases b <;> rfl, ((Q.refl w).alloc _).trans q2⟩
theorem auth_any (s : ByteArray) (w : World) : Calls Tryd.prog 43 #[.string s] w fun e w' => e = .returned (.bool (auS s)) ∧ Q w w' := by
  have he := emp_neS s
  have he2 := emp_eqS s
  have hd : auS s = (neS s && allB autB s) := rfl
  rw [hd]
  clear hd
  have H1 := hid (fun W => plainOr_any mAut W)
  have H2 := hid (fun W bx (hb : W.cell? ⟨bx, 0, none⟩ = some (.string mAut)) => every_any 59 #[.pointer (some ⟨bx, 0, none⟩)] autB s W eg67 flat_aut (fun U r hr q => by
    have := por_any mAut r bx U asc_aut (by rw [q.cell (lt_of_cell hb)]; exact hb)
    rw [or_aut] at this
    exact this))
  have hm : mAut = ⟨mAut.data⟩ := rfl
  unfold mAut at H1 H2
  generalize allB autB s = b at *
  generalize neS s = c at *
  go_enter Tryd.func43, Tryd.ntmps43
  cases c
  · go_wp2
    go_ret
    exact ⟨rfl, Q.refl _⟩
  · go_wp2_with (first
      | (go_at_call 49; refine (H1.out _).mono ?_; rintro e w1 ⟨rfl, rfl⟩)
      | (go_at_call 48; refine (H2.out _ _ (by rw [cell_of_row _ _ 0 _ 9 (0, 0) (heap_alloc_new _ _)]; rfl)).mono ?_; rintro e w2 ⟨rfl, q2⟩))
    go_ret
    exact ⟨by cases b <;> rfl, ((Q.refl w).alloc _).trans q2⟩
theorem digits_any (s : ByteArray) (w : World) : Calls Tryd.prog 46 #[.string s] w fun e w' => e = .returned (.bool (dgS s)) ∧ Q w w' := by
  have he := emp_neS s
  have he2 := emp_eqS s
  have hd : dgS s = (neS s && allB dgB s) := rfl
  rw [hd]
  clear hd
  have H2 := hid (fun W => every_any 56 #[] dgB s W eg64 flat_dg (fun U r hr q => (dig_any r U).mono (by rintro e v ⟨rfl, rfl⟩; exact ⟨rfl, Q.refl _⟩)))
  generalize allB dgB s = b at *
  generalize neS s = c at *
  go_enter Tryd.func46, Tryd.ntmps46
  cases c
  · go_wp2
    go_ret
    exact ⟨rfl, Q.refl _⟩
  · go_wp2_with (go_at_call 48; refine (H2.out _).mono ?_; rintro e w2 ⟨rfl, q2⟩)
    go_ret
    exact ⟨by cases b <;> rfl, q2⟩
theorem path_any (s : ByteArray) (w : World) : Calls Tryd.prog 42 #[.string s] w fun e w' => e = .returned (.bool (allB ptB s)) ∧ Q w w' := by
  have H2 := hid (fun W => every_any 51 #[] ptB s W eg59 flat_pt (fun U r hr q => (pt_any r U).mono (by rintro e v ⟨rfl, rfl⟩; exact ⟨rfl, Q.refl _⟩)))
  generalize allB ptB s = b at *
  go_enter Tryd.func42, Tryd.ntmps42
  go_wp2_with (go_at_call 48; refine (H2.out _).mono ?_; rintro e w2 ⟨rfl, q2⟩)
  go_ret
  exact ⟨rfl, q2⟩
theorem name_any (s : ByteArray) (w : World) : Calls Tryd.prog 44 #[.string s] w fun e w' => e = .returned (.bool (nmS s)) ∧ Q w w' := by
  have hd : nmS s = (tkS s && allB ncB s) := rfl
  rw [hd]
  clear hd
  have H1 := hid (fun W => token_any s W)
  have H2 := hid (fun W => every_any 52 #[] ncB s W eg60 flat_nc (fun U r hr q => (nc_any r U).mono (by rintro e v ⟨rfl, rfl⟩; exact ⟨rfl, Q.refl _⟩)))
  generalize allB ncB s = b at *
  generalize tkS s = c at *
  go_enter Tryd.func44, Tryd.ntmps44
  cases c
  · go_wp2_with (go_at_call 40; refine (H1.out _).mono ?_; rintro e w1 ⟨rfl, q1⟩)
    go_ret
    exact ⟨rfl, q1⟩
  · go_wp2_with (first
      | (go_at_call 40; refine (H1.out _).mono ?_; rintro e w1 ⟨rfl, q1⟩)
      | (go_at_call 48; refine (H2.out _).mono ?_; rintro e w2 ⟨rfl, q2⟩))
    go_ret
    exact ⟨by cases b <;> rfl, q1.trans q2⟩
end Go.Proofs.YthefijjdffafkaaDoor
