/-
  What the program's own Decode does: a contract that the statements' walks use.
-/
import Derived.Test.YtidbimhcebfjfaaTks
import Derived.Test.YtidbimhcebfjfaaDecM
import Derived.Maps.OwnOps
import Derived.Maps.Views
namespace Go.Proofs.Ytidbimhcebfjfaa
open Go.RowKit Go.Maps
set_option linter.unusedVariables false
set_option maxRecDepth 20000

theorem zeA_one : zeA.all (·.oneCell') = true := by simp [zeA, Value.oneCell']
theorem law3 : Keyed Try.prog 3 := int_keyed Try.underlying3
theorem zero3 (w : World) : (zeroValue 3).run Try.prog w = .ok (.int .i64 0) w := by kernel_rfl
/-- A map of numbers by ids. -/
def Mp (w : World) (mb cnt : Nat) (f : Nat → Int) : Prop := ∃ D : DataW Unit, w.ownsMap Try.prog 3 (plainElem Try.prog 3) mb cnt D ∧ ∀ i : Nat, D.atKey (.int .i64 (i : Int)) (.lit (.int .i64 0)) = .lit (.int .i64 (f i))
theorem Mp.lt {w : World} {mb cnt : Nat} {f : Nat → Int} (h : Mp w mb cnt f) : mb < w.heap.size := by obtain ⟨D, h, _⟩ := h; exact h.lt
theorem Mp.keep {F : Nat → Prop} {w w' : World} {mb cnt : Nat} {f : Nat → Int} (h : Mp w mb cnt f) (k : Keep F w w') (hF : ¬ F mb) : Mp w' mb cnt f := by
  obtain ⟨D, ⟨es, clock, hb, r⟩, hD⟩ := h
  exact ⟨D, ⟨es, clock, (k.block mb (lt_of_block hb) hF).trans hb, r⟩, hD⟩
theorem PB.keep {F : Nat → Prop} {w w' : World} {pb : Nat} {m : Pm} {s : Nat → Sv} (h : PB w pb m s) (k : Keep F w w') (hF : ¬ F pb) : PB w' pb m s := (k.block pb (lt_of_block h) hF).trans h
theorem FB.keep {F : Nat → Prop} {w w' : World} {fb pb : Nat} (h : FB w fb pb) (k : Keep F w w') (hF : ¬ F fb) : FB w' fb pb := (k.block fb (lt_of_block h) hF).trans h
theorem Rdr.keep {F : Nat → Prop} {w w' : World} {t rb : Nat} {a : Option Addr} {n c : Nat} {p f : Int} (h : Rdr w t rb a n c p f) (k : Keep F w w') (hF : ¬ F rb) : Rdr w' t rb a n c p f := (k.block rb (lt_of_block h) hF).trans h
theorem Only.keep {rb : Nat} {a b : World} (h : Only rb a b) : Keep (fun i => i = rb) a b := Keep.ofGrown h (fun k e => by cases e; rfl)

theorem left0 (rb : Nat) (a : Option Addr) (n c : Nat) (p : Int) (w : World) (hn : n ≤ 140737488355328) (hp : 0 ≤ p) (hpn : p ≤ n) (hr : Rdr w 95 rb a n c p 0) :
    Calls Try.prog 29 #[.pointer (some ⟨rb, 0, none⟩)] w fun e w' => e = .returned (.int .i64 ((n : Int) - p)) ∧ Q w w' := by
  refine (left_any rb a n c p 0 w hn hp hpn hr).mono ?_
  rintro e w' ⟨h1, k, rfl⟩
  exact ⟨by rw [h1]; rfl, (Q.refl w).drewN _⟩

/-- The bytes of parameters lie in memory, in none of three blocks. -/
def Bys (x y z : Nat) (w : World) (m : Pm) (s : Nat → Sv) : Prop := ∀ i, kd i = 2 ∨ kd i = 3 → Seg w (s i).a (m.byt i) ∧ (m.byt i).length = (s i).n ∧ ∀ b, blk (s i).a = some b → b ≠ x ∧ b ≠ y ∧ b ≠ z
theorem Bys.len {x y z : Nat} {w : World} {m : Pm} {s : Nat → Sv} (h : Bys x y z w m s) : Len m s := fun i hi => (h i hi).2.1
theorem Bys.keep {F : Nat → Prop} {x y z : Nat} {w w' : World} {m : Pm} {s : Nat → Sv} (h : Bys x y z w m s) (k : Keep F w w') (hF : ∀ b, F b → b = x ∨ b = y ∨ b = z) : Bys x y z w' m s := by
  intro i hi
  obtain ⟨h1, h2, h3⟩ := h i hi
  exact ⟨h1.keep k (fun b hb f => by have := h3 b hb; rcases hF b f with e | e | e <;> omega), h2, h3⟩
/-- .. and nothing else is asked of where. -/
def By (w : World) (m : Pm) (s : Nat → Sv) : Prop := ∀ i, kd i = 2 ∨ kd i = 3 → Seg w (s i).a (m.byt i) ∧ (m.byt i).length = (s i).n
theorem By.len {w : World} {m : Pm} {s : Nat → Sv} (h : By w m s) : Len m s := fun i hi => (h i hi).2
theorem By.q {w w' : World} {m : Pm} {s : Nat → Sv} (h : By w m s) (q : Q w w') : By w' m s := fun i hi => ⟨(h i hi).1.q q, (h i hi).2⟩
theorem Bys.by {x y z : Nat} {w : World} {m : Pm} {s : Nat → Sv} (h : Bys x y z w m s) : By w m s := fun i hi => ⟨(h i hi).1, (h i hi).2.1⟩
theorem by_zero (w : World) : By w zeM (fun _ => nilS) := fun i _ => ⟨seg_nil _ _, rfl⟩

structure DI (w wr : World) (pb fb mb rb g n : Nat) (zs : List Int) (p : Int) (seen : List Nat) (m : Pm) (s : Nat → Sv) : Prop where
  q : Q w wr
  b : PB wr pb m s
  f : FB wr fb pb
  r : Rdr wr 95 rb (some ⟨g, 0, none⟩) n n p 0
  z : SegOff rb wr (some ⟨g, 0, none⟩) zs
  mp : Mp wr mb seen.length (fun i => if i ∈ seen then 1 else 0)
  y : Bys pb mb rb wr m s
/-- Where Decode's own blocks lie. -/
structure DB (w : World) (pb fb mb rb g : Nat) : Prop where
  a1 : w.heap.size ≤ pb
  a2 : w.heap.size ≤ mb
  a3 : w.heap.size ≤ rb
  b1 : fb ≠ pb ∧ fb ≠ mb ∧ fb ≠ rb
  b2 : g ≠ pb ∧ g ≠ mb ∧ g ≠ rb
  b3 : pb ≠ mb ∧ pb ≠ rb ∧ mb ≠ rb
/-- What Decode tells. -/
def AnsD (w : World) (zs : List Int) (srv : Bool) (e : Ending) (w' : World) : Prop :=
  ∃ s, e = .returned (.tuple #[.agg (pc (decA zs srv).1 s), .int .i64 (decA zs srv).2.1, .int .i64 (decA zs srv).2.2]) ∧ Q w w' ∧ By w' (decA zs srv).1 s
theorem ret_dec {a : Act} {w : World} {R : Ending → World → Prop} (hd : a.defers = [])
    (g : Nat) (cs : Array Value) (hs : cs.size = 20) (hp : a.tmps.getD 4 undef = .pointer (some ⟨g, 0, none⟩)) (x y : Int) (h5 : a.tmps.getD 5 undef = .int .i64 x) (h6 : a.tmps.getD 6 undef = .int .i64 y) (hb : w.heap[g]? = some (.cells cs 24 (0, 0))) (hR : R (.returned (.tuple #[.agg cs, .int .i64 x, .int .i64 y])) w) : bodyPost Try.prog Try.f19 R .ret a w := by
  have hp' : a.tmps[4]?.getD undef = .pointer (some ⟨g, 0, none⟩) := by simpa using hp
  have h5' : a.tmps[5]?.getD undef = .int .i64 x := by simpa using h5
  have h6' : a.tmps[6]?.getD undef = .int .i64 y := by simpa using h6
  have hl := run_loadVar_row (P := Try.prog) w g 24 24 cs (0, 0) _ hb Try.underlying24 rfl (by rw [hs]; kernel_rfl)
  refine ⟨hd, _, ?_, hR⟩
  simp [results, hp', h5', h6', asAddr, hl]

set_option maxHeartbeats 8000000 in
theorem decode_huge (a : Option Addr) (n c : Nat) (zs : List Int) (srv : Bool) (w : World) (hl : zs.length = n) (hn : n ≤ 140737488355328) (hh : 16384 < n) :
    Calls Try.prog 19 #[.slice a n c, .bool srv] w fun e w' => AnsD w zs srv e w' := by
  have HA := hid (show decA zs srv = (zeM, 0, 52) from by unfold decA; rw [if_pos (by omega)])
  have hd : decide ((16384 : Int) < (n : Int)) = true := by simp; omega
  clear hl
  go_enter Try.func19, Try.ntmps19
  go_wp2_with (refine wpList_store_row rfl 24 _ _ rfl w.heap.size zeA rfl rfl 24 _ (heap_alloc_new w _) info24 rfl zeA_one ?_; refine Hid.out ?_)
  refine hid ?_
  generalize hw1 : World.setRow _ _ _ = w1
  have q1 : Q w w1 := by rw [← hw1]; exact (((Keep.refl (fun _ => False) w).alloc _).setRow _ _ (.inr (Nat.le_refl _))).toQ (fun _ _ => id)
  have b1 : w1.heap[w.heap.size]? = some (.cells zeA 24 (0, 0)) := by rw [← hw1]; exact setRow_heap _ _ _ _ 24 _ (heap_alloc_new w _)
  clear hw1
  go_wp2
  refine ret_dec rfl w.heap.size zeA rfl rfl 0 52 rfl rfl b1 ⟨fun _ => nilS, ?_, q1, ?_⟩
  · rw [HA.out, pc_zero]
  · rw [HA.out]; exact by_zero w1
end Go.Proofs.Ytidbimhcebfjfaa
