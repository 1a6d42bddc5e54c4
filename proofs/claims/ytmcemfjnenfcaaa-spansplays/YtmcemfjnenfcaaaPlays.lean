/-
  Proved: for every int and every slice of calls the law turnpikelaw02.SpansPlays returns true, and its arguments read as they did. No condition.
-/
import Derived.Test.YtmcemfjnenfcaaaRows
import Derived.Test.YtmcemfjnenfcaaaRest
import Derived.Test.YtmcemfjnenfcaaaRaise
import Derived.Test.YtmcemfjnenfcaaaRefC
import Derived.Test.YtmcemfjnenfcaaaOpen
import Derived.WalkKit
import Derived.Deep.RegionWith
import Derived.ProofKit
import Derived.OpenShut
import Derived.ShutString
import Derived.ChangeOld
import Derived.Below
import Derived.SizedLaws
namespace Go.Proofs.Ytmcemfjnenfcaaa.spansPlays
open Go.ChangeShapes Go.WideShapes Go.ChangeAt Go.RowKit
open Go.ChangeMaps (open_string shut_string)
set_option linter.unusedVariables false

variable {W : World}

/-- One call of a script, in a block of its own. -/
def Thr (w : World) (b : Nat) (x y z : Int) : Prop := w.heap[b]? = some (.cells #[.int .i64 x, .int .i64 y, .int .i64 z] 38 (0, 0))
theorem Thr.c1 {w : World} {b : Nat} {x y z : Int} (h : Thr w b x y z) : w.cell? ⟨b, 1, none⟩ = some (.int .i64 y) := by rw [cell_of_row w b 1 _ 38 (0, 0) h]; rfl
theorem Thr.c2 {w : World} {b : Nat} {x y z : Int} (h : Thr w b x y z) : w.cell? ⟨b, 2, none⟩ = some (.int .i64 z) := by rw [cell_of_row w b 2 _ 38 (0, 0) h]; rfl
theorem Thr.keep {F : Nat → Prop} {w w' : World} {b : Nat} {x y z : Int} (h : Thr w b x y z) (k : Keep F w w') (hF : ¬ F b) : Thr w' b x y z := (k.block b (lt_of_block h) hF).trans h

theorem Thr.fp {w w' : World} {b rb : Nat} {a : Option Addr} {x y z : Int} (h : Thr w b x y z) (k : Keep (Fp rb a) w w') (h1 : rb < b) (h2 : ∀ c, blk a = some c → c < b) : Thr w' b x y z :=
  h.keep k (fun e => by rcases e with e | e; exact absurd e (by omega); exact absurd (h2 b e) (by omega))

/-- Both sets hold the same, apart from one another and from all that was there. -/
structure Inv (W w : World) (rb rd : Nat) (a : Option Addr) (n c : Nat) (ad : Option Addr) (nd cd : Nat) (most floor : Int) (xs : List Sp) : Prop where
  st : St w rb a n c most floor xs
  rt : Rt w rd ad nd cd most floor xs
  ok : Ok most floor xs
  bd : rb ≠ rd
  hb : W.heap.size ≤ rb
  hd : W.heap.size ≤ rd
  ab : blk a ≠ some rd
  db : blk ad ≠ some rb
  ap : ∀ b, blk ad = some b → blk a ≠ some b
  wa : ∀ b, blk a = some b → W.heap.size ≤ b
  q : Q W w

theorem Inv.go {W w w' : World} {rb rd : Nat} {a : Option Addr} {n c : Nat} {ad : Option Addr} {nd cd : Nat} {most floor : Int} {xs : List Sp} (h : Inv W w rb rd a n c ad nd cd most floor xs) (k : Q w w') : Inv W w' rb rd a n c ad nd cd most floor xs :=
  ⟨h.st.q k, h.rt.q k, h.ok, h.bd, h.hb, h.hd, h.ab, h.db, h.ap, h.wa, h.q.trans k⟩

/-- The document's set behind a call of the set. -/
theorem Inv.mid {W w w' : World} {rb rd : Nat} {a : Option Addr} {n c : Nat} {ad : Option Addr} {nd cd : Nat} {most floor : Int} {xs : List Sp} (h : Inv W w rb rd a n c ad nd cd most floor xs) (k : Keep (Fp rb a) w w') : Rt w' rd ad nd cd most floor xs :=
  h.rt.keep k (fun e => by rcases e with e | e; exact h.bd e.symm; exact h.ab e) (fun b hb e => by rcases e with e | e; exact h.db (by rw [hb, e]); exact h.ap b hb e)

/-- Both have gone on. -/
theorem Inv.step {W w w2 w3 : World} {rb rd : Nat} {a a2 : Option Addr} {n c n2 c2 : Nat} {ad ad2 : Option Addr} {nd cd nd2 cd2 : Nat} {most floor fl2 : Int} {xs xs2 : List Sp} (h : Inv W w rb rd a n c ad nd cd most floor xs)
    (k2 : Keep (Fp rb a) w w2) (s2 : St w2 rb a2 n2 c2 most fl2 xs2) (f2 : blk a2 = blk a ∨ ∀ b, blk a2 = some b → w.heap.size ≤ b) (k3 : Keep (fun b => b = rd) w2 w3) (r3 : Rt w3 rd ad2 nd2 cd2 most fl2 xs2) (f3 : blk ad2 = blk ad ∨ ∀ b, blk ad2 = some b → w2.heap.size ≤ b)
    (ok2 : Ok most fl2 xs2) : Inv W w3 rb rd a2 n2 c2 ad2 nd2 cd2 most fl2 xs2 := by
  have z2 := k2.size
  have hrd := h.rt.hd.lt
  have hrb := h.st.hd.lt
  have ab2 : blk a2 ≠ some rd := fun e => by
    rcases f2 with f | f
    · exact h.ab (by rw [← f]; exact e)
    · have := f rd e; omega
  refine ⟨s2.keep k3 (fun e => h.bd e) (fun b hb e => ab2 (by rw [hb, e])), r3, ok2, h.bd, h.hb, h.hd, ab2, ?_, ?_, ?_, ?_⟩
  · intro e
    rcases f3 with f | f
    · exact h.db (by rw [← f]; exact e)
    · have := f rb e; omega
  · intro b hb e
    rcases f3 with f | f
    · have hb' : blk ad = some b := by rw [← f]; exact hb
      rcases f2 with g | g
      · exact h.ap b hb' (by rw [← g]; exact e)
      · have := g b e; have := h.rt.lt b hb'; omega
    · have := f b hb; have := (s2.own.lt b e).2; omega
  · intro b hb
    rcases f2 with f | f
    · exact h.wa b (by rw [← f]; exact hb)
    · have := f b hb; have := h.q.size; omega
  · have q2 : Q W w2 := Q.st h.q k2 h.hb h.wa
    have k : Keep (fun b => W.heap.size ≤ b) W w3 := (Keep.ofQ q2).trans (k3.mono (fun i _ e => by rw [e]; exact h.hd))
    exact k.toQ (fun i hi e => by omega)


set_option maxHeartbeats 1000000 in
theorem walk_bad (most : Int) (a : Option Addr) (n c : Nat) (hb : ¬ (1 ≤ most ∧ most ≤ 64)) : Calls Try.prog 4 #[.int .i64 most, .slice a n c] W fun e w' => e = .returned (.bool true) ∧ Below W.heap.size W w' := by
  have HG := hid (show decide (1 ≤ most ∧ most ≤ 64) = false by simp; omega)
  go_enter Try.func4, Try.ntmps4
  go_wp2_with fail
  refine (new_bad most W hb).mono ?_
  rintro e w1 ⟨rfl, rfl⟩
  go_wp2_with fail
  refine (good_any most _).mono ?_
  rw [HG.out]
  rintro e w2 ⟨rfl, rfl⟩
  go_wp2_with fail
  refine (awake_any _).mono ?_
  rintro e w7 ⟨rfl, hq7⟩
  have Q7 := hid hq7
  clear hq7
  go_wp2
  go_ret
  exact ⟨rfl, Q7.out⟩

set_option maxHeartbeats 8000000 in
set_option maxRecDepth 100000 in
theorem walk_good (most : Int) (a : Option Addr) (n c : Nat) (K F T : Nat → Int) (hs : SegO W a n K F T) (hn : n * 24 ≤ 140737488351232) (m0 : 1 ≤ most) (m1 : most ≤ 64) :
    Calls Try.prog 4 #[.int .i64 most, .slice a n c] W fun e w' => e = .returned (.bool true) ∧ Below W.heap.size W w' := by
  have HS := hid hs
  have HG := hid (show decide (1 ≤ most ∧ most ≤ 64) = true by simp; omega)
  clear hs
  go_enter Try.func4, Try.ntmps4
  go_wp2_with fail
  refine (new_good most W m0 m1).mono ?_
  rintro e w1 ⟨rfl, hd1, hq1, hsz1⟩
  have S1 := hid (st_new hd1)
  have Q1 := hid hq1
  clear hd1 hq1
  obtain ⟨rb, hrb⟩ : ∃ rb, rb = W.heap.size := ⟨_, rfl⟩
  rw [← hrb] at S1 hsz1 ⊢
  have HRB := hid hrb
  clear hrb
  go_wp2_with fail
  refine (good_any most _).mono ?_
  rw [HG.out]
  rintro e w2 ⟨rfl, rfl⟩
  have hQA : Q w1 (w1.alloc (.cells #[.int .i64 most, .int .i64 0, .slice none 0 0] 36)) := (Q.refl w1).alloc _
  have IV := hid (show Inv W (w1.alloc (.cells #[.int .i64 most, .int .i64 0, .slice none 0 0] 36)) rb w1.heap.size none 0 0 none 0 0 most 0 [] from
    ⟨S1.out.q hQA, ⟨heap_alloc_new w1 _, seg_nil _ _, rfl, by simp [blk], by simp [blk]⟩, ok_new m0 m1, by omega, by rw [HRB.out]; exact Nat.le_refl _, by have := Q1.out.size; omega, by simp [blk], by simp [blk], by simp [blk], by simp [blk], Q1.out.trans hQA⟩)
  clear hQA
  go_wp2
  generalize w1.alloc (.cells #[.int .i64 most, .int .i64 0, .slice none 0 0] 36) = w0 at *
  generalize w1.heap.size = rd at *
  go_loopw [38] (fun v wr => ∃ k : Nat, ∃ a' : Option Addr, ∃ n' c' : Nat, ∃ ad : Option Addr, ∃ nd cd : Nat, ∃ floor : Int, ∃ xs : List Sp, k ≤ n ∧ v = .int .i64 k ∧ Inv W wr rb rd a' n' c' ad nd cd most floor xs) (fun i _ => n - (intOf i).toNat)
  case atStart => exact ⟨0, none, 0, 0, none, 0, 0, 0, [], Nat.zero_le _, rfl, IV.out⟩
  case round =>
    obtain ⟨k, a', n', c', ad, nd, cd, floor, xs, hk, rfl, hiv⟩ := hrel
    have IR := hid hiv
    have hrl := hiv.st.hd.lt
    have hdl := hiv.rt.hd.lt
    have hn64 : n' ≤ 64 := by have := hiv.ok.len; have := hiv.st.len; have := hiv.ok.m1; omega
    have hd64 : nd ≤ 64 := by have := hiv.ok.len; have := hiv.rt.len; have := hiv.ok.m1; omega
    clear hiv
    by_cases hkn : k < n
    · obtain ⟨b, off, rfl, hcl⟩ := (HS.out.q IR.out.q) (by omega)
      obtain ⟨d0, d1, d2⟩ := hcl k hkn
      rw [← Nat.add_assoc] at d1 d2
      clear hcl
      have hlt' : (k : Int) < (n : Int) := by omega
      generalize K k = kk at *
      generalize F k = fr at *
      generalize T k = to at *
      have QX := hid ((Q.refl wr).alloc (.cells #[.int .i64 kk, .int .i64 fr, .int .i64 to] 38))
      have X1 := hid (show Thr (wr.alloc (.cells #[.int .i64 kk, .int .i64 fr, .int .i64 to] 38)) wr.heap.size kk fr to from heap_alloc_new wr _)
      have IX := hid (IR.out.go QX.out)
      have hXa := hid (show ∀ b, blk a' = some b → b < wr.heap.size from fun b hb => (IR.out.st.own.lt b hb).2)
      by_cases hk1 : kk = 1
      · subst hk1
        go_wp2_with fail
        refine (add_any rb a' n' c' most floor xs fr to _ IX.out.st IX.out.ok).mono ?_
        rintro e wm ⟨rfl, ⟨a2, n2, c2, h2, hfr2⟩, k2⟩
        have hX2 : Thr wm wr.heap.size 1 fr to := X1.out.keep k2 (fun e => by
          rcases e with e | e
          · omega
          · have := hXa.out _ e; omega)
        have RM := hid (IX.out.mid k2)
        have S2 := hid h2
        have K2 := hid k2
        have F2 := hid hfr2
        have OK2 := hid (ad_ok IR.out.ok fr to)
        have x1 := hX2.c1
        have x2 := hX2.c2
        have hx2 : wr.heap.size < wm.heap.size := lt_of_block hX2
        clear h2 k2 hfr2 hX2
        go_wp2_with fail
        refine (radd_any rd ad nd cd most floor xs fr to wm RM.out IR.out.ok).mono ?_
        rintro e w2 ⟨rfl, ⟨ad2, nd2, cd2, h3, hfr3⟩, k3⟩
        have IV2 := hid (IX.out.step K2.out S2.out F2.out k3 h3 hfr3 OK2.out)
        clear h3 hfr3 k3 x1 x2 S2 K2 F2 RM OK2
        generalize adF most floor fr to xs = fl2 at *
        generalize adL most floor fr to xs = xs2 at *
        generalize adN floor fr to xs = N1 at *
        generalize adE fr to = E1 at *
        have b1 : (N1 != N1) = false := by simp
        have b2 : (E1 != E1) = false := by simp
        have t1 := IV2.out.ok.len
        have t2 := IV2.out.ok.m1
        have t3 := IV2.out.st.len
        go_wp2_with fail
        refine (rest_any rb rd a2 ad2 n2 nd2 c2 cd2 most fl2 xs2 _ IV2.out.st IV2.out.rt (by omega)).mono ?_
        rintro e w9 ⟨rfl, hq9⟩
        have IV9 := hid (IV2.out.go hq9)
        clear hq9
        go_wp2
        go_roundw
        case rel => exact ⟨k + 1, a2, n2, c2, ad2, nd2, cd2, fl2, xs2, by omega, by go_num, IV9.out⟩
        case measure => simp [intOf]; omega
      · by_cases hk2 : kk = 2
        · subst hk2
          have hk1' : ((2 : Int) == 1) = false := by simp
          have hxc := X1.out.c1
          have HR1 := hid (fun (u : World) (hq : Q (wr.alloc (.cells #[.int .i64 2, .int .i64 fr, .int .i64 to] 38)) u) => raise_any rb a' n' c' most floor xs fr u (IX.out.st.q hq) (by omega))
          have HR2 := hid (fun (u : World) (hr : Rt u rd ad nd cd most floor xs) => rraise_any rd ad nd cd most floor xs fr u hr IR.out.ok.ap hd64)
          go_wp2
          go_region_with (first
            | (go_at_call 17; refine (HR1.out _ (by repeat (first | exact Q.refl _ | apply Q.drewN | apply Q.drew))).mono ?_; rintro e wm ⟨rfl, ⟨n2, h2⟩, k2⟩; have k2' := k2.ofDrew; have hX2 : Thr wm wr.heap.size 2 fr to := X1.out.fp k2' hrl hXa.out; have x1 := hX2.c1)
            | (go_at_call 18; refine (HR2.out _ (IX.out.mid k2')).mono ?_; rintro e w2 ⟨rfl, ⟨ad2, nd2, cd2, h3, hfr3⟩, k3⟩))
          all_goals
            have IV2 := hid (IX.out.step k2' h2 (.inl rfl) k3 h3 hfr3 (rz_ok IR.out.ok fr))
            clear h2 h3 hfr3 k2 k2' k3 x1 hX2 HR1 HR2
            generalize rzF floor fr = fl2 at *
            generalize rzL floor fr xs = xs2 at *
            generalize rzE fr = E1 at *
            have b1 : (E1 != E1) = false := by simp
            obtain ⟨a2, ha2⟩ : ∃ z, z = a' := ⟨_, rfl⟩
            obtain ⟨c2, hc2⟩ : ∃ z, z = c' := ⟨_, rfl⟩
            rw [← ha2, ← hc2] at IV2
            have t1 := IV2.out.ok.len
            have t2 := IV2.out.ok.m1
            have t3 := IV2.out.st.len
            go_wp2_with fail
            refine (rest_any rb rd a2 ad2 n2 nd2 c2 cd2 most fl2 xs2 _ IV2.out.st IV2.out.rt (by omega)).mono ?_
            rintro e w9 ⟨rfl, hq9⟩
            have IV9 := hid (IV2.out.go hq9)
            clear hq9
            go_wp2
            go_roundw
            case rel => exact ⟨k + 1, a2, n2, c2, ad2, nd2, cd2, fl2, xs2, by omega, by go_num, IV9.out⟩
            case measure => simp [intOf]; omega
        · by_cases hk3 : kk = 3
          · subst hk3
            have hk1' : ((3 : Int) == 1) = false := by simp
            have hk2' : ((3 : Int) == 2) = false := by simp
            have hxc := X1.out.c1
            have HR1 := hid (fun (u : World) (hq : Q (wr.alloc (.cells #[.int .i64 3, .int .i64 fr, .int .i64 to] 38)) u) => has_any rb most floor a' n' c' xs u fr ((IX.out.st.q hq).hd) ((IX.out.st.q hq).own.seg) IR.out.st.len (by omega))
            have HR2 := hid (fun (u : World) (hq : Q (wr.alloc (.cells #[.int .i64 3, .int .i64 fr, .int .i64 to] 38)) u) => by
              have h := rhas_any rd ad nd cd most floor xs fr u (IX.out.rt.q hq) (by omega)
              rw [rhad_eq IR.out.ok.ap IR.out.ok.f0 fr] at h
              exact h)
            generalize hadB floor xs fr = hb0 at *
            have b1 : (hb0 != hb0) = false := by simp
            go_wp2
            go_region_with (first
              | (go_at_call 14; refine (HR1.out _ (by repeat (first | exact Q.refl _ | apply Q.drewN | apply Q.drew))).mono ?_; rintro e wm ⟨rfl, q2⟩; have q2' : Q (wr.alloc (.cells #[.int .i64 3, .int .i64 fr, .int .i64 to] 38)) wm := ((Q.refl _).drew).trans q2; have x1 : wm.cell? ⟨wr.heap.size, 1, none⟩ = some (.int .i64 fr) := (q2'.cell (p := ⟨wr.heap.size, 1, none⟩) (lt_of_cell hxc)).trans hxc)
              | (go_at_call 19; refine (HR2.out _ q2').mono ?_; rintro e w2 ⟨rfl, rfl⟩))
            all_goals
              have IV2 := hid (IX.out.go q2')
              clear q2 q2' x1 HR1 HR2
              obtain ⟨a2, ha2⟩ : ∃ z, z = a' := ⟨_, rfl⟩
              obtain ⟨c2, hc2⟩ : ∃ z, z = c' := ⟨_, rfl⟩
              obtain ⟨n2, hn2⟩ : ∃ z, z = n' := ⟨_, rfl⟩
              obtain ⟨ad2, had2⟩ : ∃ z, z = ad := ⟨_, rfl⟩
              obtain ⟨nd2, hnd2⟩ : ∃ z, z = nd := ⟨_, rfl⟩
              obtain ⟨cd2, hcd2⟩ : ∃ z, z = cd := ⟨_, rfl⟩
              obtain ⟨fl2, hfl2⟩ : ∃ z, z = floor := ⟨_, rfl⟩
              obtain ⟨xs2, hxs2⟩ : ∃ z, z = xs := ⟨_, rfl⟩
              rw [← ha2, ← hc2, ← hn2, ← had2, ← hnd2, ← hcd2, ← hfl2, ← hxs2] at IV2
              generalize hwm : wm = w2 at *
              clear hwm
              have t1 := IV2.out.ok.len
              have t2 := IV2.out.ok.m1
              have t3 := IV2.out.st.len
              go_wp2_with fail
              refine (rest_any rb rd a2 ad2 n2 nd2 c2 cd2 most fl2 xs2 _ IV2.out.st IV2.out.rt (by omega)).mono ?_
              rintro e w9 ⟨rfl, hq9⟩
              have IV9 := hid (IV2.out.go hq9)
              clear hq9
              go_wp2
              go_roundw
              case rel => exact ⟨k + 1, a2, n2, c2, ad2, nd2, cd2, fl2, xs2, by omega, by go_num, IV9.out⟩
              case measure => simp [intOf]; omega
          · have hk1' : (kk == 1) = false := by simp [hk1]
            have hk2' : (kk == 2) = false := by simp [hk2]
            have hk3' : (kk == 3) = false := by simp [hk3]
            have IV2 := IX
            obtain ⟨a2, ha2⟩ : ∃ z, z = a' := ⟨_, rfl⟩
            obtain ⟨c2, hc2⟩ : ∃ z, z = c' := ⟨_, rfl⟩
            obtain ⟨n2, hn2⟩ : ∃ z, z = n' := ⟨_, rfl⟩
            obtain ⟨ad2, had2⟩ : ∃ z, z = ad := ⟨_, rfl⟩
            obtain ⟨nd2, hnd2⟩ : ∃ z, z = nd := ⟨_, rfl⟩
            obtain ⟨cd2, hcd2⟩ : ∃ z, z = cd := ⟨_, rfl⟩
            obtain ⟨fl2, hfl2⟩ : ∃ z, z = floor := ⟨_, rfl⟩
            obtain ⟨xs2, hxs2⟩ : ∃ z, z = xs := ⟨_, rfl⟩
            rw [← ha2, ← hc2, ← hn2, ← had2, ← hnd2, ← hcd2, ← hfl2, ← hxs2] at IV2
            obtain ⟨w2, hw2⟩ : ∃ z, z = wr.alloc (.cells #[.int .i64 kk, .int .i64 fr, .int .i64 to] 38) := ⟨_, rfl⟩
            rw [← hw2] at IV2
            subst hw2
            have t1 := IV2.out.ok.len
            have t2 := IV2.out.ok.m1
            have t3 := IV2.out.st.len
            go_wp2_with fail
            refine (rest_any rb rd a2 ad2 n2 nd2 c2 cd2 most fl2 xs2 _ IV2.out.st IV2.out.rt (by omega)).mono ?_
            rintro e w9 ⟨rfl, hq9⟩
            have IV9 := hid (IV2.out.go hq9)
            clear hq9
            go_wp2
            go_roundw
            case rel => exact ⟨k + 1, a2, n2, c2, ad2, nd2, cd2, fl2, xs2, by omega, by go_num, IV9.out⟩
            case measure => simp [intOf]; omega
    · obtain rfl : k = n := by omega
      go_wp2_with fail
      refine (awake_any _).mono ?_
      rintro e w7 ⟨rfl, hq7⟩
      have Q7 := hid (IR.out.q.trans hq7)
      clear hq7
      go_wp2
      go_ret
      exact ⟨rfl, Q7.out⟩

theorem walk (most : Int) (a : Option Addr) (n c : Nat) (K F T : Nat → Int) (hs : SegO W a n K F T) (hn : n * 24 ≤ 140737488351232) :
    Calls Try.prog 4 #[.int .i64 most, .slice a n c] W fun e w' => e = .returned (.bool true) ∧ Below W.heap.size W w' := by
  by_cases hb : 1 ≤ most ∧ most ≤ 64
  · exact walk_good most a n c K F T hs hn hb.1 hb.2
  · exact walk_bad most a n c hb

set_option maxRecDepth 100000 in
theorem lifted (os : Os) (started : os.Started) (H : Type) (enc : TypeId × Value → H) :
    ReturnsInHanded {} Try.checked os 4 .any (Rows.spansPlaysSpec.pre6 enc Try.prog Try.f4 Rows.spansPlaysRow.domain false) (Rows.spansPlaysSpec.post enc Try.prog Try.f4 false true false false) := by
  refine returnsInHanded_of_change_sized (C := Try.checked) own_knob started (by kernel_rfl) Try.func4
    (ChangeSpec.witness6 (enc := enc) (C := Try.checked) false ⟨#[], #[.int .i64 0, .slice none 0 0], []⟩ 8 (by kernel_rfl) (by kernel_rfl) (by kernel_rfl) (by kernel_rfl)) ?_
  intro W base args ds gs before hval0 hW hcnd hsz0 _
  have hval : ∀ (j : Nat) t v, Try.f4.params[j]? = some t → args[j]? = some v → Value.okWide Try.prog W .any base t v := hval0
  have hsz : (DataW.weightsEach Try.prog (Try.f4.params.toList ++ Rows.spansPlaysSpec.plain.varTypes Try.prog) (ds ++ gs)).all (· ≤ reachBytes) = true := hsz0
  have hW' := hW
  obtain ⟨p, q, hA0, hV, rfl, hfz, hnd⟩ := hW
  have hA : DataW.TrodAll enc Try.prog W 0 (fun _ => true) true Try.f4.params.toList args.toList ds p := hA0
  rw [Try.params4] at hA hval hsz
  obtain ⟨v0, vs0, d0, ds0, p0, q0, hargs, rfl, rfl, h0, r0⟩ := trodAll_cons hA
  obtain ⟨v1, vs1, d1, ds1, p1, q1, rfl, rfl, rfl, h1, r1⟩ := trodAll_cons r0
  obtain ⟨rfl, rfl, rfl⟩ := trodAll_nil r1
  obtain rfl : args = #[v0, v1] := by cases args; simp_all
  obtain ⟨rfl, rfl⟩ := trodVars_none hV
  obtain ⟨a0, rfl, rfl, rfl, w0⟩ := open_int Try.underlying3 (hval 0 3 v0 rfl rfl) h0
  obtain ⟨a1, len1, cap1, rfl⟩ := okWide_slice Try.underlying33 (hval 1 33 v1 rfl rfl)
  have k1 := h1
  have lt1 : ∀ x ∈ p1, x.block < W.heap.size := by obtain ⟨m, hm⟩ := k1; exact DataW.trod_lt m _ _ _ hm
  obtain ⟨z1, zl1, zs1, zb1, zc1, ze1, zd1⟩ := open_ops h1
  have zn1 := len_le_ops hsz (j := 1) rfl rfl zd1
  clear hA0 hval0
  refine (walk a0 a1 len1 cap1 z1.1 z1.2.1 z1.2.2 zs1 zn1).mono fun e W' ⟨he, bel⟩ => ?_
  subst he
  exact ⟨_, rfl, _, _, _, [], _, [], hW', trodAll_mk1 (shut_bool Try.underlying4 _), (trodAll_cons_mk (shut_int Try.underlying3 w0) (trodAll_cons_mk (Below.trod laid_out (by kernel_rfl) (of_decide_eq_true (by kernel_rfl)) k1 bel lt1) trodAll_mk0)), rfl, bel.frame _, fun h => by cases h⟩

theorem over : Rows.spansPlaysRow.holds Try.pinned (OpenSpec.ofChange Rows.spansPlaysSpec) :=
  OpenClaim.holds_of_wide 4 Try.f4 rfl rfl rfl rfl rfl rfl rfl ⟨rfl, rfl, rfl, rfl, rfl⟩ rfl rfl rfl rfl rfl (by kernel_rfl) Try.func4 (by kernel_rfl)
    (of_decide_eq_true (by kernel_rfl)) (by unfold Func.isWrapper; first | (rw [if_pos (by decide +kernel)]; kernel_rfl) | (rw [if_neg (by decide +kernel)]; exact ⟨rfl, rfl⟩))
    (fun os started H enc _ => lifted os started H enc)

end Go.Proofs.Ytmcemfjnenfcaaa.spansPlays
namespace Go.Proofs.Ytmcemfjnenfcaaa

/-- The statement. -/
theorem spansPlays_holds : Rows.SpansPlaysSaid := spansPlays.over
#print axioms spansPlays_holds
end Go.Proofs.Ytmcemfjnenfcaaa
