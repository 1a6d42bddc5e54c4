/-
  The decoder's takeNamed: contracts that the statements' walks use.
-/
import Derived.Test.YtehejibllkmflaaRa
namespace Go.Proofs.Ytehejibllkmflaa
open Go.RowKit
set_option linter.unusedVariables false
set_option maxRecDepth 20000

/-- What an instruction makes of the table: its words and the place behind it, or an error. -/
inductive TO where
  | ok (cap : Int) (g : Nat) (es : List Fd) (q : Nat)
  | bad (e : Int)
def insO (cap : Int) (g : Nat) (es : List Fd) (f : Fd) (q : Nat) : TO := if cap < szF f then .bad 161 else .ok cap (shrL (cap - szF f) g es).1 ((shrL (cap - szF f) g es).2 ++ [f]) q
def nmdO (cap : Int) (g : Nat) (es : List Fd) (zs : List Int) (p : Nat) (st : Bool) : TO :=
  match numO zs p 6 with
  | .bad y => .bad y
  | .ok n q1 => match txtO zs q1 7 with
    | .bad y => if y = 12 then .bad 12 else if (namO g es n st).isSome = true then .bad y else .bad 160
    | .ok s q2 => match namO g es n st with
      | none => .bad 160
      | some f => insO cap g es (f.1, s) q2
/-- A decoder and a reading beside one another. -/
structure TR (w : World) (db : Nat) (D : Dk) (es : List Fd) (rb : Nat) (x : Sv) (zs : List Int) (p : Nat) : Prop where
  i : DI w db D es
  r : Rg w rb x zs p
  n : rb ≠ db
  e : ∀ b, blk D.e.a = some b → b ≠ rb
  xd : ∀ b, blk x.a = some b → b ≠ db ∧ blk D.e.a ≠ some b ∧ b < w.heap.size
  s : D.sz = sumF es
  sb : sumF es ≤ 100000000
  c : 0 ≤ D.cap ∧ D.cap ≤ 100000000
  g : D.gone + es.length ≤ 140737488355328
theorem TR.q {w w' : World} {db : Nat} {D : Dk} {es : List Fd} {rb : Nat} {x : Sv} {zs : List Int} {p : Nat} (h : TR w db D es rb x zs p) (k : Q w w') : TR w' db D es rb x zs p :=
  ⟨h.i.q k, h.r.q k, h.n, h.e, fun b e => ⟨(h.xd b e).1, (h.xd b e).2.1, Nat.lt_of_lt_of_le (h.xd b e).2.2 k.size⟩, h.s, h.sb, h.c, h.g⟩
/-- The reading has gone on. -/
theorem TR.rd {w w' : World} {db : Nat} {D : Dk} {es : List Fd} {rb : Nat} {x : Sv} {zs : List Int} {p q : Nat} (h : TR w db D es rb x zs p) (hr : Rg w' rb x zs q) {F : Nat → Prop} (k : Keep F w w') (h1 : ¬ F db) (h2 : ∀ b, blk D.e.a = some b → ¬ F b) : TR w' db D es rb x zs q :=
  ⟨⟨(k.block _ (lt_of_block h.i.b) h1).trans h.i.b, h.i.r.keep k h2, h.i.d⟩, hr, h.n, h.e, fun b e => ⟨(h.xd b e).1, (h.xd b e).2.1, Nat.lt_of_lt_of_le (h.xd b e).2.2 k.size⟩, h.s, h.sb, h.c, h.g⟩
/-- What a taken instruction leaves. -/
structure TkS (w : World) (db : Nat) (D : Dk) (rb : Nat) (x : Sv) (zs : List Int) (cap : Int) (g : Nat) (es : List Fd) (q : Nat) (w' : World) (e' : Sv) : Prop where
  i : DI w' db { D with cap := cap, sz := sumF es, gone := g, e := e' } es
  r : Rg w' rb x zs q
  k : Keep (fun b => b = db ∨ b = rb ∨ blk D.e.a = some b) w w'
  b : ∀ b, blk e'.a = some b → blk D.e.a = some b ∨ w.heap.size ≤ b
theorem pfG_ok2 {zs : List Int} {p : Nat} {z : Int} (hz2 : 2 ≤ z) (h256 : z ≤ 256) (hb : ∀ y ∈ zs, 0 ≤ y ∧ y < 256) {n : Int} {c : Nat} (h : pfG zs p z = (n, c, 0)) : p < c ∧ c ≤ zs.length ∧ 0 ≤ n ∧ n ≤ 4611686018427387903 := by
  unfold pfG at h
  cases hd : zs.drop p with
  | nil => rw [hd] at h; cases h
  | cons y r =>
    have hlen : zs.length - p = r.length + 1 := by have := congrArg List.length hd; rw [List.length_drop] at this; simpa using this
    rw [hd] at h
    simp only at h
    have hm0 := Int.emod_nonneg y (show z ≠ 0 by omega)
    have hm1 := Int.emod_lt_of_pos y (show 0 < z by omega)
    have hmx : mxN = 4611686018427387903 := rfl
    by_cases hs : y % z < z - 1
    · rw [if_pos hs] at h
      cases h
      exact ⟨by omega, by omega, hm0, by omega⟩
    · rw [if_neg hs] at h
      rcases hg : gl (y % z) 1 1 r with ⟨v, c', e⟩
      rw [hg] at h
      simp only at h
      split at h
      · next he =>
        subst he
        obtain ⟨m, k, g1, g2, g3, g4, g5, g6, _⟩ := gl_least r 1 (y % z) 1 (fun t ht => hb t (List.mem_of_mem_drop (by rw [hd]; simp [ht]))) (by omega) (by omega) (by omega) hm0 (by omega) hg
        cases h
        rw [Int.mul_one] at g5
        exact ⟨by omega, by omega, by omega, by omega⟩
      · next he => cases h; exact absurd rfl he
theorem pgA_ok2 {zs : List Int} {p : Nat} {b : Int} (hb : ∀ y ∈ zs, 0 ≤ y ∧ y < 256) {n : Int} {c : Nat} (h : pgA zs p b = (n, c, 0)) : p < c ∧ c ≤ zs.length ∧ 0 ≤ n ∧ n ≤ 4611686018427387903 := by
  unfold pgA at h
  split at h
  · cases h
  · next hbb =>
    split at h
    · cases h
    · next hp =>
      obtain ⟨k, rfl⟩ := Int.eq_ofNat_of_zero_le (show 0 ≤ b by omega)
      rw [Int.toNat_natCast, Int.toNat_natCast] at h
      exact pfG_ok2 (two_k2 k (by omega)) (two_k k (by omega)).1 hb h
theorem num_le {zs : List Int} {p : Nat} {b : Int} {n : Int} {q : Nat} (hz : ∀ y ∈ zs, 0 ≤ y ∧ y < 256) (h : numO zs p b = .ok n q) : q ≤ zs.length ∧ p < q ∧ 0 ≤ n ∧ n ≤ 4611686018427387903 := by
  unfold numO at h
  split at h
  · cases h
  · split at h
    · cases h
    · next h2 =>
      cases h
      have h2' : (pgA zs p b).2.2 = 0 := by simpa using h2
      have := pgA_ok2 (n := (pgA zs p b).1) (c := (pgA zs p b).2.1) hz (by rw [← h2'])
      exact ⟨this.2.1, this.1, this.2.2.1, this.2.2.2⟩
theorem txt_le {zs : List Int} {p : Nat} {b : Int} {s : ByteArray} {q : Nat} (hz : ∀ y ∈ zs, 0 ≤ y ∧ y < 256) (h : txtO zs p b = .ok s q) : q ≤ zs.length ∧ p < q ∧ s.size ≤ 1000000 := by
  unfold txtO at h
  split at h
  · cases h
  · split at h
    · cases h
    · next h2 =>
      have h2' : (gtB zs p b).2.2 = 0 := by simpa using h2
      cases h
      clear h2
      unfold gtB at h2' ⊢
      by_cases hb : ¬ (1 ≤ b ∧ b ≤ 7)
      · rw [if_pos hb] at h2'; simp at h2'
      · rw [if_neg hb] at h2' ⊢
        rcases hg : pgA zs p b with ⟨n, c, e⟩
        rw [hg] at h2'
        simp only at h2' ⊢
        by_cases he : e ≠ 0
        · rw [if_pos he] at h2'; exact absurd h2' he
        · rw [if_neg he] at h2' ⊢
          have he0 : e = 0 := by simpa using he
          subst he0
          have hk := pgA_ok2 hz hg
          by_cases hn : 16384 < n
          · rw [if_pos hn] at h2'; simp at h2'
          · rw [if_neg hn] at h2' ⊢
            by_cases hl : (zs.length : Int) - (c : Int) < n
            · rw [if_pos hl] at h2'; simp at h2'
            · rw [if_neg hl] at h2' ⊢
              have hlen : ((zs.drop c).take n.toNat).length = n.toNat := by rw [List.length_take, List.length_drop]; omega
              by_cases hf : zs.getD (p : Int).toNat 0 / 2 ^ b.toNat % 2 = 0
              · rw [if_pos hf]
                refine ⟨by show c + n.toNat ≤ _; omega, by show p < c + n.toNat; omega, ?_⟩
                rw [str_len, hlen]; omega
              · rw [if_neg hf] at h2' ⊢
                rcases hd : hD ((zs.drop c).take n.toNat) with ⟨d, f⟩
                rw [hd] at h2'
                simp only at h2' ⊢
                by_cases hff : f ≠ 0
                · rw [if_pos hff] at h2'; exact absurd h2' hff
                · rw [if_neg hff]
                  have hf0 : f = 0 := by simpa using hff
                  subst hf0
                  refine ⟨by show c + n.toNat ≤ _; omega, by show p < c + n.toNat; omega, ?_⟩
                  rw [str_len]
                  have h1 := (once (fun y hy => hz y (List.mem_of_mem_drop (List.mem_of_mem_take hy))) hd).1
                  have h3 := hE_len d
                  rw [h1, hlen] at h3
                  have h4 := (hN_bd d).1
                  unfold hM at h3
                  show d.length ≤ _
                  omega
set_option maxHeartbeats 8000000 in
theorem named_ok (db : Nat) (D : Dk) (es : List Fd) (rb : Nat) (x : Sv) (zs : List Int) (p : Nat) (st : Bool) (cap : Int) (g : Nat) (es' : List Fd) (q : Nat) (w : World) (h : TR w db D es rb x zs p) (ho : nmdO D.cap D.gone es zs p st = .ok cap g es' q) :
    Calls Try.prog 35 #[.pointer (some ⟨db, 0, none⟩), .pointer (some ⟨rb, 0, none⟩), .bool st] w fun e w' => e = .returned (.tuple #[]) ∧ ∃ e', TkS w db D rb x zs cap g es' q w' e' := by
  unfold nmdO at ho
  cases hn : numO zs p 6 with
  | bad y => rw [hn] at ho; cases ho
  | ok n q1 =>
    rw [hn] at ho
    simp only at ho
    cases ht : txtO zs q1 7 with
    | bad y => rw [ht] at ho; simp only at ho; split at ho; cases ho; split at ho <;> cases ho
    | ok s q2 =>
      rw [ht] at ho
      simp only at ho
      cases hf : namO D.gone es n st with
      | none => rw [hf] at ho; cases ho
      | some f =>
        obtain ⟨fn, fv⟩ := f
        rw [hf] at ho
        simp only at ho
        unfold insO at ho
        split at ho
        · cases ho
        next hcs =>
        cases ho
        have hnl := num_le h.r.z hn
        have htl := txt_le h.r.z ht
        have HN := hid (fun u (k : Q w u) => numR_ok rb x zs p 6 n q1 u (h.r.q k) hn hnl.1)
        have HE : Hid (∀ u, TR u db D es rb x zs q1 → Calls Try.prog 41 #[.pointer (some ⟨db, 0, none⟩), .int .i64 n, .bool st] u fun e w' => e = .returned (.tuple #[.agg #[.string fn, .string fv], .bool true]) ∧ Q u w') := hid (fun u k => by
          have := dent_any db D es n st u k.i k.g hnl.2.2.1 hnl.2.2.2
          rw [hf] at this
          exact this)
        have HTR := hid h
        have hrl := lt_of_block h.r.b
        have hdl := lt_of_block h.i.b
        have hel : ∀ b, blk D.e.a = some b → b < w.heap.size := fun b e => Sub.lt h.i.r b e
        have hrd := h.n
        clear h hn hf
        go_enter Try.func35, Try.ntmps35
        have HBX := hid (heap_alloc_new w (.cells #[.pointer (some ⟨rb, 0, none⟩)] 78))
        have HQ0 := hid ((Q.refl w).alloc (.cells #[.pointer (some ⟨rb, 0, none⟩)] 78))
        go_wp2_with fail
        generalize hW : World.alloc w _ = W0 at *
        clear hW
        refine (HN.out _ HQ0.out).mono ?_
        rintro e w1 ⟨rfl, g1, k1⟩
        have T1 := hid (TR.rd (HTR.out.q HQ0.out) g1 k1 (fun e => hrd e.symm) (fun b e => HTR.out.e b e))
        have K1 := hid (show Keep (fun b => b = rb) w w1 from (Keep.ofQ HQ0.out).trans k1)
        have X1 := hid (show w1.heap[w.heap.size]? = some (.cells #[.pointer (some ⟨rb, 0, none⟩)] 78 (0, 0)) from (k1.block _ (lt_of_block HBX.out) (by omega)).trans HBX.out)
        clear g1 k1 HN HBX HQ0
        go_wp2_with (go_at_call 41; refine (HE.out _ T1.out).mono ?_; rintro e w2 ⟨rfl, q2⟩; refine Hid.out ?_)
        refine hid ?_
        go_wp2_with fail
        have T2 := hid (T1.out.q q2)
        have K2 := hid (show Keep (fun b => b = rb) w w2 from K1.out.trans (Keep.ofQ q2))
        have X2 := hid (blk_q q2 X1.out)
        have hs2 : w.heap.size ≤ w2.heap.size := K2.out.size
        have hx2 := lt_of_block X2.out
        clear q2 T1 K1 X1 HE
        have HF := hid (heap_alloc_new w2 (.cells #[.string fn, .string fv] 23))
        have HQ := hid ((Q.refl w2).alloc (.cells #[.string fn, .string fv] 23))
        generalize hW : World.alloc w2 _ = W2 at *
        clear hW
        have hfs : w2.heap.size < W2.heap.size := lt_of_block HF.out
        generalize hfbn : w2.heap.size = fb at *
        refine (fault54_ok w.heap.size fb rb x zs q1 s q fn fv W2 (blk_q HQ.out X2.out) HF.out (T2.out.r.q HQ.out) ht htl.1 (by omega) (fun b e => by have := (T2.out.xd b e).2.2; omega)).mono ?_
        rintro e w3 ⟨rfl, f3, g3, k3⟩
        have T3 := hid (TR.rd (T2.out.q HQ.out) g3 k3 (by omega) (fun b e h => by
          rcases h with h | h
          · exact T2.out.e b e h
          · have := hel b e; omega))
        have F3 := hid f3
        have K3 := hid (show Keep (fun b => b = rb) w w3 from (K2.out.trans (Keep.ofQ HQ.out)).trans' k3 (fun i hi e => by
          rcases e with e | e
          · exact e
          · omega))
        have hs3 := K3.out.size
        clear f3 g3 k3 T2 K2 X2 HQ HF
        have c0 : w3.cell? ⟨fb, 0, none⟩ = some (.string fn) := by rw [cell_of_row w3 _ 0 _ 23 (0, 0) F3.out]; rfl
        have c1 : w3.cell? ⟨fb, 1, none⟩ = some (.string s) := by rw [cell_of_row w3 _ 1 _ 23 (0, 0) F3.out]; rfl
        have HR := hid (fun x u => refuse_ok x u)
        have HI := hid (dins_ok db D es (fn, s) w3 T3.out.i T3.out.s (by omega) T3.out.sb T3.out.c.2 T3.out.g)
        dsimp only at HI
        have HG3 := hid T3.out.r
        have HXD := hid T3.out.xd
        have HEE := hid T3.out.e
        clear T3 F3
        go_wp2_with (first | (go_at_call 39; refine (HR.out _ _).mono ?_; rintro e w4 ⟨rfl, rfl⟩) | (go_at_call 37; refine HI.out.mono ?_; rintro e w5 ⟨rfl, e', t5⟩))
        go_end0
        refine ⟨rfl, e', t5.i, HG3.out.keep t5.k ?_ ?_, (K3.out.mono (fun i _ e => .inr (.inl e))).trans (t5.k.mono (fun i _ e => e.elim .inl (fun e => .inr (.inr e)))), fun b e => (t5.b b e).imp id (fun h => Nat.le_trans hs3 h)⟩
        · rintro (e | e)
          · exact hrd e
          · exact HEE.out rb e rfl
        · intro b e h
          rcases h with h | h
          · exact (HXD.out b e).1 h
          · exact (HXD.out b e).2.1 h
end Go.Proofs.Ytehejibllkmflaa
