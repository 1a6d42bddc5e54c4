/-
  A frame that is right is read back from its bytes. Plain mathematics. Nothing is proved of a statement here.
-/
import Derived.Test.YtdoodbaogmdloabTakeM
namespace Go.Proofs.Ytdoodbaogmdloab
open Go.RowKit
set_option linter.unusedVariables false
set_option maxRecDepth 20000

/-- What stands from a place on. -/
structure Suf (zs : List Int) (p : Int) (ys : List Int) : Prop where
  h0 : 0 ≤ p
  h1 : p.toNat ≤ zs.length
  hd : zs.drop p.toNat = ys
theorem Suf.len {zs ys : List Int} {p : Int} (h : Suf zs p ys) : (zs.length : Int) = p + ys.length := by
  have := congrArg List.length h.hd
  rw [List.length_drop] at this
  have := h.h0; have := h.h1; omega
theorem Suf.skip {zs xs ys : List Int} {p : Int} (h : Suf zs p (xs ++ ys)) : Suf zs (p + xs.length) ys := by
  have hl := h.len
  rw [List.length_append] at hl
  have h0 := h.h0
  refine ⟨by omega, by omega, ?_⟩
  have e : (p + (xs.length : Int)).toNat = p.toNat + xs.length := by omega
  rw [e, ← List.drop_drop, h.hd, List.drop_left]

section
variable {zs r : List Int} {p : Int}
theorem numO_suf {n : Int} (hn : isN n = true) (h : Suf zs p (form n ++ r)) : numO zs p = .ok n (p + (form n).length) ∧ Suf zs (p + (form n).length) r := by
  refine ⟨?_, h.skip⟩
  unfold isN at hn
  simp only [decide_eq_true_eq] at hn
  have e : rd zs p = (n, p + sz n, 0) := by
    have hz : zs = zs.take p.toNat ++ form n ++ r := by rw [List.append_assoc, ← h.hd, List.take_append_drop]
    have hl : (zs.take p.toNat).length = p.toNat := by rw [List.length_take]; have := h.h1; omega
    have := rd_form hn.1 hn.2 (zs.take p.toNat) r
    rw [← hz, hl] at this
    rw [show ((p.toNat : Nat) : Int) = p from by have := h.h0; omega] at this
    exact this
  unfold numO
  rw [e, form_length]
  rfl
theorem someO_suf {d : List Int} (h : Suf zs p (d ++ r)) : someO zs p d.length = .ok d (p + d.length) ∧ Suf zs (p + d.length) r := by
  have hl := h.len
  rw [List.length_append] at hl
  refine ⟨?_, h.skip⟩
  rw [someO_ok (by omega) (by omega), h.hd]
  congr 1
  rw [Int.toNat_natCast, List.take_left]
theorem oneO_suf {x : Int} (h : Suf zs p (x :: r)) : oneO zs p = .ok x (p + 1) ∧ Suf zs (p + 1) r := by
  have hl := h.len
  rw [List.length_cons] at hl
  have hs := Suf.skip (xs := [x]) (ys := r) (p := p) (zs := zs) h
  refine ⟨?_, hs⟩
  have h0 := h.h0
  have e : takeR zs p 0 1 = ((zs.drop p.toNat).take 1, p + 1, 0) := by
    unfold takeR
    rw [if_neg (by simp), if_neg (by omega), if_neg (by omega)]
    rfl
  unfold oneO
  rw [e, h.hd]
  rfl
theorem kindO_suf {k : Int} (h0 : 0 ≤ k) (h30 : k ≤ 30) (h : Suf zs p (form k ++ r)) : kindO zs p = .ok k (p + 1) ∧ Suf zs (p + 1) r := by
  have e : (form k).length = 1 := by rw [form_length]; exact sz_1 h0 (by omega)
  have hn := numO_suf (n := k) (by unfold isN; simp; omega) h
  rw [e] at hn
  refine ⟨?_, hn.2⟩
  unfold kindO
  rw [hn.1]
  show (if _ then _ else _) = _
  rw [if_neg (by rw [sz_1 h0 (by omega)]; simp; omega), if_neg (by omega)]
  rfl
theorem form_small {k : Int} (h0 : 0 ≤ k) (h : k < 64) : form k = [k] := by
  unfold form
  rw [sz_1 h0 h]
  simp [be, up, tag]
  omega
theorem leadsO_suf {f : Fr} : ∀ {l : List Nat} {f0 : Fr} {p : Int} {r : List Int}, (∀ o ∈ l, isN (fget f o) = true) → Suf zs p (forms (l.map (fget f)) ++ r) → ∃ q, leadsO zs l f0 p = .ok (l.foldl (fun g o => fset g o (fget f o)) f0) q ∧ Suf zs q r := by
  intro l
  induction l with
  | nil => intro f0 p r _ h; exact ⟨p, rfl, h⟩
  | cons o t ih =>
    intro f0 p r hn h
    have h' : Suf zs p (form (fget f o) ++ (forms (t.map (fget f)) ++ r)) := by
      have e : forms ((o :: t).map (fget f)) ++ r = form (fget f o) ++ (forms (t.map (fget f)) ++ r) := by simp [forms]
      rw [← e]; exact h
    obtain ⟨h1, h2⟩ := numO_suf (hn o (by simp)) h'
    obtain ⟨q, h3, h4⟩ := ih (f0 := fset f0 o (fget f o)) (fun o' ho' => hn o' (by simp [ho'])) h2
    refine ⟨q, ?_, h4⟩
    rw [leadsO, h1]
    exact h3
theorem downO_suf {fr a : Int} (hn : isN (fr - a) = true) (ha : 0 ≤ a) (h : Suf zs p (form (fr - a) ++ r)) : ∃ q, downO zs p fr = .ok a q ∧ Suf zs q r := by
  obtain ⟨h1, h2⟩ := numO_suf hn h
  refine ⟨_, ?_, h2⟩
  unfold downO
  rw [h1]
  show (if _ then _ else _) = _
  rw [if_neg (by omega)]
  congr 1
  omega
theorem downsO_suf : ∀ {l : List (Int × Int)} {t : Int × Int} {acc : List (Int × Int)} {p : Int} {r : List Int}, (∀ x ∈ l, 0 ≤ x.1 ∧ x.1 ≤ x.2 ∧ x.2 ≤ 4611686018427387903) → t.1 ≤ 4611686018427387903 → (∀ n ∈ downs t l, isN n = true) → Suf zs p (forms (downs t l) ++ r) → ∃ q, downsO zs l.length (t :: acc) p = .ok (l.reverse ++ t :: acc) q ∧ Suf zs q r := by
  intro l
  induction l with
  | nil => intro t acc p r _ _ _ h; exact ⟨p, rfl, h⟩
  | cons s l ih =>
    intro t acc p r hr ht hn h
    have hs := hr s (by simp)
    have e : forms (downs t (s :: l)) ++ r = form (t.1 - 2 - s.2) ++ (form (s.2 - s.1) ++ (forms (downs s l) ++ r)) := by
      rw [show t.1 - 2 - s.2 = t.1 - s.2 - 2 by omega]; simp [downs, forms]
    rw [e] at h
    obtain ⟨q1, h1, h2⟩ := downO_suf (by have := hn (t.1 - s.2 - 2) (by simp [downs]); rwa [show t.1 - 2 - s.2 = t.1 - s.2 - 2 by omega]) (by omega) h
    obtain ⟨q2, h3, h4⟩ := downO_suf (by exact hn (s.2 - s.1) (by simp [downs])) hs.1 h2
    obtain ⟨q3, h5, h6⟩ := ih (t := s) (acc := t :: acc) (fun x hx => hr x (by simp [hx])) (by omega) (fun n hn' => hn n (by simp [downs, hn'])) h4
    refine ⟨q3, ?_, h6⟩
    rw [List.length_cons, downsO]
    show (downO zs p (t.1 - 2)).bind _ = _
    rw [h1]
    show (spanO zs q1 s.2).bind _ = _
    unfold spanO
    rw [h3]
    show downsO zs l.length (s :: t :: acc) q2 = _
    rw [h5]
    simp
end

/-- The frame with the fields alone that its items name. -/
def bare (f : Fr) : Fr :=
  if f.kind = 0 then { zf with num := f.num } else if f.kind = 2 then akF 2 f.dl f.sp 0 0 0 else if f.kind = 3 then akF 3 f.dl f.sp f.e0 f.e1 f.e2 else if f.kind = 8 then strm3 f.fin f.id f.pl f.data
  else { kind := f.kind, id := if 1 ∈ lead f.kind then f.id else 0, pl := if 2 ∈ lead f.kind then f.pl else 0, num := if 3 ∈ lead f.kind then f.num else 0, code := if 4 ∈ lead f.kind then f.code else 0, fin := false,
         data := if f.kind = 6 ∨ f.kind = 7 ∨ f.kind = 24 ∨ f.kind = 26 ∨ f.kind = 27 ∨ f.kind = 28 ∨ f.kind = 29 then f.data else [], cid := if f.kind = 24 then f.cid else [], sp := [], dl := 0, e0 := 0, e1 := 0, e2 := 0 }
theorem bare_kind (f : Fr) : (bare f).kind = f.kind := by
  unfold bare
  split
  · rename_i h; rw [h]; rfl
  split
  · rename_i h; rw [h]; rfl
  split
  · rename_i h; rw [h]; rfl
  split
  · rename_i h; rw [h]; rfl
  · rfl
theorem chk_of {f : Fr} (h1 : isK f.kind = true) (h2 : f.data.length ≤ 16384) (h3 : numsB f = true) (h4 : fieldsB f = true) : chk f = 0 := by
  unfold chk
  rw [h1, if_neg (by simp), if_neg (by omega), h3, h4]
  rfl
theorem isK_list {k : Int} (h : isK k = true) : k = 0 ∨ k = 1 ∨ k = 2 ∨ k = 3 ∨ k = 4 ∨ k = 5 ∨ k = 6 ∨ k = 7 ∨ k = 8 ∨ k = 16 ∨ k = 17 ∨ k = 18 ∨ k = 19 ∨ k = 20 ∨ k = 21 ∨ k = 22 ∨ k = 23 ∨ k = 24 ∨ k = 25 ∨ k = 26 ∨ k = 27 ∨ k = 28 ∨ k = 29 ∨ k = 30 := by
  unfold isK at h
  simp only [decide_eq_true_eq] at h
  omega
theorem chk_bare {f : Fr} (h : chk f = 0) : chk (bare f) = 0 := by
  obtain ⟨h1, h2, h3, h4⟩ := chk_ok h
  refine chk_of (by rw [bare_kind]; exact h1) ?_ ?_ ?_
  · unfold bare
    repeat' split
    all_goals first | exact h2 | simp [zf, akF] | (simp [strm3]; exact h2)
  · obtain ⟨k, i, pl, num, code, fin, data, cid, sp, dl, e0, e1, e2⟩ := f
    dsimp only at h1
    rcases isK_list h1 with rfl | rfl | rfl | rfl | rfl | rfl | rfl | rfl | rfl | rfl | rfl | rfl | rfl | rfl | rfl | rfl | rfl | rfl | rfl | rfl | rfl | rfl | rfl | rfl
    all_goals (simp [numsB, lead, bare, fget, ackB, zf, akF, strm3] at h3 ⊢; try exact h3)
  · obtain ⟨k, i, pl, num, code, fin, data, cid, sp, dl, e0, e1, e2⟩ := f
    dsimp only at h1
    rcases isK_list h1 with rfl | rfl | rfl | rfl | rfl | rfl | rfl | rfl | rfl | rfl | rfl | rfl | rfl | rfl | rfl | rfl | rfl | rfl | rfl | rfl | rfl | rfl | rfl | rfl
    all_goals (simp [fieldsB, lead, bare, zf, akF, strm3] at h4 ⊢; try exact h4)

section
variable {zs r : List Int} {p : Int}
theorem lastO_suf {f g : Fr} (h4 : fieldsB f = true) (h2 : f.data.length ≤ 16384) (hk : ¬ (f.kind = 0 ∨ f.kind = 2 ∨ f.kind = 3 ∨ f.kind = 8)) (h : Suf zs p (last f ++ r)) :
    ∃ q, lastO zs f.kind g p = .ok { g with data := if f.kind = 6 ∨ f.kind = 7 ∨ f.kind = 24 ∨ f.kind = 26 ∨ f.kind = 27 ∨ f.kind = 28 ∨ f.kind = 29 then f.data else g.data, cid := if f.kind = 24 then f.cid else g.cid } q ∧ Suf zs q r := by
  unfold last at h
  unfold lastO
  by_cases h6 : f.kind = 6 ∨ f.kind = 7 ∨ f.kind = 28 ∨ f.kind = 29
  · rw [if_pos h6] at h ⊢
    rw [List.append_assoc] at h
    obtain ⟨g1, g2⟩ := numO_suf (n := f.data.length) (by unfold isN; simp; omega) h
    obtain ⟨g3, g4⟩ := someO_suf g2
    refine ⟨_, ?_, g4⟩
    rw [g1]
    show (someO zs _ _).bind _ = _
    rw [g3]
    show Out.ok _ _ = _
    rw [if_pos (by omega), if_neg (by omega)]
  rw [if_neg h6] at h ⊢
  by_cases h24 : f.kind = 24
  · rw [if_pos h24] at h ⊢
    rw [List.append_assoc, List.append_assoc] at h
    have hf : f.cid.length ≤ 20 ∧ f.data.length = 16 := by
      unfold fieldsB at h4
      rw [if_neg (by omega), if_neg (by omega), if_neg (by omega), if_neg (by omega), if_neg (by omega), if_pos h24] at h4
      simp only [decide_eq_true_eq] at h4
      omega
    obtain ⟨g1, g2⟩ := oneO_suf (x := (f.cid.length : Int)) (r := f.cid ++ (f.data ++ r)) h
    obtain ⟨g3, g4⟩ := someO_suf g2
    obtain ⟨g5, g6⟩ := someO_suf g4
    rw [hf.2] at g5
    refine ⟨_, ?_, g6⟩
    rw [g1]
    show (someO zs _ _).bind _ = _
    rw [g3]
    show (someO zs _ _).bind _ = _
    rw [show ((16 : Nat) : Int) = 16 from rfl] at g5
    rw [g5]
    show Out.ok _ _ = _
    rw [if_pos (by omega), if_pos h24, hf.2]
    rfl
  rw [if_neg h24] at h ⊢
  by_cases h26 : f.kind = 26 ∨ f.kind = 27
  · rw [if_pos h26] at h ⊢
    have hf : f.data.length = 8 := by
      unfold fieldsB at h4
      rw [if_neg (by omega), if_neg (by omega), if_neg (by omega), if_neg (by omega), if_neg (by omega), if_neg (by omega), if_pos h26] at h4
      simpa using h4
    obtain ⟨g1, g2⟩ := someO_suf h
    rw [hf] at g1
    refine ⟨_, ?_, g2⟩
    rw [show ((8 : Nat) : Int) = 8 from rfl] at g1
    rw [g1]
    show Out.ok _ _ = _
    rw [if_pos (by omega), if_neg (by omega), hf]
    rfl
  · rw [if_neg h26] at h ⊢
    refine ⟨p, ?_, by simpa using h⟩
    rw [if_neg (by omega), if_neg h24]
theorem nums_all {f : Fr} (h : numsB f = true) : ∀ o ∈ lead f.kind, isN (fget f o) = true := by
  unfold numsB at h
  rw [Bool.and_eq_true, List.all_eq_true] at h
  exact h.1
theorem genO_suf {f : Fr} (hc : chk f = 0) (hk : ¬ (f.kind = 0 ∨ f.kind = 2 ∨ f.kind = 3 ∨ f.kind = 8)) (h : Suf zs p (forms (leads f) ++ (last f ++ r))) : ∃ q, genO zs f.kind p = .ok (bare f) q ∧ Suf zs q r := by
  obtain ⟨h1, h2, h3, h4⟩ := chk_ok hc
  obtain ⟨q1, g1, g2⟩ := leadsO_suf (f := f) (f0 := { zf with kind := f.kind }) (nums_all h3) h
  obtain ⟨q2, g3, g4⟩ := lastO_suf (g := (lead f.kind).foldl (fun g o => fset g o (fget f o)) { zf with kind := f.kind }) h4 h2 hk g2
  refine ⟨q2, ?_, g4⟩
  unfold genO
  rw [g1]
  show lastO zs f.kind _ q1 = _
  rw [g3]
  congr 1
  obtain ⟨k, i, pl, num, code, fin, data, cid, sp, dl, e0, e1, e2⟩ := f
  dsimp only at h1 hk
  rcases isK_list h1 with rfl | rfl | rfl | rfl | rfl | rfl | rfl | rfl | rfl | rfl | rfl | rfl | rfl | rfl | rfl | rfl | rfl | rfl | rfl | rfl | rfl | rfl | rfl | rfl
  all_goals first | (exfalso; omega) | (simp [lead, bare, fset, fget, zf])

theorem spans_parts {l : List (Int × Int)} (h : spansB l = true) : 1 ≤ l.length ∧ l.length ≤ 64 ∧ spOk 0 l = true := by
  unfold spansB at h
  rw [Bool.and_eq_true, decide_eq_true_eq] at h
  exact ⟨h.1.1, h.1.2, h.2⟩
/-- The numbers of an ack's spans are numbers. -/
theorem spOk_snoc {low : Int} {l : List (Int × Int)} {a b : Int × Int} (h : spOk low (l ++ [a, b]) = true) : a.2 + 2 ≤ b.1 := by
  induction l generalizing low with
  | nil => simp only [List.nil_append, spOk, Bool.and_eq_true, decide_eq_true_eq] at h; exact h.2.1.1
  | cons x r ih => simp only [List.cons_append, spOk, Bool.and_eq_true] at h; exact ih h.2
theorem spOk_pre {low : Int} {l r : List (Int × Int)} (h : spOk low (l ++ r) = true) : spOk low l = true := by
  induction l generalizing low with
  | nil => rfl
  | cons x l ih => simp only [List.cons_append, spOk, Bool.and_eq_true] at h ⊢; exact ⟨h.1, ih h.2⟩
theorem downs_num : ∀ {l : List (Int × Int)} {t : Int × Int}, spOk 0 ((t :: l).reverse) = true → ∀ n ∈ downs t l, isN n = true := by
  intro l
  induction l with
  | nil => intro t _ n hn; cases hn
  | cons s l ih =>
    intro t h n hn
    have hall := spOk_all (by omega) h
    have ht := hall t (by simp)
    have hs := hall s (by simp)
    have h2 : spOk 0 (l.reverse ++ [s, t]) = true := by simpa using h
    have hgap := spOk_snoc h2
    simp only [downs, List.mem_cons] at hn
    rcases hn with rfl | rfl | hn
    · unfold isN; simp; omega
    · unfold isN; simp; omega
    · refine ih ?_ n hn
      have h3 : spOk 0 ((l.reverse ++ [s]) ++ [t]) = true := by simpa using h
      simpa using spOk_pre h3
theorem ackO_suf {f : Fr} (hc : chk f = 0) (hk : f.kind = 2 ∨ f.kind = 3) (h : Suf zs p (forms (ackN f) ++ r)) : ∃ q, ackO zs p f.kind = .ok (bare f) q ∧ Suf zs q r := by
  obtain ⟨h1, h2, h3, h4⟩ := chk_ok hc
  have hsp : spansB f.sp = true := by unfold fieldsB at h4; rw [if_neg (by omega), if_pos hk] at h4; exact h4
  obtain ⟨l1, l2, l3⟩ := spans_parts hsp
  have hack : ackB f = true := by unfold numsB at h3; rw [Bool.and_eq_true] at h3; exact h3.2
  have hdl : isN f.dl = true := by
    unfold ackB at hack
    rcases hk with hk | hk
    · rw [if_pos hk] at hack; exact hack
    · rw [if_neg (by omega), if_pos hk, Bool.and_eq_true] at hack; exact hack.1
  have hall := spOk_all (by omega) l3
  cases hrv : f.sp.reverse with
  | nil => have := congrArg List.length hrv; simp at this; rw [this] at l1; simp at l1
  | cons t l =>
    have hspe : f.sp = (t :: l).reverse := by rw [← hrv, List.reverse_reverse]
    have hlen : f.sp.length = l.length + 1 := by rw [hspe]; simp
    have ht := hall t (by rw [hspe]; simp)
    have hl : ∀ x ∈ l, 0 ≤ x.1 ∧ x.1 ≤ x.2 ∧ x.2 ≤ 4611686018427387903 := fun x hx => hall x (by rw [hspe]; simp [hx])
    have hdn := downs_num (l := l) (t := t) (by rw [← hspe]; exact l3)
    have e : forms (ackN f) ++ r = form t.2 ++ (form f.dl ++ (form (l.length : Int) ++ (form (t.2 - t.1) ++ (forms (downs t l) ++ (forms (marks f) ++ r))))) := by
      unfold ackN
      rw [hrv]
      simp [forms]
    rw [e] at h
    obtain ⟨g1, g2⟩ := numO_suf (by unfold isN; simp; omega) h
    obtain ⟨g3, g4⟩ := numO_suf hdl g2
    obtain ⟨g5, g6⟩ := numO_suf (by unfold isN; simp; omega) g4
    obtain ⟨q1, g7, g8⟩ := downO_suf (fr := t.2) (a := t.1) (by unfold isN; simp; omega) ht.1 g6
    obtain ⟨q2, g9, g10⟩ := downsO_suf (acc := []) hl (by omega) hdn g8
    have key : ∀ F q, ack5 zs f.kind f.dl f.sp q2 = .ok F q → ackO zs p f.kind = .ok F q := by
      intro F q h5
      unfold ackO
      rw [g1]
      show (numO zs _).bind _ = _
      rw [g3]
      show (numO zs _).bind _ = _
      rw [g5]
      show ack3 zs f.kind t.2 f.dl _ _ = _
      unfold ack3
      rw [if_neg (by omega)]
      unfold spanO
      rw [g7]
      show ack4 zs f.kind f.dl _ [(t.1, t.2)] q1 = _
      unfold ack4
      rw [Int.toNat_natCast, show ((t.1, t.2) : Int × Int) = t from rfl, g9]
      show ack5 zs f.kind f.dl (l.reverse ++ [t]) q2 = _
      rw [show l.reverse ++ [t] = f.sp from by rw [hspe]; simp]
      exact h5
    by_cases h3k : f.kind = 3
    · have hm : marks f = [f.e0, f.e1, f.e2] := by unfold marks; rw [if_pos h3k]
      have hee : isN f.e0 = true ∧ isN f.e1 = true ∧ isN f.e2 = true := by
        unfold ackB at hack
        rw [if_neg (by omega), if_pos h3k] at hack
        simp only [Bool.and_eq_true] at hack
        exact ⟨hack.2.1.1, hack.2.1.2, hack.2.2⟩
      rw [hm, show forms [f.e0, f.e1, f.e2] ++ r = form f.e0 ++ (form f.e1 ++ (form f.e2 ++ r)) from by simp [forms]] at g10
      obtain ⟨k1, k2⟩ := numO_suf hee.1 g10
      obtain ⟨k3, k4⟩ := numO_suf hee.2.1 k2
      obtain ⟨k5, k6⟩ := numO_suf hee.2.2 k4
      refine ⟨_, key _ _ ?_, k6⟩
      unfold ack5
      rw [if_pos h3k, k1]
      show (numO zs _).bind _ = _
      rw [k3]
      show (numO zs _).bind _ = _
      rw [k5]
      show Out.ok _ _ = _
      unfold bare
      rw [if_neg (by omega), if_neg (by omega), if_pos h3k, h3k]
    · have hm : marks f = [] := by unfold marks; rw [if_neg h3k]
      rw [hm] at g10
      refine ⟨q2, key _ _ ?_, by simpa [forms] using g10⟩
      unfold ack5
      rw [if_neg h3k]
      unfold bare
      have h2k : f.kind = 2 := by omega
      rw [if_neg (by omega), if_pos h2k, h2k]
theorem strm_suf {f : Fr} {fin at_ : Bool} (hi : isN f.id = true) (hpl : isN f.pl = true) (hat : at_ = decide (0 < f.pl)) (hd : f.data.length ≤ 16384) (h : Suf zs p (form f.id ++ ((if at_ then form f.pl else []) ++ (form f.data.length ++ (f.data ++ r))))) : ∃ q, strmO zs p fin at_ true = .ok (strm3 fin f.id f.pl f.data) q ∧ Suf zs q r := by
  obtain ⟨g1, g2⟩ := numO_suf hi h
  have g34 : ∃ q, (if at_ = true then numO zs (p + (form f.id).length) else Out.ok 0 (p + (form f.id).length)) = .ok f.pl q ∧ Suf zs q (form f.data.length ++ (f.data ++ r)) := by
    cases at_ with
    | true => exact ⟨_, numO_suf hpl g2⟩
    | false =>
      have : ¬ 0 < f.pl := by simpa using hat.symm
      have h0 : f.pl = 0 := by unfold isN at hpl; simp at hpl; omega
      exact ⟨_, by rw [h0]; rfl, by simpa using g2⟩
  obtain ⟨q2, g3, g4⟩ := g34
  obtain ⟨g5, g6⟩ := numO_suf (n := f.data.length) (by unfold isN; simp; omega) g4
  obtain ⟨g7, g8⟩ := someO_suf g6
  refine ⟨_, ?_, g8⟩
  unfold strmO
  rw [g1]
  show (if at_ = true then numO zs _ else Out.ok 0 _).bind _ = _
  rw [g3]
  show (strmD zs true q2).bind _ = _
  unfold strmD
  rw [if_pos rfl, g5]
  show (someO zs _ _).bind _ = _
  rw [g7]
  rfl
theorem zrun_zeros (n : Nat) (r : List Int) : zrun (List.replicate n 0 ++ r) = n + zrun r := by
  induction n with
  | zero => simp
  | succ n ih => rw [List.replicate_succ, List.cons_append, zrun, if_pos rfl, ih]; omega
/-- A frame is read from its bytes. -/
theorem frameO_suf {f : Fr} {P : Nat} (hc : chk f = 0) (hr : f.kind = 0 → zrun r = 0) (h : Suf zs P (enc f ++ r)) : ∃ q : Nat, frameO zs P = .ok (bare f) q ∧ Suf zs q r ∧ P < q := by
  obtain ⟨h1, h2, h3, h4⟩ := chk_ok hc
  have hkr : 0 ≤ f.kind ∧ f.kind ≤ 30 := by unfold isK at h1; simp only [decide_eq_true_eq] at h1; omega
  have fin : ∀ k q, 0 ≤ k → k ≤ 30 → kindO zs P = .ok k (P + 1) → itemsO zs P (P + 1) k = .ok (bare f) q → Suf zs q r → (P : Int) + 1 ≤ q → ∃ q : Nat, frameO zs P = .ok (bare f) q ∧ Suf zs q r ∧ P < q := by
    intro k q k0 k30 hk hi hs hq
    refine ⟨q.toNat, ?_, ?_, by omega⟩
    · unfold frameO
      rw [hk]
      show (itemsO zs P _ k).bind _ = _
      rw [hi]
      show (if _ then _ else _) = _
      rw [if_neg (by rw [chk_bare hc]; simp)]
      congr 1
      omega
    · rw [show ((q.toNat : Nat) : Int) = q by omega]; exact hs
  unfold enc at h
  by_cases k0 : f.kind = 0
  · rw [if_pos k0] at h
    have hn : 1 ≤ f.num ∧ f.num ≤ 16384 := by
      unfold fieldsB at h4; rw [if_pos k0] at h4; simpa using h4
    obtain ⟨m, hm⟩ : ∃ m : Nat, f.num = ((m + 1 : Nat) : Int) := ⟨(f.num - 1).toNat, by omega⟩
    rw [hm, Int.toNat_natCast, List.replicate_succ, List.cons_append] at h
    have hf0 : form 0 = [0] := form_small (by omega) (by omega)
    obtain ⟨g1, g2⟩ := kindO_suf (k := 0) (by omega) (by omega) (show Suf zs P (form 0 ++ (List.replicate m 0 ++ r)) by rw [hf0]; exact h)
    have hz : zrun (zs.drop (P + 1)) = m := by
      have := g2.hd
      rw [show ((P : Int) + 1).toNat = P + 1 by omega] at this
      rw [this, zrun_zeros, hr k0]; rfl
    have g3 := Suf.skip (xs := List.replicate m 0) g2
    rw [List.length_replicate] at g3
    refine fin 0 _ (by omega) (by omega) g1 ?_ g3 (by omega)
    unfold itemsO
    rw [if_pos rfl]
    unfold zerosO
    rw [hz]
    unfold bare
    rw [if_pos k0, hm]
    show Out.ok { zf with num := ((1 + m : Nat) : Int) } ((P + 1 + m : Nat) : Int) = _
    rw [show (1 + m : Nat) = m + 1 by omega, show ((P + 1 + m : Nat) : Int) = (P : Int) + 1 + (m : Int) by omega]
  rw [if_neg k0] at h
  by_cases k2 : f.kind = 2 ∨ f.kind = 3
  · rw [if_pos k2] at h
    rw [show forms [f.kind] ++ forms (ackN f) ++ r = form f.kind ++ (forms (ackN f) ++ r) from by simp [forms]] at h
    obtain ⟨g1, g2⟩ := kindO_suf hkr.1 hkr.2 h
    obtain ⟨q, g3, g4⟩ := ackO_suf hc k2 g2
    refine fin f.kind q hkr.1 hkr.2 g1 ?_ g4 ?_
    · unfold itemsO; rw [if_neg k0, if_pos k2]; exact g3
    · have := g4.len; have := g2.len; simp only [List.length_append] at this; omega
  rw [if_neg k2] at h
  by_cases k8 : f.kind = 8
  · rw [if_pos k8] at h
    have hl := nums_all h3
    have hi : isN f.id = true := hl 1 (by rw [k8]; decide)
    have hpl : isN f.pl = true := hl 2 (by rw [k8]; decide)
    have hbare : bare f = strm3 f.fin f.id f.pl f.data := by unfold bare; rw [if_neg k0, if_neg (by omega), if_neg (by omega), if_pos k8]
    have go : ∀ (K : Int) (fi at_ : Bool), 8 ≤ K → K ≤ 15 → decide (K % 2 = 1) = fi → decide (K / 4 % 2 = 1) = at_ → decide (K / 2 % 2 = 1) = true → fi = f.fin → at_ = decide (0 < f.pl) → Suf zs P (form K ++ (form f.id ++ ((if at_ then form f.pl else []) ++ (form f.data.length ++ (f.data ++ r))))) → ∃ q : Nat, frameO zs P = .ok (bare f) q ∧ Suf zs q r ∧ P < q := by
      intro K fi at_ K8 K15 e1 e2 e3 ef ea hS
      obtain ⟨g1, g2⟩ := kindO_suf (by omega) (by omega) hS
      obtain ⟨q, g3, g4⟩ := strm_suf (fin := fi) hi hpl ea h2 g2
      refine fin K q (by omega) (by omega) g1 ?_ g4 ?_
      · unfold itemsO
        rw [if_neg (by omega), if_neg (by omega), if_pos ⟨K8, K15⟩]
        unfold streamO
        rw [e1, e2, e3, g3, hbare, ef]
      · have := g4.len; have := g2.len; simp only [List.length_append] at this; omega
    unfold shead at h
    by_cases hp : 0 < f.pl
    · rw [if_pos hp] at h
      cases hfin : f.fin
      · rw [hfin] at h
        exact go 14 false true (by omega) (by omega) (by decide) (by decide) (by decide) hfin.symm (by simp [hp]) (by simpa [forms] using h)
      · rw [hfin] at h
        exact go 15 true true (by omega) (by omega) (by decide) (by decide) (by decide) hfin.symm (by simp [hp]) (by simpa [forms] using h)
    · rw [if_neg hp] at h
      cases hfin : f.fin
      · rw [hfin] at h
        exact go 10 false false (by omega) (by omega) (by decide) (by decide) (by decide) hfin.symm (by simp [hp]) (by simpa [forms] using h)
      · rw [hfin] at h
        exact go 11 true false (by omega) (by omega) (by decide) (by decide) (by decide) hfin.symm (by simp [hp]) (by simpa [forms] using h)
  · rw [if_neg k8] at h
    rw [show forms [f.kind] ++ forms (leads f) ++ last f ++ r = form f.kind ++ (forms (leads f) ++ (last f ++ r)) from by simp [forms]] at h
    obtain ⟨g1, g2⟩ := kindO_suf hkr.1 hkr.2 h
    obtain ⟨q, g3, g4⟩ := genO_suf hc (by omega) g2
    refine fin f.kind q hkr.1 hkr.2 g1 ?_ g4 ?_
    · unfold itemsO
      rw [if_neg k0, if_neg k2, if_neg (by unfold isK at h1; simp only [decide_eq_true_eq] at h1; omega)]
      exact g3
    · have := g4.len; have := g2.len; simp only [List.length_append] at this; omega

theorem enc_head {f : Fr} (hc : chk f = 0) (hk : f.kind ≠ 0) (s : List Int) : zrun (enc f ++ s) = 0 ∧ enc f ≠ [] := by
  obtain ⟨h1, h2, h3, h4⟩ := chk_ok hc
  have hkr : 0 ≤ f.kind ∧ f.kind ≤ 30 := by unfold isK at h1; simp only [decide_eq_true_eq] at h1; omega
  have key : ∀ (K : Int) (t : List Int), 0 < K → K ≤ 30 → enc f = form K ++ t → zrun (enc f ++ s) = 0 ∧ enc f ≠ [] := by
    intro K t h0 h30 e
    rw [e, form_small (by omega) (by omega)]
    refine ⟨?_, by simp⟩
    show zrun (K :: (t ++ s)) = 0
    rw [zrun, if_neg (by omega)]
  by_cases k2 : f.kind = 2 ∨ f.kind = 3
  · exact key f.kind (forms (ackN f)) (by omega) hkr.2 (by unfold enc; rw [if_neg hk, if_pos k2]; simp [forms])
  by_cases k8 : f.kind = 8
  · unfold shead at *
    have e : ∃ K t, 0 < K ∧ K ≤ 30 ∧ enc f = form K ++ t := by
      by_cases hp : 0 < f.pl
      · refine ⟨if f.fin then 15 else 14, forms [f.id, f.pl] ++ (form f.data.length ++ f.data), by split <;> omega, by split <;> omega, ?_⟩
        unfold enc shead
        rw [if_neg hk, if_neg k2, if_pos k8, if_pos hp]
        simp [forms]
      · refine ⟨if f.fin then 11 else 10, forms [f.id] ++ (form f.data.length ++ f.data), by split <;> omega, by split <;> omega, ?_⟩
        unfold enc shead
        rw [if_neg hk, if_neg k2, if_pos k8, if_neg hp]
        simp [forms]
    obtain ⟨K, t, a, b, c⟩ := e
    exact key K t a b c
  · exact key f.kind (forms (leads f) ++ last f) (by omega) hkr.2 (by unfold enc; rw [if_neg hk, if_neg k2, if_neg k8]; simp [forms])
/-- No two paddings one behind the other. -/
def Apart : List Fr → Prop
  | [] => True
  | [_] => True
  | a :: b :: r => ¬ (a.kind = 0 ∧ b.kind = 0) ∧ Apart (b :: r)
theorem Apart.tail {a : Fr} {l : List Fr} (h : Apart (a :: l)) : Apart l := by
  cases l with
  | nil => trivial
  | cons b r => exact h.2
theorem dec_suf : ∀ {fs : List Fr} {n P : Nat} {acc : List Fr}, (∀ f ∈ fs, chk f = 0) → Apart fs → Suf zs P (fs.flatMap enc) → zs.length ≤ n + P → dec zs n P acc = (acc ++ fs.map bare, 0, 0) := by
  intro fs
  induction fs with
  | nil =>
    intro n P acc _ _ h hn
    have hl := h.len
    simp at hl
    cases n with
    | zero => rw [dec]; simp
    | succ n => rw [dec, if_pos (by omega)]; simp
  | cons f fs ih =>
    intro n P acc hc ha h hn
    have hcf := hc f (by simp)
    rw [List.flatMap_cons] at h
    have hr : f.kind = 0 → zrun (fs.flatMap enc) = 0 := by
      intro hk
      cases fs with
      | nil => rfl
      | cons b r =>
        have hb : b.kind ≠ 0 := fun e => ha.1 ⟨hk, e⟩
        rw [List.flatMap_cons]
        exact (enc_head (hc b (by simp)) hb _).1
    obtain ⟨q, g1, g2, g3⟩ := frameO_suf hcf hr h
    have hlq := g2.len
    obtain ⟨m, rfl⟩ : ∃ m, n = m + 1 := ⟨n - 1, by omega⟩
    rw [dec, if_neg (by omega), g1]
    show dec zs m (q : Int).toNat (acc ++ [bare f]) = _
    rw [Int.toNat_natCast, ih (fun f' hf' => hc f' (by simp [hf'])) ha.tail g2 (by omega)]
    simp
/-- What is read is bare. -/
theorem lead_bare {k : Int} (hk : isK k = true) (hn : ¬ (k = 0 ∨ k = 2 ∨ k = 3 ∨ k = 8)) {f f' : Fr} {q : Int} (h : leadsO zs (lead k) { zf with kind := k } p = .ok f q) : f.kind = k ∧ f.fin = false ∧ f.data = [] ∧ f.cid = [] ∧ f.sp = [] ∧ f.dl = 0 ∧ f.e0 = 0 ∧ f.e1 = 0 ∧ f.e2 = 0 ∧ (1 ∉ lead k → f.id = 0) ∧ (2 ∉ lead k → f.pl = 0) ∧ (3 ∉ lead k → f.num = 0) ∧ (4 ∉ lead k → f.code = 0) := by
  have key : ∀ (l : List Nat) (f0 : Fr) (p q : Int) (f : Fr), leadsO zs l f0 p = .ok f q → f.kind = f0.kind ∧ f.fin = f0.fin ∧ f.data = f0.data ∧ f.cid = f0.cid ∧ f.sp = f0.sp ∧ f.dl = f0.dl ∧ f.e0 = f0.e0 ∧ f.e1 = f0.e1 ∧ f.e2 = f0.e2 ∧ ((∀ o ∈ l, o = 1 ∨ o = 2 ∨ o = 3 ∨ o = 4) → (1 ∉ l → f.id = f0.id) ∧ (2 ∉ l → f.pl = f0.pl) ∧ (3 ∉ l → f.num = f0.num) ∧ (4 ∉ l → f.code = f0.code)) := by
    intro l
    induction l with
    | nil => intro f0 p q f h; cases h; exact ⟨rfl, rfl, rfl, rfl, rfl, rfl, rfl, rfl, rfl, fun _ => ⟨fun _ => rfl, fun _ => rfl, fun _ => rfl, fun _ => rfl⟩⟩
    | cons o t ih =>
      intro f0 p q f h
      obtain ⟨x, q', _, h2⟩ := Out.bind_ok h
      have := ih _ _ _ _ h2
      have e : (fset f0 o x).kind = f0.kind ∧ (fset f0 o x).fin = f0.fin ∧ (fset f0 o x).data = f0.data ∧ (fset f0 o x).cid = f0.cid ∧ (fset f0 o x).sp = f0.sp ∧ (fset f0 o x).dl = f0.dl ∧ (fset f0 o x).e0 = f0.e0 ∧ (fset f0 o x).e1 = f0.e1 ∧ (fset f0 o x).e2 = f0.e2 := by
        unfold fset
        repeat' split
        all_goals exact ⟨rfl, rfl, rfl, rfl, rfl, rfl, rfl, rfl, rfl⟩
      obtain ⟨t1, t2, t3, t4, t5, t6, t7, t8, t9, t10⟩ := this
      obtain ⟨s1, s2, s3, s4, s5, s6, s7, s8, s9⟩ := e
      refine ⟨t1.trans s1, t2.trans s2, t3.trans s3, t4.trans s4, t5.trans s5, t6.trans s6, t7.trans s7, t8.trans s8, t9.trans s9, fun hl => ?_⟩
      obtain ⟨u1, u2, u3, u4⟩ := t10 (fun o' ho' => hl o' (by simp [ho']))
      have ho := hl o (by simp)
      refine ⟨fun hm => ?_, fun hm => ?_, fun hm => ?_, fun hm => ?_⟩
      · simp only [List.mem_cons, not_or] at hm
        rw [u1 hm.2]
        rcases ho with rfl | rfl | rfl | rfl <;> first | rfl | (exact absurd rfl hm.1)
      · simp only [List.mem_cons, not_or] at hm
        rw [u2 hm.2]
        rcases ho with rfl | rfl | rfl | rfl <;> first | rfl | (exact absurd rfl hm.1)
      · simp only [List.mem_cons, not_or] at hm
        rw [u3 hm.2]
        rcases ho with rfl | rfl | rfl | rfl <;> first | rfl | (exact absurd rfl hm.1)
      · simp only [List.mem_cons, not_or] at hm
        rw [u4 hm.2]
        rcases ho with rfl | rfl | rfl | rfl <;> first | rfl | (exact absurd rfl hm.1)
  obtain ⟨t1, t2, t3, t4, t5, t6, t7, t8, t9, t10⟩ := key _ _ _ _ _ h
  obtain ⟨u1, u2, u3, u4⟩ := t10 (fun o ho => lead_mem ho)
  exact ⟨t1, t2, t3, t4, t5, t6, t7, t8, t9, u1, u2, u3, u4⟩
theorem lastO_same {k : Int} {f f' : Fr} {q : Int} (h : lastO zs k f p = .ok f' q) : f' = { f with data := f'.data, cid := f'.cid } ∧ (¬ (k = 6 ∨ k = 7 ∨ k = 24 ∨ k = 26 ∨ k = 27 ∨ k = 28 ∨ k = 29) → f'.data = f.data) ∧ (k ≠ 24 → f'.cid = f.cid) := by
  unfold lastO at h
  by_cases h6 : k = 6 ∨ k = 7 ∨ k = 28 ∨ k = 29
  · rw [if_pos h6] at h
    obtain ⟨n, q1, g1, h⟩ := Out.bind_ok h
    obtain ⟨d, q2, g2, h⟩ := Out.bind_ok h
    cases h
    exact ⟨rfl, fun hh => absurd (by omega) hh, fun _ => rfl⟩
  rw [if_neg h6] at h
  by_cases h24 : k = 24
  · rw [if_pos h24] at h
    obtain ⟨n, q1, g1, h⟩ := Out.bind_ok h
    obtain ⟨c, q2, g2, h⟩ := Out.bind_ok h
    obtain ⟨d, q3, g3, h⟩ := Out.bind_ok h
    cases h
    exact ⟨rfl, fun hh => absurd (by omega) hh, fun hh => absurd h24 hh⟩
  rw [if_neg h24] at h
  by_cases h26 : k = 26 ∨ k = 27
  · rw [if_pos h26] at h
    obtain ⟨d, q2, g2, h⟩ := Out.bind_ok h
    cases h
    exact ⟨rfl, fun hh => absurd (by omega) hh, fun _ => rfl⟩
  · rw [if_neg h26] at h
    cases h
    exact ⟨rfl, fun _ => rfl, fun _ => rfl⟩
/-- What is read is bare, and its kind is the type's. -/
theorem items_bare {P : Nat} {k : Int} {f : Fr} {q : Int} (hK : isK f.kind = true) (h0 : 0 ≤ k ∧ k ≤ 30) (h : itemsO zs P p k = .ok f q) : bare f = f ∧ (f.kind = 0 → k = 0) := by
  unfold itemsO at h
  by_cases hk0 : k = 0
  · rw [if_pos hk0] at h
    cases h
    exact ⟨rfl, fun _ => hk0⟩
  rw [if_neg hk0] at h
  by_cases hk2 : k = 2 ∨ k = 3
  · rw [if_pos hk2] at h
    obtain ⟨to, q1, h1, h⟩ := Out.bind_ok h
    obtain ⟨dl, q2, h2, h⟩ := Out.bind_ok h
    obtain ⟨o, q3, h3, h⟩ := Out.bind_ok h
    unfold ack3 at h
    by_cases h64 : 64 ≤ o
    · rw [if_pos h64] at h; cases h
    rw [if_neg h64] at h
    obtain ⟨s, q4, h4, h⟩ := Out.bind_ok h
    obtain ⟨l, q5, h5, h⟩ := Out.bind_ok h
    unfold ack5 at h
    by_cases hk : k = 3
    · rw [if_pos hk] at h
      obtain ⟨e0, q6, h6, h⟩ := Out.bind_ok h
      obtain ⟨e1, q7, h7, h⟩ := Out.bind_ok h
      obtain ⟨e2, q8, h8, h⟩ := Out.bind_ok h
      cases h
      subst hk
      exact ⟨rfl, fun e => by simp [akF] at e⟩
    · rw [if_neg hk] at h
      cases h
      obtain rfl : k = 2 := by omega
      exact ⟨rfl, fun e => by simp [akF] at e⟩
  rw [if_neg hk2] at h
  by_cases hk8 : 8 ≤ k ∧ k ≤ 15
  · rw [if_pos hk8] at h
    obtain ⟨id, q1, h1, h⟩ := Out.bind_ok h
    obtain ⟨pl, q2, h2, h⟩ := Out.bind_ok h
    obtain ⟨d, q3, h3, h⟩ := Out.bind_ok h
    cases h
    exact ⟨rfl, fun e => by simp [strm3] at e⟩
  · rw [if_neg hk8] at h
    obtain ⟨f1, q1, g1, h⟩ := Out.bind_ok h
    obtain ⟨e1, e2, e3⟩ := lastO_same h
    have hkk : f.kind = f1.kind := by rw [e1]
    have hk1 : f1.kind = k := by
      have : ∀ (l : List Nat) (f0 : Fr) (p q : Int) (f : Fr), leadsO zs l f0 p = .ok f q → f.kind = f0.kind := by
        intro l
        induction l with
        | nil => intro f0 p q f h; cases h; rfl
        | cons o t ih =>
          intro f0 p q f h
          obtain ⟨x, q', _, h2⟩ := Out.bind_ok h
          rw [ih _ _ _ _ h2]
          unfold fset
          repeat' split
          all_goals rfl
      exact this _ _ _ _ _ g1
    rw [hkk, hk1] at hK
    obtain ⟨b1, b2, b3, b4, b5, b6, b7, b8, b9, b10, b11, b12, b13⟩ := lead_bare (f' := f) hK (by omega) g1
    refine ⟨?_, fun e => by rw [hkk, hk1] at e; exact e⟩
    have d1 : f.id = f1.id := by rw [e1]
    have d2 : f.pl = f1.pl := by rw [e1]
    have d3 : f.num = f1.num := by rw [e1]
    have d4 : f.code = f1.code := by rw [e1]
    have d5 : f.fin = false := by rw [e1]; exact b2
    have d6 : f.sp = [] := by rw [e1]; exact b5
    have d7 : f.dl = 0 := by rw [e1]; exact b6
    have d8 : f.e0 = 0 := by rw [e1]; exact b7
    have d9 : f.e1 = 0 := by rw [e1]; exact b8
    have d10 : f.e2 = 0 := by rw [e1]; exact b9
    have hfk : f.kind = k := by rw [hkk, hk1]
    unfold bare
    rw [if_neg (by omega), if_neg (by omega), if_neg (by omega), if_neg (by omega)]
    have x1 : (if 1 ∈ lead f.kind then f.id else 0) = f.id := by
      split
      · rfl
      · rename_i hh; rw [d1]; rw [hfk] at hh; exact (b10 hh).symm
    have x2 : (if 2 ∈ lead f.kind then f.pl else 0) = f.pl := by
      split
      · rfl
      · rename_i hh; rw [d2]; rw [hfk] at hh; exact (b11 hh).symm
    have x3 : (if 3 ∈ lead f.kind then f.num else 0) = f.num := by
      split
      · rfl
      · rename_i hh; rw [d3]; rw [hfk] at hh; exact (b12 hh).symm
    have x4 : (if 4 ∈ lead f.kind then f.code else 0) = f.code := by
      split
      · rfl
      · rename_i hh; rw [d4]; rw [hfk] at hh; exact (b13 hh).symm
    have x5 : (if f.kind = 6 ∨ f.kind = 7 ∨ f.kind = 24 ∨ f.kind = 26 ∨ f.kind = 27 ∨ f.kind = 28 ∨ f.kind = 29 then f.data else []) = f.data := by
      split
      · rfl
      · rename_i hh; rw [e2 (by rw [hfk] at hh; exact hh), b3]
    have x6 : (if f.kind = 24 then f.cid else []) = f.cid := by
      split
      · rfl
      · rename_i hh; rw [e3 (by rw [hfk] at hh; exact hh), b4]
    rw [x1, x2, x3, x4, x5, x6]
    obtain ⟨k', i, pl, num, code, fin, data, cid, sp, dl, e0, e1, e2⟩ := f
    dsimp only at d5 d6 d7 d8 d9 d10 ⊢
    rw [d5, d6, d7, d8, d9, d10]
theorem kind_zero {P : Nat} (hz : ∀ y ∈ zs, 0 ≤ y ∧ y < 256) (hP : P < zs.length) (h : kindO zs P = .ok 0 (P + 1)) : 0 < zrun (zs.drop P) := by
  obtain ⟨m, q', hn, h2⟩ := Out.bind_ok h
  have hm : m = 0 ∧ q' = P + 1 := by
    by_cases h53 : q' - P ≠ sz m
    · rw [if_pos h53] at h2; cases h2
    rw [if_neg h53] at h2
    by_cases h30 : 30 < m
    · rw [if_pos h30] at h2; cases h2
    · rw [if_neg h30] at h2; cases h2; exact ⟨rfl, rfl⟩
  obtain ⟨rfl, rfl⟩ := hm
  obtain ⟨⟨m', q'', f⟩, hx⟩ : ∃ x, rd zs P = x := ⟨_, rfl⟩
  unfold numO at hn
  rw [hx] at hn
  dsimp only at hn
  by_cases hf : f = 0
  · rw [if_pos hf] at hn
    cases hn
    subst hf
    unfold rd at hx
    rw [if_neg (by omega)] at hx
    rcases rdAt_ok hx with ⟨_, x, r, hd, hw, hmm, hqq⟩ | ⟨h, _⟩
    · rw [Int.toNat_natCast] at hd
      have hxr := hz x (List.mem_of_mem_drop (by rw [hd]; simp : x ∈ zs.drop P))
      have hwx : width x = 1 := by omega
      rw [hwx] at hmm
      simp [val] at hmm
      rcases width_cases hxr.1 hxr.2 with h | h | h | h
      · rw [hd, zrun, if_pos (by omega)]; omega
      all_goals omega
    · omega
  · rw [if_neg hf] at hn; cases hn
theorem zrun_rest (l : List Int) : zrun (l.drop (zrun l)) = 0 := by
  induction l with
  | nil => rfl
  | cons x r ih =>
    rw [zrun]
    split
    · rw [List.drop_succ_cons]; exact ih
    · rename_i hx; rw [List.drop_zero, zrun, if_neg hx]
/-- What Decode tells as frames: right, bare, no two paddings one behind the other. -/
theorem dec_norm (hz : ∀ y ∈ zs, 0 ≤ y ∧ y < 256) : ∀ {n P : Nat} {acc fs : List Fr} {at_ : Int}, P ≤ zs.length → dec zs n P acc = (fs, at_, 0) → ∃ l, fs = acc ++ l ∧ (∀ f ∈ l, chk f = 0 ∧ bare f = f) ∧ Apart l ∧ ∀ f r, l = f :: r → f.kind = 0 → 0 < zrun (zs.drop P) := by
  intro n
  induction n with
  | zero => intro P acc fs at_ _ h; rw [dec] at h; cases h; exact ⟨[], by simp, (by intro f hf; cases hf), trivial, (by intro f r e; cases e)⟩
  | succ n ih =>
    intro P acc fs at_ hP h
    rw [dec] at h
    by_cases hl : zs.length ≤ P
    · rw [if_pos hl] at h; cases h; exact ⟨[], by simp, (by intro f hf; cases hf), trivial, (by intro f r e; cases e)⟩
    rw [if_neg hl] at h
    cases hf : frameO zs P with
    | cut => rw [hf] at h; cases h
    | bad x =>
      rw [hf] at h
      have := fine_frame zs P x hf
      simp only [Prod.mk.injEq] at h
      omega
    | ok f q =>
      rw [hf] at h
      have hp : Pl zs P := ⟨hz, by omega, by omega⟩
      obtain ⟨g1, g2, g3, k, g4, g5, g6⟩ := frameO_pl hp hf
      have hq1 := g1.h1
      have hb := items_bare (chk_ok g3).1 g6 g5
      obtain ⟨l, h1, h2, h3, h4⟩ := ih (P := q.toNat) (by omega) h
      refine ⟨f :: l, by rw [h1]; simp, ?_, ?_, ?_⟩
      · intro f' hf'
        rcases List.mem_cons.1 hf' with rfl | hf'
        · exact ⟨g3, hb.1⟩
        · exact h2 f' hf'
      · cases l with
        | nil => trivial
        | cons b r =>
          refine ⟨fun ⟨e1, e2⟩ => ?_, h3⟩
          have hk0 := hb.2 e1
          have hpos := h4 b r rfl e2
          subst hk0
          unfold itemsO at g5
          rw [if_pos rfl] at g5
          cases g5
          rw [Int.toNat_natCast, ← List.drop_drop, zrun_rest] at hpos
          omega
      · intro f' r' e hk0
        cases e
        have := hb.2 hk0
        subst this
        exact kind_zero hz (by omega) g4
end
/-- What is read from bytes is read from its own bytes. -/
theorem decA_again {zs : List Int} (hz : ∀ y ∈ zs, 0 ≤ y ∧ y < 256) {fs : List Fr} {at_ : Int} (h : decA zs = (fs, at_, 0)) : (∀ f ∈ fs, chk f = 0 ∧ bare f = f) ∧ fs ≠ [] ∧ ((fs.flatMap enc).length ≤ 16384 → decA (fs.flatMap enc) = (fs, 0, 0)) := by
  have hne : fs ≠ [] := by
    rcases decA_cases hz h with h' | h' | h'
    · exact h'.2.2
    · exact absurd rfl h'.1
    · exact absurd rfl h'.1
  unfold decA at h
  by_cases h1 : 16384 < zs.length
  · rw [if_pos h1] at h; cases h
  rw [if_neg h1] at h
  by_cases h2 : zs.length = 0
  · rw [if_pos h2] at h; cases h
  rw [if_neg h2] at h
  obtain ⟨l, g1, g2, g3, _⟩ := dec_norm hz (Nat.zero_le _) h
  rw [List.nil_append] at g1
  subst g1
  refine ⟨g2, hne, fun hle => ?_⟩
  have hpos : 0 < (fs.flatMap enc).length := by
    cases fs with
    | nil => exact absurd rfl hne
    | cons f r =>
      have hc := (g2 f (by simp)).1
      rw [List.flatMap_cons, List.length_append]
      have : enc f ≠ [] := by
        by_cases hk : f.kind = 0
        · have h4 := (chk_ok hc).2.2.2
          unfold fieldsB at h4
          rw [if_pos hk] at h4
          simp only [decide_eq_true_eq] at h4
          unfold enc
          rw [if_pos hk]
          intro e
          have := congrArg List.length e
          simp at this
          omega
        · exact (enc_head hc hk []).2
      cases he : enc f with
      | nil => exact absurd he this
      | cons y t => simp; omega
  unfold decA
  rw [if_neg (by omega), if_neg (by omega)]
  rw [dec_suf (fs := fs) (fun f hf => (g2 f hf).1) g3 ⟨by omega, by simp, by simp⟩ (by omega)]
  rw [List.nil_append]
  congr 1
  rw [List.map_congr_left (g := id) (fun f hf => (g2 f hf).2), List.map_id]
theorem bare_small {f : Fr} (hc : chk f = 0) (hb : bare f = f) : f.data.length ≤ 16384 ∧ f.cid.length ≤ 20 ∧ f.sp.length ≤ 64 := by
  obtain ⟨h1, h2, h3, h4⟩ := chk_ok hc
  refine ⟨h2, ?_, ?_⟩
  · by_cases k24 : f.kind = 24
    · unfold fieldsB at h4
      rw [if_neg (by omega), if_neg (by omega), if_neg (by omega), if_neg (by omega), if_neg (by omega), if_pos k24] at h4
      simp only [decide_eq_true_eq] at h4
      omega
    · have e : (bare f).cid = [] := by
        unfold bare
        repeat' split
        all_goals first | rfl | (rename_i hh; exact absurd hh k24)
      rw [hb] at e
      rw [e]; simp
  · by_cases k2 : f.kind = 2 ∨ f.kind = 3
    · have hsp : spansB f.sp = true := by unfold fieldsB at h4; rw [if_neg (by omega), if_pos k2] at h4; exact h4
      exact (spans_parts hsp).2.1
    · have e : (bare f).sp = [] := by
        unfold bare
        split
        · rfl
        rw [if_neg (by omega), if_neg (by omega)]
        split <;> rfl
      rw [hb] at e
      rw [e]; simp
end Go.Proofs.Ytdoodbaogmdloab
