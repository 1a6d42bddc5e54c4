/-
  What a reader of frames does, as plain mathematics: bytes as a list, the reader's fields as numbers. No Go in it.
-/
import Derived.Test.YtdlefmlienfjhaaMathTwo
namespace Go.Proofs.Ytdlefmlienfjhaa
set_option linter.unusedVariables false

theorem rdAt_cons (x : Int) (r : List Int) (p : Int) : rdAt (x :: r) p = if r.length + 1 < width x then (0, 0, 12) else (val (x % 64) (r.take (width x - 1)), p + width x, 0) := rfl
theorem rd_in {zs : List Int} {p m e : Int} (h : rd zs p = (m, e, 0)) (hz : ∀ y ∈ zs, 0 ≤ y ∧ y < 256) : 0 ≤ p ∧ p + 1 ≤ e ∧ e ≤ zs.length ∧ 0 ≤ m ∧ m ≤ 4611686018427387903 := by
  unfold rd at h
  by_cases hp : p < 0 ∨ (zs.length : Int) < p
  · rw [if_pos hp] at h; simp at h
  · rw [if_neg hp] at h
    rcases rdAt_ok h with ⟨_, x, r, hl, hw, hm, he⟩ | ⟨hf, _⟩
    · have hb : ∀ y ∈ x :: r, 0 ≤ y ∧ y < 256 := by intro y hy; rw [← hl] at hy; exact hz y (List.mem_of_mem_drop hy)
      have hl2 : (zs.drop p.toNat).length = zs.length - p.toNat := List.length_drop
      rw [hl] at hw hl2
      have := least hb hw
      simp only at this
      rw [← hm] at this
      have hwx : 1 ≤ width x := by unfold width; repeat' split
                                   all_goals omega
      omega
    · cases hf
theorem rd_app {zs : List Int} (ys : List Int) {p m e : Int} (h : rd zs p = (m, e, 0)) : rd (zs ++ ys) p = (m, e, 0) := by
  unfold rd at h ⊢
  by_cases hp : p < 0 ∨ (zs.length : Int) < p
  · rw [if_pos hp] at h; simp at h
  · rw [if_neg hp] at h
    rw [if_neg (by rw [List.length_append]; omega), List.drop_append_of_le_length (by omega)]
    rcases rdAt_ok h with ⟨_, x, r, hl, hw, hm, he⟩ | ⟨hf, _⟩
    · rw [hl]
      rw [hl] at hw
      simp only [List.length_cons] at hw
      rw [List.cons_append, rdAt_cons, if_neg (by rw [List.length_append]; omega), hm, he, List.take_append_of_le_length (by omega)]
    · cases hf
/-- A fault in a place within the bytes is 'too short'. -/
theorem rd_fault {zs : List Int} {p : Int} (h0 : 0 ≤ p) (h1 : p ≤ zs.length) (h : (rd zs p).2.2 ≠ 0) : rd zs p = (0, 0, 12) := by
  unfold rd at h ⊢
  rw [if_neg (by omega)] at h ⊢
  obtain ⟨x, hx⟩ : ∃ x, rdAt (zs.drop p.toNat) p = x := ⟨_, rfl⟩
  obtain ⟨m, e, f⟩ := x
  rw [hx] at h ⊢
  rcases rdAt_ok hx with ⟨hf, _⟩ | ⟨hf, hm, he⟩
  · exact absurd hf h
  · rw [hf, hm, he]

/-- An event: its kind, its bytes, the three settings, the id. -/
structure Ev where
  k : Int
  d : List Int
  s0 : Int
  s1 : Int
  s2 : Int
  i : Int
/-- A reader. -/
structure Hf where
  st : Int
  lim : Int
  held : List Int
  ended : Bool
  begun : Int
  ins : Bool
  fr : Int
  left : Int
  done : Bool
  fault : Int

def bnd (fr : Int) : Bool := decide (fr = 1 ∨ fr = 4 ∨ fr = 7 ∨ fr = 13)
def mostOf (lim fr : Int) : Int := if fr = 1 then lim else if fr = 4 ∨ fr = 7 ∨ fr = 13 then 1024 else 0
def mayC (st begun fr : Int) : Bool :=
  if fr = 0 then decide (st = 1 ∧ begun = 1)
  else if fr = 1 then decide (st = 1 ∧ begun < 2)
  else if fr = 4 then decide (st = 2 ∧ begun = 0)
  else if fr = 7 ∨ fr = 13 then decide (st = 2 ∧ begun = 1)
  else decide (¬ (fr = 2 ∨ fr = 3 ∨ fr = 5 ∨ fr = 6 ∨ fr = 8 ∨ fr = 9))
def refu (st lim begun fr len : Int) : Int :=
  if st = 2 ∧ begun = 0 ∧ fr ≠ 4 then 171 else if mayC st begun fr = false then 170 else if bnd fr = true ∧ mostOf lim fr < len then 151 else 0

/-- Into the next frame, if its type and its length are there. -/
def ent (H : Hf) : Bool × Hf :=
  if (rd H.held 0).2.2 ≠ 0 then (false, H)
  else if (rd H.held (rd H.held 0).2.1).2.2 ≠ 0 then (false, H)
  else if refu H.st H.lim H.begun (rd H.held 0).1 (rd H.held (rd H.held 0).2.1).1 ≠ 0 then (false, { H with fault := refu H.st H.lim H.begun (rd H.held 0).1 (rd H.held (rd H.held 0).2.1).1 })
  else (true, { H with held := H.held.drop (rd H.held (rd H.held 0).2.1).2.1.toNat, fr := (rd H.held 0).1, left := (rd H.held (rd H.held 0).2.1).1, ins := true, begun := if (rd H.held 0).1 = 1 ∨ (rd H.held 0).1 = 4 then H.begun + 1 else H.begun, fault := 0 })
/-- Is as much there as is read at one time? -/
def rdy (H : Hf) : Bool := if bnd H.fr then decide (H.left ≤ H.held.length) else decide (min H.left 1 ≤ H.held.length)
def com (H : Hf) : Bool × Hf := if H.ins then (rdy H, H) else if (ent H).1 then (rdy (ent H).2, (ent H).2) else (false, (ent H).2)

/-- One number. -/
def numE (zs : List Int) : Int × Int := if (rd zs 0).2.2 ≠ 0 ∨ (rd zs 0).2.1 ≠ zs.length then (0, 54) else ((rd zs 0).1, 0)
/-- Settings: ids to values. -/
def upd (m : Int → Option Int) (i v : Int) : Int → Option Int := fun j => if j = i then some v else m j
def sttL (zs : List Int) : Nat → Int → (Int → Option Int) → Bool → (Int × Int × Int) × Int
  | 0, _, _, _ => ((0, 0, 0), 54)
  | k + 1, p, m, r =>
    if (zs.length : Int) ≤ p then (if r then ((0, 0, 0), 171) else (((m 1).getD 0, (m 7).getD 0, (m 6).getD (-1)), 0))
    else if (rd zs p).2.2 ≠ 0 then ((0, 0, 0), 54)
    else if (rd zs (rd zs p).2.1).2.2 ≠ 0 then ((0, 0, 0), 54)
    else sttL zs k (rd zs (rd zs p).2.1).2.1 (upd m (rd zs p).1 (rd zs (rd zs p).2.1).1) (r || (m (rd zs p).1).isSome || decide (2 ≤ (rd zs p).1 ∧ (rd zs p).1 ≤ 5))
def setE (zs : List Int) : (Int × Int × Int) × Int := sttL zs (zs.length + 1) 0 (fun _ => none) false

/-- So much of the payload is taken. -/
def tkN (H : Hf) : Nat := (min H.left H.held.length).toNat
/-- What is there of the payload is taken; the event that it makes. -/
def tak (H : Hf) : Option Ev × Hf :=
  if H.fr = 0 then (if 0 < tkN H then some ⟨2, H.held.take (tkN H), 0, 0, 0, 0⟩ else none, { H with held := H.held.drop (tkN H), left := H.left - tkN H, ins := decide (0 < H.left - tkN H) })
  else if H.fr = 1 then (some ⟨1, H.held.take (tkN H), 0, 0, 0, 0⟩, { H with held := H.held.drop (tkN H), left := H.left - tkN H, ins := decide (0 < H.left - tkN H) })
  else if H.fr = 4 then (if (setE (H.held.take (tkN H))).2 = 0 then some ⟨3, [], (setE (H.held.take (tkN H))).1.1, (setE (H.held.take (tkN H))).1.2.1, (setE (H.held.take (tkN H))).1.2.2, 0⟩ else none,
    { H with held := H.held.drop (tkN H), left := H.left - tkN H, ins := decide (0 < H.left - tkN H), fault := (setE (H.held.take (tkN H))).2 })
  else if H.fr = 7 ∨ H.fr = 13 then (if (numE (H.held.take (tkN H))).2 = 0 ∧ H.fr = 7 then some ⟨4, [], 0, 0, 0, (numE (H.held.take (tkN H))).1⟩ else none,
    { H with held := H.held.drop (tkN H), left := H.left - tkN H, ins := decide (0 < H.left - tkN H), fault := (numE (H.held.take (tkN H))).2 })
  else (none, { H with held := H.held.drop (tkN H), left := H.left - tkN H, ins := decide (0 < H.left - tkN H) })

/-- One step: is there one, the event that it makes, the reader behind it. -/
def stp (H : Hf) : Bool × Option Ev × Hf :=
  if H.fault ≠ 0 then (false, none, H) else if (com H).1 then (true, (tak (com H).2).1, (tak (com H).2).2) else (false, none, (com H).2)
def nxt : Nat → Hf → Option Ev × Hf
  | 0, H => (none, H)
  | k + 1, H => if (stp H).1 then (match (stp H).2.1 with | some e => (some e, (stp H).2.2) | none => nxt k (stp H).2.2) else (none, (stp H).2.2)
/-- There is no event any more: the end, if it was told. -/
def fini (H : Hf) : Hf :=
  if H.ins = true ∨ 0 < H.held.length then { H with fault := 12 } else if H.st = 2 then { H with fault := 172 } else if H.begun = 0 then { H with fault := 183 } else { H with done := true }
def fin0 (H : Hf) : Hf := if H.fault = 0 ∧ H.ended = true then fini H else H
def finA (H : Hf) : Hf := if (fin0 H).fault = 0 then fin0 H else { fin0 H with held := [] }
/-- What Next tells: the event, the reader. -/
def nxtF (H : Hf) : Option Ev × Hf := match nxt (H.held.length + 1) H with
  | (some e, G) => (some e, G)
  | (none, G) => (none, finA G)

/-- A reader as it comes to be. -/
structure Hok (H : Hf) : Prop where
  s : H.st = 1 ∨ H.st = 2
  l : 0 ≤ H.lim ∧ H.lim ≤ 1048576
  z : ∀ y ∈ H.held, 0 ≤ y ∧ y < 256
  b : 0 ≤ H.begun ∧ H.begun ≤ 2
  i : H.ins = true → 0 < H.left
  n : 0 ≤ H.left ∧ H.left ≤ 4611686018427387903
  f : 0 ≤ H.fr ∧ H.fr ≤ 4611686018427387903
/-- .. inside of a frame, maybe an empty one. -/
structure Hin (H : Hf) : Prop where
  s : H.st = 1 ∨ H.st = 2
  l : 0 ≤ H.lim ∧ H.lim ≤ 1048576
  z : ∀ y ∈ H.held, 0 ≤ y ∧ y < 256
  b : 0 ≤ H.begun ∧ H.begun ≤ 2
  i : H.ins = true
  n : 0 ≤ H.left ∧ H.left ≤ 4611686018427387903
  f : 0 ≤ H.fr ∧ H.fr ≤ 4611686018427387903
  u : H.fault = 0

theorem refu_begun {st lim begun fr len : Int} (hs : st = 1 ∨ st = 2) (hb : 0 ≤ begun ∧ begun ≤ 2) (h : refu st lim begun fr len = 0) : 0 ≤ (if fr = 1 ∨ fr = 4 then begun + 1 else begun) ∧ (if fr = 1 ∨ fr = 4 then begun + 1 else begun) ≤ 2 := by
  unfold refu at h
  by_cases h1 : fr = 1 ∨ fr = 4
  · rw [if_pos h1]
    by_cases h2 : st = 2 ∧ begun = 0 ∧ fr ≠ 4
    · rw [if_pos h2] at h; omega
    · rw [if_neg h2] at h
      by_cases h3 : mayC st begun fr = false
      · rw [if_pos h3] at h; omega
      · have h4 : mayC st begun fr = true := by cases hm : mayC st begun fr <;> simp_all
        unfold mayC at h4
        rcases h1 with rfl | rfl
        · simp at h4; omega
        · simp at h4; omega
  · rw [if_neg h1]; exact hb
/-- The type and the length that are read, where a frame is entered. -/
theorem ent_rd {H : Hf} (h : (ent H).1 = true) : ∃ m p n q, rd H.held 0 = (m, p, 0) ∧ rd H.held p = (n, q, 0) ∧ refu H.st H.lim H.begun m n = 0 ∧
    (ent H).2 = { H with held := H.held.drop q.toNat, fr := m, left := n, ins := true, begun := if m = 1 ∨ m = 4 then H.begun + 1 else H.begun, fault := 0 } := by
  unfold ent at h ⊢
  obtain ⟨m, p, f, hx⟩ : ∃ m p f, rd H.held 0 = (m, p, f) := ⟨_, _, _, rfl⟩
  rw [hx] at h ⊢
  dsimp only at h ⊢
  by_cases hf : f = 0
  · subst hf
    obtain ⟨n, q, g, hy⟩ : ∃ n q g, rd H.held p = (n, q, g) := ⟨_, _, _, rfl⟩
    rw [hy] at h ⊢
    dsimp only at h ⊢
    by_cases hg : g = 0
    · subst hg
      by_cases hr : refu H.st H.lim H.begun m n = 0
      · refine ⟨m, p, n, q, rfl, hy, hr, ?_⟩
        rw [if_neg (by simp), if_neg (by simp), if_neg (by simpa using hr)]
      · rw [if_neg (by simp), if_neg (by simp), if_pos hr] at h; cases h
    · rw [if_neg (by simp), if_pos hg] at h; cases h
  · rw [if_pos hf] at h; cases h
theorem ent_in {H : Hf} (hk : Hok H) (h : (ent H).1 = true) : Hin (ent H).2 ∧ (ent H).2.held.length + 2 ≤ H.held.length := by
  obtain ⟨m, p, n, q, h1, h2, h3, h4⟩ := ent_rd h
  have r1 := rd_in h1 hk.z
  have r2 := rd_in h2 hk.z
  rw [h4]
  refine ⟨⟨hk.s, hk.l, fun y hy => hk.z y (List.mem_of_mem_drop hy), refu_begun hk.s hk.b h3, rfl, ⟨r2.2.2.2.1, r2.2.2.2.2⟩, ⟨r1.2.2.2.1, r1.2.2.2.2⟩, rfl⟩, ?_⟩
  simp only [List.length_drop]
  omega
theorem ent_no {H : Hf} (hk : Hok H) (h : (ent H).1 = false) : Hok (ent H).2 ∧ (ent H).2.held = H.held ∧ (ent H).2.ins = H.ins := by
  unfold ent at h ⊢
  by_cases a : (rd H.held 0).2.2 ≠ 0
  · rw [if_pos a]; exact ⟨hk, rfl, rfl⟩
  rw [if_neg a] at h ⊢
  by_cases b : (rd H.held (rd H.held 0).2.1).2.2 ≠ 0
  · rw [if_pos b]; exact ⟨hk, rfl, rfl⟩
  rw [if_neg b] at h ⊢
  by_cases c : refu H.st H.lim H.begun (rd H.held 0).1 (rd H.held (rd H.held 0).2.1).1 ≠ 0
  · rw [if_pos c]; exact ⟨⟨hk.s, hk.l, hk.z, hk.b, hk.i, hk.n, hk.f⟩, rfl, rfl⟩
  · rw [if_neg c] at h; cases h
theorem Hok.in_ {H : Hf} (hk : Hok H) (hi : H.ins = true) (hf : H.fault = 0) : Hin H := ⟨hk.s, hk.l, hk.z, hk.b, hi, hk.n, hk.f, hf⟩
theorem tkN_le {H : Hf} (hk : Hin H) : (tkN H : Int) ≤ H.left ∧ tkN H ≤ H.held.length ∧ (tkN H : Int) = min H.left H.held.length := by
  have := hk.n
  unfold tkN
  omega
theorem tak_ok {H : Hf} (hk : Hin H) : Hok (tak H).2 ∧ (tak H).2.held = H.held.drop (tkN H) := by
  have ht := tkN_le hk
  have hn := hk.n
  have key : ∀ f : Int, Hok { H with held := H.held.drop (tkN H), left := H.left - tkN H, ins := decide (0 < H.left - tkN H), fault := f } := fun f =>
    ⟨hk.s, hk.l, fun y hy => hk.z y (List.mem_of_mem_drop hy), hk.b, fun h => of_decide_eq_true h, ⟨by show 0 ≤ H.left - tkN H; omega, by show H.left - tkN H ≤ _; omega⟩, hk.f⟩
  have k0 := key H.fault
  unfold tak
  repeat' split
  all_goals first
    | exact ⟨k0, rfl⟩
    | exact ⟨key _, rfl⟩
/-- A step takes bytes. -/
theorem stp_less {H : Hf} (hk : Hok H) (h : (stp H).1 = true) : Hok (stp H).2.2 ∧ (stp H).2.2.held.length < H.held.length := by
  unfold stp at h ⊢
  by_cases hf : H.fault ≠ 0
  · rw [if_pos hf] at h; cases h
  rw [if_neg hf] at h ⊢
  by_cases hc : (com H).1 = true
  · rw [if_pos hc]
    dsimp only
    unfold com at hc ⊢
    by_cases hi : H.ins = true
    · rw [if_pos hi] at hc ⊢
      dsimp only at hc ⊢
      have hin := hk.in_ hi (by omega)
      have ht := tkN_le hin
      have hl := hk.i hi
      obtain ⟨k1, k2⟩ := tak_ok hin
      refine ⟨k1, ?_⟩
      rw [k2, List.length_drop]
      unfold rdy at hc
      split at hc
      · have := of_decide_eq_true hc; omega
      · have := of_decide_eq_true hc; omega
    · rw [if_neg hi] at hc ⊢
      by_cases he : (ent H).1 = true
      · rw [if_pos he]
        dsimp only
        obtain ⟨e1, e2⟩ := ent_in hk he
        obtain ⟨k1, k2⟩ := tak_ok e1
        refine ⟨k1, ?_⟩
        rw [k2, List.length_drop]
        omega
      · rw [if_neg he] at hc; cases hc
  · rw [if_neg hc] at h; cases h
theorem stp_no {H : Hf} (hk : Hok H) (h : (stp H).1 = false) : Hok (stp H).2.2 ∧ (stp H).2.2.held.length ≤ H.held.length := by
  unfold stp at h ⊢
  by_cases hf : H.fault ≠ 0
  · rw [if_pos hf]; exact ⟨hk, Nat.le_refl _⟩
  rw [if_neg hf] at h ⊢
  by_cases hc : (com H).1 = true
  · rw [if_pos hc] at h; cases h
  · rw [if_neg hc]
    dsimp only
    unfold com at hc ⊢
    by_cases hi : H.ins = true
    · rw [if_pos hi]; exact ⟨hk, Nat.le_refl _⟩
    · rw [if_neg hi] at hc ⊢
      by_cases he : (ent H).1 = true
      · rw [if_pos he] at hc ⊢
        dsimp only at hc ⊢
        obtain ⟨e1, e2⟩ := ent_in hk he
        refine ⟨⟨e1.s, e1.l, e1.z, e1.b, fun _ => ?_, e1.n, e1.f⟩, by omega⟩
        unfold rdy at hc
        have hn := e1.n
        split at hc
        · simp only [decide_eq_true_eq] at hc; omega
        · simp only [decide_eq_true_eq] at hc; omega
      · rw [if_neg he]
        obtain ⟨e1, e2, _⟩ := ent_no hk (by simpa using he)
        exact ⟨e1, by rw [e2]; exact Nat.le_refl _⟩
theorem nxt_any : ∀ {k j : Nat} {H : Hf}, Hok H → H.held.length < k → H.held.length < j → nxt k H = nxt j H
  | 0, _, H, _, h, _ => by omega
  | _, 0, H, _, _, h => by omega
  | k + 1, j + 1, H, hk, h1, h2 => by
    rw [nxt, nxt]
    by_cases hs : (stp H).1 = true
    · rw [if_pos hs, if_pos hs]
      cases (stp H).2.1 with
      | some e => rfl
      | none =>
        obtain ⟨a, b⟩ := stp_less hk hs
        exact nxt_any a (by omega) (by omega)
    · rw [if_neg hs, if_neg hs]
end Go.Proofs.Ytdlefmlienfjhaa
