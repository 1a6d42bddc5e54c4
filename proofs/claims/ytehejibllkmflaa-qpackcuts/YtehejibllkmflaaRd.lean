/-
  The decoder's take: contracts that the statements' walks use.
-/
import Derived.Test.YtehejibllkmflaaRc
namespace Go.Proofs.Ytehejibllkmflaa
open Go.RowKit
set_option linter.unusedVariables false
set_option maxRecDepth 20000

theorem bit_tab : ∀ y : Fin 256, (bits .and .u8 (y.val : Int) 128 != 0) = decide (128 ≤ y.val) ∧ (bits .and .u8 (y.val : Int) 64 != 0) = decide (y.val / 64 % 2 = 1) ∧ (bits .and .u8 (y.val : Int) 32 != 0) = decide (y.val / 32 % 2 = 1) := by decide +kernel
theorem bit_128 {y : Nat} (h : y < 256) : (bits .and .u8 (y : Int) 128 != 0) = decide (128 ≤ y) := (bit_tab ⟨y, h⟩).1
theorem bit_64 {y : Nat} (h : y < 256) : (bits .and .u8 (y : Int) 64 != 0) = decide (y / 64 % 2 = 1) := (bit_tab ⟨y, h⟩).2.1
theorem bit_32 {y : Nat} (h : y < 256) : (bits .and .u8 (y : Int) 32 != 0) = decide (y / 32 % 2 = 1) := (bit_tab ⟨y, h⟩).2.2
/-- One instruction. -/
def plnO (cap : Int) (g : Nat) (es : List Fd) (zs : List Int) (p : Nat) : TO :=
  match txtO zs p 5 with
  | .bad y => .bad y
  | .ok s q1 => match txtO zs q1 7 with
    | .bad y => .bad y
    | .ok t q2 => insO cap g es (s, t) q2
def capO (most : Int) (g : Nat) (es : List Fd) (zs : List Int) (p : Nat) : TO :=
  match numO zs p 5 with
  | .bad y => .bad y
  | .ok c q => if most < c then .bad 161 else .ok c (shrL c g es).1 (shrL c g es).2 q
def repO (cap : Int) (g : Nat) (es : List Fd) (zs : List Int) (p : Nat) : TO :=
  match numO zs p 5 with
  | .bad y => .bad y
  | .ok n q => match namO g es n false with
    | none => .bad 160
    | some f => insO cap g es f q
def takO (most cap : Int) (g : Nat) (es : List Fd) (zs : List Int) (p y : Nat) : TO :=
  if 128 ≤ y then nmdO cap g es zs p (decide (y / 64 % 2 = 1)) else if y / 64 % 2 = 1 then plnO cap g es zs p else if y / 32 % 2 = 1 then capO most g es zs p else repO cap g es zs p
theorem TR.goOn {w w' : World} {db : Nat} {D : Dk} {es : List Fd} {rb : Nat} {x : Sv} {zs : List Int} {p q : Nat} (h : TR w db D es rb x zs p) (hr : Rg w' rb x zs q) (k : Keep (fun b => b = rb) w w') : TR w' db D es rb x zs q := h.rd hr k (fun e => h.n e.symm) (fun b e => h.e b e)
/-- What an insert leaves is what a taken instruction leaves. -/
theorem TkS.of {w w1 w' : World} {db : Nat} {D : Dk} {es : List Fd} {rb : Nat} {x : Sv} {zs : List Int} {q g : Nat} {es' : List Fd} {e' : Sv} (h : TR w1 db D es rb x zs q) (k : Keep (fun b => b = rb) w w1) (t : TbS w1 db D g es' w' e') : TkS w db D rb x zs D.cap g es' q w' e' := by
  refine ⟨t.i, h.r.keep t.k ?_ ?_, (k.mono (fun i _ e => .inr (.inl e))).trans (t.k.mono (fun i _ e => e.elim .inl (fun e => .inr (.inr e)))), fun b e => (t.b b e).imp id (fun hh => Nat.le_trans k.size hh)⟩
  · rintro (e | e)
    · exact h.n e
    · exact h.e rb e rfl
  · intro b e hh
    rcases hh with hh | hh
    · exact (h.xd b e).1 hh
    · exact (h.xd b e).2.1 hh
set_option maxHeartbeats 16000000 in
theorem take1_ok (db : Nat) (D : Dk) (es : List Fd) (rb : Nat) (x : Sv) (zs : List Int) (p y : Nat) (cap : Int) (g : Nat) (es' : List Fd) (q : Nat) (w : World) (h : TR w db D es rb x zs p) (hy : zs[p]? = some (y : Int)) (hy2 : y < 256) (h1 : 128 ≤ y) (ho : nmdO D.cap D.gone es zs p (decide (y / 64 % 2 = 1)) = .ok cap g es' q) :
    Calls Try.prog 19 #[.pointer (some ⟨db, 0, none⟩), .pointer (some ⟨rb, 0, none⟩)] w fun e w' => e = .returned (.tuple #[]) ∧ ∃ e', TkS w db D rb x zs cap g es' q w' e' := by
  have b128 := bit_128 hy2
  have b64 := bit_64 hy2
  have b32 := bit_32 hy2
  have HF := hid (first_ok rb x zs p y w h.r hy)
  rw [decide_eq_true h1] at b128
  have HN := hid (fun u (k : Q w u) => named_ok db D es rb x zs p _ cap g es' q u (h.q k) ho)
  clear h hy hy2 ho
  generalize decide (y / 64 % 2 = 1) = st at *
  go_enter Try.func19, Try.ntmps19
  go_wp2_with (first | (go_at_call 34; refine HF.out.mono ?_; rintro e w1 ⟨rfl, q1⟩) | (go_at_call 35; refine (HN.out _ q1).mono ?_; rintro e w2 ⟨rfl, e', t2⟩))
  go_end0
  exact ⟨rfl, e', t2.i, t2.r, (Keep.ofQ q1).trans t2.k, fun b e => (t2.b b e).imp id (fun hh => Nat.le_trans q1.size hh)⟩
set_option maxHeartbeats 16000000 in
theorem take1_bad (db : Nat) (D : Dk) (es : List Fd) (rb : Nat) (x : Sv) (zs : List Int) (p y : Nat) (z : Int) (w : World) (h : TR w db D es rb x zs p) (hy : zs[p]? = some (y : Int)) (hy2 : y < 256) (h1 : 128 ≤ y) (ho : nmdO D.cap D.gone es zs p (decide (y / 64 % 2 = 1)) = .bad z) :
    Calls Try.prog 19 #[.pointer (some ⟨db, 0, none⟩), .pointer (some ⟨rb, 0, none⟩)] w fun e w' => e = .panicked [refP z] ∧ Keep (fun b => b = rb) w w' := by
  have b128 := bit_128 hy2
  have b64 := bit_64 hy2
  have b32 := bit_32 hy2
  have HF := hid (first_ok rb x zs p y w h.r hy)
  rw [decide_eq_true h1] at b128
  have HN := hid (fun u (k : Q w u) => named_bad db D es rb x zs p _ z u (h.q k) ho)
  clear h hy hy2 ho
  generalize decide (y / 64 % 2 = 1) = st at *
  go_enter Try.func19, Try.ntmps19
  go_wp2_with (first | (go_at_call 34; refine HF.out.mono ?_; rintro e w1 ⟨rfl, q1⟩) | (go_at_call 35; refine (HN.out _ q1).mono ?_; rintro e w2 ⟨rfl, k2⟩))
  exact ⟨rfl, rfl, (Keep.ofQ q1).trans k2⟩
set_option maxHeartbeats 16000000 in
theorem take2_ok (db : Nat) (D : Dk) (es : List Fd) (rb : Nat) (x : Sv) (zs : List Int) (p y : Nat) (cap : Int) (g : Nat) (es' : List Fd) (q : Nat) (w : World) (h : TR w db D es rb x zs p) (hy : zs[p]? = some (y : Int)) (hy2 : y < 256) (h1 : y < 128) (h2 : y / 64 % 2 = 1) (ho : plnO D.cap D.gone es zs p = .ok cap g es' q) :
    Calls Try.prog 19 #[.pointer (some ⟨db, 0, none⟩), .pointer (some ⟨rb, 0, none⟩)] w fun e w' => e = .returned (.tuple #[]) ∧ ∃ e', TkS w db D rb x zs cap g es' q w' e' := by
  have b128 := bit_128 hy2
  have b64 := bit_64 hy2
  have b32 := bit_32 hy2
  have HF := hid (first_ok rb x zs p y w h.r hy)
  rw [decide_eq_false (by omega : ¬ 128 ≤ y)] at b128
  rw [decide_eq_true h2] at b64
  unfold plnO at ho
  cases hn : txtO zs p 5 with
  | bad z => rw [hn] at ho; cases ho
  | ok s q1 =>
    rw [hn] at ho
    simp only at ho
    cases ht : txtO zs q1 7 with
    | bad z => rw [ht] at ho; cases ho
    | ok t q2 =>
      rw [ht] at ho
      simp only at ho
      unfold insO at ho
      split at ho
      · cases ho
      next hcs =>
      cases ho
      have HA := hid (fun u (k : Q w u) => txtR_ok rb x zs p 5 s q1 u (h.r.q k) hn (txt_le h.r.z hn).1)
      have HB := hid (fun u (k : TR u db D es rb x zs q1) => txtR_ok rb x zs q1 7 t q u k.r ht (txt_le h.r.z ht).1)
      have HI := hid (fun u (k : TR u db D es rb x zs q) => dins_ok db D es (s, t) u k.i k.s (by omega) k.sb k.c.2 k.g)
      have HTR := hid h
      clear h hy hy2 hn ht
      dsimp only at HI
      go_enter Try.func19, Try.ntmps19
      go_wp2_with (first | (go_at_call 34; refine HF.out.mono ?_; rintro e w1 ⟨rfl, q1⟩) | (go_at_call 36; refine (HA.out _ q1).mono ?_; rintro e w2 ⟨rfl, g2, k2⟩; have T2 := hid ((HTR.out.q q1).goOn g2 k2); have K2 := hid ((Keep.ofQ q1).trans k2); clear HA g2 k2) | (go_at_call 36; refine (HB.out _ T2.out).mono ?_; rintro e w3 ⟨rfl, g3, k3⟩; have T3 := hid (T2.out.goOn g3 k3); have K3 := hid (K2.out.trans k3); clear HB g3 k3) | (go_at_call 37; refine (HI.out _ T3.out).mono ?_; rintro e w4 ⟨rfl, e', t4⟩))
      go_end0
      exact ⟨rfl, e', TkS.of T3.out K3.out t4⟩
set_option maxHeartbeats 16000000 in
theorem take2_bad (db : Nat) (D : Dk) (es : List Fd) (rb : Nat) (x : Sv) (zs : List Int) (p y : Nat) (z : Int) (w : World) (h : TR w db D es rb x zs p) (hy : zs[p]? = some (y : Int)) (hy2 : y < 256) (h1 : y < 128) (h2 : y / 64 % 2 = 1) (ho : plnO D.cap D.gone es zs p = .bad z) :
    Calls Try.prog 19 #[.pointer (some ⟨db, 0, none⟩), .pointer (some ⟨rb, 0, none⟩)] w fun e w' => e = .panicked [refP z] ∧ Keep (fun b => b = rb) w w' := by
  have b128 := bit_128 hy2
  have b64 := bit_64 hy2
  have b32 := bit_32 hy2
  have HF := hid (first_ok rb x zs p y w h.r hy)
  rw [decide_eq_false (by omega : ¬ 128 ≤ y)] at b128
  rw [decide_eq_true h2] at b64
  unfold plnO at ho
  cases hn : txtO zs p 5 with
  | bad v =>
    rw [hn] at ho
    simp only [TO.bad.injEq] at ho
    subst ho
    have HA := hid (fun u (k : Q w u) => txtR_bad rb x zs p 5 v u (h.r.q k) hn)
    clear h hy hy2 hn
    go_enter Try.func19, Try.ntmps19
    go_wp2_with (first | (go_at_call 34; refine HF.out.mono ?_; rintro e w1 ⟨rfl, q1⟩) | (go_at_call 36; refine (HA.out _ q1).mono ?_; rintro e w2 ⟨rfl, q2⟩))
    exact ⟨rfl, rfl, Keep.ofQ (q1.trans q2)⟩
  | ok s q1 =>
    rw [hn] at ho
    simp only at ho
    have HA := hid (fun u (k : Q w u) => txtR_ok rb x zs p 5 s q1 u (h.r.q k) hn (txt_le h.r.z hn).1)
    have HTR := hid h
    cases ht : txtO zs q1 7 with
    | bad v =>
      rw [ht] at ho
      simp only [TO.bad.injEq] at ho
      subst ho
      have HB := hid (fun u (k : TR u db D es rb x zs q1) => txtR_bad rb x zs q1 7 v u k.r ht)
      clear h hy hy2 hn ht
      go_enter Try.func19, Try.ntmps19
      go_wp2_with (first | (go_at_call 34; refine HF.out.mono ?_; rintro e w1 ⟨rfl, q1⟩) | (go_at_call 36; refine (HA.out _ q1).mono ?_; rintro e w2 ⟨rfl, g2, k2⟩; have T2 := hid ((HTR.out.q q1).goOn g2 k2); have K2 := hid ((Keep.ofQ q1).trans k2); clear HA g2 k2) | (go_at_call 36; refine (HB.out _ T2.out).mono ?_; rintro e w3 ⟨rfl, q3⟩))
      exact ⟨rfl, rfl, K2.out.trans (Keep.ofQ q3)⟩
    | ok t q2 =>
      rw [ht] at ho
      simp only at ho
      unfold insO at ho
      split at ho
      · next hcs =>
        simp only [TO.bad.injEq] at ho
        subst ho
        have hsa := (txt_le h.r.z hn).2.2
        have hsb := (txt_le h.r.z ht).2.2
        have HB := hid (fun u (k : TR u db D es rb x zs q1) => txtR_ok rb x zs q1 7 t q2 u k.r ht (txt_le h.r.z ht).1)
        have HI := hid (fun u (k : TR u db D es rb x zs q2) => dins_bad db D es (s, t) u k.i hcs (by show ((s.size : Nat) : Int) ≤ _; omega) (by show ((t.size : Nat) : Int) ≤ _; omega))
        clear h hy hy2 hn ht
        dsimp only at HI
        go_enter Try.func19, Try.ntmps19
        go_wp2_with (first | (go_at_call 34; refine HF.out.mono ?_; rintro e w1 ⟨rfl, q1⟩) | (go_at_call 36; refine (HA.out _ q1).mono ?_; rintro e w2 ⟨rfl, g2, k2⟩; have T2 := hid ((HTR.out.q q1).goOn g2 k2); have K2 := hid ((Keep.ofQ q1).trans k2); clear HA g2 k2) | (go_at_call 36; refine (HB.out _ T2.out).mono ?_; rintro e w3 ⟨rfl, g3, k3⟩; have T3 := hid (T2.out.goOn g3 k3); have K3 := hid (K2.out.trans k3); clear HB g3 k3) | (go_at_call 37; refine (HI.out _ T3.out).mono ?_; rintro e w4 ⟨rfl, q4⟩))
        exact ⟨rfl, rfl, K3.out.trans (Keep.ofQ q4)⟩
      · cases ho
set_option maxHeartbeats 16000000 in
theorem take3_ok (db : Nat) (D : Dk) (es : List Fd) (rb : Nat) (x : Sv) (zs : List Int) (p y : Nat) (cap : Int) (g : Nat) (es' : List Fd) (q : Nat) (w : World) (h : TR w db D es rb x zs p) (hy : zs[p]? = some (y : Int)) (hy2 : y < 256) (h1 : y < 128) (h2 : ¬ y / 64 % 2 = 1) (h3 : y / 32 % 2 = 1) (hm : D.most ≤ 100000000) (ho : capO D.most D.gone es zs p = .ok cap g es' q) :
    Calls Try.prog 19 #[.pointer (some ⟨db, 0, none⟩), .pointer (some ⟨rb, 0, none⟩)] w fun e w' => e = .returned (.tuple #[]) ∧ ∃ e', TkS w db D rb x zs cap g es' q w' e' := by
  have b128 := bit_128 hy2
  have b64 := bit_64 hy2
  have b32 := bit_32 hy2
  have HF := hid (first_ok rb x zs p y w h.r hy)
  rw [decide_eq_false (by omega : ¬ 128 ≤ y)] at b128
  rw [decide_eq_false h2] at b64
  rw [decide_eq_true h3] at b32
  unfold capO at ho
  cases hn : numO zs p 5 with
  | bad z => rw [hn] at ho; cases ho
  | ok c q1 =>
    rw [hn] at ho
    simp only at ho
    split at ho
    · cases ho
    next hcm =>
    cases ho
    have hnl := num_le h.r.z hn
    have HA := hid (fun u (k : Q w u) => numR_ok rb x zs p 5 cap q u (h.r.q k) hn hnl.1)
    have HR := hid (fun x u => refuse_ok x u)
    have HZ := hid (fun u (k : TR u db D es rb x zs q) => resize_any db D es cap u k.i k.s hnl.2.2.1 k.sb k.g)
    have HTR := hid h
    have hgt : decide (D.most < cap) = false := by simp; omega
    have hgt' : ¬ D.most < cap := by omega
    clear h hy hy2 hn
    go_enter Try.func19, Try.ntmps19
    go_wp2_with (first | (go_at_call 34; refine HF.out.mono ?_; rintro e w1 ⟨rfl, q1⟩) | (go_at_call 38; refine (HA.out _ q1).mono ?_; rintro e w2 ⟨rfl, g2, k2⟩; have T2 := hid ((HTR.out.q q1).goOn g2 k2); have K2 := hid ((Keep.ofQ q1).trans k2); clear HA g2 k2; have c0 := T2.out.i.c 0 _ rfl) | (go_at_call 39; refine (HR.out _ _).mono ?_; rintro e w3 ⟨rfl, rfl⟩) | (go_at_call 40; refine (HZ.out _ T2.out).mono ?_; rintro e w4 ⟨rfl, e', t4⟩))
    go_end0
    refine ⟨rfl, e', t4.i, T2.out.r.keep t4.k ?_ ?_, (K2.out.mono (fun i _ e => .inr (.inl e))).trans (t4.k.mono (fun i _ e => e.elim .inl (fun e => .inr (.inr e)))), fun b e => (t4.b b e).imp id (fun hh => Nat.le_trans K2.out.size hh)⟩
    · rintro (e | e)
      · exact T2.out.n e
      · exact T2.out.e rb e rfl
    · intro b e hh
      rcases hh with hh | hh
      · exact (T2.out.xd b e).1 hh
      · exact (T2.out.xd b e).2.1 hh
set_option maxHeartbeats 16000000 in
theorem take3_bad (db : Nat) (D : Dk) (es : List Fd) (rb : Nat) (x : Sv) (zs : List Int) (p y : Nat) (z : Int) (w : World) (h : TR w db D es rb x zs p) (hy : zs[p]? = some (y : Int)) (hy2 : y < 256) (h1 : y < 128) (h2 : ¬ y / 64 % 2 = 1) (h3 : y / 32 % 2 = 1) (hm : D.most ≤ 100000000) (ho : capO D.most D.gone es zs p = .bad z) :
    Calls Try.prog 19 #[.pointer (some ⟨db, 0, none⟩), .pointer (some ⟨rb, 0, none⟩)] w fun e w' => e = .panicked [refP z] ∧ Keep (fun b => b = rb) w w' := by
  have b128 := bit_128 hy2
  have b64 := bit_64 hy2
  have b32 := bit_32 hy2
  have HF := hid (first_ok rb x zs p y w h.r hy)
  rw [decide_eq_false (by omega : ¬ 128 ≤ y)] at b128
  rw [decide_eq_false h2] at b64
  rw [decide_eq_true h3] at b32
  unfold capO at ho
  cases hn : numO zs p 5 with
  | bad v =>
    rw [hn] at ho
    simp only [TO.bad.injEq] at ho
    subst ho
    have HA := hid (fun u (k : Q w u) => numR_bad rb x zs p 5 v u (h.r.q k) hn)
    clear h hy hy2 hn
    go_enter Try.func19, Try.ntmps19
    go_wp2_with (first | (go_at_call 34; refine HF.out.mono ?_; rintro e w1 ⟨rfl, q1⟩) | (go_at_call 38; refine (HA.out _ q1).mono ?_; rintro e w2 ⟨rfl, q2⟩))
    exact ⟨rfl, rfl, Keep.ofQ (q1.trans q2)⟩
  | ok c q1 =>
    rw [hn] at ho
    simp only at ho
    split at ho
    · next hcm =>
      simp only [TO.bad.injEq] at ho
      subst ho
      have hnl := num_le h.r.z hn
      have HA := hid (fun u (k : Q w u) => numR_ok rb x zs p 5 c q1 u (h.r.q k) hn hnl.1)
      have HX := hid (fun x u => refuse_no x u)
      have HTR := hid h
      clear h hy hy2 hn
      go_enter Try.func19, Try.ntmps19
      go_wp2_with (first | (go_at_call 34; refine HF.out.mono ?_; rintro e w1 ⟨rfl, q1⟩) | (go_at_call 38; refine (HA.out _ q1).mono ?_; rintro e w2 ⟨rfl, g2, k2⟩; have T2 := hid ((HTR.out.q q1).goOn g2 k2); have K2 := hid ((Keep.ofQ q1).trans k2); clear HA g2 k2; have c0 := T2.out.i.c 0 _ rfl) | (go_at_call 39; refine (HX.out _ _).mono ?_; rintro e w3 ⟨rfl, rfl⟩))
      exact ⟨rfl, rfl, K2.out⟩
    · cases ho
set_option maxHeartbeats 16000000 in
theorem take4_ok (db : Nat) (D : Dk) (es : List Fd) (rb : Nat) (x : Sv) (zs : List Int) (p y : Nat) (cap : Int) (g : Nat) (es' : List Fd) (q : Nat) (w : World) (h : TR w db D es rb x zs p) (hy : zs[p]? = some (y : Int)) (hy2 : y < 256) (h1 : y < 128) (h2 : ¬ y / 64 % 2 = 1) (h3 : ¬ y / 32 % 2 = 1) (ho : repO D.cap D.gone es zs p = .ok cap g es' q) :
    Calls Try.prog 19 #[.pointer (some ⟨db, 0, none⟩), .pointer (some ⟨rb, 0, none⟩)] w fun e w' => e = .returned (.tuple #[]) ∧ ∃ e', TkS w db D rb x zs cap g es' q w' e' := by
  have b128 := bit_128 hy2
  have b64 := bit_64 hy2
  have b32 := bit_32 hy2
  have HF := hid (first_ok rb x zs p y w h.r hy)
  rw [decide_eq_false (by omega : ¬ 128 ≤ y)] at b128
  rw [decide_eq_false h2] at b64
  rw [decide_eq_false h3] at b32
  unfold repO at ho
  cases hn : numO zs p 5 with
  | bad z => rw [hn] at ho; cases ho
  | ok n q1 =>
    rw [hn] at ho
    simp only at ho
    cases hf : namO D.gone es n false with
    | none => rw [hf] at ho; cases ho
    | some f =>
      obtain ⟨fn, fv⟩ := f
      rw [hf] at ho
      simp only at ho
      unfold insO at ho
      split at ho
      · cases ho
      next hcs =>
      cases ho
      have hnl := num_le h.r.z hn
      have HA := hid (fun u (k : Q w u) => numR_ok rb x zs p 5 n q u (h.r.q k) hn hnl.1)
      have HE : Hid (∀ u, TR u db D es rb x zs q → Calls Try.prog 41 #[.pointer (some ⟨db, 0, none⟩), .int .i64 n, .bool false] u fun e w' => e = .returned (.tuple #[.agg #[.string fn, .string fv], .bool true]) ∧ Q u w') := hid (fun u k => by
        have := dent_any db D es n false u k.i k.g hnl.2.2.1 hnl.2.2.2
        rw [hf] at this
        exact this)
      have HR := hid (fun x u => refuse_ok x u)
      have HI := hid (fun u (k : TR u db D es rb x zs q) => dins_ok db D es (fn, fv) u k.i k.s (by omega) k.sb k.c.2 k.g)
      have HTR := hid h
      clear h hy hy2 hn hf
      dsimp only at HI
      go_enter Try.func19, Try.ntmps19
      go_wp2_with (first | (go_at_call 34; refine HF.out.mono ?_; rintro e w1 ⟨rfl, q1⟩) | (go_at_call 38; refine (HA.out _ q1).mono ?_; rintro e w2 ⟨rfl, g2, k2⟩; have T2 := hid ((HTR.out.q q1).goOn g2 k2); have K2 := hid ((Keep.ofQ q1).trans k2); clear HA g2 k2) | (go_at_call 41; refine (HE.out _ T2.out).mono ?_; rintro e w3 ⟨rfl, q3⟩; have T3 := hid (T2.out.q q3); have K3 := hid (K2.out.trans (Keep.ofQ q3)); clear q3 HE) | (go_at_call 39; refine (HR.out _ _).mono ?_; rintro e w4 ⟨rfl, rfl⟩) | (go_at_call 37; refine (HI.out _ (T3.out.q ((Q.refl w3).alloc _))).mono ?_; rintro e w5 ⟨rfl, e', t5⟩))
      go_end0
      exact ⟨rfl, e', TkS.of (T3.out.q ((Q.refl w3).alloc _)) (K3.out.trans (Keep.ofQ ((Q.refl w3).alloc _))) t5⟩
set_option maxHeartbeats 16000000 in
theorem take4_bad (db : Nat) (D : Dk) (es : List Fd) (rb : Nat) (x : Sv) (zs : List Int) (p y : Nat) (z : Int) (w : World) (h : TR w db D es rb x zs p) (hy : zs[p]? = some (y : Int)) (hy2 : y < 256) (h1 : y < 128) (h2 : ¬ y / 64 % 2 = 1) (h3 : ¬ y / 32 % 2 = 1) (ho : repO D.cap D.gone es zs p = .bad z) :
    Calls Try.prog 19 #[.pointer (some ⟨db, 0, none⟩), .pointer (some ⟨rb, 0, none⟩)] w fun e w' => e = .panicked [refP z] ∧ Keep (fun b => b = rb) w w' := by
  have b128 := bit_128 hy2
  have b64 := bit_64 hy2
  have b32 := bit_32 hy2
  have HF := hid (first_ok rb x zs p y w h.r hy)
  rw [decide_eq_false (by omega : ¬ 128 ≤ y)] at b128
  rw [decide_eq_false h2] at b64
  rw [decide_eq_false h3] at b32
  unfold repO at ho
  cases hn : numO zs p 5 with
  | bad v =>
    rw [hn] at ho
    simp only [TO.bad.injEq] at ho
    subst ho
    have HA := hid (fun u (k : Q w u) => numR_bad rb x zs p 5 v u (h.r.q k) hn)
    clear h hy hy2 hn
    go_enter Try.func19, Try.ntmps19
    go_wp2_with (first | (go_at_call 34; refine HF.out.mono ?_; rintro e w1 ⟨rfl, q1⟩) | (go_at_call 38; refine (HA.out _ q1).mono ?_; rintro e w2 ⟨rfl, q2⟩))
    exact ⟨rfl, rfl, Keep.ofQ (q1.trans q2)⟩
  | ok n q1 =>
    rw [hn] at ho
    simp only at ho
    have hnl := num_le h.r.z hn
    have HA := hid (fun u (k : Q w u) => numR_ok rb x zs p 5 n q1 u (h.r.q k) hn hnl.1)
    have HTR := hid h
    cases hf : namO D.gone es n false with
    | none =>
      rw [hf] at ho
      simp only [TO.bad.injEq] at ho
      subst ho
      have HE : Hid (∀ u, TR u db D es rb x zs q1 → Calls Try.prog 41 #[.pointer (some ⟨db, 0, none⟩), .int .i64 n, .bool false] u fun e w' => e = .returned (.tuple #[.agg #[.string ⟨#[]⟩, .string ⟨#[]⟩], .bool false]) ∧ Q u w') := hid (fun u k => by
        have := dent_any db D es n false u k.i k.g hnl.2.2.1 hnl.2.2.2
        rw [hf] at this
        exact this)
      have HX := hid (fun x u => refuse_no x u)
      clear h hy hy2 hn hf
      go_enter Try.func19, Try.ntmps19
      go_wp2_with (first | (go_at_call 34; refine HF.out.mono ?_; rintro e w1 ⟨rfl, q1⟩) | (go_at_call 38; refine (HA.out _ q1).mono ?_; rintro e w2 ⟨rfl, g2, k2⟩; have T2 := hid ((HTR.out.q q1).goOn g2 k2); have K2 := hid ((Keep.ofQ q1).trans k2); clear HA g2 k2) | (go_at_call 41; refine (HE.out _ T2.out).mono ?_; rintro e w3 ⟨rfl, q3⟩; have T3 := hid (T2.out.q q3); have K3 := hid (K2.out.trans (Keep.ofQ q3)); clear q3 HE) | (go_at_call 39; refine (HX.out _ _).mono ?_; rintro e w4 ⟨rfl, rfl⟩))
      exact ⟨rfl, rfl, K3.out.trans (Keep.ofQ ((Q.refl w3).alloc _))⟩
    | some f =>
      obtain ⟨fn, fv⟩ := f
      rw [hf] at ho
      simp only at ho
      unfold insO at ho
      split at ho
      · next hcs =>
        simp only [TO.bad.injEq] at ho
        subst ho
        have hss := nam_size h.sb hf
        simp only at hss
        have HE : Hid (∀ u, TR u db D es rb x zs q1 → Calls Try.prog 41 #[.pointer (some ⟨db, 0, none⟩), .int .i64 n, .bool false] u fun e w' => e = .returned (.tuple #[.agg #[.string fn, .string fv], .bool true]) ∧ Q u w') := hid (fun u k => by
          have := dent_any db D es n false u k.i k.g hnl.2.2.1 hnl.2.2.2
          rw [hf] at this
          exact this)
        have HR := hid (fun x u => refuse_ok x u)
        have HI := hid (fun u (k : TR u db D es rb x zs q1) => dins_bad db D es (fn, fv) u k.i hcs (by show ((fn.size : Nat) : Int) ≤ _; omega) (by show ((fv.size : Nat) : Int) ≤ _; omega))
        clear h hy hy2 hn hf
        dsimp only at HI
        go_enter Try.func19, Try.ntmps19
        go_wp2_with (first | (go_at_call 34; refine HF.out.mono ?_; rintro e w1 ⟨rfl, q1⟩) | (go_at_call 38; refine (HA.out _ q1).mono ?_; rintro e w2 ⟨rfl, g2, k2⟩; have T2 := hid ((HTR.out.q q1).goOn g2 k2); have K2 := hid ((Keep.ofQ q1).trans k2); clear HA g2 k2) | (go_at_call 41; refine (HE.out _ T2.out).mono ?_; rintro e w3 ⟨rfl, q3⟩; have T3 := hid (T2.out.q q3); have K3 := hid (K2.out.trans (Keep.ofQ q3)); clear q3 HE) | (go_at_call 39; refine (HR.out _ _).mono ?_; rintro e w4 ⟨rfl, rfl⟩) | (go_at_call 37; refine (HI.out _ (T3.out.q ((Q.refl w3).alloc _))).mono ?_; rintro e w5 ⟨rfl, q5⟩))
        exact ⟨rfl, rfl, (K3.out.trans (Keep.ofQ ((Q.refl w3).alloc _))).trans (Keep.ofQ q5)⟩
      · cases ho
theorem take_ok (db : Nat) (D : Dk) (es : List Fd) (rb : Nat) (x : Sv) (zs : List Int) (p y : Nat) (cap : Int) (g : Nat) (es' : List Fd) (q : Nat) (w : World) (h : TR w db D es rb x zs p) (hy : zs[p]? = some (y : Int)) (hy2 : y < 256) (hm : D.most ≤ 100000000) (ho : takO D.most D.cap D.gone es zs p y = .ok cap g es' q) :
    Calls Try.prog 19 #[.pointer (some ⟨db, 0, none⟩), .pointer (some ⟨rb, 0, none⟩)] w fun e w' => e = .returned (.tuple #[]) ∧ ∃ e', TkS w db D rb x zs cap g es' q w' e' := by
  unfold takO at ho
  split at ho
  · next h1 => exact take1_ok db D es rb x zs p y cap g es' q w h hy hy2 h1 ho
  · next h1 =>
    split at ho
    · next h2 => exact take2_ok db D es rb x zs p y cap g es' q w h hy hy2 (by omega) h2 ho
    · next h2 =>
      split at ho
      · next h3 => exact take3_ok db D es rb x zs p y cap g es' q w h hy hy2 (by omega) h2 h3 hm ho
      · next h3 => exact take4_ok db D es rb x zs p y cap g es' q w h hy hy2 (by omega) h2 h3 ho
theorem take_bad (db : Nat) (D : Dk) (es : List Fd) (rb : Nat) (x : Sv) (zs : List Int) (p y : Nat) (z : Int) (w : World) (h : TR w db D es rb x zs p) (hy : zs[p]? = some (y : Int)) (hy2 : y < 256) (hm : D.most ≤ 100000000) (ho : takO D.most D.cap D.gone es zs p y = .bad z) :
    Calls Try.prog 19 #[.pointer (some ⟨db, 0, none⟩), .pointer (some ⟨rb, 0, none⟩)] w fun e w' => e = .panicked [refP z] ∧ Keep (fun b => b = rb) w w' := by
  unfold takO at ho
  split at ho
  · next h1 => exact take1_bad db D es rb x zs p y z w h hy hy2 h1 ho
  · next h1 =>
    split at ho
    · next h2 => exact take2_bad db D es rb x zs p y z w h hy hy2 (by omega) h2 ho
    · next h2 =>
      split at ho
      · next h3 => exact take3_bad db D es rb x zs p y z w h hy hy2 (by omega) h2 h3 hm ho
      · next h3 => exact take4_bad db D es rb x zs p y z w h hy hy2 (by omega) h2 h3 ho
end Go.Proofs.Ytehejibllkmflaa
