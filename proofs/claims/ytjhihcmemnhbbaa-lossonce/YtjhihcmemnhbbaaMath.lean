/-
  Layer 11 as plain mathematics: a space, what is known of all packets, and what each call makes of it. No Go in it.
-/
namespace Go.Proofs.Ytjhihcmemnhbbaa
set_option linter.unusedVariables false

/-- A packet: number, size, time, whether it elicits. -/
structure Pk where
  n : Int
  s : Int
  a : Int
  e : Bool
abbrev Spn := Int × Int
/-- A space. -/
structure Sc where
  out : List Pk
  sent : List Spn
  ack : Int
  last : Int
  lt : Int
structure Lo where
  most : Int
  now : Int
  win : Int
  thr : Int
  rcv : Int
  prb : Int
  smp : Bool
  lat : Int
  lea : Int
  smo : Int
  var : Int
  sp : Nat → Sc
def upd (f : Nat → Sc) (k : Nat) (x : Sc) : Nat → Sc := fun i => if i = k then x else f i
theorem upd_same (f : Nat → Sc) (k : Nat) (x : Sc) : upd f k x k = x := if_pos rfl
theorem upd_other (f : Nat → Sc) {k i : Nat} (x : Sc) (h : i ≠ k) : upd f k x i = f i := if_neg h
theorem upd_twice (f : Nat → Sc) (k : Nat) (x y : Sc) : upd (upd f k x) k y = upd f k y := by
  funext i; unfold upd; by_cases h : i = k <;> simp [h]
theorem upd_self (f : Nat → Sc) (k : Nat) : upd f k (f k) = f := by
  funext i; unfold upd; by_cases h : i = k
  · subst h; simp
  · simp [h]
def Lo.put (S : Lo) (k : Nat) (x : Sc) : Lo := { S with sp := upd S.sp k x }
def newSc : Sc := ⟨[], [], -1, -1, -1⟩
def newLo (most : Int) : Lo := ⟨most, 0, 12000, 9223372036854775807, -1, 0, false, 0, 0, 333, 166, fun _ => newSc⟩

/-- The greatest number sent. -/
def gs (l : List Spn) : Int := match l.getLast? with | none => -1 | some x => x.2
def sendP (p : Pk) : Pk := if p.e then p else { p with s := 0 }
def sentL (l : List Spn) (n : Int) : List Spn := if l ≠ [] ∧ n = gs l + 1 then l.dropLast ++ [((l.getLast?.getD (0, 0)).1, n)] else l ++ [(n, n)]
def sendS (c : Sc) (p : Pk) : Sc := ⟨c.out ++ [sendP p], sentL c.sent p.n, c.ack, if p.e then p.a else c.last, c.lt⟩

def under (l : List Pk) : Int := (l.map (·.s)).sum
def elic (l : List Pk) : Bool := l.any (·.e)
def pat (S : Lo) : Int := max 1 (9 * max S.lat S.smo / 8)

/-- A packet that may be out. -/
structure Pok (now : Int) (p : Pk) : Prop where
  n0 : 0 ≤ p.n
  n1 : p.n ≤ 4611686018427387903
  s0 : 0 ≤ p.s
  s1 : p.s ≤ 65535
  a0 : 0 ≤ p.a
  a1 : p.a ≤ now
/-- Spans that rise. -/
def Srt : List Spn → Prop
  | [] => True
  | x :: r => 0 ≤ x.1 ∧ x.1 ≤ x.2 ∧ x.2 ≤ 4611686018427387903 ∧ (∀ y ∈ r, x.2 < y.1) ∧ Srt r
structure Cok (now : Int) (N : Nat) (c : Sc) : Prop where
  out : ∀ p ∈ c.out, Pok now p
  few : c.out.length ≤ 4096
  srt : Srt c.sent
  many : c.sent.length ≤ N
  ack0 : -1 ≤ c.ack
  ack1 : c.ack ≤ 4611686018427387903
  last0 : -1 ≤ c.last
  last1 : c.last ≤ 1099511627776
  lt0 : -1 ≤ c.lt
  lt1 : c.lt ≤ 4398046511104
/-- How many packets are out. -/
def tot (S : Lo) : Nat := (S.sp 0).out.length + (S.sp 1).out.length + (S.sp 2).out.length
theorem tot_put (S : Lo) {k : Nat} (hk : k < 3) (c : Sc) : tot (S.put k c) + (S.sp k).out.length = tot S + c.out.length := by
  have h : k = 0 ∨ k = 1 ∨ k = 2 := by omega
  rcases h with rfl | rfl | rfl <;> simp [tot, Lo.put, upd] <;> omega
/-- What holds of all packets behind N calls. -/
structure Ok (N : Nat) (S : Lo) : Prop where
  most0 : 0 ≤ S.most
  most1 : S.most ≤ 16383
  now0 : 0 ≤ S.now
  now1 : S.now ≤ 1099511627776
  win0 : 2400 ≤ S.win
  win1 : S.win + 65536 * (tot S : Int) ≤ 12000 + 65536 * (N : Int)
  thr0 : 0 ≤ S.thr
  thr1 : S.thr ≤ 9223372036854775807
  rcv0 : -1 ≤ S.rcv
  rcv1 : S.rcv ≤ 1099511627776
  prb0 : 0 ≤ S.prb
  prb1 : S.prb ≤ 20
  lat0 : 0 ≤ S.lat
  lat1 : S.lat ≤ 1099511627776
  lea0 : 0 ≤ S.lea
  lea1 : S.lea ≤ S.lat
  smo0 : 0 ≤ S.smo
  smo1 : S.smo ≤ 1099511627776
  var0 : 0 ≤ S.var
  var1 : S.var ≤ 1099511627776
  sp : ∀ k, k < 3 → Cok S.now N (S.sp k)

theorem ok_new (most : Int) (h0 : 0 ≤ most) (h1 : most ≤ 16383) : Ok 0 (newLo most) := by
  refine ⟨h0, h1, ?_, ?_, ?_, ?_, ?_, ?_, ?_, ?_, ?_, ?_, ?_, ?_, ?_, ?_, ?_, ?_, ?_, ?_, fun k _ => ⟨?_, ?_, ?_, ?_, ?_, ?_, ?_, ?_, ?_, ?_⟩⟩ <;> simp [newLo, newSc, Srt, tot]

theorem under_nil : under [] = 0 := rfl
theorem under_cons (p : Pk) (r : List Pk) : under (p :: r) = p.s + under r := by simp [under]
theorem under_append (x y : List Pk) : under (x ++ y) = under x + under y := by
  induction x with
  | nil => simp [under]
  | cons p r ih => rw [List.cons_append, under_cons, ih, under_cons]; omega
theorem under_bound {now : Int} {l : List Pk} (h : ∀ p ∈ l, Pok now p) : 0 ≤ under l ∧ under l ≤ 65535 * (l.length : Int) := by
  induction l with
  | nil => simp [under]
  | cons p r ih =>
    have h1 := ih (fun q hq => h q (List.mem_cons_of_mem _ hq))
    have h2 := h p List.mem_cons_self
    have := h2.s0; have := h2.s1
    rw [under_cons, List.length_cons]
    omega
theorem take_succ_at {α : Type} {l : List α} {d : α} {k : Nat} (h : k < l.length) : l.take (k + 1) = l.take k ++ [l.getD k d] := by
  rw [List.take_succ_eq_append_getElem h, List.getD_eq_getElem?_getD, List.getElem?_eq_getElem h]; rfl
end Go.Proofs.Ytjhihcmemnhbbaa
