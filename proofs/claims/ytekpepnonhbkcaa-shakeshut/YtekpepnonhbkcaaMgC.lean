/-
  What shake's readClientHello answers: a contract that the statements' walks use.
-/
import Derived.Test.YtekpepnonhbkcaaMgB
import Derived.Test.YtekpepnonhbkcaaHnd
import Derived.Deep.Quiet

/-
  What the client's takes of shake do, and the server's last one: contracts that the statements' walks use.
-/
namespace Go.Proofs.Ytekpepnonhbkcaa
open Go.RowKit
set_option linter.unusedVariables false
set_option maxRecDepth 20000

/-- What is known of a side's numbers. -/
structure Ok (A : Ab) : Prop where
  sd : ByL A.sd
  kp : ByL A.kp
  rt : ByL A.rt
  hc : ByL A.hc
  hs : ByL A.hs
  nsd : A.sd.length ≤ 100000
  nkp : A.kp.length ≤ 5000
  nhc : A.hc.length ≤ 1000
  nhs : A.hs.length ≤ 1000
  pv : 1 ≤ A.pv ∧ A.pv ≤ 4611686018427387903
  nss : okTs A.ss = true
  nps : A.ps.length ≤ 1024
  no : A.out.length ≤ 100
  nz : ∀ x ∈ A.out, x.2.length ≤ 100000
  rs : ByL A.rs
  ps : ByL A.ps
def hearA (A : Ab) (ms : List Int) : Ab := { A with sd := A.sd ++ ms }
def sayA (A : Ab) (lv : Int) (ms : List Int) : Ab := { A with sd := A.sd ++ ms, out := addC A.out lv ms }
theorem hearF (B sb : Nat) (S : Sh) (Fs : List Fl) (A : Ab) (m : Sv) (ms : List Int) (w : World) (h : Fu w B sb S Fs A) (hm : Seg w m.a ms) (hl : ms.length = m.n) (hn : A.sd.length + ms.length ≤ 1000000) :
    Calls Try.prog 45 #[.pointer (some ⟨sb, 0, none⟩), .slice m.a m.n m.c] w fun e w' => e = .returned (.tuple #[]) ∧ ∃ S', Aft w B sb S Fs (hearA A ms) w' S' Fs ∧ S'.handC = S.handC ∧ S'.handS = S.handS := by
  refine (hear_any B sb S A.sd Fs m ms w h.sd hm hl (by have : A.sd.length = S.said.n := Row.len h.sd.sr; omega)).mono ?_
  rintro e w' ⟨rfl, x, hs, k, mi⟩
  have f := h.move (x := x) (o := S.out) hs k mi
  rw [h.fl] at f
  refine ⟨rfl, { S with said := x }, ⟨f, k.mono (fun i _ m => .inl m), fun b m => ?_, rfl⟩, rfl, rfl⟩
  rcases m with m | m
  · rcases mi b m with m | m
    · exact .inl (.inl m)
    · exact .inr m
  · exact .inl (.inr m)
theorem Fu.fz {w : World} {B sb : Nat} {S : Sh} {Fs : List Fl} {A : Ab} (h : Fu w B sb S Fs A) {n : Nat} (hz : ∀ x ∈ A.out, x.2.length ≤ n) : ∀ F ∈ Fs, F.d.n ≤ n := by
  intro F hF
  have := hz (con F) (by rw [← h.fl]; exact List.mem_map.2 ⟨F, hF, rfl⟩)
  have e : F.z.length = F.d.n := Row.len (h.sd.dr F hF)
  rw [← e]; exact this
theorem sayF (B sb : Nat) (S : Sh) (Fs : List Fl) (A : Ab) (lv : Int) (m : Sv) (ms : List Int) (w : World) (h : Fu w B sb S Fs A) (hm : Row w m ms) (hb : ∀ b, blk m.a = some b → ¬ Mut sb S Fs b) (hn : A.sd.length + ms.length ≤ 1000000) (ho : A.out.length ≤ 1000) (hz : ∀ x ∈ A.out, x.2.length ≤ 500000) (hms : ms.length ≤ 500000) :
    Calls Try.prog 25 #[.pointer (some ⟨sb, 0, none⟩), .int .i64 lv, .slice m.a m.n m.c] w fun e w' => e = .returned (.tuple #[]) ∧ ∃ S' Fs', Aft w B sb S Fs (sayA A lv ms) w' S' Fs' ∧ S'.handC = S.handC ∧ S'.handS = S.handS := by
  have hl : ms.length = m.n := Row.len hm
  refine (say_any B sb S A.sd Fs lv m ms w h.sd (Row.seg hm) hl (fun b e => ⟨hm.lt b e, fun mm => hb b e (.inl mm)⟩) (by have : A.sd.length = S.said.n := Row.len h.sd.sr; omega) (by have := congrArg List.length h.fl; rw [List.length_map] at this; omega) (fun F hF => by have := h.fz hz F hF; omega)).mono ?_
  rintro e w' ⟨rfl, x, o, Gs, hs, hc, k, mi⟩
  have f := h.move hs k mi
  rw [hc, h.fl] at f
  refine ⟨rfl, { S with said := x, out := o }, Gs, ⟨f, k.mono (fun i _ m => .inl m), fun b m => ?_, rfl⟩, rfl, rfl⟩
  rcases m with m | m
  · rcases mi b m with m | m
    · exact .inl (.inl m)
    · exact .inr m
  · exact .inl (.inr m)
theorem Row.some {w : World} {x : Sv} {zs : List Int} (h : Row w x zs) (hn : 0 < x.n) : ∃ g off, x.a = some ⟨g, off, none⟩ := by
  rcases h.2 with ⟨_, h1, _⟩ | ⟨g, off, cur, ha, _⟩
  · omega
  · exact ⟨g, off, ha⟩
theorem Row.capN {w : World} {x : Sv} {zs : List Int} (h : Row w x zs) : x.n ≤ x.c := by
  rcases h.2 with ⟨_, h1, h2⟩ | ⟨g, off, cur, _, _, h1, _⟩ <;> omega
theorem seg_drop4 {w : World} {g o : Nat} {zs : List Int} (hs : Seg w (some ⟨g, o, none⟩) zs) (k : Nat) : Seg w (some ⟨g, o + k, none⟩) (zs.drop k) := by
  intro hne
  have hk : k < zs.length := by
    rcases Nat.lt_or_ge k zs.length with h | h
    · exact h
    · exact absurd (List.drop_of_length_le h) hne
  obtain ⟨b, off, e, hc⟩ := hs (by intro e; rw [e] at hk; simp at hk)
  cases e
  refine ⟨g, o + k, rfl, fun i hi => ?_⟩
  rw [List.length_drop] at hi
  have := hc (k + i) (by omega)
  rw [Nat.add_assoc, this, List.getD_eq_getElem?_getD, List.getD_eq_getElem?_getD, List.getElem?_drop]
/-- A message's body. -/
theorem seg_body {w : World} {g o n c : Nat} {zs : List Int} (hs : Seg w (some ⟨g, o, none⟩) zs) (hl : zs.length = n) (hc : n ≤ c) (h4 : 4 ≤ n) : Seg w (if c = 4 then some ⟨g, o, none⟩ else (some (⟨g, o, none⟩ : Addr)).map (·.add 4)) (zs.drop 4) := by
  by_cases e : c = 4
  · rw [List.drop_of_length_le (by omega)]; exact seg_nil _ _
  · rw [if_neg e, Option.map_some, addr_add]; exact seg_drop4 hs 4
theorem ByL.drop {zs : List Int} (h : ByL zs) (k : Nat) : ByL (zs.drop k) := fun y hy => h y (List.mem_of_mem_drop hy)
/-- Whether a server's hello is one. -/
def shOk (ms : List Int) : Bool := decide ((rdG (ms.drop 4) 0 0).2.2 = 0 ∧ (rdG (ms.drop 4) 0 0).2.1 = ((ms.length - 4 : Nat) : Int)) && okP (rdG (ms.drop 4) 0 0).1
def tkSH (A : Ab) : Int × Ab := if shOk A.kp = true then (0, agA (hearA A A.kp) (rdG (A.kp.drop 4) 0 0).1) else (100, A)
set_option maxHeartbeats 8000000 in
theorem takeSH_any (B sb : Nat) (S : Sh) (Fs : List Fl) (A : Ab) (w : World) (h : Fu w B sb S Fs A) (ok : Ok A) (h4 : 4 ≤ A.kp.length) :
    Calls Try.prog 32 #[.pointer (some ⟨sb, 0, none⟩), .slice S.kept.a S.kept.n S.kept.c] w fun e w' => e = .returned (.int .i64 (tkSH A).1) ∧ ∃ S' Fs', Aft w B sb S Fs (tkSH A).2 w' S' Fs' := by
  have HF := hid h
  have HO := hid ok
  have hkl : A.kp.length = S.kept.n := Row.len h.kr
  have hcn := h.kr.capN
  obtain ⟨g, off, ha⟩ := h.kr.some (by omega)
  have hsg := Row.seg h.kr
  have hnk := ok.nkp
  generalize hkv : S.kept = kv at *
  obtain ⟨ka, kn, kc⟩ := kv
  dsimp only at *
  subst ha
  have HKV := hid hkv
  have BO := hid (bodyOf_any (some ⟨g, off, none⟩) kn kc w (by omega))
  have HSB := hid (seg_body hsg hkl hcn (by omega))
  have HBL := hid (show (A.kp.drop 4).length = kn - 4 from by rw [List.length_drop, hkl])
  have RS := hid (rsh_any (if kc = 4 then some ⟨g, off, none⟩ else (some (⟨g, off, none⟩ : Addr)).map (·.add 4)) (kn - 4) (kc - 4) (A.kp.drop 4) w HBL.out (by omega) (ok.kp.drop 4) HSB.out)
  have HSG := hid hsg
  have HKL := hid hkl
  clear h ok hkv hsg
  generalize (if kc = 4 then some (⟨g, off, none⟩ : Addr) else (some (⟨g, off, none⟩ : Addr)).map (·.add 4)) = ba at *
  have hok : (decide ((rdG (A.kp.drop 4) 0 0).2.2 = 0 ∧ (rdG (A.kp.drop 4) 0 0).2.1 = ((kn - 4 : Nat) : Int)) && okP (rdG (A.kp.drop 4) 0 0).1) = shOk A.kp := by unfold shOk; rw [hkl]
  rw [hok] at RS
  by_cases hb : shOk A.kp = true
  · have HT := hid (show tkSH A = (0, agA (hearA A A.kp) (rdG (A.kp.drop 4) 0 0).1) from by unfold tkSH; rw [if_pos hb])
    rw [hb] at RS
    clear hok hb
    generalize hpu : (rdG (A.kp.drop 4) 0 0).1 = pu at *
    clear hpu
    have HLT := hid (show A.sd.length + A.kp.length ≤ 105000 from by have := HO.out.nsd; have := HO.out.nkp; omega)
    go_enter Try.func32, Try.ntmps32
    go_wp2_with (first
      | (go_at_call 41; refine BO.out.mono ?_; rintro e w1 ⟨rfl, rfl⟩)
      | (go_at_call 53; refine RS.out.mono ?_; rintro e w2 ⟨rfl, q2⟩; have A2 := hid (Aft.q HF.out q2); have Q2 := hid q2; clear q2)
      | (go_at_call 45; refine (hearF B sb S Fs A ⟨some ⟨g, off, none⟩, kn, kc⟩ A.kp w2 A2.out.f (HSG.out.q Q2.out) HKL.out (by have := HLT.out; omega)).mono ?_; rintro e w3 ⟨rfl, S3, a3, -, -⟩; have A3 := hid (A2.out.trans a3); clear a3)
      | (go_at_call 47; refine (agr_any B sb S3 Fs (hearA A A.kp) pu w3 A3.out.f (HO.out.sd.app HO.out.kp) (by have := HLT.out; show (A.sd ++ A.kp).length ≤ _; rw [List.length_append]; omega) (by have := HO.out.pv; show A.pv ≤ _; omega)).mono ?_; rintro e w4 ⟨rfl, S4, a4⟩; have A4 := hid (A3.out.trans a4); clear a4))
    go_ret
    refine ⟨by rw [HT.out]; rfl, S4, Fs, ?_⟩
    rw [HT.out]
    exact A4.out
  · have hb' : shOk A.kp = false := by simpa using hb
    have HT := hid (show tkSH A = (100, A) from by unfold tkSH; rw [if_neg hb])
    rw [hb'] at RS
    clear hok hb hb'
    go_enter Try.func32, Try.ntmps32
    go_wp2_with (first
      | (go_at_call 41; refine BO.out.mono ?_; rintro e w1 ⟨rfl, rfl⟩)
      | (go_at_call 53; refine RS.out.mono ?_; rintro e w2 ⟨rfl, q2⟩; have A2 := hid (Aft.q HF.out q2); clear q2))
    go_ret
    refine ⟨by rw [HT.out]; rfl, S, Fs, ?_⟩
    rw [HT.out]
    exact A2.out
end Go.Proofs.Ytekpepnonhbkcaa

/-
  What shake's takeChoice, takeServerFinished and takeClientFinished do: contracts that the statements' walks use.
-/
namespace Go.Proofs.Ytekpepnonhbkcaa
open Go.RowKit
set_option linter.unusedVariables false
set_option maxRecDepth 20000

/-- What a choice tells. -/
def coP (ms : List Int) : ByteArray := strOfNums (rdS (ms.drop 4) 0 0 1).1
def coD (ms : List Int) : List Int := (rdS (ms.drop 4) (rdS (ms.drop 4) 0 0 1).2.1 (rdS (ms.drop 4) 0 0 1).2.2 2).1
def coOk (ms : List Int) : Bool := decide ((rdS (ms.drop 4) (rdS (ms.drop 4) 0 0 1).2.1 (rdS (ms.drop 4) 0 0 1).2.2 2).2.2 = 0 ∧ (rdS (ms.drop 4) (rdS (ms.drop 4) 0 0 1).2.1 (rdS (ms.drop 4) 0 0 1).2.2 2).2.1 = ((ms.length - 4 : Nat) : Int)) && okT (coP ms).size && decide ((coD ms).length ≤ 1024)
def chA (A : Ab) : Ab := { A with pr := coP A.kp, pe := coD A.kp }
def tkCo (A : Ab) : Int × Ab := if coOk A.kp = true then (if ixI A.ss (coP A.kp) ≥ 0 then (0, hearA (chA A) A.kp) else (102, A)) else (100, A)
theorem ShAt.setPr {w : World} {sb : Nat} {S : Sh} (h : ShAt w sb S) (x : ByteArray) (y : Sv) : ShAt ((w.setCell ⟨sb, 60, none⟩ (.string x)).setCell ⟨sb, 61, none⟩ (.slice y.a y.n y.c)) sb { S with proto := x, peer := y } := by
  have h1 : ShAt (w.setCell ⟨sb, 60, none⟩ (.string x)) sb { S with proto := x } := h.set 60 _ (by rw [show 60 = 56 + 4 from rfl, S.set_end h.own h.root]; rfl) rfl rfl (by rw [S.len h.own h.root]; omega)
  exact h1.set 61 _ (by rw [show 61 = 56 + 5 from rfl, Sh.set_end _ h1.own h1.root]; rfl) rfl rfl (by rw [Sh.len _ h1.own h1.root]; omega)
/-- The proto and the peer's params are set. -/
theorem Fu.setPr {w w1 w' : World} {B sb : Nat} {S : Sh} {Fs : List Fl} {A : Ab} {x : ByteArray} {y : Sv} {ys : List Int} (h : Fu w1 B sb S Fs A) (hw : Q w w1) (hsb : Fu w B sb S Fs A) (hy : Row w1 y ys) (hn : New w.heap.size y) (e : w' = (w1.setCell ⟨sb, 60, none⟩ (.string x)).setCell ⟨sb, 61, none⟩ (.slice y.a y.n y.c)) :
    Aft w1 B sb S Fs { A with pr := x, pe := ys } w' { S with proto := x, peer := y } Fs := by
  have k8 : Keep (fun b => b = sb) w1 w' := by rw [e]; exact ((Keep.refl (fun b => b = sb) w1).setCell sb 60 _ (.inl rfl)).setCell sb 61 _ (.inl rfl)
  have a8 : ShAt w' sb { S with proto := x, peer := y } := by rw [e]; exact h.sd.at_.setPr x y
  have r8 := h.re.keep k8 mut_sb (M' := Mut sb { S with proto := x, peer := y } Fs) (fun b m => .inl ((mut_eq (S := S) rfl rfl rfl b).1 m))
  have hM : ∀ b, Mut sb { S with proto := x, peer := y } Fs b → b < w.heap.size := fun b m => (hsb.mut ((mut_eq (S := S) rfl rfl rfl b).1 m)).2
  have ny : ∀ b, blk y.a = some b → ¬ b = sb := fun b e => by have := hn b e; have := hsb.sd.at_.lt; omega
  exact ⟨h.cells a8 k8 rfl rfl rfl rfl rfl rfl ⟨r8.own, r8.wt, r8.fd, r8.rt, r8.hc, r8.hs, r8.ac, r8.as_, rfl, RO.new (Sub.keep hy k8 ny) hn hM⟩, k8.mono (fun i _ e => mut_sb i e), fun b m => .inl ((mut_eq (S := S) rfl rfl rfl b).1 m), rfl⟩
theorem Own.row2 {w : World} {base g m : Nat} {zs : List Int} (h : Own w base (some ⟨g, 0, none⟩) m m zs) : Row w ⟨some ⟨g, 0, none⟩, m, m⟩ zs ∧ New base ⟨some ⟨g, 0, none⟩, m, m⟩ := by
  have hl := h.len
  rcases h.2 with ⟨h2, h3⟩ | ⟨g', cap', cur, hv, hb, hg, r1, r2, r3, r4⟩
  · cases h2
  · simp only [Value.slice.injEq, Option.some.injEq, Addr.mk.injEq, and_true] at hv
    obtain ⟨rfl, _, rfl⟩ := hv
    refine ⟨⟨by simp [hl], .inr ⟨g, 0, cur, rfl, hg, r1, r2, by show 0 + m * 1 ≤ _; omega, fun j hj => ?_⟩⟩, fun b e => by cases e; exact hb⟩
    rw [Nat.zero_add, show u8s zs = cur.toList.take (m * 1) from r4.symm, List.getElem?_take_of_lt hj]
    simp
theorem Fu.protos {w : World} {B sb : Nat} {S : Sh} {Fs : List Fl} {A : Ab} (h : Fu w B sb S Fs A) : ∃ t : Sv, w.cell? ⟨sb, 34, none⟩ = some (.slice t.a t.n t.c) ∧ ROT w (Mut sb S Fs) t A.ss := by
  obtain ⟨t, p, e, l, ht, _⟩ := h.re.own
  refine ⟨t, ?_, ht⟩
  rw [h.sd.at_.cell]
  unfold Sh.cells
  rw [e, List.getElem?_append_left (by rw [ccells_len l]; omega)]
  unfold ccells
  rw [show 34 = 33 + 1 from rfl, List.getElem?_cons_succ, List.getElem?_append_right (by simp [l])]
  simp [l]
set_option maxHeartbeats 8000000 in
theorem takeCo_any (B sb : Nat) (S : Sh) (Fs : List Fl) (A : Ab) (w : World) (h : Fu w B sb S Fs A) (ok : Ok A) (h4 : 4 ≤ A.kp.length) :
    Calls Try.prog 33 #[.pointer (some ⟨sb, 0, none⟩), .slice S.kept.a S.kept.n S.kept.c] w fun e w' => e = .returned (.int .i64 (tkCo A).1) ∧ ∃ S' Fs', Aft w B sb S Fs (tkCo A).2 w' S' Fs' := by
  have HF := hid h
  have HO := hid ok
  have hkl : A.kp.length = S.kept.n := Row.len h.kr
  have hcn := h.kr.capN
  obtain ⟨g, off, ha⟩ := h.kr.some (by omega)
  have hsg := Row.seg h.kr
  have hnk := ok.nkp
  generalize hkv : S.kept = kv at *
  obtain ⟨ka, kn, kc⟩ := kv
  dsimp only at *
  subst ha
  have HKV := hid hkv
  have BO := hid (bodyOf_any (some ⟨g, off, none⟩) kn kc w (by omega))
  have HSB := hid (seg_body hsg hkl hcn (by omega))
  have HBL := hid (show (A.kp.drop 4).length = kn - 4 from by rw [List.length_drop, hkl])
  have RS := hid (rch_any (if kc = 4 then some ⟨g, off, none⟩ else (some (⟨g, off, none⟩ : Addr)).map (·.add 4)) (kn - 4) (kc - 4) (A.kp.drop 4) w HBL.out (by omega) (ok.kp.drop 4) HSB.out)
  have HSG := hid hsg
  have HKL := hid hkl
  have HSS := hid (show A.ss.length ≤ 8 from by have := ok.nss; unfold okTs at this; simp at this; omega)
  clear h ok hkv hsg
  generalize (if kc = 4 then some (⟨g, off, none⟩ : Addr) else (some (⟨g, off, none⟩ : Addr)).map (·.add 4)) = ba at *
  have HP := hid (show strOfNums (rdS (A.kp.drop 4) 0 0 1).1 = coP A.kp from rfl)
  have HD := hid (show (rdS (A.kp.drop 4) (rdS (A.kp.drop 4) 0 0 1).2.1 (rdS (A.kp.drop 4) 0 0 1).2.2 2).1 = coD A.kp from rfl)
  rw [HP.out, HD.out] at RS
  have RS2 := hid (RS.out.mono (R' := fun e w' => ∃ g m, e = .returned (.tuple #[.string (coP A.kp), .slice (some ⟨g, 0, none⟩) m m, .bool (coOk A.kp)]) ∧ Q w w' ∧ Own w' w.heap.size (some ⟨g, 0, none⟩) m m (coD A.kp)) (by
    rintro e w' ⟨g, m, rfl, q, o⟩
    have hm : (coD A.kp).length = m := o.len
    refine ⟨g, m, ?_, q, o⟩
    unfold coOk
    rw [hm, hkl]))
  clear RS HP HD
  have HT := hid (show tkCo A = if coOk A.kp = true then (if ixI A.ss (coP A.kp) ≥ 0 then (0, hearA (chA A) A.kp) else (102, A)) else (100, A) from rfl)
  have HCA := hid (show chA A = { A with pr := coP A.kp, pe := coD A.kp } from rfl)
  generalize coOk A.kp = okb at *
  generalize coP A.kp = pr at *
  generalize coD A.kp = pe at *
  cases okb with
  | true =>
    rw [if_pos rfl] at HT
    by_cases hi : ixI A.ss pr ≥ 0
    · rw [if_pos hi] at HT
      have hid1 : decide (ixI A.ss pr ≥ 0) = true := decide_eq_true hi
      clear hi
      have HLT := hid (show A.sd.length + A.kp.length ≤ 105000 from by have := HO.out.nsd; have := HO.out.nkp; omega)
      go_enter Try.func33, Try.ntmps33
      go_wp2_with (first
        | (go_at_call 41; refine BO.out.mono ?_; rintro e w1 ⟨rfl, rfl⟩)
        | (go_at_call 54; refine RS2.out.mono ?_; rintro e w2 ⟨gp, mp, rfl, q2, o2⟩; have F2 := hid (HF.out.q q2); have Q2 := hid q2; have O2 := hid o2.row2; obtain ⟨⟨ta, tn, tc⟩, c34, rt⟩ := F2.out.protos; have RT := hid rt; have CN := hid (contains_any ta tn tc A.ss pr w2 rt.l rt.s (by have := HSS.out; have := rt.l; dsimp only at this; omega)); have c60 := F2.out.sd.at_.proto; have c61 := F2.out.sd.at_.peer; have f60 := F2.out.sd.at_.free 60; have f61 := F2.out.sd.at_.free 61; dsimp only at c34; clear q2 o2 rt; rw [hid1] at CN)
        | (go_at_call 44; refine CN.out.mono ?_; rintro e w3 ⟨rfl, rfl⟩)
        | (go_at_call 45; refine Hid.out ?_))
      refine hid ?_
      generalize hw4 : World.setCell (World.setCell w2 _ _) _ _ = w4
      have A4 := hid ((Aft.q HF.out Q2.out).trans (F2.out.setPr Q2.out HF.out O2.out.1 O2.out.2 hw4.symm))
      rw [← HCA.out] at A4
      have S4 := hid (show Seg w4 (some ⟨g, off, none⟩) A.kp from by have h : Seg w4 S.kept.a A.kp := Row.seg A4.out.f.kr; rw [HKV.out] at h; exact h)
      clear c34 c60 c61 f60 f61 hw4
      refine (hearF B sb _ Fs (chA A) ⟨some ⟨g, off, none⟩, kn, kc⟩ A.kp w4 A4.out.f S4.out HKL.out (by have := HLT.out; show A.sd.length + _ ≤ _; omega)).mono ?_
      rintro e w5 ⟨rfl, S5, a5, -, -⟩
      have A5 := hid (A4.out.trans a5)
      clear a5
      go_wp2
      go_ret
      refine ⟨by rw [HT.out]; rfl, S5, Fs, ?_⟩
      rw [HT.out]
      exact A5.out
    · rw [if_neg hi] at HT
      have hid1 : decide (ixI A.ss pr ≥ 0) = false := decide_eq_false hi
      clear hi
      go_enter Try.func33, Try.ntmps33
      go_wp2_with (first
        | (go_at_call 41; refine BO.out.mono ?_; rintro e w1 ⟨rfl, rfl⟩)
        | (go_at_call 54; refine RS2.out.mono ?_; rintro e w2 ⟨gp, mp, rfl, q2, o2⟩; have F2 := hid (HF.out.q q2); have Q2 := hid q2; obtain ⟨⟨ta, tn, tc⟩, c34, rt⟩ := F2.out.protos; have CN := hid (contains_any ta tn tc A.ss pr w2 rt.l rt.s (by have := HSS.out; have := rt.l; dsimp only at this; omega)); dsimp only at c34; clear q2 o2 rt; rw [hid1] at CN)
        | (go_at_call 44; refine CN.out.mono ?_; rintro e w3 ⟨rfl, rfl⟩))
      go_ret
      refine ⟨by rw [HT.out]; rfl, S, Fs, ?_⟩
      rw [HT.out]
      exact Aft.q HF.out Q2.out
  | false =>
    rw [if_neg (by decide)] at HT
    go_enter Try.func33, Try.ntmps33
    go_wp2_with (first
      | (go_at_call 41; refine BO.out.mono ?_; rintro e w1 ⟨rfl, rfl⟩)
      | (go_at_call 54; refine RS2.out.mono ?_; rintro e w2 ⟨gp, mp, rfl, q2, o2⟩; have Q2 := hid q2; clear q2 o2))
    go_ret
    refine ⟨by rw [HT.out]; rfl, S, Fs, ?_⟩
    rw [HT.out]
    exact Aft.q HF.out Q2.out
/-- What a side's finished message proves. -/
def prL (ks sd : List Int) : List Int := dg ([102, 105, 110] ++ (ks ++ dg sd))
def tkCF (A : Ab) : Int × Ab := (finE A.kp A.hc A.sd, A)
def tkSF (A : Ab) : Int × Ab := if finE A.kp A.hs A.sd = 0 then (0, sayA (coA (hearA A A.kp)) 1 (msgL 20 (prL A.hc (A.sd ++ A.kp)))) else (finE A.kp A.hs A.sd, A)
theorem takeCF_any (B sb : Nat) (S : Sh) (Fs : List Fl) (A : Ab) (w : World) (h : Fu w B sb S Fs A) (ok : Ok A) (h4 : 4 ≤ A.kp.length) :
    Calls Try.prog 31 #[.pointer (some ⟨sb, 0, none⟩), .slice S.kept.a S.kept.n S.kept.c] w fun e w' => e = .returned (.int .i64 (tkCF A).1) ∧ ∃ S' Fs', Aft w B sb S Fs (tkCF A).2 w' S' Fs' := by
  have hkl : A.kp.length = S.kept.n := Row.len h.kr
  have hcn := h.kr.capN
  obtain ⟨g, off, ha⟩ := h.kr.some (by omega)
  have hsg := Row.seg h.kr
  have hsl : A.sd.length = S.said.n := Row.len h.sd.sr
  rw [ha] at hsg ⊢
  refine (takeClientFinished_any sb S A.sd g off S.kept.n S.kept.c A.kp A.hc w h.sd.at_ (Row.seg h.sd.sr) hsl (by have := ok.nsd; omega) ok.sd h.re.hc.s h.re.hc.l (by have := ok.nhc; have := h.re.hc.l; omega) ok.hc (dg_lt _) hsg hkl (by omega) hcn).mono ?_
  rintro e w' ⟨rfl, q⟩
  exact ⟨rfl, S, Fs, Aft.q h q⟩
theorem msgL_len (k : Int) (zs : List Int) : (msgL k zs).length = zs.length + 4 := by
  unfold msgL
  rw [List.length_append, List.length_append, be_length]
  simp; omega
set_option maxHeartbeats 8000000 in
theorem takeSF_any (B sb : Nat) (S : Sh) (Fs : List Fl) (A : Ab) (w : World) (h : Fu w B sb S Fs A) (ok : Ok A) (h4 : 4 ≤ A.kp.length) :
    Calls Try.prog 34 #[.pointer (some ⟨sb, 0, none⟩), .slice S.kept.a S.kept.n S.kept.c] w fun e w' => e = .returned (.int .i64 (tkSF A).1) ∧ ∃ S' Fs', Aft w B sb S Fs (tkSF A).2 w' S' Fs' := by
  have HF := hid h
  have HO := hid ok
  have hkl : A.kp.length = S.kept.n := Row.len h.kr
  have hcn := h.kr.capN
  obtain ⟨g, off, ha⟩ := h.kr.some (by omega)
  have hsg := Row.seg h.kr
  have hnk := ok.nkp
  have hsl : A.sd.length = S.said.n := Row.len h.sd.sr
  have c57 := h.sd.at_.handS
  have CF := hid (checkFinished_any sb S A.sd g off S.kept.n S.kept.c A.kp S.handS A.hs w h.sd.at_ (Row.seg h.sd.sr) hsl (by have := ok.nsd; omega) ok.sd h.re.hs.s h.re.hs.l (by have := ok.nhs; have := h.re.hs.l; omega) ok.hs (dg_lt _) (by rw [ha] at hsg; exact hsg) hkl (by omega) hcn)
  generalize hkv : S.kept = kv at *
  obtain ⟨ka, kn, kc⟩ := kv
  dsimp only at *
  subst ha
  have HKV := hid hkv
  have HSG := hid hsg
  have HKL := hid hkl
  have HLT := hid (show A.sd.length + A.kp.length ≤ 105000 from by have := ok.nsd; have := ok.nkp; omega)
  clear h ok hkv hsg hsl
  have HT := hid (show tkSF A = if finE A.kp A.hs A.sd = 0 then (0, sayA (coA (hearA A A.kp)) 1 (msgL 20 (prL A.hc (A.sd ++ A.kp)))) else (finE A.kp A.hs A.sd, A) from rfl)
  generalize finE A.kp A.hs A.sd = er at *
  generalize hsv : S.handS = sv at c57 CF
  obtain ⟨sva, svn, svc⟩ := sv
  dsimp only at c57 CF
  clear hsv
  by_cases he : er = 0
  · subst he
    rw [if_pos rfl] at HT
    go_enter Try.func34, Try.ntmps34
    go_wp2_with (first
      | (go_at_call 52; refine CF.out.mono ?_; rintro e w1 ⟨rfl, q1⟩; have A1 := hid (Aft.q HF.out q1); have Q1 := hid q1; clear q1)
      | (go_at_call 45; refine (hearF B sb S Fs A ⟨some ⟨g, off, none⟩, kn, kc⟩ A.kp w1 A1.out.f (HSG.out.q Q1.out) HKL.out (by have := HLT.out; omega)).mono ?_; rintro e w2 ⟨rfl, S2, a2, -, -⟩; have A2 := hid (A1.out.trans a2); clear a2)
      | (go_at_call 51; refine (con_any B sb S2 Fs (hearA A A.kp) w2 A2.out.f (HO.out.sd.app HO.out.kp) (by have := HLT.out; show (A.sd ++ A.kp).length ≤ _; rw [List.length_append]; omega) HO.out.rt).mono ?_; rintro e w3 ⟨rfl, S3, a3⟩; have A3 := hid (A2.out.trans a3); have c56 := A3.out.f.sd.at_.handC; generalize hcv : S3.handC = cv at c56; obtain ⟨cva, cvn, cvc⟩ := cv; dsimp only at c56; have HCV := hid hcv; clear a3 hcv; refine Hid.out ?_))
    refine hid ?_
    have rc3 := A3.out.f.re.hc
    rw [HCV.out] at rc3
    have PR := hid (proof_any sb S3 (A.sd ++ A.kp) ⟨cva, cvn, cvc⟩ A.hc w3 A3.out.f.sd.at_ (Row.seg A3.out.f.sd.sr) (Row.len A3.out.f.sd.sr) (by have h1 : (A.sd ++ A.kp).length = S3.said.n := Row.len A3.out.f.sd.sr; have := HLT.out; rw [List.length_append] at h1; omega) (HO.out.sd.app HO.out.kp) rc3.s rc3.l (by have := HO.out.nhc; have h2 : A.hc.length = cvn := rc3.l; show cvn ≤ _; omega) HO.out.hc (dg_lt _))
    clear rc3
    dsimp only at PR
    have HPL := hid (show dg ([102, 105, 110] ++ (A.hc ++ dg (A.sd ++ A.kp))) = prL A.hc (A.sd ++ A.kp) from rfl)
    have HPN := hid (show (prL A.hc (A.sd ++ A.kp)).length = 16 from dg_len _)
    rw [HPL.out] at PR
    generalize prL A.hc (A.sd ++ A.kp) = pl at *
    clear HPL
    go_wp2_with (first
      | (go_at_call 50; refine PR.out.mono ?_; rintro e w4 ⟨g4, rfl, q4, s4, n4⟩; have A4 := hid (A3.out.trans (Aft.q A3.out.f q4)); have S4 := hid s4; clear q4 s4 n4 c56)
      | (go_at_call 49; refine (finished_new ⟨some ⟨g4, 0, none⟩, 16, 16⟩ pl w4 S4.out HPN.out (by show 16 ≤ _; omega)).mono ?_; rintro e w5 ⟨⟨fa, fn, fc⟩, rfl, q5, r5, n5⟩; have A5 := hid (A4.out.trans (Aft.q A4.out.f q5)); have R5 := hid r5; have N5 := hid (show ∀ b, blk fa = some b → ¬ Mut sb S3 Fs b from fun b e m => by have := n5 b e; have := (A4.out.f.mut m).2; omega); clear q5 r5 n5)
      | (go_at_call 25; refine (sayF B sb S3 Fs (coA (hearA A A.kp)) 1 ⟨fa, fn, fc⟩ (msgL 20 pl) w5 A5.out.f R5.out N5.out (by rw [msgL_len, HPN.out]; have := HLT.out; show (A.sd ++ A.kp).length + _ ≤ _; rw [List.length_append]; omega) (by have := HO.out.no; show A.out.length ≤ _; omega) (fun x hx => by have := HO.out.nz x hx; omega) (by rw [msgL_len, HPN.out]; omega)).mono ?_; rintro e w6 ⟨rfl, S6, Fs6, a6, -, -⟩; have A6 := hid (A5.out.trans a6); clear a6))
    go_ret
    refine ⟨by rw [HT.out]; rfl, S6, Fs6, ?_⟩
    rw [HT.out]
    exact A6.out
  · rw [if_neg he] at HT
    have heb : (er != 0) = true := by simpa using he
    clear he
    go_enter Try.func34, Try.ntmps34
    go_wp2_with (go_at_call 52; refine CF.out.mono ?_; rintro e w1 ⟨rfl, q1⟩; have A1 := hid (Aft.q HF.out q1); clear q1)
    go_ret
    refine ⟨by rw [HT.out]; rfl, S, Fs, ?_⟩
    rw [HT.out]
    exact A1.out
end Go.Proofs.Ytekpepnonhbkcaa

/-
  The drawn region of shake's readClientHello that reads one proto, gone through by hand, a lemma a state.
-/
namespace Go.Proofs.Ytekpepnonhbkcaa
open Go.RowKit
set_option linter.unusedVariables false
set_option maxRecDepth 20000

theorem sub_ne {w : World} {e t size n cap b : Nat} {a : Option Addr} {vs : List Value} {D : Array Value} {fr : Nat × Nat} (h : Sub w e size a n cap vs) (hb : w.heap[b]? = some (.cells D t fr)) (hne : e ≠ t) : ∀ c, blk a = some c → ¬ c = b := by
  intro c e1 e2
  subst e2
  rcases h.2 with ⟨h1, _⟩ | ⟨g, off, cur, h1, hg, _⟩
  · rw [h1] at e1; cases e1
  · rw [h1] at e1
    simp only [blk, Option.map_some, Option.some.injEq] at e1
    rw [e1, hb] at hg
    cases hg
    exact hne rfl
theorem ld_t {o : Oper} {a : Act} {w : World} {v : Value} (t : TypeId) (x : Operand) (g p : Nat) (ho : o.op = .load t x) (hx : a.eval x = .pointer (some ⟨g, p, none⟩)) (hst : (loadVar t ⟨g, p, none⟩).run Try.prog w = .ok v w) :
    (execOp a.eval o).run Try.prog w = .ok (.value v) w := by
  unfold execOp
  simp only [ho, hx, Instr.loadAt, Instr.sureAddr, Sem.run_bind, Sem.run_pure, Result.andThen_ok, hst]
theorem ld23 {w : World} {b j : Nat} {v : Sv} (hc : w.cell? ⟨b, j, none⟩ = some (.slice v.a v.n v.c)) : (loadVar 23 ⟨b, j, none⟩).run Try.prog w = .ok (.slice v.a v.n v.c) w := by simp [loadVar, go_sem, hc]
theorem ld98 {w : World} {b rb : Nat} {fr : Nat × Nat} (hb : w.heap[b]? = some (.cells #[.pointer (some ⟨rb, 0, none⟩)] 98 fr)) : (loadVar 98 ⟨b, 0, none⟩).run Try.prog w = .ok (rv rb) w :=
  run_loadVar_row w b 98 98 _ fr _ hb Try.underlying98 rfl (by kernel_rfl)
theorem cv_any {o : Oper} {a : Act} {w : World} {v u : Value} (s t : TypeId) (x : Operand) (ho : o.op = .convert s t x) (hx : a.eval x = v) (hr : (convert s t v).run Try.prog w = .ok u w) : (execOp a.eval o).run Try.prog w = .ok (.value u) w := by
  unfold execOp
  simp only [ho, hx]
  simp [hr, Result.andThen]
theorem run_app23 {o : Oper} {a : Act} {w w2 : World} {v s x : Value} (sx xx : Operand) (ho : o.op = Op.call { callee := Callee.builtin Builtin.append, args := #[sx, xx], argTypes := #[23, 23] }) (ht : o.type = 23) (hs : a.eval sx = s) (hx : a.eval xx = x) (hr : (Builtin.append_ #[23, 23] 23 #[s, x]).run Try.prog w = .ok v w2) :
    (execOp a.eval o).run Try.prog w = .ok (.value v) w2 := by
  simp [execOp, ho, ht, resolve, invoke, builtin, hs, hx, hr, Result.andThen]
theorem st23 {o : Oper} {a : Act} {w : World} (x y : Operand) (b j : Nat) (v u : Sv) (ho : o.op = .store 23 x y) (hx : a.eval x = .pointer (some ⟨b, j, none⟩)) (hy : a.eval y = .slice v.a v.n v.c) (hc : w.cell? ⟨b, j, none⟩ = some (.slice u.a u.n u.c)) (hf : w.frozen? ⟨b, j, none⟩ = false) :
    (execOp a.eval o).run Try.prog w = .ok .skip (w.setCell ⟨b, j, none⟩ (.slice v.a v.n v.c)) := by
  have hst : (storeVar 23 ⟨b, j, none⟩ (.slice v.a v.n v.c)).run Try.prog w = .ok () (w.setCell ⟨b, j, none⟩ (.slice v.a v.n v.c)) := by simp [storeVar, go_sem, hc, hf]
  unfold execOp
  simp only [ho, hx, hy, Instr.storeAt, Instr.sureAddr, Sem.run_bind, Sem.run_pure, Result.andThen_ok, hst]
theorem src_one {w : World} {g : Nat} {s : ByteArray} (h : w.heap[g]? = some (.cells #[.string s] 9 (0, 0))) : Src Try.prog 1 23 (.slice (some ⟨g, 0, none⟩) 1 1) 1 (tvs [s]) w := by
  refine Src.ofSlice (size := 1) w Try.underlying23 ⟨g, 0, none⟩ 1 1 (tvs [s]) (by simp [tvs]) (fun j u hj => ?_) (by intro u hu; simp [tvs] at hu; rw [hu]; rfl)
  have hj0 : j = 0 := by
    rcases Nat.eq_zero_or_pos j with hh | hh
    · exact hh
    · rw [List.getElem?_eq_none (by simp [tvs]; omega)] at hj; cases hj
  subst hj0
  rw [addr_add, cell_of_row _ _ _ _ 9 (0, 0) h]
  simpa [tvs] using hj
/-- An offer's block. -/
def OB (w : World) (ob : Nat) (pub : Int) (t p : Sv) : Prop := w.heap[ob]? = some (.cells #[.int .i64 pub, .slice t.a t.n t.c, .slice p.a p.n p.c] 78 (0, 0))
theorem OB.keep {F : Nat → Prop} {w w' : World} {ob : Nat} {pub : Int} {t p : Sv} (h : OB w ob pub t p) (k : Keep F w w') (hn : ¬ F ob) : OB w' ob pub t p := (k.block ob (lt_of_blk h) hn).trans h
theorem OB.c1 {w : World} {ob : Nat} {pub : Int} {t p : Sv} (h : OB w ob pub t p) : w.cell? ⟨ob, 1, none⟩ = some (.slice t.a t.n t.c) := by rw [cell_of_row _ _ _ _ 78 (0, 0) h]; rfl
theorem OB.free {w : World} {ob : Nat} {pub : Int} {t p : Sv} (h : OB w ob pub t p) (j : Nat) : w.frozen? ⟨ob, j, none⟩ = false := frozen_of_row w ob j _ 78 h
theorem OB.set1 {w : World} {ob : Nat} {pub : Int} {t p : Sv} (h : OB w ob pub t p) (y : Sv) : OB (w.setCell ⟨ob, 1, none⟩ (.slice y.a y.n y.c)) ob pub y p := by
  have := heap_setCell_same w ob 1 _ 78 (.slice y.a y.n y.c) h
  unfold OB
  simpa using this
def FO (rb ob : Nat) (T : Sv) (b : Nat) : Prop := b = rb ∨ b = ob ∨ blk T.a = some b
def rh5g0z (rb ob bx : Nat) (T : Sv) (pub : Int) (ss : List ByteArray) (bs : List Int)  : List (Nat × Value) := [(0, .pointer (some ⟨ob, 1, none⟩)), (2, rv rb)]
set_option maxHeartbeats 8000000 in
theorem rh5g0 (rb ob bx : Nat) (T : Sv) (pub : Int) (ss : List ByteArray) (bs : List Int)  {x0 x1 x3 x5 x6 x7 x8 x9 x10 x11 x12 x13 x14 x15 x16 x17 x18 x19 x20 x21 x22 x23 x24 x25 x26 x27 x28 x29 x30 x31 x32 x33 x34 x35 x36 x37 x38 x39 x40 x41 x42 x43 x44 x45 : Value} (w : World) (Y : World → Prop) (hY : ∀ u v, Y u → Keep (fun b => b = ob ∨ blk T.a = some b) u v → Y v) (hbx : w.heap[bx]? = some (.cells #[.pointer (some ⟨rb, 0, none⟩)] 98 (0, 0))) (hbn : ¬ FO rb ob T bx) (hro : ob ≠ rb) (hrt : ∀ b, blk T.a = some b → b ≠ rb) (htn : T.n ≤ 1000)
    (HC : ∀ u, u = w.drew → Calls Try.prog 63 #[rv rb, .int .i64 1] u fun e v => ∃ g m, e = .returned (.slice (some ⟨g, 0, none⟩) m m) ∧ Keep (fun b => b = rb) u v ∧ Y v ∧ Own v w.heap.size (some ⟨g, 0, none⟩) m m bs) (h1 : OB w.drew ob pub T ⟨none, 0, 0⟩) (ht : RowT w.drew T ss) : Chn Try.prog (RofN Try.f40 5) (fun u => Keep (FO rb ob T) w u) (rh5g0z rb ob bx T pub ss bs ) (#[false, false, false, false, false, false, false, false, false] : Array Bool) (⟨#[x0, x1, .pointer (some ⟨ob, 0, none⟩), x3, .pointer (some ⟨bx, 0, none⟩), x5, x6, x7, x8, x9, x10, x11, x12, x13, x14, x15, x16, x17, x18, x19, x20, x21, x22, x23, x24, x25, x26, x27, x28, x29, x30, x31, x32, x33, x34, x35, x36, x37, x38, x39, x40, x41, x42, x43, x44, x45], []⟩ : Act) :=
  ⟨⟨by kernel_rfl, by kernel_rfl, by kernel_rfl, by kernel_rfl, fun u h => by kernel_rfl⟩,
    ⟨by kernel_rfl, by kernel_rfl, by kernel_rfl, by kernel_rfl, fun u h => ld_t 98 (.tmp 4) bx 0 (by kernel_rfl) (by kernel_rfl) (ld98 ((h.block bx (lt_of_blk hbx) hbn).trans hbx))⟩,
    trivial⟩
def rh5g1z (rb ob bx : Nat) (T : Sv) (pub : Int) (ss : List ByteArray) (bs : List Int)  (g3 m3 : Nat)  (g5 : Nat) (ya : Option Addr) (yn yc : Nat) : List (Nat × Value) := [(7, .pointer (some ⟨ob, 1, none⟩))]
set_option maxHeartbeats 8000000 in
theorem rh5g1 (rb ob bx : Nat) (T : Sv) (pub : Int) (ss : List ByteArray) (bs : List Int)  (g3 m3 : Nat)  (g5 : Nat) (ya : Option Addr) (yn yc : Nat) {x0 x1 x3 x5 x6 x7 x8 x9 x10 x11 x12 x13 x14 x15 x23 x24 x25 x26 x27 x28 x29 x30 x31 x32 x33 x34 x35 x36 x37 x38 x39 x40 x41 x42 x43 x44 x45 : Value} (w : World) (Y : World → Prop) (hY : ∀ u v, Y u → Keep (fun b => b = ob ∨ blk T.a = some b) u v → Y v) (hbx : w.heap[bx]? = some (.cells #[.pointer (some ⟨rb, 0, none⟩)] 98 (0, 0))) (hbn : ¬ FO rb ob T bx) (hro : ob ≠ rb) (hrt : ∀ b, blk T.a = some b → b ≠ rb) (htn : T.n ≤ 1000)
    (HC : ∀ u, u = w.drew → Calls Try.prog 63 #[rv rb, .int .i64 1] u fun e v => ∃ g m, e = .returned (.slice (some ⟨g, 0, none⟩) m m) ∧ Keep (fun b => b = rb) u v ∧ Y v ∧ Own v w.heap.size (some ⟨g, 0, none⟩) m m bs) (h1 : OB w.drew ob pub T ⟨none, 0, 0⟩) (ht : RowT w.drew T ss) : Chn Try.prog (RofN Try.f40 5) (fun u => Keep (FO rb ob T) w u) (rh5g1z rb ob bx T pub ss bs g3 m3 g5 ya yn yc) (#[true, true, true, true, true, true, true, false, false] : Array Bool) (⟨#[x0, x1, .pointer (some ⟨ob, 0, none⟩), x3, .pointer (some ⟨bx, 0, none⟩), x5, x6, x7, x8, x9, x10, x11, x12, x13, x14, x15, .pointer (some ⟨ob, 1, none⟩), .slice T.a T.n T.c, rv rb, .slice (some ⟨g3, 0, none⟩) m3 m3, .string (strOfNums bs), .slice (some ⟨g5, 0, none⟩) 1 1, .slice ya yn yc, x23, x24, x25, x26, x27, x28, x29, x30, x31, x32, x33, x34, x35, x36, x37, x38, x39, x40, x41, x42, x43, x44, x45], []⟩ : Act) :=
  ⟨⟨by kernel_rfl, by kernel_rfl, by kernel_rfl, by kernel_rfl, fun u h => by kernel_rfl⟩,
    trivial⟩
set_option maxHeartbeats 16000000 in
theorem rh5_1_3_4_5_6_8 (rb ob bx : Nat) (T : Sv) (pub : Int) (ss : List ByteArray) (bs : List Int)  (g3 m3 : Nat)  (g5 : Nat) (ya : Option Addr) (yn yc : Nat)  {x0 x1 x3 x5 x6 x7 x8 x9 x10 x11 x12 x13 x14 x15 x24 x25 x26 x27 x28 x29 x30 x31 x32 x33 x34 x35 x36 x37 x38 x39 x40 x41 x42 x43 x44 x45 : Value} (w : World) (R : Exit → Act → World → Prop) (hQ : ∀ c a d v w, R (.panic c) (a.put d v) w → R (.panic c) a w) (Y : World → Prop) (hY : ∀ u v, Y u → Keep (fun b => b = ob ∨ blk T.a = some b) u v → Y v) (hbx : w.heap[bx]? = some (.cells #[.pointer (some ⟨rb, 0, none⟩)] 98 (0, 0))) (hbn : ¬ FO rb ob T bx) (hro : ob ≠ rb) (hrt : ∀ b, blk T.a = some b → b ≠ rb) (htn : T.n ≤ 1000)
    (HC : ∀ u, u = w.drew → Calls Try.prog 63 #[rv rb, .int .i64 1] u fun e v => ∃ g m, e = .returned (.slice (some ⟨g, 0, none⟩) m m) ∧ Keep (fun b => b = rb) u v ∧ Y v ∧ Own v w.heap.size (some ⟨g, 0, none⟩) m m bs) (h1 : OB w.drew ob pub T ⟨none, 0, 0⟩) (ht : RowT w.drew T ss)
    (h : ∀ (g3 m3 g5 : Nat) (ya : Option Addr) (yn yc : Nat) (u : World), Keep (FO rb ob T) w u → Y u → OB u ob pub ⟨ya, yn, yc⟩ ⟨none, 0, 0⟩ → RowT u ⟨ya, yn, yc⟩ (ss ++ [strOfNums bs]) → (∀ b, blk ya = some b → blk T.a = some b ∨ w.heap.size ≤ b) → R .normal (⟨#[x0, x1, .pointer (some ⟨ob, 0, none⟩), x3, .pointer (some ⟨bx, 0, none⟩), x5, x6, x7, x8, x9, x10, x11, x12, x13, x14, x15, .pointer (some ⟨ob, 1, none⟩), .slice T.a T.n T.c, rv rb, .slice (some ⟨g3, 0, none⟩) m3 m3, .string (strOfNums bs), .slice (some ⟨g5, 0, none⟩) 1 1, .slice ya yn yc, .pointer (some ⟨ob, 1, none⟩), x24, x25, x26, x27, x28, x29, x30, x31, x32, x33, x34, x35, x36, x37, x38, x39, x40, x41, x42, x43, x44, x45], []⟩ : Act) u) (u : World) (hS : (fun u => Keep (FO rb ob T) w u) u) (y3 : Y u) (bb6 : ∀ b, blk ya = some b → blk T.a = some b ∨ w.heap.size ≤ b) (o8 : OB u ob pub ⟨ya, yn, yc⟩ ⟨none, 0, 0⟩) (tr8 : RowT u ⟨ya, yn, yc⟩ (ss ++ [strOfNums bs])) :
    wpAnyH Try.prog .any (RofN Try.f40 5) R (fun u => Keep (FO rb ob T) w u) 0 (#[true, true, true, true, true, true, true, true, true] : Array Bool) (⟨#[x0, x1, .pointer (some ⟨ob, 0, none⟩), x3, .pointer (some ⟨bx, 0, none⟩), x5, x6, x7, x8, x9, x10, x11, x12, x13, x14, x15, .pointer (some ⟨ob, 1, none⟩), .slice T.a T.n T.c, rv rb, .slice (some ⟨g3, 0, none⟩) m3 m3, .string (strOfNums bs), .slice (some ⟨g5, 0, none⟩) 1 1, .slice ya yn yc, .pointer (some ⟨ob, 1, none⟩), x24, x25, x26, x27, x28, x29, x30, x31, x32, x33, x34, x35, x36, x37, x38, x39, x40, x41, x42, x43, x44, x45], []⟩ : Act) u := by
  refine wpAnyH_done (by kernel_rfl) ?_ _
  exact h g3 m3 g5 ya yn yc u hS y3 o8 tr8 bb6
set_option maxHeartbeats 16000000 in
theorem rh5_1_3_4_5_6 (rb ob bx : Nat) (T : Sv) (pub : Int) (ss : List ByteArray) (bs : List Int)  (g3 m3 : Nat)  (g5 : Nat) (ya : Option Addr) (yn yc : Nat) {x0 x1 x3 x5 x6 x7 x8 x9 x10 x11 x12 x13 x14 x15 x24 x25 x26 x27 x28 x29 x30 x31 x32 x33 x34 x35 x36 x37 x38 x39 x40 x41 x42 x43 x44 x45 : Value} (w : World) (R : Exit → Act → World → Prop) (hQ : ∀ c a d v w, R (.panic c) (a.put d v) w → R (.panic c) a w) (Y : World → Prop) (hY : ∀ u v, Y u → Keep (fun b => b = ob ∨ blk T.a = some b) u v → Y v) (hbx : w.heap[bx]? = some (.cells #[.pointer (some ⟨rb, 0, none⟩)] 98 (0, 0))) (hbn : ¬ FO rb ob T bx) (hro : ob ≠ rb) (hrt : ∀ b, blk T.a = some b → b ≠ rb) (htn : T.n ≤ 1000)
    (HC : ∀ u, u = w.drew → Calls Try.prog 63 #[rv rb, .int .i64 1] u fun e v => ∃ g m, e = .returned (.slice (some ⟨g, 0, none⟩) m m) ∧ Keep (fun b => b = rb) u v ∧ Y v ∧ Own v w.heap.size (some ⟨g, 0, none⟩) m m bs) (h1 : OB w.drew ob pub T ⟨none, 0, 0⟩) (ht : RowT w.drew T ss)
    (h : ∀ (g3 m3 g5 : Nat) (ya : Option Addr) (yn yc : Nat) (u : World), Keep (FO rb ob T) w u → Y u → OB u ob pub ⟨ya, yn, yc⟩ ⟨none, 0, 0⟩ → RowT u ⟨ya, yn, yc⟩ (ss ++ [strOfNums bs]) → (∀ b, blk ya = some b → blk T.a = some b ∨ w.heap.size ≤ b) → R .normal (⟨#[x0, x1, .pointer (some ⟨ob, 0, none⟩), x3, .pointer (some ⟨bx, 0, none⟩), x5, x6, x7, x8, x9, x10, x11, x12, x13, x14, x15, .pointer (some ⟨ob, 1, none⟩), .slice T.a T.n T.c, rv rb, .slice (some ⟨g3, 0, none⟩) m3 m3, .string (strOfNums bs), .slice (some ⟨g5, 0, none⟩) 1 1, .slice ya yn yc, .pointer (some ⟨ob, 1, none⟩), x24, x25, x26, x27, x28, x29, x30, x31, x32, x33, x34, x35, x36, x37, x38, x39, x40, x41, x42, x43, x44, x45], []⟩ : Act) u) (u : World) (hS : (fun u => Keep (FO rb ob T) w u) u) (o1 : OB u ob pub T ⟨none, 0, 0⟩) (y3 : Y u) (tr6 : RowT u ⟨ya, yn, yc⟩ (ss ++ [strOfNums bs])) (bb6 : ∀ b, blk ya = some b → blk T.a = some b ∨ w.heap.size ≤ b) :
    wpAnyH Try.prog .any (RofN Try.f40 5) R (fun u => Keep (FO rb ob T) w u) 1 (#[true, true, true, true, true, true, true, true, false] : Array Bool) (⟨#[x0, x1, .pointer (some ⟨ob, 0, none⟩), x3, .pointer (some ⟨bx, 0, none⟩), x5, x6, x7, x8, x9, x10, x11, x12, x13, x14, x15, .pointer (some ⟨ob, 1, none⟩), .slice T.a T.n T.c, rv rb, .slice (some ⟨g3, 0, none⟩) m3 m3, .string (strOfNums bs), .slice (some ⟨g5, 0, none⟩) 1 1, .slice ya yn yc, .pointer (some ⟨ob, 1, none⟩), x24, x25, x26, x27, x28, x29, x30, x31, x32, x33, x34, x35, x36, x37, x38, x39, x40, x41, x42, x43, x44, x45], []⟩ : Act) u := by
  refine wpAnyH_one (i := 8) (by kernel_rfl) ?_
  have hc : (execOp (⟨#[x0, x1, .pointer (some ⟨ob, 0, none⟩), x3, .pointer (some ⟨bx, 0, none⟩), x5, x6, x7, x8, x9, x10, x11, x12, x13, x14, x15, .pointer (some ⟨ob, 1, none⟩), .slice T.a T.n T.c, rv rb, .slice (some ⟨g3, 0, none⟩) m3 m3, .string (strOfNums bs), .slice (some ⟨g5, 0, none⟩) 1 1, .slice ya yn yc, .pointer (some ⟨ob, 1, none⟩), x24, x25, x26, x27, x28, x29, x30, x31, x32, x33, x34, x35, x36, x37, x38, x39, x40, x41, x42, x43, x44, x45], []⟩ : Act).eval (((RofN Try.f40 5)[8]?).getD default)).run Try.prog u = .ok .skip (u.setCell ⟨ob, 1, none⟩ (.slice ya yn yc)) := st23 (.tmp 23) (.tmp 22) ob 1 ⟨ya, yn, yc⟩ T (by kernel_rfl) (by kernel_rfl) (by kernel_rfl) o1.c1 (o1.free 1)
  refine wpOp_skip none (by kernel_rfl) (by kernel_rfl) (by kernel_rfl) hc ?_
  clear hc
  have hS1 : (fun u => Keep (FO rb ob T) w u) (u.setCell ⟨ob, 1, none⟩ (.slice ya yn yc)) := hS.setCell ob 1 _ (.inl (.inr (.inl rfl)))
  refine ⟨hS1, ?_⟩
  have e1 : (⟨#[x0, x1, .pointer (some ⟨ob, 0, none⟩), x3, .pointer (some ⟨bx, 0, none⟩), x5, x6, x7, x8, x9, x10, x11, x12, x13, x14, x15, .pointer (some ⟨ob, 1, none⟩), .slice T.a T.n T.c, rv rb, .slice (some ⟨g3, 0, none⟩) m3 m3, .string (strOfNums bs), .slice (some ⟨g5, 0, none⟩) 1 1, .slice ya yn yc, .pointer (some ⟨ob, 1, none⟩), x24, x25, x26, x27, x28, x29, x30, x31, x32, x33, x34, x35, x36, x37, x38, x39, x40, x41, x42, x43, x44, x45], []⟩ : Act).put none undef = (⟨#[x0, x1, .pointer (some ⟨ob, 0, none⟩), x3, .pointer (some ⟨bx, 0, none⟩), x5, x6, x7, x8, x9, x10, x11, x12, x13, x14, x15, .pointer (some ⟨ob, 1, none⟩), .slice T.a T.n T.c, rv rb, .slice (some ⟨g3, 0, none⟩) m3 m3, .string (strOfNums bs), .slice (some ⟨g5, 0, none⟩) 1 1, .slice ya yn yc, .pointer (some ⟨ob, 1, none⟩), x24, x25, x26, x27, x28, x29, x30, x31, x32, x33, x34, x35, x36, x37, x38, x39, x40, x41, x42, x43, x44, x45], []⟩ : Act) := by kernel_rfl
  have l1 : (#[true, true, true, true, true, true, true, true, false] : Array Bool).setIfInBounds 8 true = (#[true, true, true, true, true, true, true, true, true] : Array Bool) := by kernel_rfl
  rw [e1, l1]
  clear e1 l1
  exact rh5_1_3_4_5_6_8 rb ob bx T pub ss bs g3 m3 g5 ya yn yc w R hQ Y hY hbx hbn hro hrt htn HC h1 ht h (u.setCell ⟨ob, 1, none⟩ (.slice ya yn yc)) hS1 (hY u _ y3 ((Keep.refl _ u).setCell ob 1 _ (.inl (.inl rfl)))) (bb6) (o1.set1 ⟨ya, yn, yc⟩) (Sub.keep tr6 ((Keep.refl (fun b => b = ob) u).setCell ob 1 _ (.inl rfl)) (sub_ne tr6 o1 (by decide)))
set_option maxHeartbeats 16000000 in
theorem rh5_1_3_4_5 (rb ob bx : Nat) (T : Sv) (pub : Int) (ss : List ByteArray) (bs : List Int)  (g3 m3 : Nat)  (g5 : Nat) {x0 x1 x3 x5 x6 x7 x8 x9 x10 x11 x12 x13 x14 x15 x22 x23 x24 x25 x26 x27 x28 x29 x30 x31 x32 x33 x34 x35 x36 x37 x38 x39 x40 x41 x42 x43 x44 x45 : Value} (w : World) (R : Exit → Act → World → Prop) (hQ : ∀ c a d v w, R (.panic c) (a.put d v) w → R (.panic c) a w) (Y : World → Prop) (hY : ∀ u v, Y u → Keep (fun b => b = ob ∨ blk T.a = some b) u v → Y v) (hbx : w.heap[bx]? = some (.cells #[.pointer (some ⟨rb, 0, none⟩)] 98 (0, 0))) (hbn : ¬ FO rb ob T bx) (hro : ob ≠ rb) (hrt : ∀ b, blk T.a = some b → b ≠ rb) (htn : T.n ≤ 1000)
    (HC : ∀ u, u = w.drew → Calls Try.prog 63 #[rv rb, .int .i64 1] u fun e v => ∃ g m, e = .returned (.slice (some ⟨g, 0, none⟩) m m) ∧ Keep (fun b => b = rb) u v ∧ Y v ∧ Own v w.heap.size (some ⟨g, 0, none⟩) m m bs) (h1 : OB w.drew ob pub T ⟨none, 0, 0⟩) (ht : RowT w.drew T ss)
    (h : ∀ (g3 m3 g5 : Nat) (ya : Option Addr) (yn yc : Nat) (u : World), Keep (FO rb ob T) w u → Y u → OB u ob pub ⟨ya, yn, yc⟩ ⟨none, 0, 0⟩ → RowT u ⟨ya, yn, yc⟩ (ss ++ [strOfNums bs]) → (∀ b, blk ya = some b → blk T.a = some b ∨ w.heap.size ≤ b) → R .normal (⟨#[x0, x1, .pointer (some ⟨ob, 0, none⟩), x3, .pointer (some ⟨bx, 0, none⟩), x5, x6, x7, x8, x9, x10, x11, x12, x13, x14, x15, .pointer (some ⟨ob, 1, none⟩), .slice T.a T.n T.c, rv rb, .slice (some ⟨g3, 0, none⟩) m3 m3, .string (strOfNums bs), .slice (some ⟨g5, 0, none⟩) 1 1, .slice ya yn yc, .pointer (some ⟨ob, 1, none⟩), x24, x25, x26, x27, x28, x29, x30, x31, x32, x33, x34, x35, x36, x37, x38, x39, x40, x41, x42, x43, x44, x45], []⟩ : Act) u) (u : World) (hS : (fun u => Keep (FO rb ob T) w u) u) (o1 : OB u ob pub T ⟨none, 0, 0⟩) (tr : RowT u T ss) (y3 : Y u) (o3 : Own u w.heap.size (some ⟨g3, 0, none⟩) m3 m3 bs) (b5 : u.heap[g5]? = some (.cells #[.string (strOfNums bs)] 9 (0, 0))) :
    wpAnyH Try.prog .any (RofN Try.f40 5) R (fun u => Keep (FO rb ob T) w u) 3 (#[true, true, true, true, true, true, false, false, false] : Array Bool) (⟨#[x0, x1, .pointer (some ⟨ob, 0, none⟩), x3, .pointer (some ⟨bx, 0, none⟩), x5, x6, x7, x8, x9, x10, x11, x12, x13, x14, x15, .pointer (some ⟨ob, 1, none⟩), .slice T.a T.n T.c, rv rb, .slice (some ⟨g3, 0, none⟩) m3 m3, .string (strOfNums bs), .slice (some ⟨g5, 0, none⟩) 1 1, x22, x23, x24, x25, x26, x27, x28, x29, x30, x31, x32, x33, x34, x35, x36, x37, x38, x39, x40, x41, x42, x43, x44, x45], []⟩ : Act) u := by
  refine wpAnyH_one (i := 6) (by kernel_rfl) ?_
  obtain ⟨⟨ya, yn, yc⟩, w6, hrun, hrow, hkp, hbb⟩ := rowT_append (ty := 23) tr (src_one b5) (by omega)
  have hc : (execOp (⟨#[x0, x1, .pointer (some ⟨ob, 0, none⟩), x3, .pointer (some ⟨bx, 0, none⟩), x5, x6, x7, x8, x9, x10, x11, x12, x13, x14, x15, .pointer (some ⟨ob, 1, none⟩), .slice T.a T.n T.c, rv rb, .slice (some ⟨g3, 0, none⟩) m3 m3, .string (strOfNums bs), .slice (some ⟨g5, 0, none⟩) 1 1, x22, x23, x24, x25, x26, x27, x28, x29, x30, x31, x32, x33, x34, x35, x36, x37, x38, x39, x40, x41, x42, x43, x44, x45], []⟩ : Act).eval (((RofN Try.f40 5)[6]?).getD default)).run Try.prog u = .ok (.value (.slice ya yn yc)) (w6) := run_app23 (.tmp 17) (.tmp 21) (by kernel_rfl) (by kernel_rfl) (by kernel_rfl) (by kernel_rfl) hrun
  refine wpOp_val (some 22) (by kernel_rfl) (by kernel_rfl) (by kernel_rfl) hc ?_
  clear hc
  have hS1 : (fun u => Keep (FO rb ob T) w u) (w6) := hS.trans (hkp.mono (fun i _ e => .inr (.inr e)))
  refine ⟨hS1, ?_⟩
  have e1 : (⟨#[x0, x1, .pointer (some ⟨ob, 0, none⟩), x3, .pointer (some ⟨bx, 0, none⟩), x5, x6, x7, x8, x9, x10, x11, x12, x13, x14, x15, .pointer (some ⟨ob, 1, none⟩), .slice T.a T.n T.c, rv rb, .slice (some ⟨g3, 0, none⟩) m3 m3, .string (strOfNums bs), .slice (some ⟨g5, 0, none⟩) 1 1, x22, x23, x24, x25, x26, x27, x28, x29, x30, x31, x32, x33, x34, x35, x36, x37, x38, x39, x40, x41, x42, x43, x44, x45], []⟩ : Act).put (some 22) (.slice ya yn yc) = (⟨#[x0, x1, .pointer (some ⟨ob, 0, none⟩), x3, .pointer (some ⟨bx, 0, none⟩), x5, x6, x7, x8, x9, x10, x11, x12, x13, x14, x15, .pointer (some ⟨ob, 1, none⟩), .slice T.a T.n T.c, rv rb, .slice (some ⟨g3, 0, none⟩) m3 m3, .string (strOfNums bs), .slice (some ⟨g5, 0, none⟩) 1 1, .slice ya yn yc, x23, x24, x25, x26, x27, x28, x29, x30, x31, x32, x33, x34, x35, x36, x37, x38, x39, x40, x41, x42, x43, x44, x45], []⟩ : Act) := by kernel_rfl
  have l1 : (#[true, true, true, true, true, true, false, false, false] : Array Bool).setIfInBounds 6 true = (#[true, true, true, true, true, true, true, false, false] : Array Bool) := by kernel_rfl
  rw [e1, l1]
  clear e1 l1
  refine chn_take (by kernel_rfl) hQ hS1 1 (rh5g1z rb ob bx T pub ss bs g3 m3 g5 ya yn yc) _ _ (rh5g1 rb ob bx T pub ss bs g3 m3 g5 ya yn yc w Y hY hbx hbn hro hrt htn HC h1 ht) ?_
  have e0 : putL (RofN Try.f40 5) (rh5g1z rb ob bx T pub ss bs g3 m3 g5 ya yn yc) (⟨#[x0, x1, .pointer (some ⟨ob, 0, none⟩), x3, .pointer (some ⟨bx, 0, none⟩), x5, x6, x7, x8, x9, x10, x11, x12, x13, x14, x15, .pointer (some ⟨ob, 1, none⟩), .slice T.a T.n T.c, rv rb, .slice (some ⟨g3, 0, none⟩) m3 m3, .string (strOfNums bs), .slice (some ⟨g5, 0, none⟩) 1 1, .slice ya yn yc, x23, x24, x25, x26, x27, x28, x29, x30, x31, x32, x33, x34, x35, x36, x37, x38, x39, x40, x41, x42, x43, x44, x45], []⟩ : Act) = (⟨#[x0, x1, .pointer (some ⟨ob, 0, none⟩), x3, .pointer (some ⟨bx, 0, none⟩), x5, x6, x7, x8, x9, x10, x11, x12, x13, x14, x15, .pointer (some ⟨ob, 1, none⟩), .slice T.a T.n T.c, rv rb, .slice (some ⟨g3, 0, none⟩) m3 m3, .string (strOfNums bs), .slice (some ⟨g5, 0, none⟩) 1 1, .slice ya yn yc, .pointer (some ⟨ob, 1, none⟩), x24, x25, x26, x27, x28, x29, x30, x31, x32, x33, x34, x35, x36, x37, x38, x39, x40, x41, x42, x43, x44, x45], []⟩ : Act) := by kernel_rfl
  have l0 : setL (rh5g1z rb ob bx T pub ss bs g3 m3 g5 ya yn yc) (#[true, true, true, true, true, true, true, false, false] : Array Bool) = (#[true, true, true, true, true, true, true, true, false] : Array Bool) := by kernel_rfl
  rw [e0, l0]
  clear e0 l0
  exact rh5_1_3_4_5_6 rb ob bx T pub ss bs g3 m3 g5 ya yn yc w R hQ Y hY hbx hbn hro hrt htn HC h1 ht h (w6) hS1 (o1.keep hkp (fun e => sub_ne tr o1 (by decide) ob e rfl)) (hY u w6 y3 (hkp.mono (fun i _ e => .inr e))) (hrow) (fun b e => by rcases hbb with h2 | h2; exact .inl (by rw [← h2]; exact e); rw [h2] at e; cases e; exact .inr hS.size)
set_option maxHeartbeats 16000000 in
theorem rh5_3_4_5 (rb ob bx : Nat) (T : Sv) (pub : Int) (ss : List ByteArray) (bs : List Int) (g3 m3 : Nat)  (g5 : Nat) {x0 x1 x3 x5 x6 x7 x8 x9 x10 x11 x12 x13 x14 x15 x17 x22 x23 x24 x25 x26 x27 x28 x29 x30 x31 x32 x33 x34 x35 x36 x37 x38 x39 x40 x41 x42 x43 x44 x45 : Value} (w : World) (R : Exit → Act → World → Prop) (hQ : ∀ c a d v w, R (.panic c) (a.put d v) w → R (.panic c) a w) (Y : World → Prop) (hY : ∀ u v, Y u → Keep (fun b => b = ob ∨ blk T.a = some b) u v → Y v) (hbx : w.heap[bx]? = some (.cells #[.pointer (some ⟨rb, 0, none⟩)] 98 (0, 0))) (hbn : ¬ FO rb ob T bx) (hro : ob ≠ rb) (hrt : ∀ b, blk T.a = some b → b ≠ rb) (htn : T.n ≤ 1000)
    (HC : ∀ u, u = w.drew → Calls Try.prog 63 #[rv rb, .int .i64 1] u fun e v => ∃ g m, e = .returned (.slice (some ⟨g, 0, none⟩) m m) ∧ Keep (fun b => b = rb) u v ∧ Y v ∧ Own v w.heap.size (some ⟨g, 0, none⟩) m m bs) (h1 : OB w.drew ob pub T ⟨none, 0, 0⟩) (ht : RowT w.drew T ss)
    (h : ∀ (g3 m3 g5 : Nat) (ya : Option Addr) (yn yc : Nat) (u : World), Keep (FO rb ob T) w u → Y u → OB u ob pub ⟨ya, yn, yc⟩ ⟨none, 0, 0⟩ → RowT u ⟨ya, yn, yc⟩ (ss ++ [strOfNums bs]) → (∀ b, blk ya = some b → blk T.a = some b ∨ w.heap.size ≤ b) → R .normal (⟨#[x0, x1, .pointer (some ⟨ob, 0, none⟩), x3, .pointer (some ⟨bx, 0, none⟩), x5, x6, x7, x8, x9, x10, x11, x12, x13, x14, x15, .pointer (some ⟨ob, 1, none⟩), .slice T.a T.n T.c, rv rb, .slice (some ⟨g3, 0, none⟩) m3 m3, .string (strOfNums bs), .slice (some ⟨g5, 0, none⟩) 1 1, .slice ya yn yc, .pointer (some ⟨ob, 1, none⟩), x24, x25, x26, x27, x28, x29, x30, x31, x32, x33, x34, x35, x36, x37, x38, x39, x40, x41, x42, x43, x44, x45], []⟩ : Act) u) (u : World) (hS : (fun u => Keep (FO rb ob T) w u) u) (o1 : OB u ob pub T ⟨none, 0, 0⟩) (tr : RowT u T ss) (y3 : Y u) (o3 : Own u w.heap.size (some ⟨g3, 0, none⟩) m3 m3 bs) (b5 : u.heap[g5]? = some (.cells #[.string (strOfNums bs)] 9 (0, 0))) :
    wpAnyH Try.prog .any (RofN Try.f40 5) R (fun u => Keep (FO rb ob T) w u) 4 (#[true, false, true, true, true, true, false, false, false] : Array Bool) (⟨#[x0, x1, .pointer (some ⟨ob, 0, none⟩), x3, .pointer (some ⟨bx, 0, none⟩), x5, x6, x7, x8, x9, x10, x11, x12, x13, x14, x15, .pointer (some ⟨ob, 1, none⟩), x17, rv rb, .slice (some ⟨g3, 0, none⟩) m3 m3, .string (strOfNums bs), .slice (some ⟨g5, 0, none⟩) 1 1, x22, x23, x24, x25, x26, x27, x28, x29, x30, x31, x32, x33, x34, x35, x36, x37, x38, x39, x40, x41, x42, x43, x44, x45], []⟩ : Act) u := by
  refine wpAnyH_one (i := 1) (by kernel_rfl) ?_
  have hc : (execOp (⟨#[x0, x1, .pointer (some ⟨ob, 0, none⟩), x3, .pointer (some ⟨bx, 0, none⟩), x5, x6, x7, x8, x9, x10, x11, x12, x13, x14, x15, .pointer (some ⟨ob, 1, none⟩), x17, rv rb, .slice (some ⟨g3, 0, none⟩) m3 m3, .string (strOfNums bs), .slice (some ⟨g5, 0, none⟩) 1 1, x22, x23, x24, x25, x26, x27, x28, x29, x30, x31, x32, x33, x34, x35, x36, x37, x38, x39, x40, x41, x42, x43, x44, x45], []⟩ : Act).eval (((RofN Try.f40 5)[1]?).getD default)).run Try.prog u = .ok (.value (.slice T.a T.n T.c)) (u) := ld_t 23 (.tmp 16) ob 1 (by kernel_rfl) (by kernel_rfl) (ld23 o1.c1)
  refine wpOp_val (some 17) (by kernel_rfl) (by kernel_rfl) (by kernel_rfl) hc ?_
  clear hc
  have hS1 : (fun u => Keep (FO rb ob T) w u) (u) := hS
  refine ⟨hS1, ?_⟩
  have e1 : (⟨#[x0, x1, .pointer (some ⟨ob, 0, none⟩), x3, .pointer (some ⟨bx, 0, none⟩), x5, x6, x7, x8, x9, x10, x11, x12, x13, x14, x15, .pointer (some ⟨ob, 1, none⟩), x17, rv rb, .slice (some ⟨g3, 0, none⟩) m3 m3, .string (strOfNums bs), .slice (some ⟨g5, 0, none⟩) 1 1, x22, x23, x24, x25, x26, x27, x28, x29, x30, x31, x32, x33, x34, x35, x36, x37, x38, x39, x40, x41, x42, x43, x44, x45], []⟩ : Act).put (some 17) (.slice T.a T.n T.c) = (⟨#[x0, x1, .pointer (some ⟨ob, 0, none⟩), x3, .pointer (some ⟨bx, 0, none⟩), x5, x6, x7, x8, x9, x10, x11, x12, x13, x14, x15, .pointer (some ⟨ob, 1, none⟩), .slice T.a T.n T.c, rv rb, .slice (some ⟨g3, 0, none⟩) m3 m3, .string (strOfNums bs), .slice (some ⟨g5, 0, none⟩) 1 1, x22, x23, x24, x25, x26, x27, x28, x29, x30, x31, x32, x33, x34, x35, x36, x37, x38, x39, x40, x41, x42, x43, x44, x45], []⟩ : Act) := by kernel_rfl
  have l1 : (#[true, false, true, true, true, true, false, false, false] : Array Bool).setIfInBounds 1 true = (#[true, true, true, true, true, true, false, false, false] : Array Bool) := by kernel_rfl
  rw [e1, l1]
  clear e1 l1
  exact rh5_1_3_4_5 rb ob bx T pub ss bs g3 m3 g5 w R hQ Y hY hbx hbn hro hrt htn HC h1 ht h (u) hS1 (o1) (tr) (y3) (o3) (b5)
set_option maxHeartbeats 16000000 in
theorem rh5_1_3_4 (rb ob bx : Nat) (T : Sv) (pub : Int) (ss : List ByteArray) (bs : List Int)  (g3 m3 : Nat)  {x0 x1 x3 x5 x6 x7 x8 x9 x10 x11 x12 x13 x14 x15 x21 x22 x23 x24 x25 x26 x27 x28 x29 x30 x31 x32 x33 x34 x35 x36 x37 x38 x39 x40 x41 x42 x43 x44 x45 : Value} (w : World) (R : Exit → Act → World → Prop) (hQ : ∀ c a d v w, R (.panic c) (a.put d v) w → R (.panic c) a w) (Y : World → Prop) (hY : ∀ u v, Y u → Keep (fun b => b = ob ∨ blk T.a = some b) u v → Y v) (hbx : w.heap[bx]? = some (.cells #[.pointer (some ⟨rb, 0, none⟩)] 98 (0, 0))) (hbn : ¬ FO rb ob T bx) (hro : ob ≠ rb) (hrt : ∀ b, blk T.a = some b → b ≠ rb) (htn : T.n ≤ 1000)
    (HC : ∀ u, u = w.drew → Calls Try.prog 63 #[rv rb, .int .i64 1] u fun e v => ∃ g m, e = .returned (.slice (some ⟨g, 0, none⟩) m m) ∧ Keep (fun b => b = rb) u v ∧ Y v ∧ Own v w.heap.size (some ⟨g, 0, none⟩) m m bs) (h1 : OB w.drew ob pub T ⟨none, 0, 0⟩) (ht : RowT w.drew T ss)
    (h : ∀ (g3 m3 g5 : Nat) (ya : Option Addr) (yn yc : Nat) (u : World), Keep (FO rb ob T) w u → Y u → OB u ob pub ⟨ya, yn, yc⟩ ⟨none, 0, 0⟩ → RowT u ⟨ya, yn, yc⟩ (ss ++ [strOfNums bs]) → (∀ b, blk ya = some b → blk T.a = some b ∨ w.heap.size ≤ b) → R .normal (⟨#[x0, x1, .pointer (some ⟨ob, 0, none⟩), x3, .pointer (some ⟨bx, 0, none⟩), x5, x6, x7, x8, x9, x10, x11, x12, x13, x14, x15, .pointer (some ⟨ob, 1, none⟩), .slice T.a T.n T.c, rv rb, .slice (some ⟨g3, 0, none⟩) m3 m3, .string (strOfNums bs), .slice (some ⟨g5, 0, none⟩) 1 1, .slice ya yn yc, .pointer (some ⟨ob, 1, none⟩), x24, x25, x26, x27, x28, x29, x30, x31, x32, x33, x34, x35, x36, x37, x38, x39, x40, x41, x42, x43, x44, x45], []⟩ : Act) u) (u : World) (hS : (fun u => Keep (FO rb ob T) w u) u) (o1 : OB u ob pub T ⟨none, 0, 0⟩) (tr : RowT u T ss) (y3 : Y u) (o3 : Own u w.heap.size (some ⟨g3, 0, none⟩) m3 m3 bs) :
    wpAnyH Try.prog .any (RofN Try.f40 5) R (fun u => Keep (FO rb ob T) w u) 4 (#[true, true, true, true, true, false, false, false, false] : Array Bool) (⟨#[x0, x1, .pointer (some ⟨ob, 0, none⟩), x3, .pointer (some ⟨bx, 0, none⟩), x5, x6, x7, x8, x9, x10, x11, x12, x13, x14, x15, .pointer (some ⟨ob, 1, none⟩), .slice T.a T.n T.c, rv rb, .slice (some ⟨g3, 0, none⟩) m3 m3, .string (strOfNums bs), x21, x22, x23, x24, x25, x26, x27, x28, x29, x30, x31, x32, x33, x34, x35, x36, x37, x38, x39, x40, x41, x42, x43, x44, x45], []⟩ : Act) u := by
  refine wpAnyH_one (i := 5) (by kernel_rfl) ?_
  refine wpOp_val (w' := u.alloc (.cells #[.string (strOfNums bs)] 9)) (v := .slice (some ⟨u.heap.size, 0, none⟩) 1 1) (some 21) (by kernel_rfl) (by kernel_rfl) (by kernel_rfl) (by kernel_rfl) ?_
  have q0 : Keep (FO rb ob T) u (u.alloc (.cells #[.string (strOfNums bs)] 9)) := (Keep.refl _ u).alloc _
  have hS1 : (fun u => Keep (FO rb ob T) w u) (u.alloc (.cells #[.string (strOfNums bs)] 9)) := Keep.trans hS q0
  refine ⟨hS1, ?_⟩
  have e1 : (⟨#[x0, x1, .pointer (some ⟨ob, 0, none⟩), x3, .pointer (some ⟨bx, 0, none⟩), x5, x6, x7, x8, x9, x10, x11, x12, x13, x14, x15, .pointer (some ⟨ob, 1, none⟩), .slice T.a T.n T.c, rv rb, .slice (some ⟨g3, 0, none⟩) m3 m3, .string (strOfNums bs), x21, x22, x23, x24, x25, x26, x27, x28, x29, x30, x31, x32, x33, x34, x35, x36, x37, x38, x39, x40, x41, x42, x43, x44, x45], []⟩ : Act).put (some 21) (.slice (some ⟨u.heap.size, 0, none⟩) 1 1) = (⟨#[x0, x1, .pointer (some ⟨ob, 0, none⟩), x3, .pointer (some ⟨bx, 0, none⟩), x5, x6, x7, x8, x9, x10, x11, x12, x13, x14, x15, .pointer (some ⟨ob, 1, none⟩), .slice T.a T.n T.c, rv rb, .slice (some ⟨g3, 0, none⟩) m3 m3, .string (strOfNums bs), .slice (some ⟨u.heap.size, 0, none⟩) 1 1, x22, x23, x24, x25, x26, x27, x28, x29, x30, x31, x32, x33, x34, x35, x36, x37, x38, x39, x40, x41, x42, x43, x44, x45], []⟩ : Act) := by kernel_rfl
  have l1 : (#[true, true, true, true, true, false, false, false, false] : Array Bool).setIfInBounds 5 true = (#[true, true, true, true, true, true, false, false, false] : Array Bool) := by kernel_rfl
  rw [e1, l1]
  clear e1 l1
  exact rh5_1_3_4_5 rb ob bx T pub ss bs g3 m3 (u.heap.size) w R hQ Y hY hbx hbn hro hrt htn HC h1 ht h (u.alloc (.cells #[.string (strOfNums bs)] 9)) hS1 (o1.keep ((Keep.refl (fun _ => False) u).alloc _) id) (Sub.q tr ((Q.refl u).alloc _)) (hY u _ y3 ((Keep.refl _ u).alloc _)) (o3.q ((Q.refl u).alloc _)) (heap_alloc_new u _)
set_option maxHeartbeats 16000000 in
theorem rh5_3_4 (rb ob bx : Nat) (T : Sv) (pub : Int) (ss : List ByteArray) (bs : List Int) (g3 m3 : Nat)  {x0 x1 x3 x5 x6 x7 x8 x9 x10 x11 x12 x13 x14 x15 x17 x21 x22 x23 x24 x25 x26 x27 x28 x29 x30 x31 x32 x33 x34 x35 x36 x37 x38 x39 x40 x41 x42 x43 x44 x45 : Value} (w : World) (R : Exit → Act → World → Prop) (hQ : ∀ c a d v w, R (.panic c) (a.put d v) w → R (.panic c) a w) (Y : World → Prop) (hY : ∀ u v, Y u → Keep (fun b => b = ob ∨ blk T.a = some b) u v → Y v) (hbx : w.heap[bx]? = some (.cells #[.pointer (some ⟨rb, 0, none⟩)] 98 (0, 0))) (hbn : ¬ FO rb ob T bx) (hro : ob ≠ rb) (hrt : ∀ b, blk T.a = some b → b ≠ rb) (htn : T.n ≤ 1000)
    (HC : ∀ u, u = w.drew → Calls Try.prog 63 #[rv rb, .int .i64 1] u fun e v => ∃ g m, e = .returned (.slice (some ⟨g, 0, none⟩) m m) ∧ Keep (fun b => b = rb) u v ∧ Y v ∧ Own v w.heap.size (some ⟨g, 0, none⟩) m m bs) (h1 : OB w.drew ob pub T ⟨none, 0, 0⟩) (ht : RowT w.drew T ss)
    (h : ∀ (g3 m3 g5 : Nat) (ya : Option Addr) (yn yc : Nat) (u : World), Keep (FO rb ob T) w u → Y u → OB u ob pub ⟨ya, yn, yc⟩ ⟨none, 0, 0⟩ → RowT u ⟨ya, yn, yc⟩ (ss ++ [strOfNums bs]) → (∀ b, blk ya = some b → blk T.a = some b ∨ w.heap.size ≤ b) → R .normal (⟨#[x0, x1, .pointer (some ⟨ob, 0, none⟩), x3, .pointer (some ⟨bx, 0, none⟩), x5, x6, x7, x8, x9, x10, x11, x12, x13, x14, x15, .pointer (some ⟨ob, 1, none⟩), .slice T.a T.n T.c, rv rb, .slice (some ⟨g3, 0, none⟩) m3 m3, .string (strOfNums bs), .slice (some ⟨g5, 0, none⟩) 1 1, .slice ya yn yc, .pointer (some ⟨ob, 1, none⟩), x24, x25, x26, x27, x28, x29, x30, x31, x32, x33, x34, x35, x36, x37, x38, x39, x40, x41, x42, x43, x44, x45], []⟩ : Act) u) (u : World) (hS : (fun u => Keep (FO rb ob T) w u) u) (o1 : OB u ob pub T ⟨none, 0, 0⟩) (tr : RowT u T ss) (y3 : Y u) (o3 : Own u w.heap.size (some ⟨g3, 0, none⟩) m3 m3 bs) :
    wpAnyH Try.prog .any (RofN Try.f40 5) R (fun u => Keep (FO rb ob T) w u) 5 (#[true, false, true, true, true, false, false, false, false] : Array Bool) (⟨#[x0, x1, .pointer (some ⟨ob, 0, none⟩), x3, .pointer (some ⟨bx, 0, none⟩), x5, x6, x7, x8, x9, x10, x11, x12, x13, x14, x15, .pointer (some ⟨ob, 1, none⟩), x17, rv rb, .slice (some ⟨g3, 0, none⟩) m3 m3, .string (strOfNums bs), x21, x22, x23, x24, x25, x26, x27, x28, x29, x30, x31, x32, x33, x34, x35, x36, x37, x38, x39, x40, x41, x42, x43, x44, x45], []⟩ : Act) u := by
  refine wpAnyH_l2 (i := 1) (j := 5) (by kernel_rfl) ?_ ?_
  · have hc : (execOp (⟨#[x0, x1, .pointer (some ⟨ob, 0, none⟩), x3, .pointer (some ⟨bx, 0, none⟩), x5, x6, x7, x8, x9, x10, x11, x12, x13, x14, x15, .pointer (some ⟨ob, 1, none⟩), x17, rv rb, .slice (some ⟨g3, 0, none⟩) m3 m3, .string (strOfNums bs), x21, x22, x23, x24, x25, x26, x27, x28, x29, x30, x31, x32, x33, x34, x35, x36, x37, x38, x39, x40, x41, x42, x43, x44, x45], []⟩ : Act).eval (((RofN Try.f40 5)[1]?).getD default)).run Try.prog u = .ok (.value (.slice T.a T.n T.c)) (u) := ld_t 23 (.tmp 16) ob 1 (by kernel_rfl) (by kernel_rfl) (ld23 o1.c1)
    refine wpOp_val (some 17) (by kernel_rfl) (by kernel_rfl) (by kernel_rfl) hc ?_
    clear hc
    have hS1 : (fun u => Keep (FO rb ob T) w u) (u) := hS
    refine ⟨hS1, ?_⟩
    have e1 : (⟨#[x0, x1, .pointer (some ⟨ob, 0, none⟩), x3, .pointer (some ⟨bx, 0, none⟩), x5, x6, x7, x8, x9, x10, x11, x12, x13, x14, x15, .pointer (some ⟨ob, 1, none⟩), x17, rv rb, .slice (some ⟨g3, 0, none⟩) m3 m3, .string (strOfNums bs), x21, x22, x23, x24, x25, x26, x27, x28, x29, x30, x31, x32, x33, x34, x35, x36, x37, x38, x39, x40, x41, x42, x43, x44, x45], []⟩ : Act).put (some 17) (.slice T.a T.n T.c) = (⟨#[x0, x1, .pointer (some ⟨ob, 0, none⟩), x3, .pointer (some ⟨bx, 0, none⟩), x5, x6, x7, x8, x9, x10, x11, x12, x13, x14, x15, .pointer (some ⟨ob, 1, none⟩), .slice T.a T.n T.c, rv rb, .slice (some ⟨g3, 0, none⟩) m3 m3, .string (strOfNums bs), x21, x22, x23, x24, x25, x26, x27, x28, x29, x30, x31, x32, x33, x34, x35, x36, x37, x38, x39, x40, x41, x42, x43, x44, x45], []⟩ : Act) := by kernel_rfl
    have l1 : (#[true, false, true, true, true, false, false, false, false] : Array Bool).setIfInBounds 1 true = (#[true, true, true, true, true, false, false, false, false] : Array Bool) := by kernel_rfl
    rw [e1, l1]
    clear e1 l1
    exact rh5_1_3_4 rb ob bx T pub ss bs g3 m3 w R hQ Y hY hbx hbn hro hrt htn HC h1 ht h (u) hS1 (o1) (tr) (y3) (o3)
  · refine wpOp_val (w' := u.alloc (.cells #[.string (strOfNums bs)] 9)) (v := .slice (some ⟨u.heap.size, 0, none⟩) 1 1) (some 21) (by kernel_rfl) (by kernel_rfl) (by kernel_rfl) (by kernel_rfl) ?_
    have q0 : Keep (FO rb ob T) u (u.alloc (.cells #[.string (strOfNums bs)] 9)) := (Keep.refl _ u).alloc _
    have hS1 : (fun u => Keep (FO rb ob T) w u) (u.alloc (.cells #[.string (strOfNums bs)] 9)) := Keep.trans hS q0
    refine ⟨hS1, ?_⟩
    have e1 : (⟨#[x0, x1, .pointer (some ⟨ob, 0, none⟩), x3, .pointer (some ⟨bx, 0, none⟩), x5, x6, x7, x8, x9, x10, x11, x12, x13, x14, x15, .pointer (some ⟨ob, 1, none⟩), x17, rv rb, .slice (some ⟨g3, 0, none⟩) m3 m3, .string (strOfNums bs), x21, x22, x23, x24, x25, x26, x27, x28, x29, x30, x31, x32, x33, x34, x35, x36, x37, x38, x39, x40, x41, x42, x43, x44, x45], []⟩ : Act).put (some 21) (.slice (some ⟨u.heap.size, 0, none⟩) 1 1) = (⟨#[x0, x1, .pointer (some ⟨ob, 0, none⟩), x3, .pointer (some ⟨bx, 0, none⟩), x5, x6, x7, x8, x9, x10, x11, x12, x13, x14, x15, .pointer (some ⟨ob, 1, none⟩), x17, rv rb, .slice (some ⟨g3, 0, none⟩) m3 m3, .string (strOfNums bs), .slice (some ⟨u.heap.size, 0, none⟩) 1 1, x22, x23, x24, x25, x26, x27, x28, x29, x30, x31, x32, x33, x34, x35, x36, x37, x38, x39, x40, x41, x42, x43, x44, x45], []⟩ : Act) := by kernel_rfl
    have l1 : (#[true, false, true, true, true, false, false, false, false] : Array Bool).setIfInBounds 5 true = (#[true, false, true, true, true, true, false, false, false] : Array Bool) := by kernel_rfl
    rw [e1, l1]
    clear e1 l1
    exact rh5_3_4_5 rb ob bx T pub ss bs g3 m3 (u.heap.size) w R hQ Y hY hbx hbn hro hrt htn HC h1 ht h (u.alloc (.cells #[.string (strOfNums bs)] 9)) hS1 (o1.keep ((Keep.refl (fun _ => False) u).alloc _) id) (Sub.q tr ((Q.refl u).alloc _)) (hY u _ y3 ((Keep.refl _ u).alloc _)) (o3.q ((Q.refl u).alloc _)) (heap_alloc_new u _)
set_option maxHeartbeats 16000000 in
theorem rh5_1_3 (rb ob bx : Nat) (T : Sv) (pub : Int) (ss : List ByteArray) (bs : List Int)  (g3 m3 : Nat) {x0 x1 x3 x5 x6 x7 x8 x9 x10 x11 x12 x13 x14 x15 x20 x21 x22 x23 x24 x25 x26 x27 x28 x29 x30 x31 x32 x33 x34 x35 x36 x37 x38 x39 x40 x41 x42 x43 x44 x45 : Value} (w : World) (R : Exit → Act → World → Prop) (hQ : ∀ c a d v w, R (.panic c) (a.put d v) w → R (.panic c) a w) (Y : World → Prop) (hY : ∀ u v, Y u → Keep (fun b => b = ob ∨ blk T.a = some b) u v → Y v) (hbx : w.heap[bx]? = some (.cells #[.pointer (some ⟨rb, 0, none⟩)] 98 (0, 0))) (hbn : ¬ FO rb ob T bx) (hro : ob ≠ rb) (hrt : ∀ b, blk T.a = some b → b ≠ rb) (htn : T.n ≤ 1000)
    (HC : ∀ u, u = w.drew → Calls Try.prog 63 #[rv rb, .int .i64 1] u fun e v => ∃ g m, e = .returned (.slice (some ⟨g, 0, none⟩) m m) ∧ Keep (fun b => b = rb) u v ∧ Y v ∧ Own v w.heap.size (some ⟨g, 0, none⟩) m m bs) (h1 : OB w.drew ob pub T ⟨none, 0, 0⟩) (ht : RowT w.drew T ss)
    (h : ∀ (g3 m3 g5 : Nat) (ya : Option Addr) (yn yc : Nat) (u : World), Keep (FO rb ob T) w u → Y u → OB u ob pub ⟨ya, yn, yc⟩ ⟨none, 0, 0⟩ → RowT u ⟨ya, yn, yc⟩ (ss ++ [strOfNums bs]) → (∀ b, blk ya = some b → blk T.a = some b ∨ w.heap.size ≤ b) → R .normal (⟨#[x0, x1, .pointer (some ⟨ob, 0, none⟩), x3, .pointer (some ⟨bx, 0, none⟩), x5, x6, x7, x8, x9, x10, x11, x12, x13, x14, x15, .pointer (some ⟨ob, 1, none⟩), .slice T.a T.n T.c, rv rb, .slice (some ⟨g3, 0, none⟩) m3 m3, .string (strOfNums bs), .slice (some ⟨g5, 0, none⟩) 1 1, .slice ya yn yc, .pointer (some ⟨ob, 1, none⟩), x24, x25, x26, x27, x28, x29, x30, x31, x32, x33, x34, x35, x36, x37, x38, x39, x40, x41, x42, x43, x44, x45], []⟩ : Act) u) (u : World) (hS : (fun u => Keep (FO rb ob T) w u) u) (o1 : OB u ob pub T ⟨none, 0, 0⟩) (tr : RowT u T ss) (y3 : Y u) (o3 : Own u w.heap.size (some ⟨g3, 0, none⟩) m3 m3 bs) :
    wpAnyH Try.prog .any (RofN Try.f40 5) R (fun u => Keep (FO rb ob T) w u) 5 (#[true, true, true, true, false, false, false, false, false] : Array Bool) (⟨#[x0, x1, .pointer (some ⟨ob, 0, none⟩), x3, .pointer (some ⟨bx, 0, none⟩), x5, x6, x7, x8, x9, x10, x11, x12, x13, x14, x15, .pointer (some ⟨ob, 1, none⟩), .slice T.a T.n T.c, rv rb, .slice (some ⟨g3, 0, none⟩) m3 m3, x20, x21, x22, x23, x24, x25, x26, x27, x28, x29, x30, x31, x32, x33, x34, x35, x36, x37, x38, x39, x40, x41, x42, x43, x44, x45], []⟩ : Act) u := by
  refine wpAnyH_one (i := 4) (by kernel_rfl) ?_
  have hc : (execOp (⟨#[x0, x1, .pointer (some ⟨ob, 0, none⟩), x3, .pointer (some ⟨bx, 0, none⟩), x5, x6, x7, x8, x9, x10, x11, x12, x13, x14, x15, .pointer (some ⟨ob, 1, none⟩), .slice T.a T.n T.c, rv rb, .slice (some ⟨g3, 0, none⟩) m3 m3, x20, x21, x22, x23, x24, x25, x26, x27, x28, x29, x30, x31, x32, x33, x34, x35, x36, x37, x38, x39, x40, x41, x42, x43, x44, x45], []⟩ : Act).eval (((RofN Try.f40 5)[4]?).getD default)).run Try.prog u = .ok (.value (.string (strOfNums bs))) (u) := cv_any 24 9 (.tmp 19) (by kernel_rfl) (by kernel_rfl) (own_str o3)
  refine wpOp_val (some 20) (by kernel_rfl) (by kernel_rfl) (by kernel_rfl) hc ?_
  clear hc
  have hS1 : (fun u => Keep (FO rb ob T) w u) (u) := hS
  refine ⟨hS1, ?_⟩
  have e1 : (⟨#[x0, x1, .pointer (some ⟨ob, 0, none⟩), x3, .pointer (some ⟨bx, 0, none⟩), x5, x6, x7, x8, x9, x10, x11, x12, x13, x14, x15, .pointer (some ⟨ob, 1, none⟩), .slice T.a T.n T.c, rv rb, .slice (some ⟨g3, 0, none⟩) m3 m3, x20, x21, x22, x23, x24, x25, x26, x27, x28, x29, x30, x31, x32, x33, x34, x35, x36, x37, x38, x39, x40, x41, x42, x43, x44, x45], []⟩ : Act).put (some 20) (.string (strOfNums bs)) = (⟨#[x0, x1, .pointer (some ⟨ob, 0, none⟩), x3, .pointer (some ⟨bx, 0, none⟩), x5, x6, x7, x8, x9, x10, x11, x12, x13, x14, x15, .pointer (some ⟨ob, 1, none⟩), .slice T.a T.n T.c, rv rb, .slice (some ⟨g3, 0, none⟩) m3 m3, .string (strOfNums bs), x21, x22, x23, x24, x25, x26, x27, x28, x29, x30, x31, x32, x33, x34, x35, x36, x37, x38, x39, x40, x41, x42, x43, x44, x45], []⟩ : Act) := by kernel_rfl
  have l1 : (#[true, true, true, true, false, false, false, false, false] : Array Bool).setIfInBounds 4 true = (#[true, true, true, true, true, false, false, false, false] : Array Bool) := by kernel_rfl
  rw [e1, l1]
  clear e1 l1
  exact rh5_1_3_4 rb ob bx T pub ss bs g3 m3 w R hQ Y hY hbx hbn hro hrt htn HC h1 ht h (u) hS1 (o1) (tr) (y3) (o3)
set_option maxHeartbeats 16000000 in
theorem rh5_3 (rb ob bx : Nat) (T : Sv) (pub : Int) (ss : List ByteArray) (bs : List Int) (g3 m3 : Nat) {x0 x1 x3 x5 x6 x7 x8 x9 x10 x11 x12 x13 x14 x15 x17 x20 x21 x22 x23 x24 x25 x26 x27 x28 x29 x30 x31 x32 x33 x34 x35 x36 x37 x38 x39 x40 x41 x42 x43 x44 x45 : Value} (w : World) (R : Exit → Act → World → Prop) (hQ : ∀ c a d v w, R (.panic c) (a.put d v) w → R (.panic c) a w) (Y : World → Prop) (hY : ∀ u v, Y u → Keep (fun b => b = ob ∨ blk T.a = some b) u v → Y v) (hbx : w.heap[bx]? = some (.cells #[.pointer (some ⟨rb, 0, none⟩)] 98 (0, 0))) (hbn : ¬ FO rb ob T bx) (hro : ob ≠ rb) (hrt : ∀ b, blk T.a = some b → b ≠ rb) (htn : T.n ≤ 1000)
    (HC : ∀ u, u = w.drew → Calls Try.prog 63 #[rv rb, .int .i64 1] u fun e v => ∃ g m, e = .returned (.slice (some ⟨g, 0, none⟩) m m) ∧ Keep (fun b => b = rb) u v ∧ Y v ∧ Own v w.heap.size (some ⟨g, 0, none⟩) m m bs) (h1 : OB w.drew ob pub T ⟨none, 0, 0⟩) (ht : RowT w.drew T ss)
    (h : ∀ (g3 m3 g5 : Nat) (ya : Option Addr) (yn yc : Nat) (u : World), Keep (FO rb ob T) w u → Y u → OB u ob pub ⟨ya, yn, yc⟩ ⟨none, 0, 0⟩ → RowT u ⟨ya, yn, yc⟩ (ss ++ [strOfNums bs]) → (∀ b, blk ya = some b → blk T.a = some b ∨ w.heap.size ≤ b) → R .normal (⟨#[x0, x1, .pointer (some ⟨ob, 0, none⟩), x3, .pointer (some ⟨bx, 0, none⟩), x5, x6, x7, x8, x9, x10, x11, x12, x13, x14, x15, .pointer (some ⟨ob, 1, none⟩), .slice T.a T.n T.c, rv rb, .slice (some ⟨g3, 0, none⟩) m3 m3, .string (strOfNums bs), .slice (some ⟨g5, 0, none⟩) 1 1, .slice ya yn yc, .pointer (some ⟨ob, 1, none⟩), x24, x25, x26, x27, x28, x29, x30, x31, x32, x33, x34, x35, x36, x37, x38, x39, x40, x41, x42, x43, x44, x45], []⟩ : Act) u) (u : World) (hS : (fun u => Keep (FO rb ob T) w u) u) (o1 : OB u ob pub T ⟨none, 0, 0⟩) (tr : RowT u T ss) (y3 : Y u) (o3 : Own u w.heap.size (some ⟨g3, 0, none⟩) m3 m3 bs) :
    wpAnyH Try.prog .any (RofN Try.f40 5) R (fun u => Keep (FO rb ob T) w u) 6 (#[true, false, true, true, false, false, false, false, false] : Array Bool) (⟨#[x0, x1, .pointer (some ⟨ob, 0, none⟩), x3, .pointer (some ⟨bx, 0, none⟩), x5, x6, x7, x8, x9, x10, x11, x12, x13, x14, x15, .pointer (some ⟨ob, 1, none⟩), x17, rv rb, .slice (some ⟨g3, 0, none⟩) m3 m3, x20, x21, x22, x23, x24, x25, x26, x27, x28, x29, x30, x31, x32, x33, x34, x35, x36, x37, x38, x39, x40, x41, x42, x43, x44, x45], []⟩ : Act) u := by
  refine wpAnyH_l2 (i := 1) (j := 4) (by kernel_rfl) ?_ ?_
  · have hc : (execOp (⟨#[x0, x1, .pointer (some ⟨ob, 0, none⟩), x3, .pointer (some ⟨bx, 0, none⟩), x5, x6, x7, x8, x9, x10, x11, x12, x13, x14, x15, .pointer (some ⟨ob, 1, none⟩), x17, rv rb, .slice (some ⟨g3, 0, none⟩) m3 m3, x20, x21, x22, x23, x24, x25, x26, x27, x28, x29, x30, x31, x32, x33, x34, x35, x36, x37, x38, x39, x40, x41, x42, x43, x44, x45], []⟩ : Act).eval (((RofN Try.f40 5)[1]?).getD default)).run Try.prog u = .ok (.value (.slice T.a T.n T.c)) (u) := ld_t 23 (.tmp 16) ob 1 (by kernel_rfl) (by kernel_rfl) (ld23 o1.c1)
    refine wpOp_val (some 17) (by kernel_rfl) (by kernel_rfl) (by kernel_rfl) hc ?_
    clear hc
    have hS1 : (fun u => Keep (FO rb ob T) w u) (u) := hS
    refine ⟨hS1, ?_⟩
    have e1 : (⟨#[x0, x1, .pointer (some ⟨ob, 0, none⟩), x3, .pointer (some ⟨bx, 0, none⟩), x5, x6, x7, x8, x9, x10, x11, x12, x13, x14, x15, .pointer (some ⟨ob, 1, none⟩), x17, rv rb, .slice (some ⟨g3, 0, none⟩) m3 m3, x20, x21, x22, x23, x24, x25, x26, x27, x28, x29, x30, x31, x32, x33, x34, x35, x36, x37, x38, x39, x40, x41, x42, x43, x44, x45], []⟩ : Act).put (some 17) (.slice T.a T.n T.c) = (⟨#[x0, x1, .pointer (some ⟨ob, 0, none⟩), x3, .pointer (some ⟨bx, 0, none⟩), x5, x6, x7, x8, x9, x10, x11, x12, x13, x14, x15, .pointer (some ⟨ob, 1, none⟩), .slice T.a T.n T.c, rv rb, .slice (some ⟨g3, 0, none⟩) m3 m3, x20, x21, x22, x23, x24, x25, x26, x27, x28, x29, x30, x31, x32, x33, x34, x35, x36, x37, x38, x39, x40, x41, x42, x43, x44, x45], []⟩ : Act) := by kernel_rfl
    have l1 : (#[true, false, true, true, false, false, false, false, false] : Array Bool).setIfInBounds 1 true = (#[true, true, true, true, false, false, false, false, false] : Array Bool) := by kernel_rfl
    rw [e1, l1]
    clear e1 l1
    exact rh5_1_3 rb ob bx T pub ss bs g3 m3 w R hQ Y hY hbx hbn hro hrt htn HC h1 ht h (u) hS1 (o1) (tr) (y3) (o3)
  · have hc : (execOp (⟨#[x0, x1, .pointer (some ⟨ob, 0, none⟩), x3, .pointer (some ⟨bx, 0, none⟩), x5, x6, x7, x8, x9, x10, x11, x12, x13, x14, x15, .pointer (some ⟨ob, 1, none⟩), x17, rv rb, .slice (some ⟨g3, 0, none⟩) m3 m3, x20, x21, x22, x23, x24, x25, x26, x27, x28, x29, x30, x31, x32, x33, x34, x35, x36, x37, x38, x39, x40, x41, x42, x43, x44, x45], []⟩ : Act).eval (((RofN Try.f40 5)[4]?).getD default)).run Try.prog u = .ok (.value (.string (strOfNums bs))) (u) := cv_any 24 9 (.tmp 19) (by kernel_rfl) (by kernel_rfl) (own_str o3)
    refine wpOp_val (some 20) (by kernel_rfl) (by kernel_rfl) (by kernel_rfl) hc ?_
    clear hc
    have hS1 : (fun u => Keep (FO rb ob T) w u) (u) := hS
    refine ⟨hS1, ?_⟩
    have e1 : (⟨#[x0, x1, .pointer (some ⟨ob, 0, none⟩), x3, .pointer (some ⟨bx, 0, none⟩), x5, x6, x7, x8, x9, x10, x11, x12, x13, x14, x15, .pointer (some ⟨ob, 1, none⟩), x17, rv rb, .slice (some ⟨g3, 0, none⟩) m3 m3, x20, x21, x22, x23, x24, x25, x26, x27, x28, x29, x30, x31, x32, x33, x34, x35, x36, x37, x38, x39, x40, x41, x42, x43, x44, x45], []⟩ : Act).put (some 20) (.string (strOfNums bs)) = (⟨#[x0, x1, .pointer (some ⟨ob, 0, none⟩), x3, .pointer (some ⟨bx, 0, none⟩), x5, x6, x7, x8, x9, x10, x11, x12, x13, x14, x15, .pointer (some ⟨ob, 1, none⟩), x17, rv rb, .slice (some ⟨g3, 0, none⟩) m3 m3, .string (strOfNums bs), x21, x22, x23, x24, x25, x26, x27, x28, x29, x30, x31, x32, x33, x34, x35, x36, x37, x38, x39, x40, x41, x42, x43, x44, x45], []⟩ : Act) := by kernel_rfl
    have l1 : (#[true, false, true, true, false, false, false, false, false] : Array Bool).setIfInBounds 4 true = (#[true, false, true, true, true, false, false, false, false] : Array Bool) := by kernel_rfl
    rw [e1, l1]
    clear e1 l1
    exact rh5_3_4 rb ob bx T pub ss bs g3 m3 w R hQ Y hY hbx hbn hro hrt htn HC h1 ht h (u) hS1 (o1) (tr) (y3) (o3)
set_option maxHeartbeats 16000000 in
theorem rh5_1 (rb ob bx : Nat) (T : Sv) (pub : Int) (ss : List ByteArray) (bs : List Int)  {x0 x1 x3 x5 x6 x7 x8 x9 x10 x11 x12 x13 x14 x15 x19 x20 x21 x22 x23 x24 x25 x26 x27 x28 x29 x30 x31 x32 x33 x34 x35 x36 x37 x38 x39 x40 x41 x42 x43 x44 x45 : Value} (w : World) (R : Exit → Act → World → Prop) (hQ : ∀ c a d v w, R (.panic c) (a.put d v) w → R (.panic c) a w) (Y : World → Prop) (hY : ∀ u v, Y u → Keep (fun b => b = ob ∨ blk T.a = some b) u v → Y v) (hbx : w.heap[bx]? = some (.cells #[.pointer (some ⟨rb, 0, none⟩)] 98 (0, 0))) (hbn : ¬ FO rb ob T bx) (hro : ob ≠ rb) (hrt : ∀ b, blk T.a = some b → b ≠ rb) (htn : T.n ≤ 1000)
    (HC : ∀ u, u = w.drew → Calls Try.prog 63 #[rv rb, .int .i64 1] u fun e v => ∃ g m, e = .returned (.slice (some ⟨g, 0, none⟩) m m) ∧ Keep (fun b => b = rb) u v ∧ Y v ∧ Own v w.heap.size (some ⟨g, 0, none⟩) m m bs) (h1 : OB w.drew ob pub T ⟨none, 0, 0⟩) (ht : RowT w.drew T ss)
    (h : ∀ (g3 m3 g5 : Nat) (ya : Option Addr) (yn yc : Nat) (u : World), Keep (FO rb ob T) w u → Y u → OB u ob pub ⟨ya, yn, yc⟩ ⟨none, 0, 0⟩ → RowT u ⟨ya, yn, yc⟩ (ss ++ [strOfNums bs]) → (∀ b, blk ya = some b → blk T.a = some b ∨ w.heap.size ≤ b) → R .normal (⟨#[x0, x1, .pointer (some ⟨ob, 0, none⟩), x3, .pointer (some ⟨bx, 0, none⟩), x5, x6, x7, x8, x9, x10, x11, x12, x13, x14, x15, .pointer (some ⟨ob, 1, none⟩), .slice T.a T.n T.c, rv rb, .slice (some ⟨g3, 0, none⟩) m3 m3, .string (strOfNums bs), .slice (some ⟨g5, 0, none⟩) 1 1, .slice ya yn yc, .pointer (some ⟨ob, 1, none⟩), x24, x25, x26, x27, x28, x29, x30, x31, x32, x33, x34, x35, x36, x37, x38, x39, x40, x41, x42, x43, x44, x45], []⟩ : Act) u) (u : World) (hS : (fun u => Keep (FO rb ob T) w u) u) (hu : u = w.drew) (o1 : OB u ob pub T ⟨none, 0, 0⟩) (tr : RowT u T ss) :
    wpAnyH Try.prog .any (RofN Try.f40 5) R (fun u => Keep (FO rb ob T) w u) 6 (#[true, true, true, false, false, false, false, false, false] : Array Bool) (⟨#[x0, x1, .pointer (some ⟨ob, 0, none⟩), x3, .pointer (some ⟨bx, 0, none⟩), x5, x6, x7, x8, x9, x10, x11, x12, x13, x14, x15, .pointer (some ⟨ob, 1, none⟩), .slice T.a T.n T.c, rv rb, x19, x20, x21, x22, x23, x24, x25, x26, x27, x28, x29, x30, x31, x32, x33, x34, x35, x36, x37, x38, x39, x40, x41, x42, x43, x44, x45], []⟩ : Act) u := by
  refine wpAnyH_one (i := 3) (by kernel_rfl) ?_
  refine wpOp_callx (some 19) (by kernel_rfl) (by kernel_rfl) (by kernel_rfl) 63 #[rv rb, .int .i64 1] (by kernel_rfl) (HC u hu) ?_
  rintro e v ⟨g3, m3, rfl, k3, y3, o3⟩
  have q0 : Keep (FO rb ob T) u v := k3.mono (fun i _ e => .inl e)
  have hS1 : (fun u => Keep (FO rb ob T) w u) v := Keep.trans hS q0
  refine ⟨_, rfl, hS1, ?_⟩
  have e1 : (⟨#[x0, x1, .pointer (some ⟨ob, 0, none⟩), x3, .pointer (some ⟨bx, 0, none⟩), x5, x6, x7, x8, x9, x10, x11, x12, x13, x14, x15, .pointer (some ⟨ob, 1, none⟩), .slice T.a T.n T.c, rv rb, x19, x20, x21, x22, x23, x24, x25, x26, x27, x28, x29, x30, x31, x32, x33, x34, x35, x36, x37, x38, x39, x40, x41, x42, x43, x44, x45], []⟩ : Act).put (some 19) (.slice (some ⟨g3, 0, none⟩) m3 m3) = (⟨#[x0, x1, .pointer (some ⟨ob, 0, none⟩), x3, .pointer (some ⟨bx, 0, none⟩), x5, x6, x7, x8, x9, x10, x11, x12, x13, x14, x15, .pointer (some ⟨ob, 1, none⟩), .slice T.a T.n T.c, rv rb, .slice (some ⟨g3, 0, none⟩) m3 m3, x20, x21, x22, x23, x24, x25, x26, x27, x28, x29, x30, x31, x32, x33, x34, x35, x36, x37, x38, x39, x40, x41, x42, x43, x44, x45], []⟩ : Act) := by kernel_rfl
  have l1 : (#[true, true, true, false, false, false, false, false, false] : Array Bool).setIfInBounds 3 true = (#[true, true, true, true, false, false, false, false, false] : Array Bool) := by kernel_rfl
  rw [e1, l1]
  clear e1 l1
  exact rh5_1_3 rb ob bx T pub ss bs g3 m3 w R hQ Y hY hbx hbn hro hrt htn HC h1 ht h v hS1 (o1.keep k3 hro) (Sub.keep tr k3 (fun b e e2 => hrt b e e2)) (y3) (o3)
set_option maxHeartbeats 16000000 in
theorem rh5_o (rb ob bx : Nat) (T : Sv) (pub : Int) (ss : List ByteArray) (bs : List Int)  {x0 x1 x3 x5 x6 x7 x8 x9 x10 x11 x12 x13 x14 x15 x17 x19 x20 x21 x22 x23 x24 x25 x26 x27 x28 x29 x30 x31 x32 x33 x34 x35 x36 x37 x38 x39 x40 x41 x42 x43 x44 x45 : Value} (w : World) (R : Exit → Act → World → Prop) (hQ : ∀ c a d v w, R (.panic c) (a.put d v) w → R (.panic c) a w) (Y : World → Prop) (hY : ∀ u v, Y u → Keep (fun b => b = ob ∨ blk T.a = some b) u v → Y v) (hbx : w.heap[bx]? = some (.cells #[.pointer (some ⟨rb, 0, none⟩)] 98 (0, 0))) (hbn : ¬ FO rb ob T bx) (hro : ob ≠ rb) (hrt : ∀ b, blk T.a = some b → b ≠ rb) (htn : T.n ≤ 1000)
    (HC : ∀ u, u = w.drew → Calls Try.prog 63 #[rv rb, .int .i64 1] u fun e v => ∃ g m, e = .returned (.slice (some ⟨g, 0, none⟩) m m) ∧ Keep (fun b => b = rb) u v ∧ Y v ∧ Own v w.heap.size (some ⟨g, 0, none⟩) m m bs) (h1 : OB w.drew ob pub T ⟨none, 0, 0⟩) (ht : RowT w.drew T ss)
    (h : ∀ (g3 m3 g5 : Nat) (ya : Option Addr) (yn yc : Nat) (u : World), Keep (FO rb ob T) w u → Y u → OB u ob pub ⟨ya, yn, yc⟩ ⟨none, 0, 0⟩ → RowT u ⟨ya, yn, yc⟩ (ss ++ [strOfNums bs]) → (∀ b, blk ya = some b → blk T.a = some b ∨ w.heap.size ≤ b) → R .normal (⟨#[x0, x1, .pointer (some ⟨ob, 0, none⟩), x3, .pointer (some ⟨bx, 0, none⟩), x5, x6, x7, x8, x9, x10, x11, x12, x13, x14, x15, .pointer (some ⟨ob, 1, none⟩), .slice T.a T.n T.c, rv rb, .slice (some ⟨g3, 0, none⟩) m3 m3, .string (strOfNums bs), .slice (some ⟨g5, 0, none⟩) 1 1, .slice ya yn yc, .pointer (some ⟨ob, 1, none⟩), x24, x25, x26, x27, x28, x29, x30, x31, x32, x33, x34, x35, x36, x37, x38, x39, x40, x41, x42, x43, x44, x45], []⟩ : Act) u) (u : World) (hS : (fun u => Keep (FO rb ob T) w u) u) (hu : u = w.drew) (o1 : OB u ob pub T ⟨none, 0, 0⟩) (tr : RowT u T ss) :
    wpAnyH Try.prog .any (RofN Try.f40 5) R (fun u => Keep (FO rb ob T) w u) 7 (#[true, false, true, false, false, false, false, false, false] : Array Bool) (⟨#[x0, x1, .pointer (some ⟨ob, 0, none⟩), x3, .pointer (some ⟨bx, 0, none⟩), x5, x6, x7, x8, x9, x10, x11, x12, x13, x14, x15, .pointer (some ⟨ob, 1, none⟩), x17, rv rb, x19, x20, x21, x22, x23, x24, x25, x26, x27, x28, x29, x30, x31, x32, x33, x34, x35, x36, x37, x38, x39, x40, x41, x42, x43, x44, x45], []⟩ : Act) u := by
  refine wpAnyH_l2 (i := 1) (j := 3) (by kernel_rfl) ?_ ?_
  · have hc : (execOp (⟨#[x0, x1, .pointer (some ⟨ob, 0, none⟩), x3, .pointer (some ⟨bx, 0, none⟩), x5, x6, x7, x8, x9, x10, x11, x12, x13, x14, x15, .pointer (some ⟨ob, 1, none⟩), x17, rv rb, x19, x20, x21, x22, x23, x24, x25, x26, x27, x28, x29, x30, x31, x32, x33, x34, x35, x36, x37, x38, x39, x40, x41, x42, x43, x44, x45], []⟩ : Act).eval (((RofN Try.f40 5)[1]?).getD default)).run Try.prog u = .ok (.value (.slice T.a T.n T.c)) (u) := ld_t 23 (.tmp 16) ob 1 (by kernel_rfl) (by kernel_rfl) (ld23 o1.c1)
    refine wpOp_val (some 17) (by kernel_rfl) (by kernel_rfl) (by kernel_rfl) hc ?_
    clear hc
    have hS1 : (fun u => Keep (FO rb ob T) w u) (u) := hS
    refine ⟨hS1, ?_⟩
    have e1 : (⟨#[x0, x1, .pointer (some ⟨ob, 0, none⟩), x3, .pointer (some ⟨bx, 0, none⟩), x5, x6, x7, x8, x9, x10, x11, x12, x13, x14, x15, .pointer (some ⟨ob, 1, none⟩), x17, rv rb, x19, x20, x21, x22, x23, x24, x25, x26, x27, x28, x29, x30, x31, x32, x33, x34, x35, x36, x37, x38, x39, x40, x41, x42, x43, x44, x45], []⟩ : Act).put (some 17) (.slice T.a T.n T.c) = (⟨#[x0, x1, .pointer (some ⟨ob, 0, none⟩), x3, .pointer (some ⟨bx, 0, none⟩), x5, x6, x7, x8, x9, x10, x11, x12, x13, x14, x15, .pointer (some ⟨ob, 1, none⟩), .slice T.a T.n T.c, rv rb, x19, x20, x21, x22, x23, x24, x25, x26, x27, x28, x29, x30, x31, x32, x33, x34, x35, x36, x37, x38, x39, x40, x41, x42, x43, x44, x45], []⟩ : Act) := by kernel_rfl
    have l1 : (#[true, false, true, false, false, false, false, false, false] : Array Bool).setIfInBounds 1 true = (#[true, true, true, false, false, false, false, false, false] : Array Bool) := by kernel_rfl
    rw [e1, l1]
    clear e1 l1
    exact rh5_1 rb ob bx T pub ss bs  w R hQ Y hY hbx hbn hro hrt htn HC h1 ht h (u) hS1 (hu) (o1) (tr)
  · refine wpOp_callx (some 19) (by kernel_rfl) (by kernel_rfl) (by kernel_rfl) 63 #[rv rb, .int .i64 1] (by kernel_rfl) (HC u hu) ?_
    rintro e v ⟨g3, m3, rfl, k3, y3, o3⟩
    have q0 : Keep (FO rb ob T) u v := k3.mono (fun i _ e => .inl e)
    have hS1 : (fun u => Keep (FO rb ob T) w u) v := Keep.trans hS q0
    refine ⟨_, rfl, hS1, ?_⟩
    have e1 : (⟨#[x0, x1, .pointer (some ⟨ob, 0, none⟩), x3, .pointer (some ⟨bx, 0, none⟩), x5, x6, x7, x8, x9, x10, x11, x12, x13, x14, x15, .pointer (some ⟨ob, 1, none⟩), x17, rv rb, x19, x20, x21, x22, x23, x24, x25, x26, x27, x28, x29, x30, x31, x32, x33, x34, x35, x36, x37, x38, x39, x40, x41, x42, x43, x44, x45], []⟩ : Act).put (some 19) (.slice (some ⟨g3, 0, none⟩) m3 m3) = (⟨#[x0, x1, .pointer (some ⟨ob, 0, none⟩), x3, .pointer (some ⟨bx, 0, none⟩), x5, x6, x7, x8, x9, x10, x11, x12, x13, x14, x15, .pointer (some ⟨ob, 1, none⟩), x17, rv rb, .slice (some ⟨g3, 0, none⟩) m3 m3, x20, x21, x22, x23, x24, x25, x26, x27, x28, x29, x30, x31, x32, x33, x34, x35, x36, x37, x38, x39, x40, x41, x42, x43, x44, x45], []⟩ : Act) := by kernel_rfl
    have l1 : (#[true, false, true, false, false, false, false, false, false] : Array Bool).setIfInBounds 3 true = (#[true, false, true, true, false, false, false, false, false] : Array Bool) := by kernel_rfl
    rw [e1, l1]
    clear e1 l1
    exact rh5_3 rb ob bx T pub ss bs g3 m3 w R hQ Y hY hbx hbn hro hrt htn HC h1 ht h v hS1 (o1.keep k3 hro) (Sub.keep tr k3 (fun b e e2 => hrt b e e2)) (y3) (o3)
set_option maxHeartbeats 16000000 in
theorem rh5 (rb ob bx : Nat) (T : Sv) (pub : Int) (ss : List ByteArray) (bs : List Int) {x0 x1 x3 x5 x6 x7 x8 x9 x10 x11 x12 x13 x14 x15 x16 x17 x18 x19 x20 x21 x22 x23 x24 x25 x26 x27 x28 x29 x30 x31 x32 x33 x34 x35 x36 x37 x38 x39 x40 x41 x42 x43 x44 x45 : Value} (w : World) (R : Exit → Act → World → Prop) (hQ : ∀ c a d v w, R (.panic c) (a.put d v) w → R (.panic c) a w) (Y : World → Prop) (hY : ∀ u v, Y u → Keep (fun b => b = ob ∨ blk T.a = some b) u v → Y v) (hbx : w.heap[bx]? = some (.cells #[.pointer (some ⟨rb, 0, none⟩)] 98 (0, 0))) (hbn : ¬ FO rb ob T bx) (hro : ob ≠ rb) (hrt : ∀ b, blk T.a = some b → b ≠ rb) (htn : T.n ≤ 1000)
    (HC : ∀ u, u = w.drew → Calls Try.prog 63 #[rv rb, .int .i64 1] u fun e v => ∃ g m, e = .returned (.slice (some ⟨g, 0, none⟩) m m) ∧ Keep (fun b => b = rb) u v ∧ Y v ∧ Own v w.heap.size (some ⟨g, 0, none⟩) m m bs) (h1 : OB w.drew ob pub T ⟨none, 0, 0⟩) (ht : RowT w.drew T ss) (hS : (fun u => Keep (FO rb ob T) w u) w)
    (h : ∀ (g3 m3 g5 : Nat) (ya : Option Addr) (yn yc : Nat) (u : World), Keep (FO rb ob T) w u → Y u → OB u ob pub ⟨ya, yn, yc⟩ ⟨none, 0, 0⟩ → RowT u ⟨ya, yn, yc⟩ (ss ++ [strOfNums bs]) → (∀ b, blk ya = some b → blk T.a = some b ∨ w.heap.size ≤ b) → R .normal (⟨#[x0, x1, .pointer (some ⟨ob, 0, none⟩), x3, .pointer (some ⟨bx, 0, none⟩), x5, x6, x7, x8, x9, x10, x11, x12, x13, x14, x15, .pointer (some ⟨ob, 1, none⟩), .slice T.a T.n T.c, rv rb, .slice (some ⟨g3, 0, none⟩) m3 m3, .string (strOfNums bs), .slice (some ⟨g5, 0, none⟩) 1 1, .slice ya yn yc, .pointer (some ⟨ob, 1, none⟩), x24, x25, x26, x27, x28, x29, x30, x31, x32, x33, x34, x35, x36, x37, x38, x39, x40, x41, x42, x43, x44, x45], []⟩ : Act) u) :
    (Code.region 5 (RofN Try.f40 5) true).wp Try.prog R (⟨#[x0, x1, .pointer (some ⟨ob, 0, none⟩), x3, .pointer (some ⟨bx, 0, none⟩), x5, x6, x7, x8, x9, x10, x11, x12, x13, x14, x15, x16, x17, x18, x19, x20, x21, x22, x23, x24, x25, x26, x27, x28, x29, x30, x31, x32, x33, x34, x35, x36, x37, x38, x39, x40, x41, x42, x43, x44, x45], []⟩ : Act) w := by
  refine wp_region_held (S := (fun u => Keep (FO rb ob T) w u)) (by kernel_rfl) ?_
  have hsz : (RofN Try.f40 5).size = 9 := by kernel_rfl
  rw [hsz]
  have hS0 : (fun u => Keep (FO rb ob T) w u) w.drew := Keep.trans hS ((Keep.refl _ w).drew)
  refine chn_take (by kernel_rfl) hQ hS0 7 (rh5g0z rb ob bx T pub ss bs ) _ _ (rh5g0 rb ob bx T pub ss bs  w Y hY hbx hbn hro hrt htn HC h1 ht) ?_
  have e0 : putL (RofN Try.f40 5) (rh5g0z rb ob bx T pub ss bs ) (⟨#[x0, x1, .pointer (some ⟨ob, 0, none⟩), x3, .pointer (some ⟨bx, 0, none⟩), x5, x6, x7, x8, x9, x10, x11, x12, x13, x14, x15, x16, x17, x18, x19, x20, x21, x22, x23, x24, x25, x26, x27, x28, x29, x30, x31, x32, x33, x34, x35, x36, x37, x38, x39, x40, x41, x42, x43, x44, x45], []⟩ : Act) = (⟨#[x0, x1, .pointer (some ⟨ob, 0, none⟩), x3, .pointer (some ⟨bx, 0, none⟩), x5, x6, x7, x8, x9, x10, x11, x12, x13, x14, x15, .pointer (some ⟨ob, 1, none⟩), x17, rv rb, x19, x20, x21, x22, x23, x24, x25, x26, x27, x28, x29, x30, x31, x32, x33, x34, x35, x36, x37, x38, x39, x40, x41, x42, x43, x44, x45], []⟩ : Act) := by kernel_rfl
  have l0 : setL (rh5g0z rb ob bx T pub ss bs ) (Array.replicate 9 false) = (#[true, false, true, false, false, false, false, false, false] : Array Bool) := by kernel_rfl
  rw [e0, l0]
  clear e0 l0
  exact rh5_o rb ob bx T pub ss bs w R hQ Y hY hbx hbn hro hrt htn HC h1 ht h _ hS0 (rfl) (h1) (ht)
end Go.Proofs.Ytekpepnonhbkcaa

/-
  A region that draws its order, in the text's order: each operation yields one value in every world of a class, or is not wanted.
-/
namespace Go.Proofs.Ytekpepnonhbkcaa
open Go.RowKit
set_option linter.unusedVariables false
set_option maxRecDepth 20000

section
variable {P : Program} {ops : Array Oper} {C : World → Prop}
/-- The values of the operations, one behind the other; none: not wanted. -/
def QChn (P : Program) (ops : Array Oper) (C : World → Prop) : Nat → List (Option Value) → Act → Prop
  | i, some v :: vs, a => (Region.wanted ((ops[i]?).getD default) (yielded ops a.tmps) = true ∧ ∀ u, C u → ((ops[i]?).getD default).quietAt P a C u v) ∧ QChn P ops C (i + 1) vs (a.put ((ops[i]?).bind (·.dst)) v)
  | i, none :: vs, a => Region.wanted ((ops[i]?).getD default) (yielded ops a.tmps) = false ∧ QChn P ops C (i + 1) vs (a.put ((ops[i]?).bind (·.dst)) undef)
  | _, [], _ => True
def putQ (ops : Array Oper) : Nat → List (Option Value) → Act → Act
  | i, v :: vs, a => putQ ops (i + 1) vs (a.put ((ops[i]?).bind (·.dst)) (v.getD undef))
  | _, [], a => a
theorem qchn_go {Q : Act → Prop} : ∀ (vs : List (Option Value)) (i : Nat) (a : Act), i + vs.length ≤ ops.size → QChn P ops C i vs a → wpQuiet P ops C Q (ops.toList.drop (i + vs.length)) (putQ ops i vs a) → wpQuiet P ops C Q (ops.toList.drop i) a
  | [], i, a, hl, _, hq => hq
  | v :: vs, i, a, hl, h, hq => by
    have hi : i < ops.toList.length := by simp at hl; simp; omega
    have hi' : i < ops.size := by simpa using hi
    rw [List.drop_eq_getElem_cons hi]
    have eo : ops[i]? = some ops.toList[i] := by simp [hi']
    have e2 : i + (v :: vs).length = i + 1 + vs.length := by simp; omega
    rw [e2] at hq
    cases v with
    | some v =>
      obtain ⟨⟨h1, h2⟩, h3⟩ := h
      rw [eo] at h1 h2 h3
      have ih := qchn_go (Q := Q) vs (i + 1) _ (by simp at hl; omega) h3 (by have := hq; simp only [putQ, eo] at this; exact this)
      show (if _ then _ else _)
      have h1' : Region.wanted ops.toList[i] (yielded ops a.tmps) = true := h1
      rw [if_pos h1']
      exact ⟨v, h2, ih⟩
    | none =>
      obtain ⟨h1, h3⟩ := h
      rw [eo] at h1 h3
      have ih := qchn_go (Q := Q) vs (i + 1) _ (by simp at hl; omega) h3 (by have := hq; simp only [putQ, eo] at this; exact this)
      show (if _ then _ else _)
      have h1' : Region.wanted ops.toList[i] (yielded ops a.tmps) = false := h1
      rw [if_neg (by rw [h1']; simp)]
      exact ih
end
theorem qchn_all {P : Program} {ops : Array Oper} {C : World → Prop} {Q : Act → Prop} (vs : List (Option Value)) (a b : Act) (hl : vs.length ≤ ops.size) (h : QChn P ops C 0 vs a) (e : putQ ops 0 vs a = b) (hq : wpQuiet P ops C Q (ops.toList.drop vs.length) b) : wpQuiet P ops C Q ops.toList a := by
  have := qchn_go (Q := Q) vs 0 a (by omega) h (by rw [e, Nat.zero_add]; exact hq)
  rwa [List.drop_zero] at this
theorem qv {C : World → Prop} {o : Oper} {a : Act} {u : World} {v : Value} (h : (execOp a.eval o).run Try.prog u = .ok (.value v) u) : o.quietAt Try.prog a C u v := by
  unfold Oper.quietAt; rw [h]; exact ⟨rfl, rfl⟩
theorem qc {C : World → Prop} {o : Oper} {a : Act} {u : World} {v : Value} (f : FuncId) (args : Array Value) (h : (execOp a.eval o).run Try.prog u = .ok (.enter f args) u) (hc : Calls Try.prog f args u fun e u' => e = .returned v ∧ C u') : o.quietAt Try.prog a C u v := by
  unfold Oper.quietAt; rw [h]; exact ⟨rfl, hc⟩
theorem pk_t {o : Oper} {a : Act} {w : World} (x y z : Operand) (v : Value) (ho : o.op = .pick x y z) (hx : a.eval x = .bool true) (hy : a.eval y = v) : (execOp a.eval o).run Try.prog w = .ok (.value v) w := by
  unfold execOp
  simp only [ho, hx, hy]
  simp [go_sem]
theorem pk_f {o : Oper} {a : Act} {w : World} (x y z : Operand) (v : Value) (ho : o.op = .pick x y z) (hx : a.eval x = .bool false) (hz : a.eval z = v) : (execOp a.eval o).run Try.prog w = .ok (.value v) w := by
  unfold execOp
  simp only [ho, hx, hz]
  simp [go_sem]

theorem qend {ops : Array Oper} {C : World → Prop} {Q : Act → Prop} {a : Act} {n : Nat} (hl : ops.toList.drop n = []) (hq : Q a) : wpQuiet Try.prog ops C Q (ops.toList.drop n) a := by rw [hl]; exact hq
theorem qchn_step {P : Program} {ops : Array Oper} {C : World → Prop} {i : Nat} {v : Value} {vs : List (Option Value)} {a b : Act} (h1 : Region.wanted ((ops[i]?).getD default) (yielded ops a.tmps) = true) (h2 : ∀ u, C u → ((ops[i]?).getD default).quietAt P a C u v) (e : a.put ((ops[i]?).bind (·.dst)) v = b) (h3 : QChn P ops C (i + 1) vs b) : QChn P ops C i (some v :: vs) a := by
  subst e; exact ⟨⟨h1, h2⟩, h3⟩
theorem qchn_skip {P : Program} {ops : Array Oper} {C : World → Prop} {i : Nat} {vs : List (Option Value)} {a b : Act} (h1 : Region.wanted ((ops[i]?).getD default) (yielded ops a.tmps) = false) (e : a.put ((ops[i]?).bind (·.dst)) undef = b) (h3 : QChn P ops C (i + 1) vs b) : QChn P ops C i (none :: vs) a := by
  subst e; exact ⟨h1, h3⟩
theorem qs {C : World → Prop} {o : Oper} {a : Act} {u : World} (h : (execOp a.eval o).run Try.prog u = .ok .skip u) : o.quietAt Try.prog a C u undef := by
  unfold Oper.quietAt; rw [h]; exact ⟨rfl, rfl⟩
end Go.Proofs.Ytekpepnonhbkcaa

/-
  The last region of shake's readClientHello, in the text's order.
-/
namespace Go.Proofs.Ytekpepnonhbkcaa
open Go.RowKit
set_option linter.unusedVariables false
set_option maxRecDepth 20000

theorem setRow_self {w : World} {g : Nat} {X : Array Value} {t : TypeId} {fr : Nat × Nat} (h : w.heap[g]? = some (.cells X t fr)) : w.setRow g X = w := by
  have hh : (w.setRow g X).heap = w.heap := by
    apply Array.ext_getElem?
    intro i
    by_cases e : i = g
    · subst e
      rw [setRow_heap w i X X t fr h, h]
    · simp [World.setRow, Array.getElem?_modify, Ne.symm e]
  cases w
  simp only [World.setRow] at hh ⊢
  rw [hh]
theorem ld78 {w : World} {ob : Nat} {pub : Int} {t p : Sv} (h : OB w ob pub t p) : (loadVar 78 ⟨ob, 0, none⟩).run Try.prog w = .ok (.agg #[.int .i64 pub, .slice t.a t.n t.c, .slice p.a p.n p.c]) w := run_loadVar_row w ob 78 78 _ (0, 0) _ h Try.underlying78 rfl (by kernel_rfl)
theorem st78 {o : Oper} {a : Act} {w : World} (x y : Operand) (ob : Nat) (pub : Int) (t p : Sv) (ho : o.op = .store 78 x y) (hx : a.eval x = .pointer (some ⟨ob, 0, none⟩)) (hy : a.eval y = .agg #[.int .i64 pub, .slice t.a t.n t.c, .slice p.a p.n p.c]) (h : OB w ob pub t p) :
    (execOp a.eval o).run Try.prog w = .ok .skip w := by
  have hl := run_storeVar_row (P := Try.prog) w ob 78 78 _ #[.int .i64 pub, .slice t.a t.n t.c, .slice p.a p.n p.c] h (by kernel_rfl) rfl (by kernel_rfl)
  rw [setRow_self h] at hl
  unfold execOp
  simp only [ho, hx, hy, Instr.storeAt, Instr.sureAddr, Sem.run_bind, Sem.run_pure, Result.andThen_ok, hl]
theorem OB.q {w w' : World} {ob : Nat} {pub : Int} {t p : Sv} (h : OB w ob pub t p) (q : Q w w') : OB w' ob pub t p := blk_q q h
theorem OB.c0 {w : World} {ob : Nat} {pub : Int} {t p : Sv} (h : OB w ob pub t p) : w.cell? ⟨ob, 0, none⟩ = some (.int .i64 pub) := by rw [cell_of_row _ _ _ _ 78 (0, 0) h]; rfl
theorem OB.c2 {w : World} {ob : Nat} {pub : Int} {t p : Sv} (h : OB w ob pub t p) : w.cell? ⟨ob, 2, none⟩ = some (.slice p.a p.n p.c) := by rw [cell_of_row _ _ _ _ 78 (0, 0) h]; rfl
theorem ld3' {w : World} {b j : Nat} {v : Int} (hc : w.cell? ⟨b, j, none⟩ = some (.int .i64 v)) : (loadVar 3 ⟨b, j, none⟩).run Try.prog w = .ok (.int .i64 v) w := by simp [loadVar, go_sem, hc]
theorem ld24' {w : World} {b j : Nat} {v : Sv} (hc : w.cell? ⟨b, j, none⟩ = some (.slice v.a v.n v.c)) : (loadVar 24 ⟨b, j, none⟩).run Try.prog w = .ok (.slice v.a v.n v.c) w := by simp [loadVar, go_sem, hc]
set_option maxHeartbeats 16000000 in
theorem rq0c (rb ob bx : Nat) (pub : Int) (t p : Sv) (b2 b3 b4 : Bool) {x0 x1 x3 x5 x6 x7 x8 x9 x10 x11 x12 x13 x14 x15 x16 x17 x18 x19 x20 x21 x22 x23 x24 x25 x26 x27 x28 x29 x30 x31 x32 x33 x34 x35 x36 x37 x38 x39 x40 x41 x42 x43 x44 x45 : Value} {w : World} (h1 : OB w ob pub t p) (hbx : w.heap[bx]? = some (.cells #[.pointer (some ⟨rb, 0, none⟩)] 98 (0, 0))) (H64 : ∀ u, Q w u → Calls Try.prog 64 #[rv rb] u fun e u' => e = .returned (.bool false) ∧ Q w u')
    (H65 : ∀ u, Q w u → Calls Try.prog 65 #[.int .i64 pub] u fun e u' => e = .returned (.bool b2) ∧ Q w u') (H20 : ∀ u, Q w u → Calls Try.prog 20 #[.slice t.a t.n t.c] u fun e u' => e = .returned (.bool b3) ∧ Q w u') (H21 : ∀ u, Q w u → Calls Try.prog 21 #[.slice p.a p.n p.c] u fun e u' => e = .returned (.bool b4) ∧ Q w u') : QChn Try.prog (RofN Try.f40 8) (fun u => Q w u) 0 [some (.agg #[.int .i64 pub, .slice t.a t.n t.c, .slice p.a p.n p.c]), some (rv rb), some (.bool false), some (.bool false), none, none, none, some (.bool false), some (.bool false), none, none, none, some (.bool false), some (.bool false), none, none, none, some (.bool false), some (undef), some (.bool false)] (⟨#[x0, x1, .pointer (some ⟨ob, 0, none⟩), x3, .pointer (some ⟨bx, 0, none⟩), x5, x6, x7, x8, x9, x10, x11, x12, x13, x14, x15, x16, x17, x18, x19, x20, x21, x22, x23, x24, x25, x26, x27, x28, x29, x30, x31, x32, x33, x34, x35, x36, x37, x38, x39, x40, x41, x42, x43, x44, x45], []⟩ : Act) := by
  refine qchn_step (b := (⟨#[x0, x1, .pointer (some ⟨ob, 0, none⟩), x3, .pointer (some ⟨bx, 0, none⟩), x5, x6, x7, x8, x9, x10, x11, x12, x13, x14, x15, x16, x17, x18, x19, x20, x21, x22, x23, x24, x25, x26, x27, .agg #[.int .i64 pub, .slice t.a t.n t.c, .slice p.a p.n p.c], x29, x30, x31, x32, x33, x34, x35, x36, x37, x38, x39, x40, x41, x42, x43, x44, x45], []⟩ : Act)) (by kernel_rfl) (fun u hu => qv (ld_t 78 (.tmp 2) ob 0 (by kernel_rfl) (by kernel_rfl) (ld78 (h1.q hu)))) (by kernel_rfl) ?_
  refine qchn_step (b := (⟨#[x0, x1, .pointer (some ⟨ob, 0, none⟩), x3, .pointer (some ⟨bx, 0, none⟩), x5, x6, x7, x8, x9, x10, x11, x12, x13, x14, x15, x16, x17, x18, x19, x20, x21, x22, x23, x24, x25, x26, x27, .agg #[.int .i64 pub, .slice t.a t.n t.c, .slice p.a p.n p.c], rv rb, x30, x31, x32, x33, x34, x35, x36, x37, x38, x39, x40, x41, x42, x43, x44, x45], []⟩ : Act)) (by kernel_rfl) (fun u hu => qv (ld_t 98 (.tmp 4) bx 0 (by kernel_rfl) (by kernel_rfl) (ld98 (blk_q hu hbx)))) (by kernel_rfl) ?_
  refine qchn_step (b := (⟨#[x0, x1, .pointer (some ⟨ob, 0, none⟩), x3, .pointer (some ⟨bx, 0, none⟩), x5, x6, x7, x8, x9, x10, x11, x12, x13, x14, x15, x16, x17, x18, x19, x20, x21, x22, x23, x24, x25, x26, x27, .agg #[.int .i64 pub, .slice t.a t.n t.c, .slice p.a p.n p.c], rv rb, .bool false, x31, x32, x33, x34, x35, x36, x37, x38, x39, x40, x41, x42, x43, x44, x45], []⟩ : Act)) (by kernel_rfl) (fun u hu => qc 64 #[rv rb] (by kernel_rfl) (H64 u hu)) (by kernel_rfl) ?_
  refine qchn_step (b := (⟨#[x0, x1, .pointer (some ⟨ob, 0, none⟩), x3, .pointer (some ⟨bx, 0, none⟩), x5, x6, x7, x8, x9, x10, x11, x12, x13, x14, x15, x16, x17, x18, x19, x20, x21, x22, x23, x24, x25, x26, x27, .agg #[.int .i64 pub, .slice t.a t.n t.c, .slice p.a p.n p.c], rv rb, .bool false, .bool false, x32, x33, x34, x35, x36, x37, x38, x39, x40, x41, x42, x43, x44, x45], []⟩ : Act)) (by kernel_rfl) (fun u hu => qv (by kernel_rfl)) (by kernel_rfl) ?_
  refine qchn_skip (b := (⟨#[x0, x1, .pointer (some ⟨ob, 0, none⟩), x3, .pointer (some ⟨bx, 0, none⟩), x5, x6, x7, x8, x9, x10, x11, x12, x13, x14, x15, x16, x17, x18, x19, x20, x21, x22, x23, x24, x25, x26, x27, .agg #[.int .i64 pub, .slice t.a t.n t.c, .slice p.a p.n p.c], rv rb, .bool false, .bool false, undef, x33, x34, x35, x36, x37, x38, x39, x40, x41, x42, x43, x44, x45], []⟩ : Act)) (by kernel_rfl) (by kernel_rfl) ?_
  refine qchn_skip (b := (⟨#[x0, x1, .pointer (some ⟨ob, 0, none⟩), x3, .pointer (some ⟨bx, 0, none⟩), x5, x6, x7, x8, x9, x10, x11, x12, x13, x14, x15, x16, x17, x18, x19, x20, x21, x22, x23, x24, x25, x26, x27, .agg #[.int .i64 pub, .slice t.a t.n t.c, .slice p.a p.n p.c], rv rb, .bool false, .bool false, undef, undef, x34, x35, x36, x37, x38, x39, x40, x41, x42, x43, x44, x45], []⟩ : Act)) (by kernel_rfl) (by kernel_rfl) ?_
  refine qchn_skip (b := (⟨#[x0, x1, .pointer (some ⟨ob, 0, none⟩), x3, .pointer (some ⟨bx, 0, none⟩), x5, x6, x7, x8, x9, x10, x11, x12, x13, x14, x15, x16, x17, x18, x19, x20, x21, x22, x23, x24, x25, x26, x27, .agg #[.int .i64 pub, .slice t.a t.n t.c, .slice p.a p.n p.c], rv rb, .bool false, .bool false, undef, undef, undef, x35, x36, x37, x38, x39, x40, x41, x42, x43, x44, x45], []⟩ : Act)) (by kernel_rfl) (by kernel_rfl) ?_
  refine qchn_step (b := (⟨#[x0, x1, .pointer (some ⟨ob, 0, none⟩), x3, .pointer (some ⟨bx, 0, none⟩), x5, x6, x7, x8, x9, x10, x11, x12, x13, x14, x15, x16, x17, x18, x19, x20, x21, x22, x23, x24, x25, x26, x27, .agg #[.int .i64 pub, .slice t.a t.n t.c, .slice p.a p.n p.c], rv rb, .bool false, .bool false, undef, undef, undef, .bool false, x36, x37, x38, x39, x40, x41, x42, x43, x44, x45], []⟩ : Act)) (by kernel_rfl) (fun u hu => qv (pk_f (.tmp 31) (.tmp 34) (.const (.bool false)) _ (by kernel_rfl) (by kernel_rfl) (by kernel_rfl))) (by kernel_rfl) ?_
  refine qchn_step (b := (⟨#[x0, x1, .pointer (some ⟨ob, 0, none⟩), x3, .pointer (some ⟨bx, 0, none⟩), x5, x6, x7, x8, x9, x10, x11, x12, x13, x14, x15, x16, x17, x18, x19, x20, x21, x22, x23, x24, x25, x26, x27, .agg #[.int .i64 pub, .slice t.a t.n t.c, .slice p.a p.n p.c], rv rb, .bool false, .bool false, undef, undef, undef, .bool false, .bool false, x37, x38, x39, x40, x41, x42, x43, x44, x45], []⟩ : Act)) (by kernel_rfl) (fun u hu => qv (by kernel_rfl)) (by kernel_rfl) ?_
  refine qchn_skip (b := (⟨#[x0, x1, .pointer (some ⟨ob, 0, none⟩), x3, .pointer (some ⟨bx, 0, none⟩), x5, x6, x7, x8, x9, x10, x11, x12, x13, x14, x15, x16, x17, x18, x19, x20, x21, x22, x23, x24, x25, x26, x27, .agg #[.int .i64 pub, .slice t.a t.n t.c, .slice p.a p.n p.c], rv rb, .bool false, .bool false, undef, undef, undef, .bool false, .bool false, undef, x38, x39, x40, x41, x42, x43, x44, x45], []⟩ : Act)) (by kernel_rfl) (by kernel_rfl) ?_
  refine qchn_skip (b := (⟨#[x0, x1, .pointer (some ⟨ob, 0, none⟩), x3, .pointer (some ⟨bx, 0, none⟩), x5, x6, x7, x8, x9, x10, x11, x12, x13, x14, x15, x16, x17, x18, x19, x20, x21, x22, x23, x24, x25, x26, x27, .agg #[.int .i64 pub, .slice t.a t.n t.c, .slice p.a p.n p.c], rv rb, .bool false, .bool false, undef, undef, undef, .bool false, .bool false, undef, undef, x39, x40, x41, x42, x43, x44, x45], []⟩ : Act)) (by kernel_rfl) (by kernel_rfl) ?_
  refine qchn_skip (b := (⟨#[x0, x1, .pointer (some ⟨ob, 0, none⟩), x3, .pointer (some ⟨bx, 0, none⟩), x5, x6, x7, x8, x9, x10, x11, x12, x13, x14, x15, x16, x17, x18, x19, x20, x21, x22, x23, x24, x25, x26, x27, .agg #[.int .i64 pub, .slice t.a t.n t.c, .slice p.a p.n p.c], rv rb, .bool false, .bool false, undef, undef, undef, .bool false, .bool false, undef, undef, undef, x40, x41, x42, x43, x44, x45], []⟩ : Act)) (by kernel_rfl) (by kernel_rfl) ?_
  refine qchn_step (b := (⟨#[x0, x1, .pointer (some ⟨ob, 0, none⟩), x3, .pointer (some ⟨bx, 0, none⟩), x5, x6, x7, x8, x9, x10, x11, x12, x13, x14, x15, x16, x17, x18, x19, x20, x21, x22, x23, x24, x25, x26, x27, .agg #[.int .i64 pub, .slice t.a t.n t.c, .slice p.a p.n p.c], rv rb, .bool false, .bool false, undef, undef, undef, .bool false, .bool false, undef, undef, undef, .bool false, x41, x42, x43, x44, x45], []⟩ : Act)) (by kernel_rfl) (fun u hu => qv (pk_f (.tmp 36) (.tmp 39) (.const (.bool false)) _ (by kernel_rfl) (by kernel_rfl) (by kernel_rfl))) (by kernel_rfl) ?_
  refine qchn_step (b := (⟨#[x0, x1, .pointer (some ⟨ob, 0, none⟩), x3, .pointer (some ⟨bx, 0, none⟩), x5, x6, x7, x8, x9, x10, x11, x12, x13, x14, x15, x16, x17, x18, x19, x20, x21, x22, x23, x24, x25, x26, x27, .agg #[.int .i64 pub, .slice t.a t.n t.c, .slice p.a p.n p.c], rv rb, .bool false, .bool false, undef, undef, undef, .bool false, .bool false, undef, undef, undef, .bool false, .bool false, x42, x43, x44, x45], []⟩ : Act)) (by kernel_rfl) (fun u hu => qv (by kernel_rfl)) (by kernel_rfl) ?_
  refine qchn_skip (b := (⟨#[x0, x1, .pointer (some ⟨ob, 0, none⟩), x3, .pointer (some ⟨bx, 0, none⟩), x5, x6, x7, x8, x9, x10, x11, x12, x13, x14, x15, x16, x17, x18, x19, x20, x21, x22, x23, x24, x25, x26, x27, .agg #[.int .i64 pub, .slice t.a t.n t.c, .slice p.a p.n p.c], rv rb, .bool false, .bool false, undef, undef, undef, .bool false, .bool false, undef, undef, undef, .bool false, .bool false, undef, x43, x44, x45], []⟩ : Act)) (by kernel_rfl) (by kernel_rfl) ?_
  refine qchn_skip (b := (⟨#[x0, x1, .pointer (some ⟨ob, 0, none⟩), x3, .pointer (some ⟨bx, 0, none⟩), x5, x6, x7, x8, x9, x10, x11, x12, x13, x14, x15, x16, x17, x18, x19, x20, x21, x22, x23, x24, x25, x26, x27, .agg #[.int .i64 pub, .slice t.a t.n t.c, .slice p.a p.n p.c], rv rb, .bool false, .bool false, undef, undef, undef, .bool false, .bool false, undef, undef, undef, .bool false, .bool false, undef, undef, x44, x45], []⟩ : Act)) (by kernel_rfl) (by kernel_rfl) ?_
  refine qchn_skip (b := (⟨#[x0, x1, .pointer (some ⟨ob, 0, none⟩), x3, .pointer (some ⟨bx, 0, none⟩), x5, x6, x7, x8, x9, x10, x11, x12, x13, x14, x15, x16, x17, x18, x19, x20, x21, x22, x23, x24, x25, x26, x27, .agg #[.int .i64 pub, .slice t.a t.n t.c, .slice p.a p.n p.c], rv rb, .bool false, .bool false, undef, undef, undef, .bool false, .bool false, undef, undef, undef, .bool false, .bool false, undef, undef, undef, x45], []⟩ : Act)) (by kernel_rfl) (by kernel_rfl) ?_
  refine qchn_step (b := (⟨#[x0, x1, .pointer (some ⟨ob, 0, none⟩), x3, .pointer (some ⟨bx, 0, none⟩), x5, x6, x7, x8, x9, x10, x11, x12, x13, x14, x15, x16, x17, x18, x19, x20, x21, x22, x23, x24, x25, x26, x27, .agg #[.int .i64 pub, .slice t.a t.n t.c, .slice p.a p.n p.c], rv rb, .bool false, .bool false, undef, undef, undef, .bool false, .bool false, undef, undef, undef, .bool false, .bool false, undef, undef, undef, .bool false], []⟩ : Act)) (by kernel_rfl) (fun u hu => qv (pk_f (.tmp 41) (.tmp 44) (.const (.bool false)) _ (by kernel_rfl) (by kernel_rfl) (by kernel_rfl))) (by kernel_rfl) ?_
  refine qchn_step (b := (⟨#[x0, x1, .pointer (some ⟨ob, 0, none⟩), x3, .pointer (some ⟨bx, 0, none⟩), x5, x6, x7, x8, x9, x10, x11, x12, x13, x14, x15, x16, x17, x18, x19, x20, x21, x22, x23, x24, x25, x26, x27, .agg #[.int .i64 pub, .slice t.a t.n t.c, .slice p.a p.n p.c], rv rb, .bool false, .bool false, undef, undef, undef, .bool false, .bool false, undef, undef, undef, .bool false, .bool false, undef, undef, undef, .bool false], []⟩ : Act)) (by kernel_rfl) (fun u hu => qs (st78 (.tmp 2) (.tmp 28) ob pub t p (by kernel_rfl) (by kernel_rfl) (by kernel_rfl) (h1.q hu))) (by kernel_rfl) ?_
  refine qchn_step (b := (⟨#[x0, x1, .pointer (some ⟨ob, 0, none⟩), .bool false, .pointer (some ⟨bx, 0, none⟩), x5, x6, x7, x8, x9, x10, x11, x12, x13, x14, x15, x16, x17, x18, x19, x20, x21, x22, x23, x24, x25, x26, x27, .agg #[.int .i64 pub, .slice t.a t.n t.c, .slice p.a p.n p.c], rv rb, .bool false, .bool false, undef, undef, undef, .bool false, .bool false, undef, undef, undef, .bool false, .bool false, undef, undef, undef, .bool false], []⟩ : Act)) (by kernel_rfl) (fun u hu => qv (by kernel_rfl)) (by kernel_rfl) ?_
  trivial
set_option maxHeartbeats 16000000 in
theorem rq0 (rb ob bx : Nat) (pub : Int) (t p : Sv) (b2 b3 b4 : Bool) {x0 x1 x3 x5 x6 x7 x8 x9 x10 x11 x12 x13 x14 x15 x16 x17 x18 x19 x20 x21 x22 x23 x24 x25 x26 x27 x28 x29 x30 x31 x32 x33 x34 x35 x36 x37 x38 x39 x40 x41 x42 x43 x44 x45 : Value} (w : World) (R : Exit → Act → World → Prop) (h1 : OB w ob pub t p) (hbx : w.heap[bx]? = some (.cells #[.pointer (some ⟨rb, 0, none⟩)] 98 (0, 0))) (H64 : ∀ u, Q w u → Calls Try.prog 64 #[rv rb] u fun e u' => e = .returned (.bool false) ∧ Q w u')
    (H65 : ∀ u, Q w u → Calls Try.prog 65 #[.int .i64 pub] u fun e u' => e = .returned (.bool b2) ∧ Q w u') (H20 : ∀ u, Q w u → Calls Try.prog 20 #[.slice t.a t.n t.c] u fun e u' => e = .returned (.bool b3) ∧ Q w u') (H21 : ∀ u, Q w u → Calls Try.prog 21 #[.slice p.a p.n p.c] u fun e u' => e = .returned (.bool b4) ∧ Q w u')
    (h : ∀ W, (fun u => Q w u) W → R .normal (⟨#[x0, x1, .pointer (some ⟨ob, 0, none⟩), .bool false, .pointer (some ⟨bx, 0, none⟩), x5, x6, x7, x8, x9, x10, x11, x12, x13, x14, x15, x16, x17, x18, x19, x20, x21, x22, x23, x24, x25, x26, x27, .agg #[.int .i64 pub, .slice t.a t.n t.c, .slice p.a p.n p.c], rv rb, .bool false, .bool false, undef, undef, undef, .bool false, .bool false, undef, undef, undef, .bool false, .bool false, undef, undef, undef, .bool false], []⟩ : Act) W) : (Code.region 8 (RofN Try.f40 8) true).wp Try.prog R (⟨#[x0, x1, .pointer (some ⟨ob, 0, none⟩), x3, .pointer (some ⟨bx, 0, none⟩), x5, x6, x7, x8, x9, x10, x11, x12, x13, x14, x15, x16, x17, x18, x19, x20, x21, x22, x23, x24, x25, x26, x27, x28, x29, x30, x31, x32, x33, x34, x35, x36, x37, x38, x39, x40, x41, x42, x43, x44, x45], []⟩ : Act) w := by
  refine wp_region_quiet (C := (fun u => Q w u)) (by kernel_rfl) (by kernel_rfl) ((Q.refl w).drew) ?_
  refine qchn_all [some (.agg #[.int .i64 pub, .slice t.a t.n t.c, .slice p.a p.n p.c]), some (rv rb), some (.bool false), some (.bool false), none, none, none, some (.bool false), some (.bool false), none, none, none, some (.bool false), some (.bool false), none, none, none, some (.bool false), some (undef), some (.bool false)] _ (⟨#[x0, x1, .pointer (some ⟨ob, 0, none⟩), .bool false, .pointer (some ⟨bx, 0, none⟩), x5, x6, x7, x8, x9, x10, x11, x12, x13, x14, x15, x16, x17, x18, x19, x20, x21, x22, x23, x24, x25, x26, x27, .agg #[.int .i64 pub, .slice t.a t.n t.c, .slice p.a p.n p.c], rv rb, .bool false, .bool false, undef, undef, undef, .bool false, .bool false, undef, undef, undef, .bool false, .bool false, undef, undef, undef, .bool false], []⟩ : Act) (Nat.le_of_eq (by kernel_rfl)) (rq0c rb ob bx pub t p b2 b3 b4 h1 hbx H64 H65 H20 H21) (by kernel_rfl) ?_
  refine qend (by kernel_rfl) ?_
  exact h
set_option maxHeartbeats 16000000 in
theorem rq1c (rb ob bx : Nat) (pub : Int) (t p : Sv) (b2 b3 b4 : Bool) {x0 x1 x3 x5 x6 x7 x8 x9 x10 x11 x12 x13 x14 x15 x16 x17 x18 x19 x20 x21 x22 x23 x24 x25 x26 x27 x28 x29 x30 x31 x32 x33 x34 x35 x36 x37 x38 x39 x40 x41 x42 x43 x44 x45 : Value} {w : World} (h1 : OB w ob pub t p) (hbx : w.heap[bx]? = some (.cells #[.pointer (some ⟨rb, 0, none⟩)] 98 (0, 0))) (H64 : ∀ u, Q w u → Calls Try.prog 64 #[rv rb] u fun e u' => e = .returned (.bool true) ∧ Q w u')
    (H65 : ∀ u, Q w u → Calls Try.prog 65 #[.int .i64 pub] u fun e u' => e = .returned (.bool false) ∧ Q w u') (H20 : ∀ u, Q w u → Calls Try.prog 20 #[.slice t.a t.n t.c] u fun e u' => e = .returned (.bool b3) ∧ Q w u') (H21 : ∀ u, Q w u → Calls Try.prog 21 #[.slice p.a p.n p.c] u fun e u' => e = .returned (.bool b4) ∧ Q w u') : QChn Try.prog (RofN Try.f40 8) (fun u => Q w u) 0 [some (.agg #[.int .i64 pub, .slice t.a t.n t.c, .slice p.a p.n p.c]), some (rv rb), some (.bool true), some (.bool true), some (.pointer (some ⟨ob, 0, none⟩)), some (.int .i64 pub), some (.bool false), some (.bool false), some (.bool false), none, none, none, some (.bool false), some (.bool false), none, none, none, some (.bool false), some (undef), some (.bool false)] (⟨#[x0, x1, .pointer (some ⟨ob, 0, none⟩), x3, .pointer (some ⟨bx, 0, none⟩), x5, x6, x7, x8, x9, x10, x11, x12, x13, x14, x15, x16, x17, x18, x19, x20, x21, x22, x23, x24, x25, x26, x27, x28, x29, x30, x31, x32, x33, x34, x35, x36, x37, x38, x39, x40, x41, x42, x43, x44, x45], []⟩ : Act) := by
  refine qchn_step (b := (⟨#[x0, x1, .pointer (some ⟨ob, 0, none⟩), x3, .pointer (some ⟨bx, 0, none⟩), x5, x6, x7, x8, x9, x10, x11, x12, x13, x14, x15, x16, x17, x18, x19, x20, x21, x22, x23, x24, x25, x26, x27, .agg #[.int .i64 pub, .slice t.a t.n t.c, .slice p.a p.n p.c], x29, x30, x31, x32, x33, x34, x35, x36, x37, x38, x39, x40, x41, x42, x43, x44, x45], []⟩ : Act)) (by kernel_rfl) (fun u hu => qv (ld_t 78 (.tmp 2) ob 0 (by kernel_rfl) (by kernel_rfl) (ld78 (h1.q hu)))) (by kernel_rfl) ?_
  refine qchn_step (b := (⟨#[x0, x1, .pointer (some ⟨ob, 0, none⟩), x3, .pointer (some ⟨bx, 0, none⟩), x5, x6, x7, x8, x9, x10, x11, x12, x13, x14, x15, x16, x17, x18, x19, x20, x21, x22, x23, x24, x25, x26, x27, .agg #[.int .i64 pub, .slice t.a t.n t.c, .slice p.a p.n p.c], rv rb, x30, x31, x32, x33, x34, x35, x36, x37, x38, x39, x40, x41, x42, x43, x44, x45], []⟩ : Act)) (by kernel_rfl) (fun u hu => qv (ld_t 98 (.tmp 4) bx 0 (by kernel_rfl) (by kernel_rfl) (ld98 (blk_q hu hbx)))) (by kernel_rfl) ?_
  refine qchn_step (b := (⟨#[x0, x1, .pointer (some ⟨ob, 0, none⟩), x3, .pointer (some ⟨bx, 0, none⟩), x5, x6, x7, x8, x9, x10, x11, x12, x13, x14, x15, x16, x17, x18, x19, x20, x21, x22, x23, x24, x25, x26, x27, .agg #[.int .i64 pub, .slice t.a t.n t.c, .slice p.a p.n p.c], rv rb, .bool true, x31, x32, x33, x34, x35, x36, x37, x38, x39, x40, x41, x42, x43, x44, x45], []⟩ : Act)) (by kernel_rfl) (fun u hu => qc 64 #[rv rb] (by kernel_rfl) (H64 u hu)) (by kernel_rfl) ?_
  refine qchn_step (b := (⟨#[x0, x1, .pointer (some ⟨ob, 0, none⟩), x3, .pointer (some ⟨bx, 0, none⟩), x5, x6, x7, x8, x9, x10, x11, x12, x13, x14, x15, x16, x17, x18, x19, x20, x21, x22, x23, x24, x25, x26, x27, .agg #[.int .i64 pub, .slice t.a t.n t.c, .slice p.a p.n p.c], rv rb, .bool true, .bool true, x32, x33, x34, x35, x36, x37, x38, x39, x40, x41, x42, x43, x44, x45], []⟩ : Act)) (by kernel_rfl) (fun u hu => qv (by kernel_rfl)) (by kernel_rfl) ?_
  refine qchn_step (b := (⟨#[x0, x1, .pointer (some ⟨ob, 0, none⟩), x3, .pointer (some ⟨bx, 0, none⟩), x5, x6, x7, x8, x9, x10, x11, x12, x13, x14, x15, x16, x17, x18, x19, x20, x21, x22, x23, x24, x25, x26, x27, .agg #[.int .i64 pub, .slice t.a t.n t.c, .slice p.a p.n p.c], rv rb, .bool true, .bool true, .pointer (some ⟨ob, 0, none⟩), x33, x34, x35, x36, x37, x38, x39, x40, x41, x42, x43, x44, x45], []⟩ : Act)) (by kernel_rfl) (fun u hu => qv (by kernel_rfl)) (by kernel_rfl) ?_
  refine qchn_step (b := (⟨#[x0, x1, .pointer (some ⟨ob, 0, none⟩), x3, .pointer (some ⟨bx, 0, none⟩), x5, x6, x7, x8, x9, x10, x11, x12, x13, x14, x15, x16, x17, x18, x19, x20, x21, x22, x23, x24, x25, x26, x27, .agg #[.int .i64 pub, .slice t.a t.n t.c, .slice p.a p.n p.c], rv rb, .bool true, .bool true, .pointer (some ⟨ob, 0, none⟩), .int .i64 pub, x34, x35, x36, x37, x38, x39, x40, x41, x42, x43, x44, x45], []⟩ : Act)) (by kernel_rfl) (fun u hu => qv (ld_t 3 (.tmp 32) ob 0 (by kernel_rfl) (by kernel_rfl) (ld3' (h1.q hu).c0))) (by kernel_rfl) ?_
  refine qchn_step (b := (⟨#[x0, x1, .pointer (some ⟨ob, 0, none⟩), x3, .pointer (some ⟨bx, 0, none⟩), x5, x6, x7, x8, x9, x10, x11, x12, x13, x14, x15, x16, x17, x18, x19, x20, x21, x22, x23, x24, x25, x26, x27, .agg #[.int .i64 pub, .slice t.a t.n t.c, .slice p.a p.n p.c], rv rb, .bool true, .bool true, .pointer (some ⟨ob, 0, none⟩), .int .i64 pub, .bool false, x35, x36, x37, x38, x39, x40, x41, x42, x43, x44, x45], []⟩ : Act)) (by kernel_rfl) (fun u hu => qc 65 #[.int .i64 pub] (by kernel_rfl) (H65 u hu)) (by kernel_rfl) ?_
  refine qchn_step (b := (⟨#[x0, x1, .pointer (some ⟨ob, 0, none⟩), x3, .pointer (some ⟨bx, 0, none⟩), x5, x6, x7, x8, x9, x10, x11, x12, x13, x14, x15, x16, x17, x18, x19, x20, x21, x22, x23, x24, x25, x26, x27, .agg #[.int .i64 pub, .slice t.a t.n t.c, .slice p.a p.n p.c], rv rb, .bool true, .bool true, .pointer (some ⟨ob, 0, none⟩), .int .i64 pub, .bool false, .bool false, x36, x37, x38, x39, x40, x41, x42, x43, x44, x45], []⟩ : Act)) (by kernel_rfl) (fun u hu => qv (pk_t (.tmp 31) (.tmp 34) (.const (.bool false)) _ (by kernel_rfl) (by kernel_rfl) (by kernel_rfl))) (by kernel_rfl) ?_
  refine qchn_step (b := (⟨#[x0, x1, .pointer (some ⟨ob, 0, none⟩), x3, .pointer (some ⟨bx, 0, none⟩), x5, x6, x7, x8, x9, x10, x11, x12, x13, x14, x15, x16, x17, x18, x19, x20, x21, x22, x23, x24, x25, x26, x27, .agg #[.int .i64 pub, .slice t.a t.n t.c, .slice p.a p.n p.c], rv rb, .bool true, .bool true, .pointer (some ⟨ob, 0, none⟩), .int .i64 pub, .bool false, .bool false, .bool false, x37, x38, x39, x40, x41, x42, x43, x44, x45], []⟩ : Act)) (by kernel_rfl) (fun u hu => qv (by kernel_rfl)) (by kernel_rfl) ?_
  refine qchn_skip (b := (⟨#[x0, x1, .pointer (some ⟨ob, 0, none⟩), x3, .pointer (some ⟨bx, 0, none⟩), x5, x6, x7, x8, x9, x10, x11, x12, x13, x14, x15, x16, x17, x18, x19, x20, x21, x22, x23, x24, x25, x26, x27, .agg #[.int .i64 pub, .slice t.a t.n t.c, .slice p.a p.n p.c], rv rb, .bool true, .bool true, .pointer (some ⟨ob, 0, none⟩), .int .i64 pub, .bool false, .bool false, .bool false, undef, x38, x39, x40, x41, x42, x43, x44, x45], []⟩ : Act)) (by kernel_rfl) (by kernel_rfl) ?_
  refine qchn_skip (b := (⟨#[x0, x1, .pointer (some ⟨ob, 0, none⟩), x3, .pointer (some ⟨bx, 0, none⟩), x5, x6, x7, x8, x9, x10, x11, x12, x13, x14, x15, x16, x17, x18, x19, x20, x21, x22, x23, x24, x25, x26, x27, .agg #[.int .i64 pub, .slice t.a t.n t.c, .slice p.a p.n p.c], rv rb, .bool true, .bool true, .pointer (some ⟨ob, 0, none⟩), .int .i64 pub, .bool false, .bool false, .bool false, undef, undef, x39, x40, x41, x42, x43, x44, x45], []⟩ : Act)) (by kernel_rfl) (by kernel_rfl) ?_
  refine qchn_skip (b := (⟨#[x0, x1, .pointer (some ⟨ob, 0, none⟩), x3, .pointer (some ⟨bx, 0, none⟩), x5, x6, x7, x8, x9, x10, x11, x12, x13, x14, x15, x16, x17, x18, x19, x20, x21, x22, x23, x24, x25, x26, x27, .agg #[.int .i64 pub, .slice t.a t.n t.c, .slice p.a p.n p.c], rv rb, .bool true, .bool true, .pointer (some ⟨ob, 0, none⟩), .int .i64 pub, .bool false, .bool false, .bool false, undef, undef, undef, x40, x41, x42, x43, x44, x45], []⟩ : Act)) (by kernel_rfl) (by kernel_rfl) ?_
  refine qchn_step (b := (⟨#[x0, x1, .pointer (some ⟨ob, 0, none⟩), x3, .pointer (some ⟨bx, 0, none⟩), x5, x6, x7, x8, x9, x10, x11, x12, x13, x14, x15, x16, x17, x18, x19, x20, x21, x22, x23, x24, x25, x26, x27, .agg #[.int .i64 pub, .slice t.a t.n t.c, .slice p.a p.n p.c], rv rb, .bool true, .bool true, .pointer (some ⟨ob, 0, none⟩), .int .i64 pub, .bool false, .bool false, .bool false, undef, undef, undef, .bool false, x41, x42, x43, x44, x45], []⟩ : Act)) (by kernel_rfl) (fun u hu => qv (pk_f (.tmp 36) (.tmp 39) (.const (.bool false)) _ (by kernel_rfl) (by kernel_rfl) (by kernel_rfl))) (by kernel_rfl) ?_
  refine qchn_step (b := (⟨#[x0, x1, .pointer (some ⟨ob, 0, none⟩), x3, .pointer (some ⟨bx, 0, none⟩), x5, x6, x7, x8, x9, x10, x11, x12, x13, x14, x15, x16, x17, x18, x19, x20, x21, x22, x23, x24, x25, x26, x27, .agg #[.int .i64 pub, .slice t.a t.n t.c, .slice p.a p.n p.c], rv rb, .bool true, .bool true, .pointer (some ⟨ob, 0, none⟩), .int .i64 pub, .bool false, .bool false, .bool false, undef, undef, undef, .bool false, .bool false, x42, x43, x44, x45], []⟩ : Act)) (by kernel_rfl) (fun u hu => qv (by kernel_rfl)) (by kernel_rfl) ?_
  refine qchn_skip (b := (⟨#[x0, x1, .pointer (some ⟨ob, 0, none⟩), x3, .pointer (some ⟨bx, 0, none⟩), x5, x6, x7, x8, x9, x10, x11, x12, x13, x14, x15, x16, x17, x18, x19, x20, x21, x22, x23, x24, x25, x26, x27, .agg #[.int .i64 pub, .slice t.a t.n t.c, .slice p.a p.n p.c], rv rb, .bool true, .bool true, .pointer (some ⟨ob, 0, none⟩), .int .i64 pub, .bool false, .bool false, .bool false, undef, undef, undef, .bool false, .bool false, undef, x43, x44, x45], []⟩ : Act)) (by kernel_rfl) (by kernel_rfl) ?_
  refine qchn_skip (b := (⟨#[x0, x1, .pointer (some ⟨ob, 0, none⟩), x3, .pointer (some ⟨bx, 0, none⟩), x5, x6, x7, x8, x9, x10, x11, x12, x13, x14, x15, x16, x17, x18, x19, x20, x21, x22, x23, x24, x25, x26, x27, .agg #[.int .i64 pub, .slice t.a t.n t.c, .slice p.a p.n p.c], rv rb, .bool true, .bool true, .pointer (some ⟨ob, 0, none⟩), .int .i64 pub, .bool false, .bool false, .bool false, undef, undef, undef, .bool false, .bool false, undef, undef, x44, x45], []⟩ : Act)) (by kernel_rfl) (by kernel_rfl) ?_
  refine qchn_skip (b := (⟨#[x0, x1, .pointer (some ⟨ob, 0, none⟩), x3, .pointer (some ⟨bx, 0, none⟩), x5, x6, x7, x8, x9, x10, x11, x12, x13, x14, x15, x16, x17, x18, x19, x20, x21, x22, x23, x24, x25, x26, x27, .agg #[.int .i64 pub, .slice t.a t.n t.c, .slice p.a p.n p.c], rv rb, .bool true, .bool true, .pointer (some ⟨ob, 0, none⟩), .int .i64 pub, .bool false, .bool false, .bool false, undef, undef, undef, .bool false, .bool false, undef, undef, undef, x45], []⟩ : Act)) (by kernel_rfl) (by kernel_rfl) ?_
  refine qchn_step (b := (⟨#[x0, x1, .pointer (some ⟨ob, 0, none⟩), x3, .pointer (some ⟨bx, 0, none⟩), x5, x6, x7, x8, x9, x10, x11, x12, x13, x14, x15, x16, x17, x18, x19, x20, x21, x22, x23, x24, x25, x26, x27, .agg #[.int .i64 pub, .slice t.a t.n t.c, .slice p.a p.n p.c], rv rb, .bool true, .bool true, .pointer (some ⟨ob, 0, none⟩), .int .i64 pub, .bool false, .bool false, .bool false, undef, undef, undef, .bool false, .bool false, undef, undef, undef, .bool false], []⟩ : Act)) (by kernel_rfl) (fun u hu => qv (pk_f (.tmp 41) (.tmp 44) (.const (.bool false)) _ (by kernel_rfl) (by kernel_rfl) (by kernel_rfl))) (by kernel_rfl) ?_
  refine qchn_step (b := (⟨#[x0, x1, .pointer (some ⟨ob, 0, none⟩), x3, .pointer (some ⟨bx, 0, none⟩), x5, x6, x7, x8, x9, x10, x11, x12, x13, x14, x15, x16, x17, x18, x19, x20, x21, x22, x23, x24, x25, x26, x27, .agg #[.int .i64 pub, .slice t.a t.n t.c, .slice p.a p.n p.c], rv rb, .bool true, .bool true, .pointer (some ⟨ob, 0, none⟩), .int .i64 pub, .bool false, .bool false, .bool false, undef, undef, undef, .bool false, .bool false, undef, undef, undef, .bool false], []⟩ : Act)) (by kernel_rfl) (fun u hu => qs (st78 (.tmp 2) (.tmp 28) ob pub t p (by kernel_rfl) (by kernel_rfl) (by kernel_rfl) (h1.q hu))) (by kernel_rfl) ?_
  refine qchn_step (b := (⟨#[x0, x1, .pointer (some ⟨ob, 0, none⟩), .bool false, .pointer (some ⟨bx, 0, none⟩), x5, x6, x7, x8, x9, x10, x11, x12, x13, x14, x15, x16, x17, x18, x19, x20, x21, x22, x23, x24, x25, x26, x27, .agg #[.int .i64 pub, .slice t.a t.n t.c, .slice p.a p.n p.c], rv rb, .bool true, .bool true, .pointer (some ⟨ob, 0, none⟩), .int .i64 pub, .bool false, .bool false, .bool false, undef, undef, undef, .bool false, .bool false, undef, undef, undef, .bool false], []⟩ : Act)) (by kernel_rfl) (fun u hu => qv (by kernel_rfl)) (by kernel_rfl) ?_
  trivial
set_option maxHeartbeats 16000000 in
theorem rq1 (rb ob bx : Nat) (pub : Int) (t p : Sv) (b2 b3 b4 : Bool) {x0 x1 x3 x5 x6 x7 x8 x9 x10 x11 x12 x13 x14 x15 x16 x17 x18 x19 x20 x21 x22 x23 x24 x25 x26 x27 x28 x29 x30 x31 x32 x33 x34 x35 x36 x37 x38 x39 x40 x41 x42 x43 x44 x45 : Value} (w : World) (R : Exit → Act → World → Prop) (h1 : OB w ob pub t p) (hbx : w.heap[bx]? = some (.cells #[.pointer (some ⟨rb, 0, none⟩)] 98 (0, 0))) (H64 : ∀ u, Q w u → Calls Try.prog 64 #[rv rb] u fun e u' => e = .returned (.bool true) ∧ Q w u')
    (H65 : ∀ u, Q w u → Calls Try.prog 65 #[.int .i64 pub] u fun e u' => e = .returned (.bool false) ∧ Q w u') (H20 : ∀ u, Q w u → Calls Try.prog 20 #[.slice t.a t.n t.c] u fun e u' => e = .returned (.bool b3) ∧ Q w u') (H21 : ∀ u, Q w u → Calls Try.prog 21 #[.slice p.a p.n p.c] u fun e u' => e = .returned (.bool b4) ∧ Q w u')
    (h : ∀ W, (fun u => Q w u) W → R .normal (⟨#[x0, x1, .pointer (some ⟨ob, 0, none⟩), .bool false, .pointer (some ⟨bx, 0, none⟩), x5, x6, x7, x8, x9, x10, x11, x12, x13, x14, x15, x16, x17, x18, x19, x20, x21, x22, x23, x24, x25, x26, x27, .agg #[.int .i64 pub, .slice t.a t.n t.c, .slice p.a p.n p.c], rv rb, .bool true, .bool true, .pointer (some ⟨ob, 0, none⟩), .int .i64 pub, .bool false, .bool false, .bool false, undef, undef, undef, .bool false, .bool false, undef, undef, undef, .bool false], []⟩ : Act) W) : (Code.region 8 (RofN Try.f40 8) true).wp Try.prog R (⟨#[x0, x1, .pointer (some ⟨ob, 0, none⟩), x3, .pointer (some ⟨bx, 0, none⟩), x5, x6, x7, x8, x9, x10, x11, x12, x13, x14, x15, x16, x17, x18, x19, x20, x21, x22, x23, x24, x25, x26, x27, x28, x29, x30, x31, x32, x33, x34, x35, x36, x37, x38, x39, x40, x41, x42, x43, x44, x45], []⟩ : Act) w := by
  refine wp_region_quiet (C := (fun u => Q w u)) (by kernel_rfl) (by kernel_rfl) ((Q.refl w).drew) ?_
  refine qchn_all [some (.agg #[.int .i64 pub, .slice t.a t.n t.c, .slice p.a p.n p.c]), some (rv rb), some (.bool true), some (.bool true), some (.pointer (some ⟨ob, 0, none⟩)), some (.int .i64 pub), some (.bool false), some (.bool false), some (.bool false), none, none, none, some (.bool false), some (.bool false), none, none, none, some (.bool false), some (undef), some (.bool false)] _ (⟨#[x0, x1, .pointer (some ⟨ob, 0, none⟩), .bool false, .pointer (some ⟨bx, 0, none⟩), x5, x6, x7, x8, x9, x10, x11, x12, x13, x14, x15, x16, x17, x18, x19, x20, x21, x22, x23, x24, x25, x26, x27, .agg #[.int .i64 pub, .slice t.a t.n t.c, .slice p.a p.n p.c], rv rb, .bool true, .bool true, .pointer (some ⟨ob, 0, none⟩), .int .i64 pub, .bool false, .bool false, .bool false, undef, undef, undef, .bool false, .bool false, undef, undef, undef, .bool false], []⟩ : Act) (Nat.le_of_eq (by kernel_rfl)) (rq1c rb ob bx pub t p b2 b3 b4 h1 hbx H64 H65 H20 H21) (by kernel_rfl) ?_
  refine qend (by kernel_rfl) ?_
  exact h
set_option maxHeartbeats 16000000 in
theorem rq2c (rb ob bx : Nat) (pub : Int) (t p : Sv) (b2 b3 b4 : Bool) {x0 x1 x3 x5 x6 x7 x8 x9 x10 x11 x12 x13 x14 x15 x16 x17 x18 x19 x20 x21 x22 x23 x24 x25 x26 x27 x28 x29 x30 x31 x32 x33 x34 x35 x36 x37 x38 x39 x40 x41 x42 x43 x44 x45 : Value} {w : World} (h1 : OB w ob pub t p) (hbx : w.heap[bx]? = some (.cells #[.pointer (some ⟨rb, 0, none⟩)] 98 (0, 0))) (H64 : ∀ u, Q w u → Calls Try.prog 64 #[rv rb] u fun e u' => e = .returned (.bool true) ∧ Q w u')
    (H65 : ∀ u, Q w u → Calls Try.prog 65 #[.int .i64 pub] u fun e u' => e = .returned (.bool true) ∧ Q w u') (H20 : ∀ u, Q w u → Calls Try.prog 20 #[.slice t.a t.n t.c] u fun e u' => e = .returned (.bool false) ∧ Q w u') (H21 : ∀ u, Q w u → Calls Try.prog 21 #[.slice p.a p.n p.c] u fun e u' => e = .returned (.bool b4) ∧ Q w u') : QChn Try.prog (RofN Try.f40 8) (fun u => Q w u) 0 [some (.agg #[.int .i64 pub, .slice t.a t.n t.c, .slice p.a p.n p.c]), some (rv rb), some (.bool true), some (.bool true), some (.pointer (some ⟨ob, 0, none⟩)), some (.int .i64 pub), some (.bool true), some (.bool true), some (.bool true), some (.pointer (some ⟨ob, 1, none⟩)), some (.slice t.a t.n t.c), some (.bool false), some (.bool false), some (.bool false), none, none, none, some (.bool false), some (undef), some (.bool false)] (⟨#[x0, x1, .pointer (some ⟨ob, 0, none⟩), x3, .pointer (some ⟨bx, 0, none⟩), x5, x6, x7, x8, x9, x10, x11, x12, x13, x14, x15, x16, x17, x18, x19, x20, x21, x22, x23, x24, x25, x26, x27, x28, x29, x30, x31, x32, x33, x34, x35, x36, x37, x38, x39, x40, x41, x42, x43, x44, x45], []⟩ : Act) := by
  refine qchn_step (b := (⟨#[x0, x1, .pointer (some ⟨ob, 0, none⟩), x3, .pointer (some ⟨bx, 0, none⟩), x5, x6, x7, x8, x9, x10, x11, x12, x13, x14, x15, x16, x17, x18, x19, x20, x21, x22, x23, x24, x25, x26, x27, .agg #[.int .i64 pub, .slice t.a t.n t.c, .slice p.a p.n p.c], x29, x30, x31, x32, x33, x34, x35, x36, x37, x38, x39, x40, x41, x42, x43, x44, x45], []⟩ : Act)) (by kernel_rfl) (fun u hu => qv (ld_t 78 (.tmp 2) ob 0 (by kernel_rfl) (by kernel_rfl) (ld78 (h1.q hu)))) (by kernel_rfl) ?_
  refine qchn_step (b := (⟨#[x0, x1, .pointer (some ⟨ob, 0, none⟩), x3, .pointer (some ⟨bx, 0, none⟩), x5, x6, x7, x8, x9, x10, x11, x12, x13, x14, x15, x16, x17, x18, x19, x20, x21, x22, x23, x24, x25, x26, x27, .agg #[.int .i64 pub, .slice t.a t.n t.c, .slice p.a p.n p.c], rv rb, x30, x31, x32, x33, x34, x35, x36, x37, x38, x39, x40, x41, x42, x43, x44, x45], []⟩ : Act)) (by kernel_rfl) (fun u hu => qv (ld_t 98 (.tmp 4) bx 0 (by kernel_rfl) (by kernel_rfl) (ld98 (blk_q hu hbx)))) (by kernel_rfl) ?_
  refine qchn_step (b := (⟨#[x0, x1, .pointer (some ⟨ob, 0, none⟩), x3, .pointer (some ⟨bx, 0, none⟩), x5, x6, x7, x8, x9, x10, x11, x12, x13, x14, x15, x16, x17, x18, x19, x20, x21, x22, x23, x24, x25, x26, x27, .agg #[.int .i64 pub, .slice t.a t.n t.c, .slice p.a p.n p.c], rv rb, .bool true, x31, x32, x33, x34, x35, x36, x37, x38, x39, x40, x41, x42, x43, x44, x45], []⟩ : Act)) (by kernel_rfl) (fun u hu => qc 64 #[rv rb] (by kernel_rfl) (H64 u hu)) (by kernel_rfl) ?_
  refine qchn_step (b := (⟨#[x0, x1, .pointer (some ⟨ob, 0, none⟩), x3, .pointer (some ⟨bx, 0, none⟩), x5, x6, x7, x8, x9, x10, x11, x12, x13, x14, x15, x16, x17, x18, x19, x20, x21, x22, x23, x24, x25, x26, x27, .agg #[.int .i64 pub, .slice t.a t.n t.c, .slice p.a p.n p.c], rv rb, .bool true, .bool true, x32, x33, x34, x35, x36, x37, x38, x39, x40, x41, x42, x43, x44, x45], []⟩ : Act)) (by kernel_rfl) (fun u hu => qv (by kernel_rfl)) (by kernel_rfl) ?_
  refine qchn_step (b := (⟨#[x0, x1, .pointer (some ⟨ob, 0, none⟩), x3, .pointer (some ⟨bx, 0, none⟩), x5, x6, x7, x8, x9, x10, x11, x12, x13, x14, x15, x16, x17, x18, x19, x20, x21, x22, x23, x24, x25, x26, x27, .agg #[.int .i64 pub, .slice t.a t.n t.c, .slice p.a p.n p.c], rv rb, .bool true, .bool true, .pointer (some ⟨ob, 0, none⟩), x33, x34, x35, x36, x37, x38, x39, x40, x41, x42, x43, x44, x45], []⟩ : Act)) (by kernel_rfl) (fun u hu => qv (by kernel_rfl)) (by kernel_rfl) ?_
  refine qchn_step (b := (⟨#[x0, x1, .pointer (some ⟨ob, 0, none⟩), x3, .pointer (some ⟨bx, 0, none⟩), x5, x6, x7, x8, x9, x10, x11, x12, x13, x14, x15, x16, x17, x18, x19, x20, x21, x22, x23, x24, x25, x26, x27, .agg #[.int .i64 pub, .slice t.a t.n t.c, .slice p.a p.n p.c], rv rb, .bool true, .bool true, .pointer (some ⟨ob, 0, none⟩), .int .i64 pub, x34, x35, x36, x37, x38, x39, x40, x41, x42, x43, x44, x45], []⟩ : Act)) (by kernel_rfl) (fun u hu => qv (ld_t 3 (.tmp 32) ob 0 (by kernel_rfl) (by kernel_rfl) (ld3' (h1.q hu).c0))) (by kernel_rfl) ?_
  refine qchn_step (b := (⟨#[x0, x1, .pointer (some ⟨ob, 0, none⟩), x3, .pointer (some ⟨bx, 0, none⟩), x5, x6, x7, x8, x9, x10, x11, x12, x13, x14, x15, x16, x17, x18, x19, x20, x21, x22, x23, x24, x25, x26, x27, .agg #[.int .i64 pub, .slice t.a t.n t.c, .slice p.a p.n p.c], rv rb, .bool true, .bool true, .pointer (some ⟨ob, 0, none⟩), .int .i64 pub, .bool true, x35, x36, x37, x38, x39, x40, x41, x42, x43, x44, x45], []⟩ : Act)) (by kernel_rfl) (fun u hu => qc 65 #[.int .i64 pub] (by kernel_rfl) (H65 u hu)) (by kernel_rfl) ?_
  refine qchn_step (b := (⟨#[x0, x1, .pointer (some ⟨ob, 0, none⟩), x3, .pointer (some ⟨bx, 0, none⟩), x5, x6, x7, x8, x9, x10, x11, x12, x13, x14, x15, x16, x17, x18, x19, x20, x21, x22, x23, x24, x25, x26, x27, .agg #[.int .i64 pub, .slice t.a t.n t.c, .slice p.a p.n p.c], rv rb, .bool true, .bool true, .pointer (some ⟨ob, 0, none⟩), .int .i64 pub, .bool true, .bool true, x36, x37, x38, x39, x40, x41, x42, x43, x44, x45], []⟩ : Act)) (by kernel_rfl) (fun u hu => qv (pk_t (.tmp 31) (.tmp 34) (.const (.bool false)) _ (by kernel_rfl) (by kernel_rfl) (by kernel_rfl))) (by kernel_rfl) ?_
  refine qchn_step (b := (⟨#[x0, x1, .pointer (some ⟨ob, 0, none⟩), x3, .pointer (some ⟨bx, 0, none⟩), x5, x6, x7, x8, x9, x10, x11, x12, x13, x14, x15, x16, x17, x18, x19, x20, x21, x22, x23, x24, x25, x26, x27, .agg #[.int .i64 pub, .slice t.a t.n t.c, .slice p.a p.n p.c], rv rb, .bool true, .bool true, .pointer (some ⟨ob, 0, none⟩), .int .i64 pub, .bool true, .bool true, .bool true, x37, x38, x39, x40, x41, x42, x43, x44, x45], []⟩ : Act)) (by kernel_rfl) (fun u hu => qv (by kernel_rfl)) (by kernel_rfl) ?_
  refine qchn_step (b := (⟨#[x0, x1, .pointer (some ⟨ob, 0, none⟩), x3, .pointer (some ⟨bx, 0, none⟩), x5, x6, x7, x8, x9, x10, x11, x12, x13, x14, x15, x16, x17, x18, x19, x20, x21, x22, x23, x24, x25, x26, x27, .agg #[.int .i64 pub, .slice t.a t.n t.c, .slice p.a p.n p.c], rv rb, .bool true, .bool true, .pointer (some ⟨ob, 0, none⟩), .int .i64 pub, .bool true, .bool true, .bool true, .pointer (some ⟨ob, 1, none⟩), x38, x39, x40, x41, x42, x43, x44, x45], []⟩ : Act)) (by kernel_rfl) (fun u hu => qv (by kernel_rfl)) (by kernel_rfl) ?_
  refine qchn_step (b := (⟨#[x0, x1, .pointer (some ⟨ob, 0, none⟩), x3, .pointer (some ⟨bx, 0, none⟩), x5, x6, x7, x8, x9, x10, x11, x12, x13, x14, x15, x16, x17, x18, x19, x20, x21, x22, x23, x24, x25, x26, x27, .agg #[.int .i64 pub, .slice t.a t.n t.c, .slice p.a p.n p.c], rv rb, .bool true, .bool true, .pointer (some ⟨ob, 0, none⟩), .int .i64 pub, .bool true, .bool true, .bool true, .pointer (some ⟨ob, 1, none⟩), .slice t.a t.n t.c, x39, x40, x41, x42, x43, x44, x45], []⟩ : Act)) (by kernel_rfl) (fun u hu => qv (ld_t 23 (.tmp 37) ob 1 (by kernel_rfl) (by kernel_rfl) (ld23 (h1.q hu).c1))) (by kernel_rfl) ?_
  refine qchn_step (b := (⟨#[x0, x1, .pointer (some ⟨ob, 0, none⟩), x3, .pointer (some ⟨bx, 0, none⟩), x5, x6, x7, x8, x9, x10, x11, x12, x13, x14, x15, x16, x17, x18, x19, x20, x21, x22, x23, x24, x25, x26, x27, .agg #[.int .i64 pub, .slice t.a t.n t.c, .slice p.a p.n p.c], rv rb, .bool true, .bool true, .pointer (some ⟨ob, 0, none⟩), .int .i64 pub, .bool true, .bool true, .bool true, .pointer (some ⟨ob, 1, none⟩), .slice t.a t.n t.c, .bool false, x40, x41, x42, x43, x44, x45], []⟩ : Act)) (by kernel_rfl) (fun u hu => qc 20 #[.slice t.a t.n t.c] (by kernel_rfl) (H20 u hu)) (by kernel_rfl) ?_
  refine qchn_step (b := (⟨#[x0, x1, .pointer (some ⟨ob, 0, none⟩), x3, .pointer (some ⟨bx, 0, none⟩), x5, x6, x7, x8, x9, x10, x11, x12, x13, x14, x15, x16, x17, x18, x19, x20, x21, x22, x23, x24, x25, x26, x27, .agg #[.int .i64 pub, .slice t.a t.n t.c, .slice p.a p.n p.c], rv rb, .bool true, .bool true, .pointer (some ⟨ob, 0, none⟩), .int .i64 pub, .bool true, .bool true, .bool true, .pointer (some ⟨ob, 1, none⟩), .slice t.a t.n t.c, .bool false, .bool false, x41, x42, x43, x44, x45], []⟩ : Act)) (by kernel_rfl) (fun u hu => qv (pk_t (.tmp 36) (.tmp 39) (.const (.bool false)) _ (by kernel_rfl) (by kernel_rfl) (by kernel_rfl))) (by kernel_rfl) ?_
  refine qchn_step (b := (⟨#[x0, x1, .pointer (some ⟨ob, 0, none⟩), x3, .pointer (some ⟨bx, 0, none⟩), x5, x6, x7, x8, x9, x10, x11, x12, x13, x14, x15, x16, x17, x18, x19, x20, x21, x22, x23, x24, x25, x26, x27, .agg #[.int .i64 pub, .slice t.a t.n t.c, .slice p.a p.n p.c], rv rb, .bool true, .bool true, .pointer (some ⟨ob, 0, none⟩), .int .i64 pub, .bool true, .bool true, .bool true, .pointer (some ⟨ob, 1, none⟩), .slice t.a t.n t.c, .bool false, .bool false, .bool false, x42, x43, x44, x45], []⟩ : Act)) (by kernel_rfl) (fun u hu => qv (by kernel_rfl)) (by kernel_rfl) ?_
  refine qchn_skip (b := (⟨#[x0, x1, .pointer (some ⟨ob, 0, none⟩), x3, .pointer (some ⟨bx, 0, none⟩), x5, x6, x7, x8, x9, x10, x11, x12, x13, x14, x15, x16, x17, x18, x19, x20, x21, x22, x23, x24, x25, x26, x27, .agg #[.int .i64 pub, .slice t.a t.n t.c, .slice p.a p.n p.c], rv rb, .bool true, .bool true, .pointer (some ⟨ob, 0, none⟩), .int .i64 pub, .bool true, .bool true, .bool true, .pointer (some ⟨ob, 1, none⟩), .slice t.a t.n t.c, .bool false, .bool false, .bool false, undef, x43, x44, x45], []⟩ : Act)) (by kernel_rfl) (by kernel_rfl) ?_
  refine qchn_skip (b := (⟨#[x0, x1, .pointer (some ⟨ob, 0, none⟩), x3, .pointer (some ⟨bx, 0, none⟩), x5, x6, x7, x8, x9, x10, x11, x12, x13, x14, x15, x16, x17, x18, x19, x20, x21, x22, x23, x24, x25, x26, x27, .agg #[.int .i64 pub, .slice t.a t.n t.c, .slice p.a p.n p.c], rv rb, .bool true, .bool true, .pointer (some ⟨ob, 0, none⟩), .int .i64 pub, .bool true, .bool true, .bool true, .pointer (some ⟨ob, 1, none⟩), .slice t.a t.n t.c, .bool false, .bool false, .bool false, undef, undef, x44, x45], []⟩ : Act)) (by kernel_rfl) (by kernel_rfl) ?_
  refine qchn_skip (b := (⟨#[x0, x1, .pointer (some ⟨ob, 0, none⟩), x3, .pointer (some ⟨bx, 0, none⟩), x5, x6, x7, x8, x9, x10, x11, x12, x13, x14, x15, x16, x17, x18, x19, x20, x21, x22, x23, x24, x25, x26, x27, .agg #[.int .i64 pub, .slice t.a t.n t.c, .slice p.a p.n p.c], rv rb, .bool true, .bool true, .pointer (some ⟨ob, 0, none⟩), .int .i64 pub, .bool true, .bool true, .bool true, .pointer (some ⟨ob, 1, none⟩), .slice t.a t.n t.c, .bool false, .bool false, .bool false, undef, undef, undef, x45], []⟩ : Act)) (by kernel_rfl) (by kernel_rfl) ?_
  refine qchn_step (b := (⟨#[x0, x1, .pointer (some ⟨ob, 0, none⟩), x3, .pointer (some ⟨bx, 0, none⟩), x5, x6, x7, x8, x9, x10, x11, x12, x13, x14, x15, x16, x17, x18, x19, x20, x21, x22, x23, x24, x25, x26, x27, .agg #[.int .i64 pub, .slice t.a t.n t.c, .slice p.a p.n p.c], rv rb, .bool true, .bool true, .pointer (some ⟨ob, 0, none⟩), .int .i64 pub, .bool true, .bool true, .bool true, .pointer (some ⟨ob, 1, none⟩), .slice t.a t.n t.c, .bool false, .bool false, .bool false, undef, undef, undef, .bool false], []⟩ : Act)) (by kernel_rfl) (fun u hu => qv (pk_f (.tmp 41) (.tmp 44) (.const (.bool false)) _ (by kernel_rfl) (by kernel_rfl) (by kernel_rfl))) (by kernel_rfl) ?_
  refine qchn_step (b := (⟨#[x0, x1, .pointer (some ⟨ob, 0, none⟩), x3, .pointer (some ⟨bx, 0, none⟩), x5, x6, x7, x8, x9, x10, x11, x12, x13, x14, x15, x16, x17, x18, x19, x20, x21, x22, x23, x24, x25, x26, x27, .agg #[.int .i64 pub, .slice t.a t.n t.c, .slice p.a p.n p.c], rv rb, .bool true, .bool true, .pointer (some ⟨ob, 0, none⟩), .int .i64 pub, .bool true, .bool true, .bool true, .pointer (some ⟨ob, 1, none⟩), .slice t.a t.n t.c, .bool false, .bool false, .bool false, undef, undef, undef, .bool false], []⟩ : Act)) (by kernel_rfl) (fun u hu => qs (st78 (.tmp 2) (.tmp 28) ob pub t p (by kernel_rfl) (by kernel_rfl) (by kernel_rfl) (h1.q hu))) (by kernel_rfl) ?_
  refine qchn_step (b := (⟨#[x0, x1, .pointer (some ⟨ob, 0, none⟩), .bool false, .pointer (some ⟨bx, 0, none⟩), x5, x6, x7, x8, x9, x10, x11, x12, x13, x14, x15, x16, x17, x18, x19, x20, x21, x22, x23, x24, x25, x26, x27, .agg #[.int .i64 pub, .slice t.a t.n t.c, .slice p.a p.n p.c], rv rb, .bool true, .bool true, .pointer (some ⟨ob, 0, none⟩), .int .i64 pub, .bool true, .bool true, .bool true, .pointer (some ⟨ob, 1, none⟩), .slice t.a t.n t.c, .bool false, .bool false, .bool false, undef, undef, undef, .bool false], []⟩ : Act)) (by kernel_rfl) (fun u hu => qv (by kernel_rfl)) (by kernel_rfl) ?_
  trivial
set_option maxHeartbeats 16000000 in
theorem rq2 (rb ob bx : Nat) (pub : Int) (t p : Sv) (b2 b3 b4 : Bool) {x0 x1 x3 x5 x6 x7 x8 x9 x10 x11 x12 x13 x14 x15 x16 x17 x18 x19 x20 x21 x22 x23 x24 x25 x26 x27 x28 x29 x30 x31 x32 x33 x34 x35 x36 x37 x38 x39 x40 x41 x42 x43 x44 x45 : Value} (w : World) (R : Exit → Act → World → Prop) (h1 : OB w ob pub t p) (hbx : w.heap[bx]? = some (.cells #[.pointer (some ⟨rb, 0, none⟩)] 98 (0, 0))) (H64 : ∀ u, Q w u → Calls Try.prog 64 #[rv rb] u fun e u' => e = .returned (.bool true) ∧ Q w u')
    (H65 : ∀ u, Q w u → Calls Try.prog 65 #[.int .i64 pub] u fun e u' => e = .returned (.bool true) ∧ Q w u') (H20 : ∀ u, Q w u → Calls Try.prog 20 #[.slice t.a t.n t.c] u fun e u' => e = .returned (.bool false) ∧ Q w u') (H21 : ∀ u, Q w u → Calls Try.prog 21 #[.slice p.a p.n p.c] u fun e u' => e = .returned (.bool b4) ∧ Q w u')
    (h : ∀ W, (fun u => Q w u) W → R .normal (⟨#[x0, x1, .pointer (some ⟨ob, 0, none⟩), .bool false, .pointer (some ⟨bx, 0, none⟩), x5, x6, x7, x8, x9, x10, x11, x12, x13, x14, x15, x16, x17, x18, x19, x20, x21, x22, x23, x24, x25, x26, x27, .agg #[.int .i64 pub, .slice t.a t.n t.c, .slice p.a p.n p.c], rv rb, .bool true, .bool true, .pointer (some ⟨ob, 0, none⟩), .int .i64 pub, .bool true, .bool true, .bool true, .pointer (some ⟨ob, 1, none⟩), .slice t.a t.n t.c, .bool false, .bool false, .bool false, undef, undef, undef, .bool false], []⟩ : Act) W) : (Code.region 8 (RofN Try.f40 8) true).wp Try.prog R (⟨#[x0, x1, .pointer (some ⟨ob, 0, none⟩), x3, .pointer (some ⟨bx, 0, none⟩), x5, x6, x7, x8, x9, x10, x11, x12, x13, x14, x15, x16, x17, x18, x19, x20, x21, x22, x23, x24, x25, x26, x27, x28, x29, x30, x31, x32, x33, x34, x35, x36, x37, x38, x39, x40, x41, x42, x43, x44, x45], []⟩ : Act) w := by
  refine wp_region_quiet (C := (fun u => Q w u)) (by kernel_rfl) (by kernel_rfl) ((Q.refl w).drew) ?_
  refine qchn_all [some (.agg #[.int .i64 pub, .slice t.a t.n t.c, .slice p.a p.n p.c]), some (rv rb), some (.bool true), some (.bool true), some (.pointer (some ⟨ob, 0, none⟩)), some (.int .i64 pub), some (.bool true), some (.bool true), some (.bool true), some (.pointer (some ⟨ob, 1, none⟩)), some (.slice t.a t.n t.c), some (.bool false), some (.bool false), some (.bool false), none, none, none, some (.bool false), some (undef), some (.bool false)] _ (⟨#[x0, x1, .pointer (some ⟨ob, 0, none⟩), .bool false, .pointer (some ⟨bx, 0, none⟩), x5, x6, x7, x8, x9, x10, x11, x12, x13, x14, x15, x16, x17, x18, x19, x20, x21, x22, x23, x24, x25, x26, x27, .agg #[.int .i64 pub, .slice t.a t.n t.c, .slice p.a p.n p.c], rv rb, .bool true, .bool true, .pointer (some ⟨ob, 0, none⟩), .int .i64 pub, .bool true, .bool true, .bool true, .pointer (some ⟨ob, 1, none⟩), .slice t.a t.n t.c, .bool false, .bool false, .bool false, undef, undef, undef, .bool false], []⟩ : Act) (Nat.le_of_eq (by kernel_rfl)) (rq2c rb ob bx pub t p b2 b3 b4 h1 hbx H64 H65 H20 H21) (by kernel_rfl) ?_
  refine qend (by kernel_rfl) ?_
  exact h
set_option maxHeartbeats 16000000 in
theorem rq3c (rb ob bx : Nat) (pub : Int) (t p : Sv) (b2 b3 b4 : Bool) {x0 x1 x3 x5 x6 x7 x8 x9 x10 x11 x12 x13 x14 x15 x16 x17 x18 x19 x20 x21 x22 x23 x24 x25 x26 x27 x28 x29 x30 x31 x32 x33 x34 x35 x36 x37 x38 x39 x40 x41 x42 x43 x44 x45 : Value} {w : World} (h1 : OB w ob pub t p) (hbx : w.heap[bx]? = some (.cells #[.pointer (some ⟨rb, 0, none⟩)] 98 (0, 0))) (H64 : ∀ u, Q w u → Calls Try.prog 64 #[rv rb] u fun e u' => e = .returned (.bool true) ∧ Q w u')
    (H65 : ∀ u, Q w u → Calls Try.prog 65 #[.int .i64 pub] u fun e u' => e = .returned (.bool true) ∧ Q w u') (H20 : ∀ u, Q w u → Calls Try.prog 20 #[.slice t.a t.n t.c] u fun e u' => e = .returned (.bool true) ∧ Q w u') (H21 : ∀ u, Q w u → Calls Try.prog 21 #[.slice p.a p.n p.c] u fun e u' => e = .returned (.bool b4) ∧ Q w u') : QChn Try.prog (RofN Try.f40 8) (fun u => Q w u) 0 [some (.agg #[.int .i64 pub, .slice t.a t.n t.c, .slice p.a p.n p.c]), some (rv rb), some (.bool true), some (.bool true), some (.pointer (some ⟨ob, 0, none⟩)), some (.int .i64 pub), some (.bool true), some (.bool true), some (.bool true), some (.pointer (some ⟨ob, 1, none⟩)), some (.slice t.a t.n t.c), some (.bool true), some (.bool true), some (.bool true), some (.pointer (some ⟨ob, 2, none⟩)), some (.slice p.a p.n p.c), some (.bool b4), some (.bool b4), some (undef), some (.bool b4)] (⟨#[x0, x1, .pointer (some ⟨ob, 0, none⟩), x3, .pointer (some ⟨bx, 0, none⟩), x5, x6, x7, x8, x9, x10, x11, x12, x13, x14, x15, x16, x17, x18, x19, x20, x21, x22, x23, x24, x25, x26, x27, x28, x29, x30, x31, x32, x33, x34, x35, x36, x37, x38, x39, x40, x41, x42, x43, x44, x45], []⟩ : Act) := by
  refine qchn_step (b := (⟨#[x0, x1, .pointer (some ⟨ob, 0, none⟩), x3, .pointer (some ⟨bx, 0, none⟩), x5, x6, x7, x8, x9, x10, x11, x12, x13, x14, x15, x16, x17, x18, x19, x20, x21, x22, x23, x24, x25, x26, x27, .agg #[.int .i64 pub, .slice t.a t.n t.c, .slice p.a p.n p.c], x29, x30, x31, x32, x33, x34, x35, x36, x37, x38, x39, x40, x41, x42, x43, x44, x45], []⟩ : Act)) (by kernel_rfl) (fun u hu => qv (ld_t 78 (.tmp 2) ob 0 (by kernel_rfl) (by kernel_rfl) (ld78 (h1.q hu)))) (by kernel_rfl) ?_
  refine qchn_step (b := (⟨#[x0, x1, .pointer (some ⟨ob, 0, none⟩), x3, .pointer (some ⟨bx, 0, none⟩), x5, x6, x7, x8, x9, x10, x11, x12, x13, x14, x15, x16, x17, x18, x19, x20, x21, x22, x23, x24, x25, x26, x27, .agg #[.int .i64 pub, .slice t.a t.n t.c, .slice p.a p.n p.c], rv rb, x30, x31, x32, x33, x34, x35, x36, x37, x38, x39, x40, x41, x42, x43, x44, x45], []⟩ : Act)) (by kernel_rfl) (fun u hu => qv (ld_t 98 (.tmp 4) bx 0 (by kernel_rfl) (by kernel_rfl) (ld98 (blk_q hu hbx)))) (by kernel_rfl) ?_
  refine qchn_step (b := (⟨#[x0, x1, .pointer (some ⟨ob, 0, none⟩), x3, .pointer (some ⟨bx, 0, none⟩), x5, x6, x7, x8, x9, x10, x11, x12, x13, x14, x15, x16, x17, x18, x19, x20, x21, x22, x23, x24, x25, x26, x27, .agg #[.int .i64 pub, .slice t.a t.n t.c, .slice p.a p.n p.c], rv rb, .bool true, x31, x32, x33, x34, x35, x36, x37, x38, x39, x40, x41, x42, x43, x44, x45], []⟩ : Act)) (by kernel_rfl) (fun u hu => qc 64 #[rv rb] (by kernel_rfl) (H64 u hu)) (by kernel_rfl) ?_
  refine qchn_step (b := (⟨#[x0, x1, .pointer (some ⟨ob, 0, none⟩), x3, .pointer (some ⟨bx, 0, none⟩), x5, x6, x7, x8, x9, x10, x11, x12, x13, x14, x15, x16, x17, x18, x19, x20, x21, x22, x23, x24, x25, x26, x27, .agg #[.int .i64 pub, .slice t.a t.n t.c, .slice p.a p.n p.c], rv rb, .bool true, .bool true, x32, x33, x34, x35, x36, x37, x38, x39, x40, x41, x42, x43, x44, x45], []⟩ : Act)) (by kernel_rfl) (fun u hu => qv (by kernel_rfl)) (by kernel_rfl) ?_
  refine qchn_step (b := (⟨#[x0, x1, .pointer (some ⟨ob, 0, none⟩), x3, .pointer (some ⟨bx, 0, none⟩), x5, x6, x7, x8, x9, x10, x11, x12, x13, x14, x15, x16, x17, x18, x19, x20, x21, x22, x23, x24, x25, x26, x27, .agg #[.int .i64 pub, .slice t.a t.n t.c, .slice p.a p.n p.c], rv rb, .bool true, .bool true, .pointer (some ⟨ob, 0, none⟩), x33, x34, x35, x36, x37, x38, x39, x40, x41, x42, x43, x44, x45], []⟩ : Act)) (by kernel_rfl) (fun u hu => qv (by kernel_rfl)) (by kernel_rfl) ?_
  refine qchn_step (b := (⟨#[x0, x1, .pointer (some ⟨ob, 0, none⟩), x3, .pointer (some ⟨bx, 0, none⟩), x5, x6, x7, x8, x9, x10, x11, x12, x13, x14, x15, x16, x17, x18, x19, x20, x21, x22, x23, x24, x25, x26, x27, .agg #[.int .i64 pub, .slice t.a t.n t.c, .slice p.a p.n p.c], rv rb, .bool true, .bool true, .pointer (some ⟨ob, 0, none⟩), .int .i64 pub, x34, x35, x36, x37, x38, x39, x40, x41, x42, x43, x44, x45], []⟩ : Act)) (by kernel_rfl) (fun u hu => qv (ld_t 3 (.tmp 32) ob 0 (by kernel_rfl) (by kernel_rfl) (ld3' (h1.q hu).c0))) (by kernel_rfl) ?_
  refine qchn_step (b := (⟨#[x0, x1, .pointer (some ⟨ob, 0, none⟩), x3, .pointer (some ⟨bx, 0, none⟩), x5, x6, x7, x8, x9, x10, x11, x12, x13, x14, x15, x16, x17, x18, x19, x20, x21, x22, x23, x24, x25, x26, x27, .agg #[.int .i64 pub, .slice t.a t.n t.c, .slice p.a p.n p.c], rv rb, .bool true, .bool true, .pointer (some ⟨ob, 0, none⟩), .int .i64 pub, .bool true, x35, x36, x37, x38, x39, x40, x41, x42, x43, x44, x45], []⟩ : Act)) (by kernel_rfl) (fun u hu => qc 65 #[.int .i64 pub] (by kernel_rfl) (H65 u hu)) (by kernel_rfl) ?_
  refine qchn_step (b := (⟨#[x0, x1, .pointer (some ⟨ob, 0, none⟩), x3, .pointer (some ⟨bx, 0, none⟩), x5, x6, x7, x8, x9, x10, x11, x12, x13, x14, x15, x16, x17, x18, x19, x20, x21, x22, x23, x24, x25, x26, x27, .agg #[.int .i64 pub, .slice t.a t.n t.c, .slice p.a p.n p.c], rv rb, .bool true, .bool true, .pointer (some ⟨ob, 0, none⟩), .int .i64 pub, .bool true, .bool true, x36, x37, x38, x39, x40, x41, x42, x43, x44, x45], []⟩ : Act)) (by kernel_rfl) (fun u hu => qv (pk_t (.tmp 31) (.tmp 34) (.const (.bool false)) _ (by kernel_rfl) (by kernel_rfl) (by kernel_rfl))) (by kernel_rfl) ?_
  refine qchn_step (b := (⟨#[x0, x1, .pointer (some ⟨ob, 0, none⟩), x3, .pointer (some ⟨bx, 0, none⟩), x5, x6, x7, x8, x9, x10, x11, x12, x13, x14, x15, x16, x17, x18, x19, x20, x21, x22, x23, x24, x25, x26, x27, .agg #[.int .i64 pub, .slice t.a t.n t.c, .slice p.a p.n p.c], rv rb, .bool true, .bool true, .pointer (some ⟨ob, 0, none⟩), .int .i64 pub, .bool true, .bool true, .bool true, x37, x38, x39, x40, x41, x42, x43, x44, x45], []⟩ : Act)) (by kernel_rfl) (fun u hu => qv (by kernel_rfl)) (by kernel_rfl) ?_
  refine qchn_step (b := (⟨#[x0, x1, .pointer (some ⟨ob, 0, none⟩), x3, .pointer (some ⟨bx, 0, none⟩), x5, x6, x7, x8, x9, x10, x11, x12, x13, x14, x15, x16, x17, x18, x19, x20, x21, x22, x23, x24, x25, x26, x27, .agg #[.int .i64 pub, .slice t.a t.n t.c, .slice p.a p.n p.c], rv rb, .bool true, .bool true, .pointer (some ⟨ob, 0, none⟩), .int .i64 pub, .bool true, .bool true, .bool true, .pointer (some ⟨ob, 1, none⟩), x38, x39, x40, x41, x42, x43, x44, x45], []⟩ : Act)) (by kernel_rfl) (fun u hu => qv (by kernel_rfl)) (by kernel_rfl) ?_
  refine qchn_step (b := (⟨#[x0, x1, .pointer (some ⟨ob, 0, none⟩), x3, .pointer (some ⟨bx, 0, none⟩), x5, x6, x7, x8, x9, x10, x11, x12, x13, x14, x15, x16, x17, x18, x19, x20, x21, x22, x23, x24, x25, x26, x27, .agg #[.int .i64 pub, .slice t.a t.n t.c, .slice p.a p.n p.c], rv rb, .bool true, .bool true, .pointer (some ⟨ob, 0, none⟩), .int .i64 pub, .bool true, .bool true, .bool true, .pointer (some ⟨ob, 1, none⟩), .slice t.a t.n t.c, x39, x40, x41, x42, x43, x44, x45], []⟩ : Act)) (by kernel_rfl) (fun u hu => qv (ld_t 23 (.tmp 37) ob 1 (by kernel_rfl) (by kernel_rfl) (ld23 (h1.q hu).c1))) (by kernel_rfl) ?_
  refine qchn_step (b := (⟨#[x0, x1, .pointer (some ⟨ob, 0, none⟩), x3, .pointer (some ⟨bx, 0, none⟩), x5, x6, x7, x8, x9, x10, x11, x12, x13, x14, x15, x16, x17, x18, x19, x20, x21, x22, x23, x24, x25, x26, x27, .agg #[.int .i64 pub, .slice t.a t.n t.c, .slice p.a p.n p.c], rv rb, .bool true, .bool true, .pointer (some ⟨ob, 0, none⟩), .int .i64 pub, .bool true, .bool true, .bool true, .pointer (some ⟨ob, 1, none⟩), .slice t.a t.n t.c, .bool true, x40, x41, x42, x43, x44, x45], []⟩ : Act)) (by kernel_rfl) (fun u hu => qc 20 #[.slice t.a t.n t.c] (by kernel_rfl) (H20 u hu)) (by kernel_rfl) ?_
  refine qchn_step (b := (⟨#[x0, x1, .pointer (some ⟨ob, 0, none⟩), x3, .pointer (some ⟨bx, 0, none⟩), x5, x6, x7, x8, x9, x10, x11, x12, x13, x14, x15, x16, x17, x18, x19, x20, x21, x22, x23, x24, x25, x26, x27, .agg #[.int .i64 pub, .slice t.a t.n t.c, .slice p.a p.n p.c], rv rb, .bool true, .bool true, .pointer (some ⟨ob, 0, none⟩), .int .i64 pub, .bool true, .bool true, .bool true, .pointer (some ⟨ob, 1, none⟩), .slice t.a t.n t.c, .bool true, .bool true, x41, x42, x43, x44, x45], []⟩ : Act)) (by kernel_rfl) (fun u hu => qv (pk_t (.tmp 36) (.tmp 39) (.const (.bool false)) _ (by kernel_rfl) (by kernel_rfl) (by kernel_rfl))) (by kernel_rfl) ?_
  refine qchn_step (b := (⟨#[x0, x1, .pointer (some ⟨ob, 0, none⟩), x3, .pointer (some ⟨bx, 0, none⟩), x5, x6, x7, x8, x9, x10, x11, x12, x13, x14, x15, x16, x17, x18, x19, x20, x21, x22, x23, x24, x25, x26, x27, .agg #[.int .i64 pub, .slice t.a t.n t.c, .slice p.a p.n p.c], rv rb, .bool true, .bool true, .pointer (some ⟨ob, 0, none⟩), .int .i64 pub, .bool true, .bool true, .bool true, .pointer (some ⟨ob, 1, none⟩), .slice t.a t.n t.c, .bool true, .bool true, .bool true, x42, x43, x44, x45], []⟩ : Act)) (by kernel_rfl) (fun u hu => qv (by kernel_rfl)) (by kernel_rfl) ?_
  refine qchn_step (b := (⟨#[x0, x1, .pointer (some ⟨ob, 0, none⟩), x3, .pointer (some ⟨bx, 0, none⟩), x5, x6, x7, x8, x9, x10, x11, x12, x13, x14, x15, x16, x17, x18, x19, x20, x21, x22, x23, x24, x25, x26, x27, .agg #[.int .i64 pub, .slice t.a t.n t.c, .slice p.a p.n p.c], rv rb, .bool true, .bool true, .pointer (some ⟨ob, 0, none⟩), .int .i64 pub, .bool true, .bool true, .bool true, .pointer (some ⟨ob, 1, none⟩), .slice t.a t.n t.c, .bool true, .bool true, .bool true, .pointer (some ⟨ob, 2, none⟩), x43, x44, x45], []⟩ : Act)) (by kernel_rfl) (fun u hu => qv (by kernel_rfl)) (by kernel_rfl) ?_
  refine qchn_step (b := (⟨#[x0, x1, .pointer (some ⟨ob, 0, none⟩), x3, .pointer (some ⟨bx, 0, none⟩), x5, x6, x7, x8, x9, x10, x11, x12, x13, x14, x15, x16, x17, x18, x19, x20, x21, x22, x23, x24, x25, x26, x27, .agg #[.int .i64 pub, .slice t.a t.n t.c, .slice p.a p.n p.c], rv rb, .bool true, .bool true, .pointer (some ⟨ob, 0, none⟩), .int .i64 pub, .bool true, .bool true, .bool true, .pointer (some ⟨ob, 1, none⟩), .slice t.a t.n t.c, .bool true, .bool true, .bool true, .pointer (some ⟨ob, 2, none⟩), .slice p.a p.n p.c, x44, x45], []⟩ : Act)) (by kernel_rfl) (fun u hu => qv (ld_t 24 (.tmp 42) ob 2 (by kernel_rfl) (by kernel_rfl) (ld24' (h1.q hu).c2))) (by kernel_rfl) ?_
  refine qchn_step (b := (⟨#[x0, x1, .pointer (some ⟨ob, 0, none⟩), x3, .pointer (some ⟨bx, 0, none⟩), x5, x6, x7, x8, x9, x10, x11, x12, x13, x14, x15, x16, x17, x18, x19, x20, x21, x22, x23, x24, x25, x26, x27, .agg #[.int .i64 pub, .slice t.a t.n t.c, .slice p.a p.n p.c], rv rb, .bool true, .bool true, .pointer (some ⟨ob, 0, none⟩), .int .i64 pub, .bool true, .bool true, .bool true, .pointer (some ⟨ob, 1, none⟩), .slice t.a t.n t.c, .bool true, .bool true, .bool true, .pointer (some ⟨ob, 2, none⟩), .slice p.a p.n p.c, .bool b4, x45], []⟩ : Act)) (by kernel_rfl) (fun u hu => qc 21 #[.slice p.a p.n p.c] (by kernel_rfl) (H21 u hu)) (by kernel_rfl) ?_
  refine qchn_step (b := (⟨#[x0, x1, .pointer (some ⟨ob, 0, none⟩), x3, .pointer (some ⟨bx, 0, none⟩), x5, x6, x7, x8, x9, x10, x11, x12, x13, x14, x15, x16, x17, x18, x19, x20, x21, x22, x23, x24, x25, x26, x27, .agg #[.int .i64 pub, .slice t.a t.n t.c, .slice p.a p.n p.c], rv rb, .bool true, .bool true, .pointer (some ⟨ob, 0, none⟩), .int .i64 pub, .bool true, .bool true, .bool true, .pointer (some ⟨ob, 1, none⟩), .slice t.a t.n t.c, .bool true, .bool true, .bool true, .pointer (some ⟨ob, 2, none⟩), .slice p.a p.n p.c, .bool b4, .bool b4], []⟩ : Act)) (by kernel_rfl) (fun u hu => qv (pk_t (.tmp 41) (.tmp 44) (.const (.bool false)) _ (by kernel_rfl) (by kernel_rfl) (by kernel_rfl))) (by kernel_rfl) ?_
  refine qchn_step (b := (⟨#[x0, x1, .pointer (some ⟨ob, 0, none⟩), x3, .pointer (some ⟨bx, 0, none⟩), x5, x6, x7, x8, x9, x10, x11, x12, x13, x14, x15, x16, x17, x18, x19, x20, x21, x22, x23, x24, x25, x26, x27, .agg #[.int .i64 pub, .slice t.a t.n t.c, .slice p.a p.n p.c], rv rb, .bool true, .bool true, .pointer (some ⟨ob, 0, none⟩), .int .i64 pub, .bool true, .bool true, .bool true, .pointer (some ⟨ob, 1, none⟩), .slice t.a t.n t.c, .bool true, .bool true, .bool true, .pointer (some ⟨ob, 2, none⟩), .slice p.a p.n p.c, .bool b4, .bool b4], []⟩ : Act)) (by kernel_rfl) (fun u hu => qs (st78 (.tmp 2) (.tmp 28) ob pub t p (by kernel_rfl) (by kernel_rfl) (by kernel_rfl) (h1.q hu))) (by kernel_rfl) ?_
  refine qchn_step (b := (⟨#[x0, x1, .pointer (some ⟨ob, 0, none⟩), .bool b4, .pointer (some ⟨bx, 0, none⟩), x5, x6, x7, x8, x9, x10, x11, x12, x13, x14, x15, x16, x17, x18, x19, x20, x21, x22, x23, x24, x25, x26, x27, .agg #[.int .i64 pub, .slice t.a t.n t.c, .slice p.a p.n p.c], rv rb, .bool true, .bool true, .pointer (some ⟨ob, 0, none⟩), .int .i64 pub, .bool true, .bool true, .bool true, .pointer (some ⟨ob, 1, none⟩), .slice t.a t.n t.c, .bool true, .bool true, .bool true, .pointer (some ⟨ob, 2, none⟩), .slice p.a p.n p.c, .bool b4, .bool b4], []⟩ : Act)) (by kernel_rfl) (fun u hu => qv (by kernel_rfl)) (by kernel_rfl) ?_
  trivial
set_option maxHeartbeats 16000000 in
theorem rq3 (rb ob bx : Nat) (pub : Int) (t p : Sv) (b2 b3 b4 : Bool) {x0 x1 x3 x5 x6 x7 x8 x9 x10 x11 x12 x13 x14 x15 x16 x17 x18 x19 x20 x21 x22 x23 x24 x25 x26 x27 x28 x29 x30 x31 x32 x33 x34 x35 x36 x37 x38 x39 x40 x41 x42 x43 x44 x45 : Value} (w : World) (R : Exit → Act → World → Prop) (h1 : OB w ob pub t p) (hbx : w.heap[bx]? = some (.cells #[.pointer (some ⟨rb, 0, none⟩)] 98 (0, 0))) (H64 : ∀ u, Q w u → Calls Try.prog 64 #[rv rb] u fun e u' => e = .returned (.bool true) ∧ Q w u')
    (H65 : ∀ u, Q w u → Calls Try.prog 65 #[.int .i64 pub] u fun e u' => e = .returned (.bool true) ∧ Q w u') (H20 : ∀ u, Q w u → Calls Try.prog 20 #[.slice t.a t.n t.c] u fun e u' => e = .returned (.bool true) ∧ Q w u') (H21 : ∀ u, Q w u → Calls Try.prog 21 #[.slice p.a p.n p.c] u fun e u' => e = .returned (.bool b4) ∧ Q w u')
    (h : ∀ W, (fun u => Q w u) W → R .normal (⟨#[x0, x1, .pointer (some ⟨ob, 0, none⟩), .bool b4, .pointer (some ⟨bx, 0, none⟩), x5, x6, x7, x8, x9, x10, x11, x12, x13, x14, x15, x16, x17, x18, x19, x20, x21, x22, x23, x24, x25, x26, x27, .agg #[.int .i64 pub, .slice t.a t.n t.c, .slice p.a p.n p.c], rv rb, .bool true, .bool true, .pointer (some ⟨ob, 0, none⟩), .int .i64 pub, .bool true, .bool true, .bool true, .pointer (some ⟨ob, 1, none⟩), .slice t.a t.n t.c, .bool true, .bool true, .bool true, .pointer (some ⟨ob, 2, none⟩), .slice p.a p.n p.c, .bool b4, .bool b4], []⟩ : Act) W) : (Code.region 8 (RofN Try.f40 8) true).wp Try.prog R (⟨#[x0, x1, .pointer (some ⟨ob, 0, none⟩), x3, .pointer (some ⟨bx, 0, none⟩), x5, x6, x7, x8, x9, x10, x11, x12, x13, x14, x15, x16, x17, x18, x19, x20, x21, x22, x23, x24, x25, x26, x27, x28, x29, x30, x31, x32, x33, x34, x35, x36, x37, x38, x39, x40, x41, x42, x43, x44, x45], []⟩ : Act) w := by
  refine wp_region_quiet (C := (fun u => Q w u)) (by kernel_rfl) (by kernel_rfl) ((Q.refl w).drew) ?_
  refine qchn_all [some (.agg #[.int .i64 pub, .slice t.a t.n t.c, .slice p.a p.n p.c]), some (rv rb), some (.bool true), some (.bool true), some (.pointer (some ⟨ob, 0, none⟩)), some (.int .i64 pub), some (.bool true), some (.bool true), some (.bool true), some (.pointer (some ⟨ob, 1, none⟩)), some (.slice t.a t.n t.c), some (.bool true), some (.bool true), some (.bool true), some (.pointer (some ⟨ob, 2, none⟩)), some (.slice p.a p.n p.c), some (.bool b4), some (.bool b4), some (undef), some (.bool b4)] _ (⟨#[x0, x1, .pointer (some ⟨ob, 0, none⟩), .bool b4, .pointer (some ⟨bx, 0, none⟩), x5, x6, x7, x8, x9, x10, x11, x12, x13, x14, x15, x16, x17, x18, x19, x20, x21, x22, x23, x24, x25, x26, x27, .agg #[.int .i64 pub, .slice t.a t.n t.c, .slice p.a p.n p.c], rv rb, .bool true, .bool true, .pointer (some ⟨ob, 0, none⟩), .int .i64 pub, .bool true, .bool true, .bool true, .pointer (some ⟨ob, 1, none⟩), .slice t.a t.n t.c, .bool true, .bool true, .bool true, .pointer (some ⟨ob, 2, none⟩), .slice p.a p.n p.c, .bool b4, .bool b4], []⟩ : Act) (Nat.le_of_eq (by kernel_rfl)) (rq3c rb ob bx pub t p b2 b3 b4 h1 hbx H64 H65 H20 H21) (by kernel_rfl) ?_
  refine qend (by kernel_rfl) ?_
  exact h
end Go.Proofs.Ytekpepnonhbkcaa
namespace Go.Proofs.Ytekpepnonhbkcaa
open Go.RowKit
set_option linter.unusedVariables false
set_option maxRecDepth 20000

/-- The protos that are read one behind the other. -/
def rdPs (zs : List Int) (p f : Int) : Nat → List ByteArray × Int × Int
  | 0 => ([], p, f)
  | k + 1 => ((rdPs zs p f k).1 ++ [strOfNums (rdS zs (rdPs zs p f k).2.1 (rdPs zs p f k).2.2 1).1], (rdS zs (rdPs zs p f k).2.1 (rdPs zs p f k).2.2 1).2.1, (rdS zs (rdPs zs p f k).2.1 (rdPs zs p f k).2.2 1).2.2)
theorem rdPs_in (zs : List Int) (p f : Int) (hp : 0 ≤ p) (hpn : p ≤ zs.length) : ∀ k, 0 ≤ (rdPs zs p f k).2.1 ∧ (rdPs zs p f k).2.1 ≤ zs.length
  | 0 => ⟨hp, hpn⟩
  | k + 1 => rdS_in zs _ _ 1 (rdPs_in zs p f hp hpn k).1 (rdPs_in zs p f hp hpn k).2
theorem rdPs_len (zs : List Int) (p f : Int) : ∀ k, (rdPs zs p f k).1.length = k
  | 0 => rfl
  | k + 1 => by rw [rdPs, List.length_append, rdPs_len zs p f k]; rfl
/-- What a client's hello tells: how many protos, the protos, the params. -/
def chN (zs : List Int) : Int := (takeR zs (rdG zs 0 0).2.1 (rdG zs 0 0).2.2 1).1.getD 0 0
def chQ (zs : List Int) : List ByteArray × Int × Int := rdPs zs (takeR zs (rdG zs 0 0).2.1 (rdG zs 0 0).2.2 1).2.1 (takeR zs (rdG zs 0 0).2.1 (rdG zs 0 0).2.2 1).2.2 (chN zs).toNat
def chD (zs : List Int) : List Int × Int × Int := rdS zs (chQ zs).2.1 (chQ zs).2.2 2
def chOk (zs : List Int) : Bool := decide ((chD zs).2.2 = 0 ∧ (chD zs).2.1 = (zs.length : Int)) && okP (rdG zs 0 0).1 && okTs (chQ zs).1 && decide ((chD zs).1.length ≤ 1024)
/-- The reading under way. -/
structure RH (w wr : World) (g rb ob bx n : Nat) (zs : List Int) (p f pub : Int) (T P : Sv) (ss : List ByteArray) : Prop where
  q : Q w wr
  rd : Rdr wr 107 rb (some ⟨g, 0, none⟩) n n p f
  og : Own wr w.heap.size (some ⟨g, 0, none⟩) n n zs
  xb : wr.heap[bx]? = some (.cells #[.pointer (some ⟨rb, 0, none⟩)] 98 (0, 0))
  of : OB wr ob pub T P
  tr : RowT wr T ss
  nr : w.heap.size ≤ rb
  no : w.heap.size ≤ ob
  nt : New w.heap.size T
theorem Own.blk {w : World} {base g m c : Nat} {zs : List Int} (h : Own w base (some ⟨g, 0, none⟩) m c zs) : ∃ cur, w.heap[g]? = some (.cells cur 5 (0, 0)) := by
  rcases h.2 with ⟨h2, _⟩ | ⟨g', cap', cur, hv, hb, hg, _⟩
  · cases h2
  · simp only [Value.slice.injEq, Option.some.injEq, Addr.mk.injEq] at hv
    obtain ⟨⟨rfl, _⟩, _⟩ := hv
    exact ⟨cur, hg⟩
theorem Own.keep {F : Nat → Prop} {w w' : World} {base g m c : Nat} {zs : List Int} (h : Own w base (some ⟨g, 0, none⟩) m c zs) (k : Keep F w w') (hn : ¬ F g) : Own w' base (some ⟨g, 0, none⟩) m c zs := by
  refine ⟨h.1, ?_⟩
  rcases h.2 with ⟨h2, _⟩ | ⟨g', cap', cur, hv, hb, hg, r⟩
  · cases h2
  · simp only [Value.slice.injEq, Option.some.injEq, Addr.mk.injEq] at hv
    obtain ⟨⟨rfl, e1⟩, e2, e3⟩ := hv
    refine .inr ⟨g, cap', cur, ?_, hb, (k.block g (lt_of_blk hg) hn).trans hg, r⟩
    rw [e3]
theorem RH.ids {w wr : World} {g rb ob bx n : Nat} {zs : List Int} {p f pub : Int} {T P : Sv} {ss : List ByteArray} (h : RH w wr g rb ob bx n zs p f pub T P ss) : ob ≠ rb ∧ bx ≠ rb ∧ bx ≠ ob ∧ g ≠ rb ∧ g ≠ ob ∧ g ≠ bx ∧ (∀ b, blk T.a = some b → b ≠ rb ∧ b ≠ ob ∧ b ≠ bx ∧ b ≠ g) := by
  obtain ⟨cur, hg⟩ := h.og.blk
  refine ⟨blk_ne h.of h.rd (by decide), blk_ne h.xb h.rd (by decide), blk_ne h.xb h.of (by decide), blk_ne hg h.rd (by decide), blk_ne hg h.of (by decide), blk_ne hg h.xb (by decide), fun b e => ⟨sub_ne h.tr h.rd (by decide) b e, sub_ne h.tr h.of (by decide) b e, sub_ne h.tr h.xb (by decide) b e, sub_ne h.tr hg (by decide) b e⟩⟩
theorem Only.keepF {rb : Nat} {a b : World} (h : Only rb a b) : Keep (fun i => i = rb) a b := Keep.ofGrown h (fun k e => by cases e; rfl)
theorem RH.sg {w wr : World} {g rb ob bx n : Nat} {zs : List Int} {p f pub : Int} {T P : Sv} {ss : List ByteArray} (h : RH w wr g rb ob bx n zs p f pub T P ss) : SegOff rb wr (some ⟨g, 0, none⟩) zs := ⟨h.og.seg, fun _ ad e => by cases e; exact h.ids.2.2.2.1⟩
/-- The reader goes on. -/
theorem RH.only {w wr w' : World} {g rb ob bx n : Nat} {zs : List Int} {p f p' f' pub : Int} {T P : Sv} {ss : List ByteArray} (h : RH w wr g rb ob bx n zs p f pub T P ss) (o : Only rb wr w') (r : Rdr w' 107 rb (some ⟨g, 0, none⟩) n n p' f') : RH w w' g rb ob bx n zs p' f' pub T P ss := by
  have k := o.keepF
  obtain ⟨i1, i2, i3, i4, i5, i6, i7⟩ := h.ids
  exact ⟨k.below h.q h.q.size (fun i e => by rw [e]; exact h.nr), r, h.og.keep k i4, (k.block bx (lt_of_blk h.xb) i2).trans h.xb, h.of.keep k i1, Sub.keep h.tr k (fun b e => (i7 b e).1), h.nr, h.no, h.nt⟩
theorem RH.grow {w wr w' : World} {g rb ob bx n : Nat} {zs : List Int} {p f pub : Int} {T P : Sv} {ss : List ByteArray} (h : RH w wr g rb ob bx n zs p f pub T P ss) (q : Q wr w') : RH w w' g rb ob bx n zs p f pub T P ss :=
  ⟨h.q.trans q, h.rd.q q, h.og.q q, blk_q q h.xb, h.of.q q, Sub.q h.tr q, h.nr, h.no, h.nt⟩
theorem OB.set0 {w : World} {ob : Nat} {pub v : Int} {t p : Sv} (h : OB w ob pub t p) : OB (w.setCell ⟨ob, 0, none⟩ (.int .i64 v)) ob v t p := by
  have := heap_setCell_same w ob 0 _ 78 (.int .i64 v) h
  unfold OB
  simpa using this
theorem OB.set2 {w : World} {ob : Nat} {pub : Int} {t p y : Sv} (h : OB w ob pub t p) : OB (w.setCell ⟨ob, 2, none⟩ (.slice y.a y.n y.c)) ob pub t y := by
  have := heap_setCell_same w ob 2 _ 78 (.slice y.a y.n y.c) h
  unfold OB
  simpa using this
/-- The offer is written. -/
theorem RH.put {w wr w' : World} {g rb ob bx n : Nat} {zs : List Int} {p f pub pub' : Int} {T P P' : Sv} {ss : List ByteArray} (h : RH w wr g rb ob bx n zs p f pub T P ss) (k : Keep (fun i => i = ob) wr w') (o : OB w' ob pub' T P') : RH w w' g rb ob bx n zs p f pub' T P' ss := by
  obtain ⟨i1, i2, i3, i4, i5, i6, i7⟩ := h.ids
  exact ⟨k.below h.q h.q.size (fun i e => by rw [e]; exact h.no), (k.block rb h.rd.lt (Ne.symm i1)).trans h.rd, h.og.keep k i5, (k.block bx (lt_of_blk h.xb) i3).trans h.xb, o, Sub.keep h.tr k (fun b e => (i7 b e).2.1), h.nr, h.no, h.nt⟩
theorem res40 (tmps : Array Value) (w : World) (ob : Nat) (pub : Int) (t p : Sv) (b : Bool) (h2 : tmps.getD 2 undef = .pointer (some ⟨ob, 0, none⟩)) (h3 : tmps.getD 3 undef = .bool b) (ho : OB w ob pub t p) : (results Try.f40 tmps).run Try.prog w = .ok (.tuple #[.agg #[.int .i64 pub, .slice t.a t.n t.c, .slice p.a p.n p.c], .bool b]) w := by
  have h2' : tmps[2]?.getD undef = .pointer (some ⟨ob, 0, none⟩) := by simpa using h2
  have h3' : tmps[3]?.getD undef = .bool b := by simpa using h3
  have c0 := ho.c0
  have c1 := ho.c1
  have c2 := ho.c2
  simp [results, h2', h3', asAddr, go_sem, c0, c1, c2]
theorem Own.base {w : World} {b b' g m c : Nat} {zs : List Int} (h : Own w b (some ⟨g, 0, none⟩) m c zs) (hb : b' ≤ b) : Own w b' (some ⟨g, 0, none⟩) m c zs := by
  refine ⟨h.1, ?_⟩
  rcases h.2 with h2 | ⟨g', cap', cur, hv, hbb, r⟩
  · exact .inl h2
  · exact .inr ⟨g', cap', cur, hv, Nat.le_trans hb hbb, r⟩
theorem RH.bc {w wr : World} {g rb ob bx n : Nat} {zs : List Int} {p f pub : Int} {T P : Sv} {ss : List ByteArray} (h : RH w wr g rb ob bx n zs p f pub T P ss) : wr.cell? ⟨bx, 0, none⟩ = some (.pointer (some ⟨rb, 0, none⟩)) := by rw [cell_of_row _ _ _ _ 98 (0, 0) h.xb]; rfl
set_option maxHeartbeats 8000000 in
theorem readCH_any (a : Option Addr) (n c : Nat) (zs : List Int) (w : World) (hl : zs.length = n) (hn : n ≤ 140737488355328) (hz : ∀ y ∈ zs, 0 ≤ y ∧ y < 256) (hseg : Seg w a zs) :
    Calls Try.prog 40 #[.slice a n c] w fun e w' => ∃ t p : Sv, e = .returned (.tuple #[.agg #[.int .i64 (rdG zs 0 0).1, .slice t.a t.n t.c, .slice p.a p.n p.c], .bool (chOk zs)]) ∧ Q w w' ∧ RowT w' t (chQ zs).1 ∧ New w.heap.size t ∧ Row w' p (chD zs).1 ∧ New w.heap.size p := by
  have HL := hid hl
  have HZ := hid hz
  have q0 : Q w (w.alloc (.cells #[.int .i64 0, .slice none 0 0, .slice none 0 0] 78)) := (Q.refl w).alloc _
  have HOP := hid (open_any a n c zs (w.alloc (.cells #[.int .i64 0, .slice none 0 0, .slice none 0 0] 78)) hl hn (hseg.q q0))
  have HOB := hid (show OB (w.alloc (.cells #[.int .i64 0, .slice none 0 0, .slice none 0 0] 78)) w.heap.size 0 nilS nilS from heap_alloc_new w _)
  have HQ0 := hid q0
  have HG := hid (fun (g rb : Nat) (W : World) (h1 : SegOff rb W (some ⟨g, 0, none⟩) zs) (h2 : Rdr W 107 rb (some ⟨g, 0, none⟩) n n 0 0) => rgreet_any rb (some ⟨g, 0, none⟩) n n zs 0 0 W hl hn (Nat.le_refl _) (by omega) (by omega) hz h1 h2)
  have HI1 := hid (rdG_in zs 0 0 (by omega) (by omega))
  clear hl hz hseg q0
  go_enter Try.func40, Try.ntmps40
  go_upto_region 2 with (go_at_call 60; refine HOP.out.mono ?_; rintro e w1 ⟨g, rb, rfl, q1, hb, hg, hne, r1, o1⟩; have Q1 := hid q1; have R1 := hid r1; have O1 := hid o1; clear q1 r1 o1)
  have HR2 := hid (show RH w (w1.alloc (.cells #[.pointer (some ⟨rb, 0, none⟩)] 98)) g rb w.heap.size w1.heap.size n zs 0 0 0 nilS nilS [] from
    ⟨(HQ0.out.trans Q1.out).alloc _, R1.out.q ((Q.refl w1).alloc _), (O1.out.q ((Q.refl w1).alloc _)).base (by simp), heap_alloc_new w1 _, (HOB.out.q Q1.out).q ((Q.refl w1).alloc _), sub_nil _ _ _, by have := hb; simp at this; omega, Nat.le_refl _, fun b e => by cases e⟩)
  generalize World.alloc w1 _ = w2 at *
  generalize w1.heap.size = bx at *
  clear Q1 R1 O1 HOP HOB HQ0 hb hg hne
  clear w1
  generalize hob : w.heap.size = ob at *
  have HOBS := hid hob
  clear hob
  have hbx := HR2.out.bc
  go_wp2_with (first
    | (go_at_call 61; refine (HG.out g rb w2 HR2.out.sg HR2.out.rd).mono ?_; rintro e w3 ⟨rfl, o3, r3⟩; have HR3 := hid (HR2.out.only o3 r3); have co0 := HR3.out.of.c0; have fo0 := HR3.out.of.free 0; clear o3 r3 hbx; refine Hid.out ?_))
  refine hid ?_
  generalize hpu : (rdG zs 0 0).1 = pub at *
  have HPU := hid hpu
  clear hpu
  have HR4 := hid (show RH w (w3.setCell ⟨ob, 0, none⟩ (.int .i64 pub)) g rb ob bx n zs (rdG zs 0 0).2.1 (rdG zs 0 0).2.2 pub nilS nilS [] from HR3.out.put ((Keep.refl (fun i => i = ob) w3).setCell ob 0 _ (.inl rfl)) HR3.out.of.set0)
  have hbx4 := HR4.out.bc
  have HBY := hid (byte_any rb (some ⟨g, 0, none⟩) n n zs (rdG zs 0 0).2.1 (rdG zs 0 0).2.2 (w3.setCell ⟨ob, 0, none⟩ (.int .i64 pub)) HL.out hn (Nat.le_refl _) HI1.out.1 (by have := HI1.out.2; have := HL.out; omega) HZ.out HR4.out.sg HR4.out.rd)
  have HCN := hid (show (takeR zs (rdG zs 0 0).2.1 (rdG zs 0 0).2.2 1).1.getD 0 0 = chN zs from rfl)
  rw [HCN.out] at HBY
  have HCB := hid (show 0 ≤ chN zs ∧ chN zs < 256 from by
    rw [← HCN.out]
    have := takeR_bytes (p := (rdG zs 0 0).2.1) (f := (rdG zs 0 0).2.2) (k := 1) HZ.out
    exact getD_byte this 0)
  obtain ⟨cn, hcn⟩ := Int.eq_ofNat_of_zero_le HCB.out.1
  rw [hcn] at HBY
  have HCC := hid hcn
  have hcn2 : cn < 256 := by have := HCB.out.2; omega
  clear hcn HCB
  go_wp2_with (first
    | (go_at_call 62; refine HBY.out.mono ?_; rintro e w5 ⟨rfl, o5, r5⟩; have HR5 := hid (HR4.out.only o5 r5); clear o5 r5 hbx4))
  have HQQ := hid (show chQ zs = rdPs zs (takeR zs (rdG zs 0 0).2.1 (rdG zs 0 0).2.2 1).2.1 (takeR zs (rdG zs 0 0).2.1 (rdG zs 0 0).2.2 1).2.2 cn from by unfold chQ; rw [HCC.out]; rfl)
  have HI2 := hid (takeR_len zs (rdG zs 0 0).2.1 (rdG zs 0 0).2.2 1 HI1.out.1 HI1.out.2)
  generalize (takeR zs (rdG zs 0 0).2.1 (rdG zs 0 0).2.2 1).2.1 = p2 at *
  generalize (takeR zs (rdG zs 0 0).2.1 (rdG zs 0 0).2.2 1).2.2 = f2 at *
  have HIN := hid (rdPs_in zs p2 f2 HI2.out.1 HI2.out.2)
  clear HR4 HR3 HR2 HBY HCN HCC HI1 HI2 HG co0 fo0
  go_loopw [14] (fun iv wr => ∃ (k : Nat) (T : Sv), iv = .int .i64 k ∧ k ≤ cn ∧ RH w wr g rb ob bx n zs (rdPs zs p2 f2 k).2.1 (rdPs zs p2 f2 k).2.2 pub T nilS (rdPs zs p2 f2 k).1) (fun i _ => ((cn : Int) - intOf i).toNat)
  case atStart => exact ⟨0, nilS, rfl, Nat.zero_le _, HR5.out⟩
  case round =>
    clear HR5
    obtain ⟨k, ⟨ta, tn, tc⟩, rfl, hk, hrh⟩ := hrel
    have HR := hid hrh
    clear hrh
    by_cases hkn : k < cn
    · have hki : (k : Int) < (cn : Int) := by omega
      go_wp2_with fail
      generalize hR : Code.region 5 _ true = CC
      have eR : CC = Code.region 5 (RofN Try.f40 5) true := hR.symm.trans (by kernel_rfl)
      clear hR
      subst eR
      refine wp_region_noPanic ?_
      obtain ⟨i1, i2, i3, i4, i5, i6, i7⟩ := HR.out.ids
      have htn : tn = k := by have h1 : (rdPs zs p2 f2 k).1.length = tn := RowT.len HR.out.tr; rw [rdPs_len] at h1; omega
      refine rh5 rb ob bx ⟨ta, tn, tc⟩ pub (rdPs zs p2 f2 k).1 (rdS zs (rdPs zs p2 f2 k).2.1 (rdPs zs p2 f2 k).2.2 1).1 wr _ (fun c a d v w h => h)
        (fun u => Rdr u 107 rb (some ⟨g, 0, none⟩) n n (rdPs zs p2 f2 (k + 1)).2.1 (rdPs zs p2 f2 (k + 1)).2.2 ∧ Own u w.heap.size (some ⟨g, 0, none⟩) n n zs ∧ u.heap[bx]? = some (.cells #[.pointer (some ⟨rb, 0, none⟩)] 98 (0, 0)))
        (fun u v y k => ⟨(k.block rb y.1.lt (fun e => by rcases e with e | e; exact i1 e.symm; exact (i7 rb e).1 rfl)).trans y.1, y.2.1.keep k (fun e => by rcases e with e | e; exact i5 e; exact (i7 g e).2.2.2 rfl), (k.block bx (lt_of_blk y.2.2) (fun e => by rcases e with e | e; exact i3 e; exact (i7 bx e).2.2.1 rfl)).trans y.2.2⟩)
        HR.out.xb (fun e => by rcases e with e | e | e; exact i2 e; exact i3 e; exact (i7 bx e).2.2.1 rfl) i1 (fun b e => (i7 b e).1) (by show tn ≤ 1000; omega)
        (fun u hu => by
          subst hu
          refine (rsized_any rb (some ⟨g, 0, none⟩) n n zs (rdPs zs p2 f2 k).2.1 (rdPs zs p2 f2 k).2.2 1 wr.drew HL.out hn (Nat.le_refl _) (HIN.out k).1 (by have := (HIN.out k).2; have := HL.out; omega) HZ.out (HR.out.grow ((Q.refl wr).drew)).sg (HR.out.grow ((Q.refl wr).drew)).rd (by omega)).mono ?_
          rintro e v ⟨g3, m3, rfl, o3, r3, n3, _⟩
          have h5 := (HR.out.grow ((Q.refl wr).drew)).only o3 r3
          exact ⟨g3, m3, rfl, o3.keepF, ⟨r3, h5.og, h5.xb⟩, n3⟩)
        HR.out.of HR.out.tr (Keep.refl _ _) ?_
      intro g3 m3 g5 ya yn yc u kS yS oS tS bS
      have HR6 := hid (show RH w u g rb ob bx n zs (rdPs zs p2 f2 (k + 1)).2.1 (rdPs zs p2 f2 (k + 1)).2.2 pub ⟨ya, yn, yc⟩ nilS (rdPs zs p2 f2 (k + 1)).1 from
        ⟨kS.below HR.out.q HR.out.q.size (fun i e => by rcases e with e | e | e; rw [e]; exact HR.out.nr; rw [e]; exact HR.out.no; exact HR.out.nt i e), yS.1, yS.2.1, yS.2.2, oS, tS, HR.out.nr, HR.out.no, fun b e => by rcases bS b e with h | h; exact HR.out.nt b h; exact Nat.le_trans HR.out.q.size h⟩)
      clear kS yS oS tS bS HR i1 i2 i3 i4 i5 i6 i7 htn
      refine NoPanic.normal ?_
      refine ‹∀ a w, Code.wp Try.prog _ _ a w → _› _ _ ?_
      go_wp2_with fail
      go_roundw
      case rel => exact ⟨k + 1, ⟨ya, yn, yc⟩, by go_num, by omega, HR6.out⟩
      case measure => simp [intOf]; omega
    · obtain rfl : k = cn := by omega
      rw [← HQQ.out] at HR
      have hni : ¬ (k : Int) < (k : Int) := by omega
      have HIQ := hid (show 0 ≤ (chQ zs).2.1 ∧ (chQ zs).2.1 ≤ zs.length from by rw [HQQ.out]; exact HIN.out k)
      have hbx := HR.out.bc
      have HSD := hid (rsized_any rb (some ⟨g, 0, none⟩) n n zs (chQ zs).2.1 (chQ zs).2.2 2 wr HL.out hn (Nat.le_refl _) HIQ.out.1 (by have := HIQ.out.2; have := HL.out; omega) HZ.out HR.out.sg HR.out.rd (by omega))
      have HDD := hid (show rdS zs (chQ zs).2.1 (chQ zs).2.2 2 = chD zs from rfl)
      rw [HDD.out] at HSD
      have HDI := hid (show 0 ≤ (chD zs).2.1 ∧ (chD zs).2.1 ≤ zs.length from rdS_in zs _ _ 2 HIQ.out.1 HIQ.out.2)
      clear hk hkn HIN HQQ HIQ HDD
      go_upto_region 8 with (first
        | (go_at_call 63; refine HSD.out.mono ?_; rintro e w7 ⟨gd, md, rfl, o7, r7, n7, hm7⟩; have HR7 := hid (HR.out.only o7 r7); have N7 := hid (n7.base HR.out.q.size).row2; have c2 := HR7.out.of.c2; have f2' := HR7.out.of.free 2; have hbx7 := HR7.out.bc; clear o7 r7 n7 hm7 hbx))
      have HR8 := hid (show RH w (w7.setCell ⟨ob, 2, none⟩ (.slice (some ⟨gd, 0, none⟩) md md)) g rb ob bx n zs (chD zs).2.1 (chD zs).2.2 pub ⟨ta, tn, tc⟩ ⟨some ⟨gd, 0, none⟩, md, md⟩ (chQ zs).1 from HR7.out.put ((Keep.refl (fun i => i = ob) w7).setCell ob 2 _ (.inl rfl)) (HR7.out.of.set2 (y := ⟨some ⟨gd, 0, none⟩, md, md⟩)))
      have RD8 := hid (show Row (w7.setCell ⟨ob, 2, none⟩ (.slice (some ⟨gd, 0, none⟩) md md)) ⟨some ⟨gd, 0, none⟩, md, md⟩ (chD zs).1 ∧ New w.heap.size ⟨some ⟨gd, 0, none⟩, md, md⟩ from ⟨Sub.keep N7.out.1 ((Keep.refl (fun i => i = ob) w7).setCell ob 2 _ (.inl rfl)) (sub_ne N7.out.1 HR7.out.of (by decide)), N7.out.2⟩)
      generalize World.setCell w7 _ _ = w8 at *
      clear c2 f2' hbx7 HR7 N7 HR HSD
      clear w7
      have hmd : (chD zs).1.length = md := Row.len RD8.out.1
      have H64 := hid (fun (u : World) (q : Q w8 u) => (whole_any rb (some ⟨g, 0, none⟩) n n (chD zs).2.1 (chD zs).2.2 u hn HDI.out.1 (by have := HDI.out.2; have := HL.out; omega) (HR8.out.grow q).rd).mono (R' := fun e u' => e = .returned (.bool (decide ((chD zs).2.2 = 0 ∧ (chD zs).2.1 = (n : Int)))) ∧ Q w8 u') (fun e u' h => ⟨h.1, q.trans h.2⟩))
      have H65 := hid (fun (u : World) (q : Q w8 u) => (rightPublic_any pub u).mono (R' := fun e u' => e = .returned (.bool (okP pub)) ∧ Q w8 u') (fun e u' h => ⟨h.1, by rw [← h.2]; exact q⟩))
      have H20 := hid (fun (u : World) (q : Q w8 u) => (rightProtos_any ta tn tc (chQ zs).1 u (RowT.len HR8.out.tr) (HR8.out.grow q).tr.seg).mono (R' := fun e u' => e = .returned (.bool (okTs (chQ zs).1)) ∧ Q w8 u') (fun e u' h => ⟨h.1, by rw [← h.2]; exact q⟩))
      have H21 := hid (fun (u : World) (q : Q w8 u) => (rightParams_any (some ⟨gd, 0, none⟩) md md u).mono (R' := fun e u' => e = .returned (.bool (decide (md ≤ 1024))) ∧ Q w8 u') (fun e u' h => ⟨h.1, by rw [← h.2]; exact q⟩))
      have HCO := hid (show chOk zs = (decide ((chD zs).2.2 = 0 ∧ (chD zs).2.1 = (n : Int)) && okP pub && okTs (chQ zs).1 && decide (md ≤ 1024)) from by unfold chOk; rw [HL.out, hmd, HPU.out])
      clear hmd
      generalize decide ((chD zs).2.2 = 0 ∧ (chD zs).2.1 = (n : Int)) = b1 at *
      generalize okP pub = b2 at *
      generalize okTs (chQ zs).1 = b3 at *
      cases b1 with
      | false =>
        have HOK := hid (show chOk zs = false from by rw [HCO.out]; rfl)
        generalize hR : Code.region 8 _ true = CC
        have eR : CC = Code.region 8 (RofN Try.f40 8) true := hR.symm.trans (by kernel_rfl)
        clear hR
        subst eR
        refine wp_region_noPanic ?_
        refine rq0 rb ob bx pub ⟨ta, tn, tc⟩ ⟨some ⟨gd, 0, none⟩, md, md⟩ b2 b3 (decide (md ≤ 1024)) w8 _ HR8.out.of HR8.out.xb H64.out H65.out H20.out H21.out ?_
        intro W qW
        refine NoPanic.normal ?_
        refine ‹∀ a w, Code.wp Try.prog _ _ a w → _› _ _ ?_
        have HRW := hid (HR8.out.grow qW)
        have RDW := hid (show Row W ⟨some ⟨gd, 0, none⟩, md, md⟩ (chD zs).1 ∧ New w.heap.size ⟨some ⟨gd, 0, none⟩, md, md⟩ from ⟨Sub.q RD8.out.1 qW, RD8.out.2⟩)
        clear qW HR8 RD8 H64 H65 H20 H21
        go_wp2
        exact ⟨rfl, _, res40 _ _ ob pub ⟨ta, tn, tc⟩ ⟨some ⟨gd, 0, none⟩, md, md⟩ _ rfl rfl HRW.out.of, ⟨ta, tn, tc⟩, ⟨some ⟨gd, 0, none⟩, md, md⟩, by rw [HPU.out, HOK.out], HRW.out.q, HRW.out.tr, HRW.out.nt, RDW.out.1, RDW.out.2⟩
      | true =>
        cases b2 with
        | false =>
          have HOK := hid (show chOk zs = false from by rw [HCO.out]; rfl)
          generalize hR : Code.region 8 _ true = CC
          have eR : CC = Code.region 8 (RofN Try.f40 8) true := hR.symm.trans (by kernel_rfl)
          clear hR
          subst eR
          refine wp_region_noPanic ?_
          refine rq1 rb ob bx pub ⟨ta, tn, tc⟩ ⟨some ⟨gd, 0, none⟩, md, md⟩ false b3 (decide (md ≤ 1024)) w8 _ HR8.out.of HR8.out.xb H64.out H65.out H20.out H21.out ?_
          intro W qW
          refine NoPanic.normal ?_
          refine ‹∀ a w, Code.wp Try.prog _ _ a w → _› _ _ ?_
          have HRW := hid (HR8.out.grow qW)
          have RDW := hid (show Row W ⟨some ⟨gd, 0, none⟩, md, md⟩ (chD zs).1 ∧ New w.heap.size ⟨some ⟨gd, 0, none⟩, md, md⟩ from ⟨Sub.q RD8.out.1 qW, RD8.out.2⟩)
          clear qW HR8 RD8 H64 H65 H20 H21
          go_wp2
          exact ⟨rfl, _, res40 _ _ ob pub ⟨ta, tn, tc⟩ ⟨some ⟨gd, 0, none⟩, md, md⟩ _ rfl rfl HRW.out.of, ⟨ta, tn, tc⟩, ⟨some ⟨gd, 0, none⟩, md, md⟩, by rw [HPU.out, HOK.out], HRW.out.q, HRW.out.tr, HRW.out.nt, RDW.out.1, RDW.out.2⟩
        | true =>
          cases b3 with
          | false =>
            have HOK := hid (show chOk zs = false from by rw [HCO.out]; rfl)
            generalize hR : Code.region 8 _ true = CC
            have eR : CC = Code.region 8 (RofN Try.f40 8) true := hR.symm.trans (by kernel_rfl)
            clear hR
            subst eR
            refine wp_region_noPanic ?_
            refine rq2 rb ob bx pub ⟨ta, tn, tc⟩ ⟨some ⟨gd, 0, none⟩, md, md⟩ true false (decide (md ≤ 1024)) w8 _ HR8.out.of HR8.out.xb H64.out H65.out H20.out H21.out ?_
            intro W qW
            refine NoPanic.normal ?_
            refine ‹∀ a w, Code.wp Try.prog _ _ a w → _› _ _ ?_
            have HRW := hid (HR8.out.grow qW)
            have RDW := hid (show Row W ⟨some ⟨gd, 0, none⟩, md, md⟩ (chD zs).1 ∧ New w.heap.size ⟨some ⟨gd, 0, none⟩, md, md⟩ from ⟨Sub.q RD8.out.1 qW, RD8.out.2⟩)
            clear qW HR8 RD8 H64 H65 H20 H21
            go_wp2
            exact ⟨rfl, _, res40 _ _ ob pub ⟨ta, tn, tc⟩ ⟨some ⟨gd, 0, none⟩, md, md⟩ _ rfl rfl HRW.out.of, ⟨ta, tn, tc⟩, ⟨some ⟨gd, 0, none⟩, md, md⟩, by rw [HPU.out, HOK.out], HRW.out.q, HRW.out.tr, HRW.out.nt, RDW.out.1, RDW.out.2⟩
          | true =>
            have HOK := hid (show chOk zs = decide (md ≤ 1024) from by rw [HCO.out]; rfl)
            generalize hR : Code.region 8 _ true = CC
            have eR : CC = Code.region 8 (RofN Try.f40 8) true := hR.symm.trans (by kernel_rfl)
            clear hR
            subst eR
            refine wp_region_noPanic ?_
            refine rq3 rb ob bx pub ⟨ta, tn, tc⟩ ⟨some ⟨gd, 0, none⟩, md, md⟩ true true (decide (md ≤ 1024)) w8 _ HR8.out.of HR8.out.xb H64.out H65.out H20.out H21.out ?_
            intro W qW
            refine NoPanic.normal ?_
            refine ‹∀ a w, Code.wp Try.prog _ _ a w → _› _ _ ?_
            have HRW := hid (HR8.out.grow qW)
            have RDW := hid (show Row W ⟨some ⟨gd, 0, none⟩, md, md⟩ (chD zs).1 ∧ New w.heap.size ⟨some ⟨gd, 0, none⟩, md, md⟩ from ⟨Sub.q RD8.out.1 qW, RD8.out.2⟩)
            clear qW HR8 RD8 H64 H65 H20 H21
            go_wp2
            exact ⟨rfl, _, res40 _ _ ob pub ⟨ta, tn, tc⟩ ⟨some ⟨gd, 0, none⟩, md, md⟩ _ rfl rfl HRW.out.of, ⟨ta, tn, tc⟩, ⟨some ⟨gd, 0, none⟩, md, md⟩, by rw [HPU.out, HOK.out], HRW.out.q, HRW.out.tr, HRW.out.nt, RDW.out.1, RDW.out.2⟩
end Go.Proofs.Ytekpepnonhbkcaa
