/-
  How the bytes of a stream are cut makes no difference to a reader of frames: plain mathematics.
-/
import Derived.Test.YtdlefmlienfjhaaHfM
namespace Go.Proofs.Ytdlefmlienfjhaa
set_option linter.unusedVariables false

/-- An event ahead of others: the pieces of the body are put together. -/
def consE (e : Option Ev) (r : List Ev × List Int) : List Ev × List Int := match e with
  | none => r
  | some e => if e.k = 2 then (r.1, e.d ++ r.2) else (e :: r.1, r.2)
def addE (a b : List Ev × List Int) : List Ev × List Int := (a.1 ++ b.1, a.2 ++ b.2)
theorem addE_nil (a : List Ev × List Int) : addE ([], []) a = a := rfl
theorem addE_nil' (a : List Ev × List Int) : addE a ([], []) = a := by simp [addE]
theorem addE_assoc (a b c : List Ev × List Int) : addE (addE a b) c = addE a (addE b c) := by simp [addE]
theorem consE_add (e : Option Ev) (r s : List Ev × List Int) : consE e (addE r s) = addE (consE e r) s := by
  cases e with
  | none => rfl
  | some e => unfold consE addE; dsimp only; split <;> simp
theorem consE_one (e : Option Ev) (r : List Ev × List Int) : consE e r = addE (consE e ([], [])) r := by rw [← consE_add]; rfl
/-- All steps that the bytes allow. -/
def run : Nat → Hf → (List Ev × List Int) × Hf
  | 0, H => (([], []), H)
  | k + 1, H => if (stp H).1 then (consE (stp H).2.1 (run k (stp H).2.2).1, (run k (stp H).2.2).2) else (([], []), (stp H).2.2)
def runA (H : Hf) : (List Ev × List Int) × Hf := run (H.held.length + 1) H
def Hf.app (H : Hf) (y : List Int) : Hf := { H with held := H.held ++ y }
def Hf.fini (H : Hf) (e : Bool) : Hf := { H with ended := e }
/-- What fits: a reader as it comes to be, or one inside of a frame. -/
def Hany (H : Hf) : Prop := Hok H ∨ Hin H
theorem stp_in {H : Hf} (hk : Hin H) : stp H = if rdy H then (true, (tak H).1, (tak H).2) else (false, none, H) := by
  unfold stp com
  rw [if_neg (by rw [hk.u]; simp), hk.i]
  simp
theorem stp_anyless {H : Hf} (hk : Hany H) (h : (stp H).1 = true) : Hok (stp H).2.2 ∧ (stp H).2.2.held.length ≤ H.held.length := by
  rcases hk with hk | hk
  · have := stp_less hk h; exact ⟨this.1, by omega⟩
  · rw [stp_in hk] at h ⊢
    split at h
    · rename_i hr
      rw [if_pos hr]
      obtain ⟨a, b⟩ := tak_ok hk
      exact ⟨a, by rw [b, List.length_drop]; omega⟩
    · cases h
theorem run_any : ∀ {k j : Nat} {H : Hf}, Hok H → H.held.length < k → H.held.length < j → run k H = run j H
  | 0, _, H, _, h, _ => by omega
  | _, 0, H, _, _, h => by omega
  | k + 1, j + 1, H, hk, h1, h2 => by
    rw [run, run]
    by_cases hs : (stp H).1 = true
    · obtain ⟨a, b⟩ := stp_less hk hs
      rw [if_pos hs, if_pos hs, run_any (k := k) (j := j) a (by omega) (by omega)]
    · rw [if_neg hs, if_neg hs]
theorem runA_eq {H : Hf} (hk : Hok H) : runA H = if (stp H).1 then (consE (stp H).2.1 (runA (stp H).2.2).1, (runA (stp H).2.2).2) else (([], []), (stp H).2.2) := by
  unfold runA
  rw [run]
  by_cases hs : (stp H).1 = true
  · obtain ⟨a, b⟩ := stp_less hk hs
    rw [if_pos hs, if_pos hs, run_any (j := (stp H).2.2.held.length + 1) a (by omega) (by omega)]
  · rw [if_neg hs, if_neg hs]
/-- What comes of a state inside of a frame. -/
def runI (H : Hf) : (List Ev × List Int) × Hf := if rdy H then (consE (tak H).1 (runA (tak H).2).1, (runA (tak H).2).2) else (([], []), H)
theorem runA_in {H : Hf} (hk : Hok H) (hi : H.ins = true) (hf : H.fault = 0) : runA H = runI H := by
  rw [runA_eq hk, stp_in (hk.in_ hi hf)]
  unfold runI
  by_cases hr : rdy H = true
  · rw [if_pos hr, if_pos hr]; rfl
  · rw [if_neg hr, if_neg hr]; rfl
theorem runA_ent {H : Hf} (hk : Hok H) (hi : H.ins = false) (hf : H.fault = 0) (he : (ent H).1 = true) : runA H = runI (ent H).2 := by
  rw [runA_eq hk]
  have e : stp H = if rdy (ent H).2 then (true, (tak (ent H).2).1, (tak (ent H).2).2) else (false, none, (ent H).2) := by
    unfold stp com
    rw [if_neg (by rw [hf]; simp), hi, he]
    simp
  rw [e]
  unfold runI
  by_cases hr : rdy (ent H).2 = true
  · rw [if_pos hr, if_pos hr]; rfl
  · rw [if_neg hr, if_neg hr]; rfl
theorem runA_no {H : Hf} (hk : Hok H) (hi : H.ins = false) (hf : H.fault = 0) (he : (ent H).1 = false) : runA H = (([], []), (ent H).2) := by
  rw [runA_eq hk]
  have e : stp H = (false, none, (ent H).2) := by
    unfold stp com
    rw [if_neg (by rw [hf]; simp), hi, he]
    simp
  rw [e]
  rfl
theorem runA_fault {H : Hf} (hk : Hok H) (hf : H.fault ≠ 0) : runA H = (([], []), H) := by
  rw [runA_eq hk]
  have e : stp H = (false, none, H) := by unfold stp; rw [if_pos hf]
  rw [e]
  rfl
theorem app_nil (H : Hf) : H.app [] = H := by unfold Hf.app; rw [List.append_nil]
theorem Hok.app {H : Hf} (hk : Hok H) {y : List Int} (hy : ∀ b ∈ y, 0 ≤ b ∧ b < 256) : Hok (H.app y) :=
  ⟨hk.s, hk.l, fun b hb => (List.mem_append.1 hb).elim (hk.z b) (hy b), hk.b, hk.i, hk.n, hk.f⟩
theorem Hin.app {H : Hf} (hk : Hin H) {y : List Int} (hy : ∀ b ∈ y, 0 ≤ b ∧ b < 256) : Hin (H.app y) :=
  ⟨hk.s, hk.l, fun b hb => (List.mem_append.1 hb).elim (hk.z b) (hy b), hk.b, hk.i, hk.n, hk.f, hk.u⟩
/-- What is told of the bytes that are there stands, whatever comes behind them. -/
def Same (y : List Int) (r : (List Ev × List Int) × Hf) (s : (List Ev × List Int) × Hf) : Prop :=
  (r.2.fault ≠ 0 → s.1 = r.1 ∧ s.2 = r.2.app y) ∧ (r.2.fault = 0 → s = (addE r.1 (runA (r.2.app y)).1, (runA (r.2.app y)).2))
theorem Same.cons {y : List Int} {r s : (List Ev × List Int) × Hf} (h : Same y r s) (e : Option Ev) : Same y (consE e r.1, r.2) (consE e s.1, s.2) := by
  refine ⟨fun hf => ?_, fun hf => ?_⟩
  · obtain ⟨a, b⟩ := h.1 hf
    exact ⟨by rw [a], b⟩
  · have := h.2 hf
    rw [this]
    dsimp only
    rw [consE_add]
def adv (H : Hf) (n : Nat) : Hf := { H with held := H.held.drop n, left := H.left - n, ins := decide (0 < H.left - n) }
theorem tak_data (H : Hf) (h : bnd H.fr = false) : tak H = ((if H.fr = 0 ∧ 0 < tkN H then some ⟨2, H.held.take (tkN H), 0, 0, 0, 0⟩ else none), adv H (tkN H)) := by
  unfold bnd at h
  have h' := of_decide_eq_false h
  unfold tak
  by_cases h0 : H.fr = 0
  · rw [if_pos h0]
    by_cases hn : 0 < tkN H
    · rw [if_pos hn, if_pos ⟨h0, hn⟩]; rfl
    · rw [if_neg hn, if_neg (fun x => hn x.2)]; rfl
  · rw [if_neg h0, if_neg (by omega), if_neg (by omega), if_neg (by omega), if_neg (fun x => h0 x.1)]; rfl
theorem tak_app {H : Hf} (hk : Hin H) {y : List Int} (hle : H.left ≤ H.held.length) : tak (H.app y) = ((tak H).1, (tak H).2.app y) ∧ rdy (H.app y) = true := by
  have hn := hk.n
  have e1 : tkN H = H.left.toNat := by unfold tkN; omega
  have e2 : tkN (H.app y) = tkN H := by
    rw [e1]; unfold tkN Hf.app; dsimp only; rw [List.length_append]; omega
  have e3 : (H.app y).held.take (tkN H) = H.held.take (tkN H) := List.take_append_of_le_length (by omega)
  have e4 : (H.app y).held.drop (tkN H) = H.held.drop (tkN H) ++ y := List.drop_append_of_le_length (by omega)
  refine ⟨?_, ?_⟩
  · unfold tak
    rw [e2, e3, e4, show (H.app y).fr = H.fr from rfl]
    by_cases c0 : H.fr = 0
    · rw [if_pos c0, if_pos c0]; rfl
    rw [if_neg c0, if_neg c0]
    by_cases c1 : H.fr = 1
    · rw [if_pos c1, if_pos c1]; rfl
    rw [if_neg c1, if_neg c1]
    by_cases c2 : H.fr = 4
    · rw [if_pos c2, if_pos c2]; rfl
    rw [if_neg c2, if_neg c2]
    by_cases c3 : H.fr = 7 ∨ H.fr = 13
    · rw [if_pos c3, if_pos c3]; rfl
    rw [if_neg c3, if_neg c3]
    rfl
  · unfold rdy Hf.app
    dsimp only
    rw [List.length_append]
    split
    · exact decide_eq_true (by omega)
    · exact decide_eq_true (by omega)
theorem runI_app {H : Hf} (hk : Hin H) {y : List Int} (hy : ∀ b ∈ y, 0 ≤ b ∧ b < 256) (ih : Same y (runA (tak H).2) (runA ((tak H).2.app y))) : Same y (runI H) (runI (H.app y)) := by
  have hn := hk.n
  by_cases hr : rdy H = true
  · by_cases hle : H.left ≤ H.held.length
    · obtain ⟨a, b⟩ := tak_app (y := y) hk hle
      have e1 : runI H = (consE (tak H).1 (runA (tak H).2).1, (runA (tak H).2).2) := by unfold runI; rw [if_pos hr]
      have e2 : runI (H.app y) = (consE (tak H).1 (runA ((tak H).2.app y)).1, (runA ((tak H).2.app y)).2) := by unfold runI; rw [if_pos b, a]
      rw [e1, e2]
      exact ih.cons _
    · have hb : bnd H.fr = false := by
        cases hb : bnd H.fr with
        | false => rfl
        | true => unfold rdy at hr; rw [hb] at hr; exact absurd (of_decide_eq_true hr) hle
      have hlen : 0 < H.held.length := by
        unfold rdy at hr
        rw [hb] at hr
        have := of_decide_eq_true hr
        omega
      have e1 : tkN H = H.held.length := by unfold tkN; omega
      have hl1 : 0 < H.left - (H.held.length : Int) := by omega
      have ht := tak_data H hb
      rw [e1, show adv H H.held.length = ({ H with held := [], left := H.left - (H.held.length : Int), ins := true } : Hf) from by unfold adv; rw [List.drop_length, decide_eq_true hl1], List.take_length] at ht
      obtain ⟨G, hG⟩ : ∃ G, G = ({ H with held := [], left := H.left - (H.held.length : Int), ins := true } : Hf) := ⟨_, rfl⟩
      rw [← hG] at ht
      have hGok : Hok G := by
        have := (tak_ok hk).1
        rw [ht] at this
        exact this
      have hGi : G.ins = true := by rw [hG]
      have hGf : G.fault = 0 := by rw [hG]; exact hk.u
      have hGr : rdy G = false := by
        rw [hG]
        unfold rdy
        dsimp only
        rw [hb]
        exact decide_eq_false (by rw [List.length_nil]; omega)
      have hG1 : runA G = (([], []), G) := by rw [runA_in hGok hGi hGf]; unfold runI; rw [hGr]; rfl
      have hrun : runI H = (consE (tak H).1 ([], []), G) := by
        unfold runI
        rw [if_pos hr, ht]
        dsimp only
        rw [hG1]
      rw [hrun]
      refine ⟨fun h => absurd hGf h, fun _ => ?_⟩
      dsimp only
      cases hyn : y with
      | nil => rw [app_nil, app_nil, hG1, addE_nil', hrun]
      | cons y0 yr =>
        rw [← hyn]
        have hyl : 0 < y.length := by rw [hyn]; simp
        have hGy : Hok (G.app y) := hGok.app hy
        have hGyh : (G.app y).held = y := by rw [hG]; rfl
        have hGyl : (G.app y).left = H.left - (H.held.length : Int) := by rw [hG]; rfl
        have m1 : tkN (G.app y) = (min (H.left - (H.held.length : Int)) y.length).toNat := by unfold tkN; rw [hGyh, hGyl]
        have m2 : tkN (H.app y) = H.held.length + tkN (G.app y) := by
          rw [m1]; unfold tkN Hf.app; dsimp only; rw [List.length_append]; omega
        have m3 : 0 < tkN (G.app y) := by rw [m1]; omega
        have r1 : rdy (G.app y) = true := by
          unfold rdy
          rw [hGyh, hGyl, show (G.app y).fr = H.fr from by rw [hG]; rfl, hb]
          exact decide_eq_true (by omega)
        have r2 : rdy (H.app y) = true := by
          unfold rdy Hf.app
          dsimp only
          rw [hb]
          exact decide_eq_true (by rw [List.length_append]; omega)
        have t1 := tak_data (G.app y) (by rw [show (G.app y).fr = H.fr from by rw [hG]; rfl]; exact hb)
        have t2 := tak_data (H.app y) hb
        have hstate : adv (H.app y) (tkN (H.app y)) = adv (G.app y) (tkN (G.app y)) := by
          have a1 : (H.app y).held.drop (tkN (H.app y)) = (G.app y).held.drop (tkN (G.app y)) := by
            rw [m2, hGyh]
            show (H.held ++ y).drop _ = _
            rw [List.drop_append]
            simp
          have a2 : (H.app y).left - (tkN (H.app y) : Int) = (G.app y).left - tkN (G.app y) := by
            rw [hGyl, m2]
            show H.left - _ = _
            omega
          unfold adv
          rw [a1, a2]
          subst hG
          rfl
        have hdat : (H.app y).held.take (tkN (H.app y)) = H.held ++ (G.app y).held.take (tkN (G.app y)) := by
          rw [m2, hGyh]
          show (H.held ++ y).take _ = _
          rw [List.take_append, List.take_of_length_le (by omega), Nat.add_sub_cancel_left]
        rw [hstate, hdat] at t2
        have hfr : (H.app y).fr = (G.app y).fr := by rw [hG]; rfl
        rw [hfr] at t2
        rw [runA_in hGy (by rw [hG]; rfl) (by rw [hG]; exact hk.u)]
        unfold runI
        rw [if_pos r1, if_pos r2, t1, t2]
        dsimp only
        rw [ht]
        dsimp only
        rw [show (G.app y).fr = H.fr from by rw [hG]; rfl]
        by_cases h0 : H.fr = 0
        · rw [if_pos (show H.fr = 0 ∧ 0 < tkN (H.app y) from ⟨h0, by omega⟩), if_pos (show H.fr = 0 ∧ 0 < H.held.length from ⟨h0, hlen⟩), if_pos (show H.fr = 0 ∧ 0 < tkN (G.app y) from ⟨h0, m3⟩)]
          unfold consE addE
          simp
        · rw [if_neg (fun x => h0 x.1), if_neg (fun x => h0 x.1), if_neg (fun x => h0 x.1)]
          rfl
  · have e1 : runI H = (([], []), H) := by unfold runI; rw [if_neg hr]
    rw [e1]
    refine ⟨fun h => absurd hk.u h, fun _ => ?_⟩
    dsimp only
    rw [addE_nil]
    by_cases hz : 0 < H.left
    · have hok : Hok (H.app y) := Hok.app (H := H) ⟨hk.s, hk.l, hk.z, hk.b, fun _ => hz, hk.n, hk.f⟩ hy
      rw [runA_in hok hk.i hk.u]
    · exfalso
      apply hr
      unfold rdy
      split
      · exact decide_eq_true (by omega)
      · exact decide_eq_true (by omega)
theorem ent_app {H : Hf} {y : List Int} (hk : Hok H) (he : (ent H).1 = true) : ent (H.app y) = (true, (ent H).2.app y) := by
  obtain ⟨m, p, n, q, h1, h2, h3, h4⟩ := ent_rd he
  have r2 := rd_in h2 hk.z
  rw [h4]
  unfold ent
  rw [show (H.app y).held = H.held ++ y from rfl, rd_app y h1]
  dsimp only
  rw [rd_app y h2]
  dsimp only
  rw [if_neg (by simp), if_neg (by simp), if_neg (by show ¬ (refu H.st H.lim H.begun m n ≠ 0); simpa using h3), List.drop_append_of_le_length (by omega)]
  rfl
theorem ent_faulted {H : Hf} {y : List Int} (hf : H.fault = 0) (he : (ent H).1 = false) (hf2 : (ent H).2.fault ≠ 0) : ent (H.app y) = (false, (ent H).2.app y) := by
  unfold ent at he hf2 ⊢
  obtain ⟨m, p, f, hx⟩ : ∃ m p f, rd H.held 0 = (m, p, f) := ⟨_, _, _, rfl⟩
  rw [hx] at he hf2 ⊢
  dsimp only at he hf2 ⊢
  by_cases h1 : f = 0
  · subst h1
    obtain ⟨n, q, g, hy⟩ : ∃ n q g, rd H.held p = (n, q, g) := ⟨_, _, _, rfl⟩
    rw [hy] at he hf2 ⊢
    dsimp only at he hf2 ⊢
    by_cases h2 : g = 0
    · subst h2
      rw [show (H.app y).held = H.held ++ y from rfl, rd_app y hx]
      dsimp only
      rw [rd_app y hy]
      dsimp only
      rw [if_neg (by simp), if_neg (by simp)] at he hf2 ⊢
      by_cases h3 : refu H.st H.lim H.begun m n ≠ 0
      · rw [if_pos h3]
        rw [show (H.app y).st = H.st from rfl, show (H.app y).lim = H.lim from rfl, show (H.app y).begun = H.begun from rfl, if_pos h3]
        rw [if_neg (by simp), if_neg (by simp)]
        rfl
      · rw [if_neg h3] at he; cases he
    · rw [if_neg (by simp), if_pos h2] at hf2; exact absurd hf hf2
  · rw [if_pos h1] at hf2; exact absurd hf hf2
theorem ent_stay {H : Hf} (hf : H.fault = 0) (he : (ent H).1 = false) (hf2 : (ent H).2.fault = 0) : (ent H).2 = H := by
  unfold ent at he hf2 ⊢
  by_cases a : (rd H.held 0).2.2 ≠ 0
  · rw [if_pos a]
  rw [if_neg a] at he hf2 ⊢
  by_cases b : (rd H.held (rd H.held 0).2.1).2.2 ≠ 0
  · rw [if_pos b]
  rw [if_neg b] at he hf2 ⊢
  by_cases c : refu H.st H.lim H.begun (rd H.held 0).1 (rd H.held (rd H.held 0).2.1).1 ≠ 0
  · rw [if_pos c] at hf2; exact absurd hf2 c
  · rw [if_neg c] at he; cases he
theorem run_app {y : List Int} (hy : ∀ b ∈ y, 0 ≤ b ∧ b < 256) : ∀ (n : Nat) (H : Hf), Hok H → H.held.length ≤ n → Same y (runA H) (runA (H.app y)) := by
  intro n
  induction n with
  | zero =>
    intro H hk hn
    by_cases hf : H.fault = 0
    · have hnil : H.held = [] := List.eq_nil_of_length_eq_zero (by omega)
      cases hi : H.ins with
      | true =>
        have hr : rdy H = false := by
          have h2 := hk.i hi
          unfold rdy
          split
          · exact decide_eq_false (by rw [hnil, List.length_nil]; omega)
          · exact decide_eq_false (by rw [hnil, List.length_nil]; omega)
        rw [runA_in hk hi hf]
        have e1 : runI H = (([], []), H) := by unfold runI; rw [hr]; rfl
        rw [e1]
        exact ⟨fun h => absurd hf h, fun _ => by dsimp only; rw [addE_nil]⟩
      | false =>
        have he : (ent H).1 = false ∧ (ent H).2 = H := by
          unfold ent
          have : (rd H.held 0).2.2 = 12 := by rw [hnil]; rfl
          rw [if_pos (by rw [this]; decide)]
          exact ⟨rfl, rfl⟩
        rw [runA_no hk hi hf he.1, he.2]
        exact ⟨fun h => absurd hf h, fun _ => by dsimp only; rw [addE_nil]⟩
    · rw [runA_fault hk hf, runA_fault (hk.app hy) hf]
      exact ⟨fun _ => ⟨rfl, rfl⟩, fun h => absurd h hf⟩
  | succ n ih =>
    intro H hk hn
    by_cases hf : H.fault = 0
    · cases hi : H.ins with
      | true =>
        have hin := hk.in_ hi hf
        rw [runA_in hk hi hf, runA_in (hk.app hy) hi hf]
        by_cases hr : rdy H = true
        · have hs : (stp H).1 = true := by rw [stp_in hin, if_pos hr]
          have h2 := stp_less hk hs
          rw [stp_in hin, if_pos hr] at h2
          exact runI_app hin hy (ih _ h2.1 (by have := h2.2; dsimp only at this; omega))
        · have e1 : runI H = (([], []), H) := by unfold runI; rw [if_neg hr]
          rw [e1]
          exact ⟨fun h => absurd hf h, fun _ => by dsimp only; rw [addE_nil, runA_in (hk.app hy) hi hf]⟩
      | false =>
        cases he : (ent H).1 with
        | true =>
          obtain ⟨g1, g2⟩ := ent_in hk he
          have ea := ent_app (y := y) hk he
          rw [runA_ent hk hi hf he, runA_ent (hk.app hy) hi hf (by rw [ea]), ea]
          obtain ⟨t1, t2⟩ := tak_ok g1
          exact runI_app g1 hy (ih _ t1 (by rw [t2, List.length_drop]; omega))
        | false =>
          by_cases hf2 : (ent H).2.fault = 0
          · have e := ent_stay hf he hf2
            rw [runA_no hk hi hf he, e]
            exact ⟨fun h => absurd hf h, fun _ => by dsimp only; rw [addE_nil]⟩
          · have ea := ent_faulted (y := y) hf he hf2
            rw [runA_no hk hi hf he, runA_no (hk.app hy) hi hf (by rw [ea]), ea]
            exact ⟨fun _ => ⟨rfl, rfl⟩, fun h => absurd h hf2⟩
    · rw [runA_fault hk hf, runA_fault (hk.app hy) hf]
      exact ⟨fun _ => ⟨rfl, rfl⟩, fun h => absurd h hf⟩
theorem runA_app {H : Hf} (hk : Hok H) {y : List Int} (hy : ∀ b ∈ y, 0 ≤ b ∧ b < 256) : Same y (runA H) (runA (H.app y)) := run_app hy _ H hk (Nat.le_refl _)
/-- What Next tells, against all steps. -/
theorem nxt_run : ∀ {k : Nat} {H : Hf}, Hok H → H.held.length < k →
    (∀ e G, nxt k H = (some e, G) → Hok G ∧ G.held.length < H.held.length ∧ runA H = (consE (some e) (runA G).1, (runA G).2)) ∧ (∀ G, nxt k H = (none, G) → runA H = (([], []), G) ∧ Hok G ∧ G.held.length ≤ H.held.length)
  | 0, H, _, h => by omega
  | k + 1, H, hk, h => by
    rw [nxt, runA_eq hk]
    by_cases hs : (stp H).1 = true
    · rw [if_pos hs, if_pos hs]
      obtain ⟨a, b⟩ := stp_less hk hs
      cases he : (stp H).2.1 with
      | some e =>
        dsimp only
        refine ⟨fun e' G' h' => ?_, fun G' h' => (by cases h')⟩
        cases h'
        exact ⟨a, b, rfl⟩
      | none =>
        dsimp only
        obtain ⟨i1, i2⟩ := nxt_run a (k := k) (by omega)
        refine ⟨fun e' G' h' => ?_, fun G' h' => ?_⟩
        · obtain ⟨j1, j2, j3⟩ := i1 e' G' h'
          refine ⟨j1, by omega, ?_⟩
          rw [j3]
          rfl
        · obtain ⟨j1, j2, j3⟩ := i2 G' h'
          refine ⟨?_, j2, by omega⟩
          rw [j1]
          rfl
    · have hs' : (stp H).1 = false := by simpa using hs
      rw [if_neg hs, if_neg hs]
      obtain ⟨a, b⟩ := stp_no hk hs'
      refine ⟨fun e G' h' => (by cases h'), fun G' h' => ?_⟩
      cases h'
      exact ⟨rfl, a, b⟩
end Go.Proofs.Ytdlefmlienfjhaa
