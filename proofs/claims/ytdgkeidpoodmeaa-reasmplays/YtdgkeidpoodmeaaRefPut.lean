/-
  What the document's own Put answers and does to its buffer, for every piece: a contract that the walk of the law ReasmPlays uses.
-/
import Derived.Test.YtdgkeidpoodmeaaRef
import Derived.BigRegion
import Derived.Deep.Cut
import Derived.Deep.CutRange
namespace Go.Proofs.Ytdgkeidpoodmeaa
open Go.RowKit
set_option linter.unusedVariables false

/-- append of one cell out of a new block of its own. -/
theorem app_one {w : World} {t e : TypeId} {z v : Value} {a : Option Addr} {n cap : Nat} {vs : List Value} {i0 : TypeInfo} (ht : Try.prog.underlying t = some (.slice e)) (hi : Try.prog.info? e = some i0) (hz0 : i0.zero = some z) (hz1 : i0.size = 1) (hz2 : i0.bytes = 1) (hzs : z.cells.size = 1) (hv : v.oneCell' = true)
    (hs : Sub w e 1 a n cap vs) (hn : n ≤ 65536) :
    ∃ a' cap' w', (Builtin.append_ #[t, t] t #[.slice a n cap, .slice (some ⟨w.heap.size, 0, none⟩) 1 1]).run Try.prog (w.alloc (.cells #[v] e)) = .ok (.slice a' (n + 1) cap') w' ∧ Sub w' e 1 a' (n + 1) cap' (vs ++ [v]) ∧ Keep (fun b => blk a = some b) w w' ∧ (∀ b, blk a' = some b → blk a = some b ∨ w.heap.size ≤ b) := by
  have hq : Q w (w.alloc (.cells #[v] e)) := (Q.refl w).alloc _
  have hg : (w.alloc (.cells #[v] e)).heap[w.heap.size]? = some (.cells #[v] e (0, 0)) := heap_alloc_new w _
  have hsrc : ∀ j u, [v][j]? = some u → (w.alloc (.cells #[v] e)).cell? ((⟨w.heap.size, 0, none⟩ : Addr).add j) = some u := by
    intro j u hj
    rw [addr_add, cell_of_row _ _ _ _ e (0, 0) hg, Nat.zero_add]
    simpa using hj
  obtain ⟨a', cap', w', hr, h1, h2, h3⟩ := sub_append (P := Try.prog) (ty := t) ht hi hz0 hz1 hz2 hzs (hs.q hq) (Src.ofSlice _ ht ⟨w.heap.size, 0, none⟩ 1 1 [v] (by simp) hsrc (by intro u hu; rw [List.mem_singleton.1 hu]; exact hv)) (by unfold maxLen; omega) (by omega)
  refine ⟨a', cap', w', hr, h1, (Keep.ofQ hq).trans h2, fun b hb => ?_⟩
  rcases h3 with h | h
  · exact .inl (by rw [← h]; exact hb)
  · rw [h] at hb
    simp at hb
    right
    have := hq.size
    omega

theorem pad_succ {xs : Sl} {L : Nat} (h : xs.length ≤ L) : pad (L + 1) xs = pad L xs ++ [none] := by
  unfold pad
  rw [List.append_assoc, show L + 1 - xs.length = (L - xs.length) + 1 by omega, List.replicate_succ']
theorem pad_enough {xs : Sl} {L k : Nat} (h1 : xs.length ≤ L) (h2 : L ≤ max xs.length k) (h3 : k ≤ L) : pad L xs = pad k xs :=
  sl_ext (by rw [pad_len, pad_len]; omega) (fun j => by rw [pad_at, pad_at])

/-- A byte is taken in the document's buffer. -/
theorem Rw.set {w : World} {rd : Nat} {x : A} {n : Nat} {room off high fin : Int} {known : Bool} {xs : Sl} (h : Rw w rd x n room off high fin known xs) {gh oh gb ob k : Nat} (h1 : x.ah = some ⟨gh, oh, none⟩) (h2 : x.ab = some ⟨gb, ob, none⟩) (hk : k < n) (v : Int) :
    Rw ((w.setCell ⟨gh, oh + k, none⟩ (.bool true)).setCell ⟨gb, ob + k, none⟩ (.int .u8 v)) rd x n room off high fin known (xs.set k (some v)) := by
  have e1 : blk x.ab = some gb := by rw [h2]; rfl
  have e2 : blk x.ah = some gh := by rw [h1]; rfl
  have n1 : gb ≠ gh := fun e => h.e3 gb e1 (by rw [e2, e])
  have kA : Keep (fun k => k = gh) w (w.setCell ⟨gh, oh + k, none⟩ (.bool true)) := (Keep.refl (fun k => k = gh) w).setCell gh _ _ (.inl rfl)
  have kB : Keep (fun k => k = gb) (w.setCell ⟨gh, oh + k, none⟩ (.bool true)) ((w.setCell ⟨gh, oh + k, none⟩ (.bool true)).setCell ⟨gb, ob + k, none⟩ (.int .u8 v)) := (Keep.refl (fun k => k = gb) _).setCell gb _ _ (.inl rfl)
  refine ⟨(h.hd.keep kA (fun e => h.e2 (by rw [e2, e]))).keep kB (fun e => h.e1 (by rw [e1, e])), ?_, ?_, h.e1, h.e2, h.e3⟩
  · rw [← bys_set]
    exact (h.sb.keep kA (fun b hb e => n1 (by rw [e1] at hb; simp at hb; omega))).set h2 (by omega) _
  · rw [← hvs_set]
    exact (h.sh.set h1 (by omega) _).keep kB (fun b hb e => n1 (by rw [e2] at hb; simp at hb; omega))

/-- How many places the document's buffer has. -/
def lenC (w : World) (rd : Nat) : Nat := match w.cell? ⟨rd, 6, none⟩ with
  | some (.slice _ n _) => n
  | _ => 0
theorem lenC_eq {w : World} {rd : Nat} {x : A} {n : Nat} {room off high fin : Int} {known : Bool} {xs : Sl} (h : Rw w rd x n room off high fin known xs) : lenC w rd = n := by
  unfold lenC; rw [h.hd.c6]
theorem mixR_len (xs : Sl) (k : Nat) (zs : List Int) (i : Nat) : (mixR xs k zs i).length ≤ max xs.length (k + i) := by
  induction i with
  | zero => simp [mixR]; omega
  | succ i ih => rw [mixR, set1_len, pad_len]; omega

theorem held_mixR (xs : Sl) (k : Nat) (zs : List Int) (i : Nat) : heldN xs ≤ heldN (mixR xs k zs i) := by
  induction i with
  | zero => exact Nat.le_refl _
  | succ i ih =>
    rw [mixR, held_set1 (by rw [pad_len]; omega), held_pad]
    omega

/-- A place more in the document's buffer. -/
theorem Rw.more {w w1 w2 : World} {rd : Nat} {x : A} {n : Nat} {room off high fin : Int} {known : Bool} {xs : Sl} (h : Rw w rd x n room off high fin known xs) {ah' ab' : Option Addr} {ch' cb' : Nat}
    (s1 : Sub w1 4 1 ah' (n + 1) ch' (hvs xs ++ [.bool false])) (k1 : Keep (fun b => blk x.ah = some b) w w1) (b1 : ∀ b, blk ah' = some b → blk x.ah = some b ∨ w.heap.size ≤ b)
    (s2 : Sub w2 5 1 ab' (n + 1) cb' (bys xs ++ [.int .u8 0])) (k2 : Keep (fun b => blk x.ab = some b) (w1.setCell ⟨rd, 6, none⟩ (.slice ah' (n + 1) ch')) w2) (b2 : ∀ b, blk ab' = some b → blk x.ab = some b ∨ w1.heap.size ≤ b) :
    Rw (w2.setCell ⟨rd, 5, none⟩ (.slice ab' (n + 1) cb')) rd ⟨ab', cb', ah', ch'⟩ (n + 1) room off high fin known (xs ++ [none]) ∧ Keep (Fr rd x) w (w2.setCell ⟨rd, 5, none⟩ (.slice ab' (n + 1) cb')) ∧ (∀ b, Fr rd ⟨ab', cb', ah', ch'⟩ b → Fr rd x b ∨ w.heap.size ≤ b) := by
  have hrl := h.hd.lt
  have hsz := k1.size
  have a1 : blk ah' ≠ some rd := fun e => by
    rcases b1 rd e with hh | hh
    · exact h.e2 hh
    · omega
  have a2 : blk ab' ≠ some rd := fun e => by
    rcases b2 rd e with hh | hh
    · exact h.e1 hh
    · omega
  have a3 : ∀ b, blk ah' = some b → blk x.ab ≠ some b := fun b hb e => by
    rcases b1 b hb with hh | hh
    · exact h.e3 b e hh
    · have := h.sb.lt b e; omega
  have a4 : ∀ b, blk ab' = some b → blk ah' ≠ some b := fun b hb e => by
    rcases b2 b hb with hh | hh
    · exact a3 b e hh
    · have := s1.lt b e; omega
  have kk : Keep (fun k => k = rd) w1 (w1.setCell ⟨rd, 6, none⟩ (.slice ah' (n + 1) ch')) := (Keep.refl (fun k => k = rd) w1).setCell rd 6 _ (.inl rfl)
  have k5 : Keep (fun k => k = rd) w2 (w2.setCell ⟨rd, 5, none⟩ (.slice ab' (n + 1) cb')) := (Keep.refl (fun k => k = rd) w2).setCell rd 5 _ (.inl rfl)
  refine ⟨⟨?_, ?_, ?_, a2, a1, a4⟩, ?_, ?_⟩
  · exact (((h.hd.keep k1 h.e2).have_ ah' (n + 1) ch').keep k2 h.e1).bytes_ ab' (n + 1) cb'
  · rw [bys_append]
    exact s2.keep k5 (fun b hb e => a2 (by rw [hb, e]))
  · rw [hvs_append]
    exact ((s1.keep kk (fun b hb e => a1 (by rw [hb, e]))).keep k2 (fun b hb e => a3 b hb e)).keep k5 (fun b hb e => a1 (by rw [hb, e]))
  · exact (((k1.mono (fun i _ e => .inr (.inr e))).setCell rd 6 _ (.inl (.inl rfl))).trans (k2.mono (fun i _ e => .inr (.inl e)))).setCell rd 5 _ (.inl (.inl rfl))
  · rintro b (rfl | hb | hb)
    · exact .inl (.inl rfl)
    · rcases b2 b hb with hh | hh
      · exact .inl (.inr (.inl hh))
      · right; omega
    · rcases b1 b hb with hh | hh
      · exact .inl (.inr (.inr hh))
      · exact .inr hh

set_option maxHeartbeats 1000000 in
theorem rput_range (rd : Nat) (p : Int) (da : Option Addr) (dn dc : Nat) (f : Bool) (w : World) (hdn : dn ≤ 140737488355328) (h : p < 0 ∨ 4611686018427387903 - (dn : Int) < p) :
    Calls Try.prog 18 #[.pointer (some ⟨rd, 0, none⟩), .int .i64 p, .slice da dn dc, .bool f] w fun r w' => r = .returned (.tuple #[.int .i64 0, .int .i64 30]) ∧ w = w' := by
  have hw : IntKind.i64.wrap (4611686018427387903 - (dn : Int)) = 4611686018427387903 - (dn : Int) := by rw [IntKind.wrap_i64]; omega
  by_cases h1 : p < 0
  · have hb : decide (p < 0) = true := by simp [h1]
    go_enter Try.func18, Try.ntmps18
    go_wp2
    go_ret2
    exact ⟨rfl, rfl⟩
  · have hb : decide (p < 0) = false := by simp [h1]
    have hc : 4611686018427387903 - (dn : Int) < p := by omega
    go_enter Try.func18, Try.ntmps18
    go_wp2
    go_ret2
    exact ⟨rfl, rfl⟩

set_option maxHeartbeats 4000000 in
set_option maxRecDepth 100000 in
theorem rput_rest (rd : Nat) (x : A) (n : Nat) (room : Int) (s : S) (p : Int) (da : Option Addr) (dn dc : Nat) (zs : List Int) (f : Bool) (w : World) (hr : Rw w rd x n room s.off s.high s.fin s.known s.xs) (hO : Ok room s) (hdn : dn ≤ 140737488355328)
    (hz : Seg w da zs) (hl : zs.length = dn) (hd : zs ≠ [] → ∀ b, blk da = some b → ¬ Fr rd x b) (h30 : ¬ (p < 0 ∨ 4611686018427387903 - (dn : Int) < p)) :
    Calls Try.prog 18 #[.pointer (some ⟨rd, 0, none⟩), .int .i64 p, .slice da dn dc, .bool f] w fun r w' => ∃ x' n', r = .returned (.tuple #[.int .i64 (freshOf room s p zs f), .int .i64 (errOf room s p dn f)]) ∧ Rw w' rd x' n' room (putAll room s p zs f).off (putAll room s p zs f).high (putAll room s p zs f).fin (putAll room s p zs f).known (putAll room s p zs f).xs ∧ Keep (Fr rd x) w w' ∧ (∀ b, Fr rd x' b → Fr rd x b ∨ w.heap.size ≤ b) := by
  obtain ⟨r0, r1, o0, len, hih, hh1, f0, f1, kn, un⟩ := hO
  clear kn un
  have hlen := hr.len
  have hw : IntKind.i64.wrap (4611686018427387903 - (dn : Int)) = 4611686018427387903 - (dn : Int) := by rw [IntKind.wrap_i64]; omega
  have hw2 : IntKind.i64.wrap (p + (dn : Int)) = p + (dn : Int) := by rw [IntKind.wrap_i64]; omega
  have hw3 : IntKind.i64.wrap (s.off + room) = s.off + room := by rw [IntKind.wrap_i64]; omega
  have hb : decide (p < 0) = false := by simp; omega
  have hc : ¬ 4611686018427387903 - (dn : Int) < p := by omega
  have c0 := hr.hd.c0
  have c1 := hr.hd.c1
  have c2 := hr.hd.c2
  have c3 := hr.hd.c3
  have c4 := hr.hd.c4
  have HR := hid hr
  have HZ := hid hz
  have HL := hid hl
  have HD := hid hd
  have HN := hid (show n ≤ 65536 from by omega)
  clear hr hz hl hd
  go_enter Try.func18, Try.ntmps18
  go_upto_region 4 with fail
  go_cut [67] from 14 (fun v wc => v = .bool (brk s (p + dn) f) ∧ w = wc)
  case first =>
    cases hk : s.known
    · rw [hk] at c3
      cases f
      · go_wp2_with fail
        go_meet
        case rel => exact ⟨by rw [brk_f hk]; rfl, rfl⟩
      · go_wp2_with fail
        go_meet
        case rel => exact ⟨by rw [brk_f hk]; simp, rfl⟩
    · rw [hk] at c3
      by_cases hg : s.fin < p + dn
      · have hd : decide (s.fin < p + dn) = true := by simp [hg]
        go_wp2_with fail
        go_meet
        case rel => exact ⟨by rw [brk_t hk, hd]; rfl, rfl⟩
      · have hd : decide (s.fin < p + dn) = false := by simp [hg]
        cases f
        · go_wp2_with fail
          go_meet
          case rel => exact ⟨by rw [brk_t hk, hd]; rfl, rfl⟩
        · by_cases hne : p + dn = s.fin
          · have hnb : (p + (dn : Int) != s.fin) = false := by simp [hne]
            have HNE := hid hne
            clear hne
            go_wp2_with fail
            go_meet
            case rel => exact ⟨by rw [brk_t hk, hd]; simp [HNE.out], rfl⟩
          · have hnb : (p + (dn : Int) != s.fin) = true := by simp [hne]
            have HNE := hid hne
            clear hne
            go_wp2_with fail
            go_meet
            case rel => exact ⟨by rw [brk_t hk, hd]; simp [HNE.out], rfl⟩
  case rest =>
    obtain ⟨rfl, rfl⟩ := hcut
    have EE := hid (show errOf room s p zs.length f = errOf room s p dn f from by rw [HL.out])
    cases hk : brk s (p + dn) f
    · by_cases h32 : s.off + room < p + dn
      · have HE := hid (show errOf room s p dn f = 32 from by unfold errOf; rw [if_neg h30, if_neg (by rw [hk]; simp), if_pos h32])
        have FN := hid (fresh_none (room := room) (s := s) (p := p) (zs := zs) (f := f) (by rw [EE.out, HE.out]; decide))
        go_wp2
        go_quiet (fail)
        go_wp2
        go_ret2
        rw [FN.out.1, FN.out.2, HE.out]
        exact ⟨x, n, rfl, HR.out.q ((Q.refl w).drewN nq), (Keep.refl _ w).drewN nq, fun b h => .inl h⟩
      · have HE := hid (show errOf room s p dn f = 0 from by unfold errOf; rw [if_neg h30, if_neg (by rw [hk]; simp), if_neg h32])
        have g2 := HR.out.hd.free 2
        have g3 := HR.out.hd.free 3
        have g4 := HR.out.hd.free 4
        go_upto_region 6 with fail
        go_quiet (fail)
        go_upto_if 79 with fail
        go_cut [] from 14 (fun wc => Rw wc rd x n room s.off s.high (if f then p + (dn : Int) else s.fin) (s.known || f) s.xs ∧ Keep (fun k => k = rd) w wc)
        case first =>
          cases f
          · go_wp2_with fail
            go_meet
            case rel => exact ⟨by simpa using HR.out.q ((Q.refl w).drewN nq), (Keep.refl _ w).drewN nq⟩
          · go_wp2_with fail
            go_meet
            case rel =>
              have k3 : Keep (fun k => k = rd) w (((w.drewN nq).setCell ⟨rd, 3, none⟩ (.bool true)).setCell ⟨rd, 4, none⟩ (.int .i64 (p + (dn : Int)))) := (((Keep.refl (fun k => k = rd) w).drewN nq).setCell rd 3 _ (.inl rfl)).setCell rd 4 _ (.inl rfl)
              have hw0 := HR.out
              refine ⟨⟨?_, hw0.sb.keep k3 (fun b hb e => hw0.e1 (by rw [hb, e])), hw0.sh.keep k3 (fun b hb e => hw0.e2 (by rw [hb, e])), hw0.e1, hw0.e2, hw0.e3⟩, k3⟩
              have := (((hw0.hd.q ((Q.refl w).drewN nq)).known_ true).fin_ (p + (dn : Int)))
              simpa using this
        case rest =>
          obtain ⟨h2w, h2k⟩ := hcut
          have PUT := hid (show putAll room s p zs f = ⟨s.off, max s.high (p + dn), if f then p + (dn : Int) else s.fin, s.known || f, putX s.off s.xs p zs⟩ from by
            unfold putAll; rw [EE.out, HE.out, if_pos rfl]; unfold putSt; rw [HL.out])
          have FRS := hid (show freshOf room s p zs f = (heldN (putX s.off s.xs p zs) : Int) - heldN s.xs from by unfold freshOf; rw [PUT.out])
          generalize (if f then p + (dn : Int) else s.fin) = fi at *
          generalize (s.known || f) = kn2 at *
          have e2 := h2w.hd.c2
          have g2' := h2w.hd.free 2
          have H2W := hid h2w
          have H2K := hid h2k
          clear h2w h2k c0 c1 c2 c3 c4 g2 g3 g4 hk nq
          go_upto_if 92 with fail
          go_cut [] from 14 (fun wd => Rw wd rd x n room s.off (max s.high (p + dn)) fi kn2 s.xs ∧ Keep (fun k => k = rd) w wd)
          case first =>
            by_cases hgt : s.high < p + dn
            · go_wp2_with fail
              go_meet
              case rel =>
                have k3 : Keep (fun k => k = rd) wc (wc.setCell ⟨rd, 2, none⟩ (.int .i64 (p + (dn : Int)))) := (Keep.refl (fun k => k = rd) wc).setCell rd 2 _ (.inl rfl)
                have hw0 := H2W.out
                refine ⟨⟨?_, hw0.sb.keep k3 (fun b hb e => hw0.e1 (by rw [hb, e])), hw0.sh.keep k3 (fun b hb e => hw0.e2 (by rw [hb, e])), hw0.e1, hw0.e2, hw0.e3⟩, H2K.out.trans k3⟩
                rw [show max s.high (p + (dn : Int)) = p + dn by omega]
                exact hw0.hd.high_ _
            · go_wp2_with fail
              go_meet
              case rel => exact ⟨by rw [show max s.high (p + (dn : Int)) = s.high by omega]; exact H2W.out, H2K.out⟩
          case rest =>
            obtain ⟨h3w, h3k⟩ := hcut
            have H3W := hid h3w
            have H3K := hid (show Keep (Fr rd x) w wc from h3k.mono (fun i _ e => .inl e))
            clear h3w h3k H2W H2K e2 g2'
            have HXP := hid (putS_eq s.xs (fstP s.off p dn) (zs.drop (skip s.off p dn)))
            have HPX := hid (show putX s.off s.xs p zs = mixR s.xs (fstP s.off p dn) (zs.drop (skip s.off p dn)) (dn - skip s.off p dn) from by
              have := HXP.out
              rw [List.length_drop, HL.out] at this
              unfold putX; rw [HL.out, this])
            have HFE := hid (show skip s.off p dn < dn → (fstP s.off p dn : Int) = p + skip s.off p dn - s.off ∧ (skip s.off p dn : Int) = max 0 (s.off - p) from fun h => fst_eq h)
            have HSK := hid (show skip s.off p dn = min (s.off - p).toNat dn from rfl)
            clear HXP
            generalize skip s.off p dn = sk at *
            generalize fstP s.off p dn = f0' at *
            generalize max s.high (p + (dn : Int)) = hi2 at *
            have BND := hid (show p + dn ≤ s.off + 65536 ∧ n ≤ 65536 ∧ s.xs.length = n ∧ s.off ≤ 4611686018427387903 from ⟨by omega, HN.out, hlen, by omega⟩)
            have hp0 : 0 ≤ p := by omega
            have hpn : p + (dn : Int) ≤ 4611686018427387903 := by omega
            clear len hih hh1 f0 f1 hlen h30 hw hc r0 r1 hw3 h32
            go_wp2
            go_loopw [12, 11] (fun iv fv wr => ∃ i : Nat, i ≤ dn ∧ iv = .int .i64 i ∧ fv = .int .i64 ((heldN (mixR s.xs f0' (zs.drop sk) (i - sk)) : Int) - heldN s.xs) ∧ ∃ x' n', Rw wr rd x' n' room s.off hi2 fi kn2 (mixR s.xs f0' (zs.drop sk) (i - sk)) ∧ Keep (Fr rd x) w wr ∧ (∀ b, Fr rd x' b → Fr rd x b ∨ w.heap.size ≤ b)) (fun iv _ _ => dn - (intOf iv).toNat)
            case atStart => exact ⟨0, Nat.zero_le _, rfl, by rw [Nat.zero_sub]; simp [mixR], x, n, by rw [Nat.zero_sub]; exact H3W.out, H3K.out, fun b h => .inl h⟩
            case round =>
              obtain ⟨i, hi', rfl, rfl, x', n', hrw, hkw, hfw⟩ := hrel
              have e1 := hrw.hd.c1
              have HRW := hid hrw
              have HKW := hid hkw
              have HFW := hid hfw
              have HLY := hid (show n' ≤ 65536 from by
                have h1 := mixR_len s.xs f0' (zs.drop sk) (i - sk)
                rw [hrw.len] at h1
                have := BND.out
                rcases Nat.lt_or_ge sk dn with hh | hh
                · have := HFE.out hh; omega
                · rw [show i - sk = 0 by omega] at h1
                  have h2 := hrw.len
                  rw [show i - sk = 0 by omega] at h2
                  simp only [mixR] at h2
                  omega)
              clear hrw hkw hfw
              by_cases hlt : i < dn
              · have hlt' : (i : Int) < (dn : Int) := by omega
                have hwa : IntKind.i64.wrap (p + (i : Int)) = p + i := by rw [IntKind.wrap_i64]; omega
                have hwi : IntKind.i64.wrap ((i : Int) + 1) = ((i + 1 : Nat) : Int) := by rw [IntKind.wrap_i64]; omega
                by_cases hsk : i < sk
                · have hwb : IntKind.i64.wrap (p + (i : Int) - s.off) = p + i - s.off := by rw [IntKind.wrap_i64]; have := BND.out; omega
                  have hneg : p + (i : Int) - s.off < 0 := by have := HSK.out; omega
                  have HI0 := hid (show i + 1 - sk = i - sk from by omega)
                  go_wp2
                  go_roundw
                  case rel => exact ⟨i + 1, by omega, by go_num, by rw [HI0.out], x', n', by rw [HI0.out]; exact HRW.out, HKW.out, HFW.out⟩
                  case measure => simp [intOf]; omega
                · have HFX := hid (HFE.out (by omega))
                  have HKN := hid (show ((f0' + (i - sk) : Nat) : Int) = p + i - s.off from by have := HFX.out.1; omega)
                  have HMX := hid (show mixR s.xs f0' (zs.drop sk) (i + 1 - sk) = set1 (pad (f0' + (i - sk) + 1) (mixR s.xs f0' (zs.drop sk) (i - sk))) (f0' + (i - sk)) (zs.getD i 0) from by
                    rw [show i + 1 - sk = (i - sk) + 1 by omega, mixR]
                    congr 1
                    rw [List.getD_eq_getElem?_getD, List.getElem?_drop, show sk + (i - sk) = i by omega, ← List.getD_eq_getElem?_getD])
                  have hwb : IntKind.i64.wrap (p + (i : Int) - s.off) = ((f0' + (i - sk) : Nat) : Int) := by rw [HKN.out, IntKind.wrap_i64]; have := BND.out; omega
                  have hkb : f0' + (i - sk) < 65536 := by have := HKN.out; have := BND.out; omega
                  generalize hmy : mixR s.xs f0' (zs.drop sk) (i - sk) = ys at *
                  have HMY := hid hmy
                  clear hmy
                  generalize f0' + (i - sk) = kN at *
                  have hk0 : ¬ ((kN : Int) < 0) := by omega
                  generalize hws : wr = ws at *
                  clear hws
                  have e6 := HRW.out.hd.c6
                  have HYL := hid HRW.out.len
                  go_wp2
                  go_loopw [] (fun wq => ∃ L x2, ys.length ≤ L ∧ L ≤ max ys.length (kN + 1) ∧ Rw wq rd x2 L room s.off hi2 fi kn2 (pad L ys) ∧ Keep (Fr rd x) w wq ∧ (∀ b, Fr rd x2 b → Fr rd x b ∨ w.heap.size ≤ b)) (fun wq => kN + 1 - lenC wq rd)
                  case atStart => exact ⟨n', x', by rw [HYL.out]; exact Nat.le_refl _, by rw [HYL.out]; omega, by rw [pad_self (by rw [HYL.out]; exact Nat.le_refl _)]; exact HRW.out, HKW.out, HFW.out⟩
                  case round =>
                    obtain ⟨L, x2, hL1, hL2, hrq, hkq, hfq⟩ := hrel
                    have q6 := hrq.hd.c6
                    have q5 := hrq.hd.c5
                    have HRQ := hid hrq
                    have HKQ := hid hkq
                    have HFQ := hid hfq
                    have HL1 := hid hL1
                    have HL2 := hid hL2
                    have HY6 := hid (show ys.length ≤ 65536 from by rw [HYL.out]; exact HLY.out)
                    clear hrq hkq hfq hL1 hL2
                    by_cases hLk : L ≤ kN
                    · have hLk' : (L : Int) ≤ (kN : Int) := by omega
                      obtain ⟨i4, i4i, i4a, i4b, i4c⟩ := info_parts info4
                      obtain ⟨i5, i5i, i5a, i5b, i5c⟩ := info_parts info5
                      obtain ⟨ah', ch', w1, hrun1, s1, k1, b1⟩ := app_one (t := 36) (e := 4) (v := .bool false) Try.underlying36 i4i i4a i4b i4c rfl rfl HRQ.out.sh (by omega)
                      have m1 := HRQ.out.hd.keep k1 HRQ.out.e2
                      have m6 := m1.c6
                      have m5 := m1.c5
                      have v6 := m1.free 6
                      have v5 := m1.free 5
                      have a1 : blk ah' ≠ some rd := fun e => by
                        rcases b1 rd e with hh | hh
                        · exact HRQ.out.e2 hh
                        · have := HRQ.out.hd.lt; omega
                      obtain ⟨ab', cb', w2, hrun2, s2, k2, b2⟩ := app_one (t := 28) (e := 5) (v := .int .u8 0) (w := w1.setCell ⟨rd, 6, none⟩ (.slice ah' (L + 1) ch')) Try.underlying28 i5i i5a i5b i5c rfl rfl ((HRQ.out.sb.keep k1 (fun b hb e => HRQ.out.e3 b hb e)).keep ((Keep.refl (fun k => k = rd) w1).setCell rd 6 _ (.inl rfl)) (fun b hb e => HRQ.out.e1 (by rw [hb, e]))) (by omega)
                      have hsz : (w1.setCell ⟨rd, 6, none⟩ (.slice ah' (L + 1) ch')).heap.size = w1.heap.size := by simp [World.setCell]
                      rw [hsz] at hrun2 b2
                      have MORE := hid (HRQ.out.more s1 k1 b1 s2 k2 b2)
                      have m2 := (m1.have_ ah' (L + 1) ch').keep k2 HRQ.out.e1
                      have t5 := m2.c5
                      have y5 := m2.free 5
                      clear s1 k1 b1 s2 k2 b2 m1 m2 a1
                      go_wp2_with (first
                        | (at_builtin; refine Lib.wpList_append_run _ rfl _ _ _ _ rfl _ _ rfl rfl _ _ hrun1 ?_)
                        | (at_builtin; refine Lib.wpList_append_run _ rfl _ _ _ _ rfl _ _ rfl rfl _ _ hrun2 ?_))
                      go_roundw
                      case rel =>
                        refine ⟨L + 1, ⟨ab', cb', ah', ch'⟩, by have := HL1.out; omega, by have := HL2.out; omega, ?_, HKQ.out.trans' MORE.out.2.1 ?_, ?_⟩
                        · rw [pad_succ HL1.out]; exact MORE.out.1
                        · intro j hj hF
                          rcases HFQ.out j hF with hh | hh
                          · exact hh
                          · omega
                        · intro b hb
                          rcases MORE.out.2.2 b hb with hh | hh
                          · exact HFQ.out b hh
                          · right; have := HKQ.out.size; omega
                      case measure =>
                        have l1 := lenC_eq MORE.out.1
                        have l0 := lenC_eq HRQ.out
                        rw [l1, l0]; omega
                    · have hLk' : ¬ (L : Int) ≤ (kN : Int) := by omega
                      have HPE := hid (pad_enough (k := kN + 1) HL1.out HL2.out (by omega))
                      have HPL := hid HRQ.out.len
                      have HHE := hid (held_pad L ys)
                      have hkL : kN < L := by omega
                      have hkL' : (kN : Int) < (L : Int) := by omega
                      obtain ⟨gh, oh, hgh, fgh, dgh⟩ := HRQ.out.hcell hkL
                      obtain ⟨gb, ob, hgb, fgb, dgb⟩ := HRQ.out.bcell hkL
                      rw [hgh] at q6
                      rw [hgb] at q5
                      have vh := fgh (oh + kN)
                      have vb := fgb (ob + kN)
                      have HHB := hid (show heldN s.xs ≤ heldN ys ∧ heldN ys ≤ 65536 from by
                        have h1 := held_mixR s.xs f0' (zs.drop sk) (i - sk)
                        rw [HMY.out] at h1
                        have := held_le ys; have := HY6.out
                        exact ⟨h1, by omega⟩)
                      rw [← HPE.out] at HMX
                      generalize pad L ys = P at *
                      cases hat : at_ P kN with
                      | none =>
                        rw [hat] at dgh dgb
                        simp only [Option.isSome_none, Option.getD_none] at dgh dgb
                        obtain ⟨db, doff, rfl, dz⟩ := seg_at (HZ.out.keep' HKQ.out HD.out) HL.out hlt
                        generalize zs.getD i 0 = z at *
                        have hP : kN < P.length := by rw [HPL.out]; exact hkL
                        have e1' : set1 P kN z = P.set kN (some z) := by unfold set1; rw [if_pos hat]
                        have HEH := hid (held_set hP hat z)
                        have hwh : IntKind.i64.wrap ((heldN ys : Int) - heldN s.xs + 1) = (heldN ys : Int) - heldN s.xs + 1 := by rw [IntKind.wrap_i64]; have := HHB.out; omega
                        rw [e1'] at HMX
                        have HS2 := hid (HRQ.out.set hgh hgb hkL z)
                        have HK2 := hid (show Keep (Fr rd x) w ((wr.setCell ⟨gh, oh + kN, none⟩ (.bool true)).setCell ⟨gb, ob + kN, none⟩ (.int .u8 z)) from by
                          refine (HKQ.out.trans' (G := fun k => k = gh ∨ k = gb) (((Keep.refl (fun k => k = gh ∨ k = gb) wr).setCell gh _ _ (.inl (.inl rfl))).setCell gb _ _ (.inl (.inr rfl))) ?_)
                          intro j hj hF
                          have hF' : Fr rd x2 j := by
                            rcases hF with rfl | rfl
                            · exact .inr (.inr (by rw [hgh]; rfl))
                            · exact .inr (.inl (by rw [hgb]; rfl))
                          rcases HFQ.out j hF' with hh | hh
                          · exact hh
                          · omega)
                        have HNE := hid (show gb ≠ gh ∧ gh ≠ rd ∧ gb ≠ rd from ⟨fun e => HRQ.out.e3 gb (by rw [hgb]; rfl) (by rw [hgh, e]; rfl), fun e => HRQ.out.e2 (by rw [hgh, e]; rfl), fun e => HRQ.out.e1 (by rw [hgb, e]; rfl)⟩)
                        obtain ⟨ne1, ne2, ne3⟩ := HNE.out
                        clear hat e1' hP fgh fgb hgh hgb
                        go_wp2
                        go_region
                        go_wp2
                        go_roundw
                        case rel => exact ⟨i + 1, by omega, by go_num, by rw [HMX.out, HEH.out, HHE.out]; congr 1; omega, x2, L, by rw [HMX.out]; first | exact HS2.out | exact HS2.out.q ((Q.refl _).drew), by first | exact HK2.out | exact HK2.out.drew, HFQ.out⟩
                        case measure => simp [intOf]; omega
                      | some v =>
                        rw [hat] at dgh
                        simp only [Option.isSome_some] at dgh
                        have e1' : set1 P kN (zs.getD i 0) = P := by unfold set1; rw [if_neg (by rw [hat]; simp)]
                        rw [e1'] at HMX
                        clear hat e1' fgh fgb dgb
                        go_wp2
                        go_roundw
                        case rel => exact ⟨i + 1, by omega, by go_num, by rw [HMX.out, HHE.out], x2, L, by rw [HMX.out]; exact HRQ.out, HKQ.out, HFQ.out⟩
                        case measure => simp [intOf]; omega
              · obtain rfl : i = dn := by omega
                rw [← HPX.out] at HRW
                have HPX2 := hid (show (heldN (mixR s.xs f0' (zs.drop sk) (i - sk)) : Int) - heldN s.xs = freshOf room s p zs f from by rw [FRS.out, HPX.out])
                rw [HPX2.out]
                go_wp2
                go_ret2
                rw [PUT.out, HE.out]
                exact ⟨x', n', rfl, HRW.out, HKW.out, HFW.out⟩
    · have HE := hid (show errOf room s p dn f = 31 from by unfold errOf; rw [if_neg h30, if_pos hk])
      have FN := hid (fresh_none (room := room) (s := s) (p := p) (zs := zs) (f := f) (by rw [EE.out, HE.out]; decide))
      go_wp2
      go_ret2
      rw [FN.out.1, FN.out.2, HE.out]
      exact ⟨rfl, x, ⟨n, HR.out⟩, Keep.refl _ _, fun b h => .inl h⟩

/-- The document's Put, whatever it answers. -/
theorem rput_any (rd : Nat) (x : A) (n : Nat) (room : Int) (s : S) (p : Int) (da : Option Addr) (dn dc : Nat) (zs : List Int) (f : Bool) (w : World) (hr : Rw w rd x n room s.off s.high s.fin s.known s.xs) (hO : Ok room s) (hdn : dn ≤ 140737488355328)
    (hz : Seg w da zs) (hl : zs.length = dn) (hd : zs ≠ [] → ∀ b, blk da = some b → ¬ Fr rd x b) :
    Calls Try.prog 18 #[.pointer (some ⟨rd, 0, none⟩), .int .i64 p, .slice da dn dc, .bool f] w fun r w' => ∃ x' n', r = .returned (.tuple #[.int .i64 (freshOf room s p zs f), .int .i64 (errOf room s p dn f)]) ∧ Rw w' rd x' n' room (putAll room s p zs f).off (putAll room s p zs f).high (putAll room s p zs f).fin (putAll room s p zs f).known (putAll room s p zs f).xs ∧ Keep (Fr rd x) w w' ∧ (∀ b, Fr rd x' b → Fr rd x b ∨ w.heap.size ≤ b) := by
  by_cases h30 : p < 0 ∨ 4611686018427387903 - (dn : Int) < p
  · have e : errOf room s p dn f = 30 := by unfold errOf; rw [if_pos h30]
    obtain ⟨e1, e2⟩ := fresh_none (room := room) (s := s) (p := p) (zs := zs) (f := f) (by rw [hl, e]; decide)
    refine (rput_range rd p da dn dc f w hdn h30).mono ?_
    rintro r w' ⟨rfl, rfl⟩
    rw [e1, e2, e]
    exact ⟨x, n, rfl, hr, Keep.refl _ _, fun b h => .inl h⟩
  · exact rput_rest rd x n room s p da dn dc zs f w hr hO hdn hz hl hd h30

end Go.Proofs.Ytdgkeidpoodmeaa
