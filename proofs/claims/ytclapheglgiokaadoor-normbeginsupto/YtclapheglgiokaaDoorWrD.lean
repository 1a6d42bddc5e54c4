/-
  A number's hexadecimal digits, by the library's own text: contracts that the statements' walks use.
-/
import Derived.Test.YtclapheglgiokaaDoorWrA
import Derived.Deep.Cut
import Derived.Lib.LaidTab
namespace Go.Proofs.YtclapheglgiokaaDoor
open Go.RowKit
set_option linter.unusedVariables false
set_option maxRecDepth 20000

/-- What the walk wants of the library's table: its place 15 holds 4. -/
def Tb (w : World) : Prop := w.cell? ⟨5, 15, none⟩ = some (.int .u8 4)
theorem Tb.q {w w' : World} (h : Tb w) (q : Q w w') : Tb w' := by
  have c0 : w.cell? ⟨5, 15, none⟩ = some (.int .u8 4) := h
  show w'.cell? ⟨5, 15, none⟩ = some (.int .u8 4)
  rw [q.cell (lt_of_cell c0)]; exact c0
theorem tz_any (w : World) (h : Tb w) : Calls Tryd.prog 112 #[.int .u64 16] w fun e w' => e = .returned (.int .i64 4) ∧ w' = w := by
  have c0 : w.cell? ⟨5, 15, none⟩ = some (.int .u8 4) := h
  have e1 : IntKind.u64.wrap (-16) = 18446744073709551600 := by decide
  have e2 : bits BinOp.and IntKind.u64 16 18446744073709551600 = 16 := by decide
  have e3 : IntKind.u64.wrap (16 * 285870213051353865) = 4573923408821661840 := by decide
  have e3' : IntKind.u64.wrap 4573923408821661840 = 4573923408821661840 := by decide
  go_enter Tryd.func112, Tryd.ntmps112
  go_wp2
  go_ret
  exact ⟨rfl, rfl⟩
theorem tzu_any (w : World) (h : Tb w) : Calls Tryd.prog 102 #[.int .u64 16] w fun e w' => e = .returned (.int .i64 4) ∧ w' = w := by
  have HT := hid (tz_any w h)
  clear h
  go_enter Tryd.func102, Tryd.ntmps102
  go_wp2_with (go_at_call 112; refine HT.out.mono ?_; rintro e w1 ⟨rfl, rfl⟩)
  go_ret
  exact ⟨rfl, rfl⟩
theorem pow_any (w : World) : Calls Tryd.prog 101 #[.int .i64 16] w fun e w' => e = .returned (.bool true) ∧ w' = w := by
  go_enter Tryd.func101, Tryd.ntmps101
  go_wp2
  go_ret
  exact ⟨rfl, rfl⟩
def kDig : ByteArray := ⟨#[48, 49, 50, 51, 52, 53, 54, 55, 56, 57, 97, 98, 99, 100, 101, 102, 103, 104, 105, 106, 107, 108, 109, 110, 111, 112, 113, 114, 115, 116, 117, 118, 119, 120, 121, 122]⟩
/-- A hexadecimal digit; a number's digits. -/
def hxd (d : Nat) : UInt8 := if h : d < 36 then kDig[d]'h else 0
def hexG (n : Nat) : List UInt8 := if n < 16 then [hxd n] else hexG (n / 16) ++ [hxd (n % 16)]
decreasing_by omega
theorem hexG_lt {n : Nat} (h : n < 16) : hexG n = [hxd n] := by rw [hexG]; rw [if_pos h]
theorem hexG_ge {n : Nat} (h : ¬ n < 16) : hexG n = hexG (n / 16) ++ [hxd (n % 16)] := by conv => lhs; rw [hexG]; rw [if_neg h]
theorem dig_ix (d : Nat) (h : d < 16) (W : World) : (Instr.index 9 (.string ⟨#[48, 49, 50, 51, 52, 53, 54, 55, 56, 57, 97, 98, 99, 100, 101, 102, 103, 104, 105, 106, 107, 108, 109, 110, 111, 112, 113, 114, 115, 116, 117, 118, 119, 120, 121, 122]⟩) (.int .u64 (d : Int))).run Tryd.prog W = .ok (.int .u8 (hxd d).toNat) W := by
  have hu := run_underlying (P := Tryd.prog) (w := W) Tryd.underlying9
  have hs : d < (⟨#[48, 49, 50, 51, 52, 53, 54, 55, 56, 57, 97, 98, 99, 100, 101, 102, 103, 104, 105, 106, 107, 108, 109, 110, 111, 112, 113, 114, 115, 116, 117, 118, 119, 120, 121, 122]⟩ : ByteArray).size := by show d < 36; omega
  have e : hxd d = (⟨#[48, 49, 50, 51, 52, 53, 54, 55, 56, 57, 97, 98, 99, 100, 101, 102, 103, 104, 105, 106, 107, 108, 109, 110, 111, 112, 113, 114, 115, 116, 117, 118, 119, 120, 121, 122]⟩ : ByteArray)[d]'hs := by unfold hxd; rw [dif_pos (by omega)]; rfl
  rw [e]
  generalize (⟨#[48, 49, 50, 51, 52, 53, 54, 55, 56, 57, 97, 98, 99, 100, 101, 102, 103, 104, 105, 106, 107, 108, 109, 110, 111, 112, 113, 114, 115, 116, 117, 118, 119, 120, 121, 122]⟩ : ByteArray) = s at *
  simp [Instr.index, hu, asIntOf, go_sem, hs]
theorem and15 (u : Nat) (h : u ≤ 16384) : bits BinOp.and IntKind.u64 (u : Int) 15 = ((u % 16 : Nat) : Int) := by
  have h1 : (BitVec.ofInt 64 (u : Int)).toNat = u := by
    rw [BitVec.toNat_ofInt]
    omega
  have h2 : (BitVec.ofInt 64 15).toNat = 15 := by decide
  have e : (BitVec.ofInt 64 (u : Int) &&& BitVec.ofInt 64 15).toNat = u % 16 := by
    rw [BitVec.toNat_and, h1, h2]
    exact Nat.and_two_pow_sub_one_eq_mod u 4
  show IntKind.u64.wrap ((BitVec.ofInt 64 (u : Int) &&& BitVec.ofInt 64 15).toNat : Int) = _
  rw [e]
  have hm : u % 16 < 16 := Nat.mod_lt _ (by decide)
  generalize u % 16 = m at *
  unfold IntKind.wrap
  simp [IntKind.bits, IntKind.signed]
  omega
theorem drop_put {cs : Array Value} {M : Nat} {v : Value} {X : List Value} (hM : M < cs.size) (h : cs.toList.drop (M + 1) = X) : (cs.setIfInBounds M v).toList.drop M = v :: X := by
  rw [Array.toList_setIfInBounds]
  have hl : M < (cs.toList.set M v).length := by rw [List.length_set, Array.length_toList]; exact hM
  rw [List.drop_eq_getElem_cons hl, List.getElem_set_self, List.drop_set_of_lt (by omega), h]
/-- The conversion's row, as it stands in the library's array: its places from i on. -/
theorem arr_str {W : World} {b : Nat} {cs : Array Value} (hb : Blk W b 150 cs) (i : Nat) (ds : List UInt8) (h : cs.toList.drop i = Lib.byteCells ds) (c : Nat) : (convert 28 9 (.slice (some ⟨b, i, none⟩) ds.length c)).run Tryd.prog W = .ok (.string ⟨ds.toArray⟩) W := by
  refine run_convert_bytes_back W 28 9 5 ⟨b, i, none⟩ c ds Tryd.underlying28 Tryd.underlying5 Tryd.underlying9 (fun j hj => ?_)
  rw [addr_add, hb.cell]
  have e : cs.toList[i + j]? = (Lib.byteCells ds)[j]? := by rw [← h, List.getElem?_drop]
  rw [Array.getElem?_toList] at e
  rw [e]
  simp [Lib.byteCells, hj]
set_option maxHeartbeats 16000000 in
theorem fmtbits_any (n : Nat) (w : World) (h : Tb w) (hn : n ≤ 16384) : Calls Tryd.prog 91 #[.slice none 0 0, .int .u64 (n : Int), .int .i64 16, .bool false, .bool false] w fun e w' => e = .returned (.tuple #[.slice none 0 0, .string ⟨(hexG n).toArray⟩]) ∧ Q w w' := by
  have HP := hid pow_any
  have HTZ := hid tzu_any
  have HT1 := hid (h.q ((Q.refl w).alloc (.cells Tryd.zeroCells150 150)))
  have HQ1 := hid ((Q.refl w).alloc (.cells Tryd.zeroCells150 150))
  have HB1 := hid (blk_new w Tryd.zeroCells150 150)
  have hN := hid hn
  have HBW := hid (Nat.le_refl w.heap.size)
  clear h hn
  go_enter Tryd.func91, Tryd.ntmps91
  go_upto_region 4 with fail
  generalize hW : World.alloc w _ = W1 at *
  clear hW
  generalize hb : w.heap.size = b at HB1 HBW ⊢
  replace HBW := hid (Nat.le_of_eq hb)
  clear hb
  have e1 : ((16 : Int) - 1) = 15 := by decide
  go_wp2_with (first | (go_at_call 101; refine (HP.out _).mono ?_; rintro e w2 ⟨rfl, h2⟩; replace h2 := h2.symm; subst h2) | (go_at_call 102; refine (HTZ.out _ HT1.out).mono ?_; rintro e w2 ⟨rfl, h2⟩; replace h2 := h2.symm; subst h2))
  go_loopw [1, 13] (fun uv i wr => ∃ (k u : Nat) (ds : List UInt8) (cs : Array Value), (k = 0 ∧ u ≤ 16384 ∨ k = 1 ∧ u ≤ 1024 ∨ k = 2 ∧ u ≤ 64 ∨ k = 3 ∧ u ≤ 4) ∧ i = .int .i64 (65 - (k : Int)) ∧ uv = .int .u64 (u : Int) ∧ hexG u ++ ds = hexG n ∧ ds.length = k ∧ Blk wr b 150 cs ∧ cs.size = 65 ∧ cs.toList.drop (65 - k) = Lib.byteCells ds ∧ Q w wr) (fun uv _ _ => (intOf uv).toNat)
  case atStart => exact ⟨0, n, [], Tryd.zeroCells150, .inl ⟨rfl, hN.out⟩, rfl, rfl, by simp, rfl, HB1.out, by kernel_rfl, by kernel_rfl, HQ1.out⟩
  case round =>
    obtain ⟨k, u, ds, cs, hku, rfl, rfl, hx, hd, hb, hs, hdr, hq⟩ := hrel
    rcases hku with ⟨rfl, hu⟩ | ⟨rfl, hu⟩ | ⟨rfl, hu⟩ | ⟨rfl, hu⟩
    · by_cases h16 : 16 ≤ u
      · have ha := and15 u (by omega)
        obtain ⟨d, hdd⟩ : ∃ d, d = u % 16 := ⟨_, rfl⟩
        have hdl : d < 16 := by omega
        rw [← hdd] at ha
        have hix := fun W => dig_ix d hdl W
        have hge : hexG u = hexG (u / 16) ++ [hxd d] := by rw [hdd]; exact hexG_ge (by omega)
        have hg : ((16 : Int) ≤ (u : Int)) := by omega
        have hub : (u : Int) ≤ 16384 := by omega
        have hu0 : (0 : Int) ≤ (u : Int) := by omega
        obtain ⟨v, hv⟩ : ∃ v, wr.cell? ⟨b, 64, none⟩ = some v := ⟨cs[64]'(by omega), by rw [hb.cell]; exact Array.getElem?_eq_getElem _⟩
        have hf : wr.frozen? ⟨b, 64, none⟩ = false := hb.frozen 64
        have HBN := hid (hb.set 64 (.int .u8 (hxd d).toNat))
        have HDN := hid (drop_put (v := .int .u8 (hxd d).toNat) (show 64 < cs.size by omega) hdr)
        have HSN := hid (show (cs.setIfInBounds 64 (.int .u8 (hxd d).toNat)).size = 65 from by rw [Array.size_setIfInBounds]; exact hs)
        have HQN := hid (hq.setCell (p := ⟨b, 64, none⟩) (by have := HBW.out; show w.heap.size ≤ b; omega) (.int .u8 (hxd d).toNat))
        have HXN := hid (show hexG (u / 16) ++ (hxd d :: ds) = hexG n from by rw [← hx, hge]; simp)
        clear hb hdr hq hx hs hge hdd
        go_wp2_with fail
        go_roundw
        case rel => exact ⟨0+1, u / 16, hxd d :: ds, _, by omega, by first | rfl | go_num, by first | rfl | go_num | simp, HXN.out, by simp [hd], HBN.out, HSN.out, HDN.out, HQN.out⟩
        case measure => simp [intOf]; omega
      · have hix := fun W => dig_ix u (by omega) W
        have hg : ¬ ((16 : Int) ≤ (u : Int)) := by omega
        have hub : (u : Int) < 16 := by omega
        have hu0 : (0 : Int) ≤ (u : Int) := by omega
        obtain ⟨v, hv⟩ : ∃ v, wr.cell? ⟨b, 64, none⟩ = some v := ⟨cs[64]'(by omega), by rw [hb.cell]; exact Array.getElem?_eq_getElem _⟩
        have hf : wr.frozen? ⟨b, 64, none⟩ = false := hb.frozen 64
        have hbn := hb.set 64 (.int .u8 (hxd u).toNat)
        have hdn := drop_put (v := .int .u8 (hxd u).toNat) (show 64 < cs.size by omega) hdr
        have hst := arr_str hbn 64 (hxd u :: ds) hdn 1
        rw [show (hxd u :: ds).length = 1 from by simp [hd]] at hst
        have HQN := hid (hq.setCell (p := ⟨b, 64, none⟩) (by have := HBW.out; show w.heap.size ≤ b; omega) (.int .u8 (hxd u).toNat))
        have HXN := hid (show hxd u :: ds = hexG n from by rw [← hx, hexG_lt (by omega)]; rfl)
        clear hb hdr hq hx hs hbn hdn
        go_wp2_with fail
        go_ret2
        exact ⟨by rw [← HXN.out]; rfl, HQN.out⟩
    · by_cases h16 : 16 ≤ u
      · have ha := and15 u (by omega)
        obtain ⟨d, hdd⟩ : ∃ d, d = u % 16 := ⟨_, rfl⟩
        have hdl : d < 16 := by omega
        rw [← hdd] at ha
        have hix := fun W => dig_ix d hdl W
        have hge : hexG u = hexG (u / 16) ++ [hxd d] := by rw [hdd]; exact hexG_ge (by omega)
        have hg : ((16 : Int) ≤ (u : Int)) := by omega
        have hub : (u : Int) ≤ 16384 := by omega
        have hu0 : (0 : Int) ≤ (u : Int) := by omega
        obtain ⟨v, hv⟩ : ∃ v, wr.cell? ⟨b, 63, none⟩ = some v := ⟨cs[63]'(by omega), by rw [hb.cell]; exact Array.getElem?_eq_getElem _⟩
        have hf : wr.frozen? ⟨b, 63, none⟩ = false := hb.frozen 63
        have HBN := hid (hb.set 63 (.int .u8 (hxd d).toNat))
        have HDN := hid (drop_put (v := .int .u8 (hxd d).toNat) (show 63 < cs.size by omega) hdr)
        have HSN := hid (show (cs.setIfInBounds 63 (.int .u8 (hxd d).toNat)).size = 65 from by rw [Array.size_setIfInBounds]; exact hs)
        have HQN := hid (hq.setCell (p := ⟨b, 63, none⟩) (by have := HBW.out; show w.heap.size ≤ b; omega) (.int .u8 (hxd d).toNat))
        have HXN := hid (show hexG (u / 16) ++ (hxd d :: ds) = hexG n from by rw [← hx, hge]; simp)
        clear hb hdr hq hx hs hge hdd
        go_wp2_with fail
        go_roundw
        case rel => exact ⟨1+1, u / 16, hxd d :: ds, _, by omega, by first | rfl | go_num, by first | rfl | go_num | simp, HXN.out, by simp [hd], HBN.out, HSN.out, HDN.out, HQN.out⟩
        case measure => simp [intOf]; omega
      · have hix := fun W => dig_ix u (by omega) W
        have hg : ¬ ((16 : Int) ≤ (u : Int)) := by omega
        have hub : (u : Int) < 16 := by omega
        have hu0 : (0 : Int) ≤ (u : Int) := by omega
        obtain ⟨v, hv⟩ : ∃ v, wr.cell? ⟨b, 63, none⟩ = some v := ⟨cs[63]'(by omega), by rw [hb.cell]; exact Array.getElem?_eq_getElem _⟩
        have hf : wr.frozen? ⟨b, 63, none⟩ = false := hb.frozen 63
        have hbn := hb.set 63 (.int .u8 (hxd u).toNat)
        have hdn := drop_put (v := .int .u8 (hxd u).toNat) (show 63 < cs.size by omega) hdr
        have hst := arr_str hbn 63 (hxd u :: ds) hdn 2
        rw [show (hxd u :: ds).length = 2 from by simp [hd]] at hst
        have HQN := hid (hq.setCell (p := ⟨b, 63, none⟩) (by have := HBW.out; show w.heap.size ≤ b; omega) (.int .u8 (hxd u).toNat))
        have HXN := hid (show hxd u :: ds = hexG n from by rw [← hx, hexG_lt (by omega)]; rfl)
        clear hb hdr hq hx hs hbn hdn
        go_wp2_with fail
        go_ret2
        exact ⟨by rw [← HXN.out]; rfl, HQN.out⟩
    · by_cases h16 : 16 ≤ u
      · have ha := and15 u (by omega)
        obtain ⟨d, hdd⟩ : ∃ d, d = u % 16 := ⟨_, rfl⟩
        have hdl : d < 16 := by omega
        rw [← hdd] at ha
        have hix := fun W => dig_ix d hdl W
        have hge : hexG u = hexG (u / 16) ++ [hxd d] := by rw [hdd]; exact hexG_ge (by omega)
        have hg : ((16 : Int) ≤ (u : Int)) := by omega
        have hub : (u : Int) ≤ 16384 := by omega
        have hu0 : (0 : Int) ≤ (u : Int) := by omega
        obtain ⟨v, hv⟩ : ∃ v, wr.cell? ⟨b, 62, none⟩ = some v := ⟨cs[62]'(by omega), by rw [hb.cell]; exact Array.getElem?_eq_getElem _⟩
        have hf : wr.frozen? ⟨b, 62, none⟩ = false := hb.frozen 62
        have HBN := hid (hb.set 62 (.int .u8 (hxd d).toNat))
        have HDN := hid (drop_put (v := .int .u8 (hxd d).toNat) (show 62 < cs.size by omega) hdr)
        have HSN := hid (show (cs.setIfInBounds 62 (.int .u8 (hxd d).toNat)).size = 65 from by rw [Array.size_setIfInBounds]; exact hs)
        have HQN := hid (hq.setCell (p := ⟨b, 62, none⟩) (by have := HBW.out; show w.heap.size ≤ b; omega) (.int .u8 (hxd d).toNat))
        have HXN := hid (show hexG (u / 16) ++ (hxd d :: ds) = hexG n from by rw [← hx, hge]; simp)
        clear hb hdr hq hx hs hge hdd
        go_wp2_with fail
        go_roundw
        case rel => exact ⟨2+1, u / 16, hxd d :: ds, _, by omega, by first | rfl | go_num, by first | rfl | go_num | simp, HXN.out, by simp [hd], HBN.out, HSN.out, HDN.out, HQN.out⟩
        case measure => simp [intOf]; omega
      · have hix := fun W => dig_ix u (by omega) W
        have hg : ¬ ((16 : Int) ≤ (u : Int)) := by omega
        have hub : (u : Int) < 16 := by omega
        have hu0 : (0 : Int) ≤ (u : Int) := by omega
        obtain ⟨v, hv⟩ : ∃ v, wr.cell? ⟨b, 62, none⟩ = some v := ⟨cs[62]'(by omega), by rw [hb.cell]; exact Array.getElem?_eq_getElem _⟩
        have hf : wr.frozen? ⟨b, 62, none⟩ = false := hb.frozen 62
        have hbn := hb.set 62 (.int .u8 (hxd u).toNat)
        have hdn := drop_put (v := .int .u8 (hxd u).toNat) (show 62 < cs.size by omega) hdr
        have hst := arr_str hbn 62 (hxd u :: ds) hdn 3
        rw [show (hxd u :: ds).length = 3 from by simp [hd]] at hst
        have HQN := hid (hq.setCell (p := ⟨b, 62, none⟩) (by have := HBW.out; show w.heap.size ≤ b; omega) (.int .u8 (hxd u).toNat))
        have HXN := hid (show hxd u :: ds = hexG n from by rw [← hx, hexG_lt (by omega)]; rfl)
        clear hb hdr hq hx hs hbn hdn
        go_wp2_with fail
        go_ret2
        exact ⟨by rw [← HXN.out]; rfl, HQN.out⟩
    · by_cases h16 : 16 ≤ u
      · omega
      · have hix := fun W => dig_ix u (by omega) W
        have hg : ¬ ((16 : Int) ≤ (u : Int)) := by omega
        have hub : (u : Int) < 16 := by omega
        have hu0 : (0 : Int) ≤ (u : Int) := by omega
        obtain ⟨v, hv⟩ : ∃ v, wr.cell? ⟨b, 61, none⟩ = some v := ⟨cs[61]'(by omega), by rw [hb.cell]; exact Array.getElem?_eq_getElem _⟩
        have hf : wr.frozen? ⟨b, 61, none⟩ = false := hb.frozen 61
        have hbn := hb.set 61 (.int .u8 (hxd u).toNat)
        have hdn := drop_put (v := .int .u8 (hxd u).toNat) (show 61 < cs.size by omega) hdr
        have hst := arr_str hbn 61 (hxd u :: ds) hdn 4
        rw [show (hxd u :: ds).length = 4 from by simp [hd]] at hst
        have HQN := hid (hq.setCell (p := ⟨b, 61, none⟩) (by have := HBW.out; show w.heap.size ≤ b; omega) (.int .u8 (hxd u).toNat))
        have HXN := hid (show hxd u :: ds = hexG n from by rw [← hx, hexG_lt (by omega)]; rfl)
        clear hb hdr hq hx hs hbn hdn
        go_wp2_with fail
        go_ret2
        exact ⟨by rw [← HXN.out]; rfl, HQN.out⟩
theorem fmt78_any (n : Nat) (w : World) (h : Tb w) (hn : n ≤ 16384) : Calls Tryd.prog 78 #[.int .i64 (n : Int), .int .i64 16] w fun e w' => e = .returned (.string ⟨(hexG n).toArray⟩) ∧ Q w w' := by
  have HF := hid (fmtbits_any n w h hn)
  have hn0 : ¬ (n : Int) < 0 := by omega
  have hn1 : (0 : Int) ≤ (n : Int) := by omega
  have hn2 : (n : Int) < 18446744073709551616 := by omega
  clear h
  go_enter Tryd.func78, Tryd.ntmps78
  go_wp2_with (go_at_call 91; refine HF.out.mono ?_; rintro e w1 ⟨rfl, q1⟩; have Q1 := hid q1; clear q1)
  go_ret
  exact ⟨rfl, Q1.out⟩
theorem fmt64_any (n : Nat) (w : World) (h : Tb w) (hn : n ≤ 16384) : Calls Tryd.prog 64 #[.int .i64 (n : Int), .int .i64 16] w fun e w' => e = .returned (.string ⟨(hexG n).toArray⟩) ∧ Q w w' := by
  have HF := hid (fmt78_any n w h hn)
  clear h
  go_enter Tryd.func64, Tryd.ntmps64
  go_wp2_with (go_at_call 78; refine HF.out.mono ?_; rintro e w1 ⟨rfl, q1⟩; have Q1 := hid q1; clear q1)
  go_ret
  exact ⟨rfl, Q1.out⟩
theorem hex_any (n : Nat) (w : World) (h : Tb w) (hn : n ≤ 16384) : Calls Tryd.prog 47 #[.int .i64 (n : Int)] w fun e w' => e = .returned (.string ⟨(hexG n).toArray⟩) ∧ Q w w' := by
  have HF := hid (fmt64_any n w h hn)
  clear h
  go_enter Tryd.func47, Tryd.ntmps47
  go_wp2_with (go_at_call 64; refine HF.out.mono ?_; rintro e w1 ⟨rfl, q1⟩; have Q1 := hid q1; clear q1)
  go_ret
  exact ⟨rfl, Q1.out⟩
theorem hexG_len {n : Nat} (h : n ≤ 16384) : (hexG n).length ≤ 4 := by
  by_cases h1 : n < 16
  · rw [hexG_lt h1]; show 1 ≤ 4; omega
  · rw [hexG_ge h1, List.length_append]
    by_cases h2 : n / 16 < 16
    · rw [hexG_lt h2]; show 1 + 1 ≤ 4; omega
    · rw [hexG_ge h2, List.length_append]
      by_cases h3 : n / 16 / 16 < 16
      · rw [hexG_lt h3]; show 1 + 1 + 1 ≤ 4; omega
      · rw [hexG_ge h3, hexG_lt (by omega), List.length_append]; show 1 + 1 + 1 + 1 ≤ 4; omega
end Go.Proofs.YtclapheglgiokaaDoor
