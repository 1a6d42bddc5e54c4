/-
  Plain mathematics of packet protection (layer 8): masks, nonces, packets; that unprotecting undoes protecting. No Go, no program. Nothing is proved of a statement here.
-/
import Derived.Test.YtihmlfpfpadfpaaRMask
import Derived.Test.YtihmlfpfpadfpaaOpM
import Derived.Test.YtihmlfpfpadfpaaExM
import Derived.Test.YtihmlfpfpadfpaaHNum
namespace Go.Proofs.Ytihmlfpfpadfpaa
open Go.RowKit
set_option linter.unusedVariables false

abbrev By (zs : List Int) : Prop := ∀ y ∈ zs, 0 ≤ y ∧ y < 256
abbrev xr (x y : Int) : Int := bits .xor .u8 x y
abbrev an (x y : Int) : Int := bits .and .u8 x y
/-- The bytes from a place on, so many, each xor a mask's. -/
def ovA (zs : List Int) (o : Nat) (ms : List Int) (k : Nat) : List Int := zs.mapIdx fun i x => if o ≤ i ∧ i < o + k then xr x (ms.getD (i - o) 0) else x
theorem ovA_len (zs : List Int) (o : Nat) (ms : List Int) (k : Nat) : (ovA zs o ms k).length = zs.length := by simp [ovA]
theorem ovA_zero (zs : List Int) (o : Nat) (ms : List Int) : ovA zs o ms 0 = zs := by
  apply List.ext_getElem
  · rw [ovA_len]
  · intro i h1 h2
    simp only [ovA, List.getElem_mapIdx]
    rw [if_neg (by omega)]
theorem ovA_at (zs : List Int) (o : Nat) (ms : List Int) (k i : Nat) (h : i < zs.length) (hn : ¬ (o ≤ i ∧ i < o + k)) : (ovA zs o ms k)[i]? = some (zs.getD i 0) := by
  rw [List.getElem?_eq_getElem (by rw [ovA_len]; exact h), List.getD_eq_getElem?_getD, List.getElem?_eq_getElem h]
  simp only [ovA, List.getElem_mapIdx, Option.getD_some]
  rw [if_neg hn]
theorem ovA_set (zs : List Int) (o : Nat) (ms : List Int) (k : Nat) (h : o + k < zs.length) : (ovA zs o ms k).set (o + k) (xr (zs.getD (o + k) 0) (ms.getD k 0)) = ovA zs o ms (k + 1) := by
  apply List.ext_getElem
  · rw [List.length_set, ovA_len, ovA_len]
  · intro i h1 h2
    rw [List.getElem_set]
    by_cases hi : o + k = i
    · subst hi
      rw [if_pos rfl]
      simp only [ovA, List.getElem_mapIdx]
      rw [if_pos (by omega), List.getD_eq_getElem?_getD, List.getElem?_eq_getElem h, Nat.add_sub_cancel_left]; rfl
    · rw [if_neg hi]
      simp only [ovA, List.getElem_mapIdx]
      by_cases hc : o ≤ i ∧ i < o + k
      · rw [if_pos hc, if_pos (by omega)]
      · rw [if_neg hc, if_neg (by omega)]
theorem ovA_lt {zs ms : List Int} (hz : By zs) (hm : By ms) (o k : Nat) : By (ovA zs o ms k) := by
  intro y hy
  obtain ⟨i, hi, rfl⟩ := List.mem_mapIdx.1 hy
  have hx := hz _ (List.getElem_mem hi)
  have hs := getD_lt hm (i - o)
  split
  · exact xor_lt _ _ hx.1 hx.2 hs.1 hs.2
  · exact hx
theorem ovA_ovA {zs ms : List Int} (hz : By zs) (hm : By ms) (o k : Nat) : ovA (ovA zs o ms k) o ms k = zs := by
  apply List.ext_getElem
  · rw [ovA_len, ovA_len]
  · intro i h1 h2
    have hx := hz _ (List.getElem_mem h2)
    have hs := getD_lt hm (i - o)
    simp only [ovA, List.getElem_mapIdx]
    split
    · exact xor_xor _ _ hx.1 hx.2 hs.1 hs.2
    · rfl
theorem ovA_drop (zs : List Int) (o : Nat) (ms : List Int) (k j : Nat) (h : o + k ≤ j) : (ovA zs o ms k).drop j = zs.drop j := by
  apply List.ext_getElem
  · rw [List.length_drop, List.length_drop, ovA_len]
  · intro i h1 h2
    rw [List.getElem_drop, List.getElem_drop]
    simp only [ovA, List.getElem_mapIdx]
    rw [if_neg (by omega)]
theorem ovA_take (zs : List Int) (o : Nat) (ms : List Int) (k j : Nat) : (ovA zs o ms k).take j = ovA (zs.take j) o ms k := by
  apply List.ext_getElem
  · rw [List.length_take, ovA_len, ovA_len, List.length_take]
  · intro i h1 h2
    rw [List.getElem_take]
    simp only [ovA, List.getElem_mapIdx, List.getElem_take]
theorem set_lt {zs : List Int} (hz : By zs) (i : Nat) {v : Int} (hv : 0 ≤ v ∧ v < 256) : By (zs.set i v) := by
  intro y hy
  rcases List.mem_or_eq_of_mem_set hy with h | h
  · exact hz y h
  · rw [h]; exact hv
theorem By.app {xs ys : List Int} (h : By xs) (k : By ys) : By (xs ++ ys) := fun y hy => (List.mem_append.1 hy).elim (h y) (k y)
theorem By.take {xs : List Int} (h : By xs) (k : Nat) : By (xs.take k) := fun y hy => h y (List.mem_of_mem_take hy)
theorem By.drop {xs : List Int} (h : By xs) (k : Nat) : By (xs.drop k) := fun y hy => h y (List.mem_of_mem_drop hy)

/-- The keys that a secret gives, its next secret. -/
def nonL (iv : List Int) (num : Int) : List Int := ovA iv 4 (be 8 num) 8
theorem nonL_len (iv : List Int) (num : Int) : (nonL iv num).length = iv.length := ovA_len _ _ _ _
theorem nonL_lt {iv : List Int} (h : By iv) (num : Int) : By (nonL iv num) := ovA_lt h (be_bound 8 num) _ _

/-- The bits that lie under the mask. -/
def rch (f : Int) : Int := if 128 ≤ f then 15 else 31
/-- Are reserved bits set? -/
def rsv (f : Int) : Bool := if 128 ≤ f then decide (f / 4 % 4 ≠ 0) else decide (f / 8 % 4 ≠ 0)
theorem an_lt (x y : Int) (h0 : 0 ≤ x) (h1 : x < 256) (h2 : 0 ≤ y) (h3 : y < 256) : 0 ≤ an x y ∧ an x y < 256 := by
  show 0 ≤ bits .and .u8 x y ∧ bits .and .u8 x y < 256
  rw [u8_and x y h0 h1 h2 h3]
  have hl : x.toNat &&& y.toNat ≤ x.toNat := Nat.and_le_left
  omega
theorem rch_cases (f : Int) : (rch f = 15 ∧ 128 ≤ f) ∨ (rch f = 31 ∧ f < 128) := by
  unfold rch
  split
  · exact .inl ⟨rfl, by omega⟩
  · exact .inr ⟨rfl, by omega⟩
/-- A first byte under a mask's, and without it again. -/
def fstM (f m : Int) : Int := xr f (an m (rch f))
theorem fstM_lt {f m : Int} (hf : 0 ≤ f ∧ f < 256) (hm : 0 ≤ m ∧ m < 256) : 0 ≤ fstM f m ∧ fstM f m < 256 := by
  have ha : 0 ≤ an m (rch f) ∧ an m (rch f) < 256 := by rcases rch_cases f with h | h <;> rw [h.1] <;> exact an_lt _ _ hm.1 hm.2 (by omega) (by omega)
  exact xor_lt _ _ hf.1 hf.2 ha.1 ha.2
theorem high_xor (a b : Nat) (hb : b < 128) : a / 128 = (a ^^^ b) / 128 := by
  rw [show 128 = 2 ^ 7 from rfl, ← Nat.shiftRight_eq_div_pow, ← Nat.shiftRight_eq_div_pow, Nat.shiftRight_xor_distrib, Nat.shiftRight_eq_div_pow b, Nat.div_eq_of_lt (show b < 2 ^ 7 from hb), Nat.xor_zero]
theorem rch_fst {f m : Int} (hf : 0 ≤ f ∧ f < 256) (hm : 0 ≤ m ∧ m < 256) : rch (fstM f m) = rch f := by
  have hr : 0 ≤ rch f ∧ rch f < 32 := by rcases rch_cases f with h | h <;> rw [h.1] <;> omega
  have ha := an_lt m (rch f) hm.1 hm.2 hr.1 (by omega)
  have hb : an m (rch f) < 32 := by
    show bits .and .u8 m (rch f) < 32
    rw [u8_and m (rch f) hm.1 hm.2 hr.1 (by omega)]
    have hl : m.toNat &&& (rch f).toNat ≤ (rch f).toNat := Nat.and_le_right
    omega
  have hx : fstM f m = ((f.toNat ^^^ (an m (rch f)).toNat : Nat) : Int) := u8_xor _ _ hf.1 hf.2 ha.1 ha.2
  have hh := high_xor f.toNat (an m (rch f)).toNat (by omega)
  rcases rch_cases f with h | h
  · rw [h.1]; unfold rch; rw [if_pos (by omega)]
  · rw [h.1]; unfold rch; rw [if_neg (by omega)]
theorem fst_fst {f m : Int} (hf : 0 ≤ f ∧ f < 256) (hm : 0 ≤ m ∧ m < 256) : fstM (fstM f m) m = f := by
  have hr := rch_fst hf hm
  have ha : 0 ≤ an m (rch f) ∧ an m (rch f) < 256 := by rcases rch_cases f with h | h <;> rw [h.1] <;> exact an_lt _ _ hm.1 hm.2 (by omega) (by omega)
  unfold fstM at hr ⊢
  rw [hr]
  exact xor_xor _ _ hf.1 hf.2 ha.1 ha.2

/-- The packet ahead of the mask: what is bound, and all of it. -/
def bndL (hd : List Int) (num : Int) (wd : Nat) : List Int := hd ++ be wd num
def plnL (ks iv hd : List Int) (num : Int) (wd : Nat) (pl : List Int) : List Int := bndL hd num wd ++ sealL ks (nonL iv num) (bndL hd num wd) pl
/-- A packet under its mask. -/
def mskA (hp out : List Int) (at_ wd : Nat) : List Int :=
  ovA (out.set 0 (fstM (out.getD 0 0) ((mskL hp (out.drop (at_ + 4))).getD 0 0))) at_ ((mskL hp (out.drop (at_ + 4))).drop 1) wd
def proL (ks iv hp hd : List Int) (num : Int) (wd : Nat) (pl : List Int) : List Int := mskA hp (plnL ks iv hd num wd pl) hd.length wd
/-- What Protect refuses. -/
def kyE (kl il hl : Nat) : Int := if kl = 16 ∧ il = 12 ∧ hl = 16 then 0 else 70
def ptE (kl il hl hdl : Nat) (num wd : Int) (pl : Nat) : Int :=
  if kyE kl il hl ≠ 0 then 70 else if hdl = 0 ∨ (pl < 4 ∧ wd < 4 - pl) then 12 else if wd < 1 ∨ 4 < wd ∨ num < 0 ∨ 4611686018427387903 < num then 10 else if 16380 < hdl ∨ 16380 < pl then 52 else 0
theorem ptE_ok {kl il hl hdl : Nat} {num wd : Int} {pl : Nat} (h : ptE kl il hl hdl num wd pl = 0) :
    kl = 16 ∧ il = 12 ∧ hl = 16 ∧ 0 < hdl ∧ hdl ≤ 16380 ∧ pl ≤ 16380 ∧ 4 ≤ pl + wd ∧ 1 ≤ wd ∧ wd ≤ 4 ∧ 0 ≤ num ∧ num ≤ 4611686018427387903 := by
  unfold ptE at h
  by_cases hk : kl = 16 ∧ il = 12 ∧ hl = 16
  · rw [show kyE kl il hl = 0 from by unfold kyE; rw [if_pos hk], if_neg (by omega)] at h
    split at h
    · simp at h
    split at h
    · simp at h
    split at h
    · simp at h
    omega
  · rw [show kyE kl il hl = 70 from by unfold kyE; rw [if_neg hk], if_pos (by omega)] at h
    simp at h
/-- A packet without its mask: the first byte, the number's width, what is bound, the number, what is sealed. -/
def umF (hp pk : List Int) (at_ : Nat) : Int := fstM (pk.getD 0 0) ((mskL hp (pk.drop (at_ + 4))).getD 0 0)
def umW (hp pk : List Int) (at_ : Nat) : Nat := (umF hp pk at_ % 4).toNat + 1
def umB (hp pk : List Int) (at_ : Nat) : List Int :=
  ovA ((pk.take (at_ + umW hp pk at_)).set 0 (umF hp pk at_)) at_ ((mskL hp (pk.drop (at_ + 4))).drop 1) (umW hp pk at_)
def umS (hp pk : List Int) (at_ : Nat) : List Int := pk.drop (at_ + umW hp pk at_)
theorem umW_range (hp pk : List Int) (at_ : Nat) : 1 ≤ umW hp pk at_ ∧ umW hp pk at_ ≤ 4 := by unfold umW; omega
theorem mskL_lt (hp ss : List Int) : By (mskL hp ss) := By.take (dg_lt _) 5
theorem mskL_len (hp ss : List Int) : (mskL hp ss).length = 5 := by simp [mskL, dg_len]
theorem umF_lt (hp : List Int) {pk : List Int} (h : By pk) (at_ : Nat) : 0 ≤ umF hp pk at_ ∧ umF hp pk at_ < 256 := fstM_lt (getD_lt h _) (getD_lt (mskL_lt _ _) _)
theorem umB_len (hp pk : List Int) (at_ : Nat) (h : at_ + 20 ≤ pk.length) : (umB hp pk at_).length = at_ + umW hp pk at_ := by
  have := umW_range hp pk at_
  unfold umB; rw [ovA_len, List.length_set, List.length_take]; omega
theorem umB_lt (hp : List Int) {pk : List Int} (h : By pk) (at_ : Nat) : By (umB hp pk at_) := ovA_lt (set_lt (By.take h _) _ (umF_lt hp h at_)) (By.drop (mskL_lt _ _) 1) _ _

theorem plnL_len (ks iv hd : List Int) (num : Int) (wd : Nat) (pl : List Int) : (plnL ks iv hd num wd pl).length = hd.length + wd + (pl.length + 16) := by
  unfold plnL bndL; rw [List.length_append, List.length_append, be_length, sealL_len]
theorem plnL_lt {ks iv hd pl : List Int} (hh : By hd) (hp : By pl) (num : Int) (wd : Nat) : By (plnL ks iv hd num wd pl) :=
  (hh.app (be_bound wd num)).app (sealL_lt hp)
theorem mskA_len (hp out : List Int) (at_ wd : Nat) : (mskA hp out at_ wd).length = out.length := by unfold mskA; rw [ovA_len, List.length_set]
theorem proL_len (ks iv hp hd : List Int) (num : Int) (wd : Nat) (pl : List Int) : (proL ks iv hp hd num wd pl).length = hd.length + wd + (pl.length + 16) := by
  unfold proL; rw [mskA_len, plnL_len]
theorem mskA_lt (hp : List Int) {out : List Int} (h : By out) (at_ wd : Nat) : By (mskA hp out at_ wd) :=
  ovA_lt (set_lt h _ (fstM_lt (getD_lt h _) (getD_lt (mskL_lt _ _) _))) (By.drop (mskL_lt _ _) 1) _ _
theorem set_drop (zs : List Int) (v : Int) (j : Nat) (h : 0 < j) : (zs.set 0 v).drop j = zs.drop j := by
  cases zs with
  | nil => rfl
  | cons x r => cases j with
    | zero => omega
    | succ j => rfl
theorem mskA_drop (hp out : List Int) (at_ wd j : Nat) (h : at_ + wd ≤ j) (hj : 0 < j) : (mskA hp out at_ wd).drop j = out.drop j := by
  unfold mskA; rw [ovA_drop _ _ _ _ _ h, set_drop _ _ _ hj]
theorem mskA_fst (hp out : List Int) (at_ wd : Nat) (h : 0 < out.length) (ha : 0 < at_) : (mskA hp out at_ wd).getD 0 0 = fstM (out.getD 0 0) ((mskL hp (out.drop (at_ + 4))).getD 0 0) := by
  unfold mskA
  rw [List.getD_eq_getElem?_getD, ovA_at _ _ _ _ _ (by rw [List.length_set]; exact h) (by omega), Option.getD_some, List.getD_eq_getElem?_getD, List.getElem?_set, if_pos rfl, if_pos h]; rfl
theorem take_set (zs : List Int) (j : Nat) (v : Int) : (zs.set 0 v).take j = (zs.take j).set 0 v := by
  cases zs with
  | nil => simp
  | cons x r => cases j with
    | zero => simp
    | succ j => simp
theorem ovA_setz (zs : List Int) (o : Nat) (ms : List Int) (k : Nat) (v : Int) (h : 0 < o) : ovA (zs.set 0 v) o ms k = (ovA zs o ms k).set 0 v := by
  apply List.ext_getElem
  · rw [ovA_len, List.length_set, List.length_set, ovA_len]
  · intro i h1 h2
    rw [List.getElem_set]
    simp only [ovA, List.getElem_mapIdx, List.getElem_set]
    by_cases hi : 0 = i
    · rw [if_pos hi, if_pos hi, if_neg (by omega)]
    · rw [if_neg hi, if_neg hi]
/-- The mask comes off again. -/
theorem unmask_mask (hp : List Int) {out : List Int} (h : By out) (at_ wd : Nat) (ha : 0 < at_) (hl : at_ + 20 ≤ out.length) (hw : wd ≤ 4) (hf : out.getD 0 0 % 4 = (wd : Int) - 1) :
    umF hp (mskA hp out at_ wd) at_ = out.getD 0 0 ∧ umW hp (mskA hp out at_ wd) at_ = wd ∧ umB hp (mskA hp out at_ wd) at_ = out.take (at_ + wd) ∧ umS hp (mskA hp out at_ wd) at_ = out.drop (at_ + wd) := by
  have hd := mskA_drop hp out at_ wd (at_ + 4) (by omega) (by omega)
  have hF : umF hp (mskA hp out at_ wd) at_ = out.getD 0 0 := by
    unfold umF
    rw [hd, mskA_fst _ _ _ _ (by omega) ha]
    exact fst_fst (getD_lt h _) (getD_lt (mskL_lt _ _) _)
  have hW : umW hp (mskA hp out at_ wd) at_ = wd := by unfold umW; rw [hF]; omega
  refine ⟨hF, hW, ?_, ?_⟩
  · unfold umB
    rw [hW, hF, hd]
    unfold mskA
    rw [ovA_take, take_set, ovA_setz _ _ _ _ _ ha, ovA_setz _ _ _ _ _ ha, ovA_setz _ _ _ _ _ ha, List.set_set, ovA_ovA (By.take h _) (By.drop (mskL_lt _ _) 1)]
    apply List.ext_getElem
    · rw [List.length_set]
    · intro i h1 h2
      rw [List.getElem_set]
      by_cases hi : 0 = i
      · subst hi; rw [if_pos rfl, List.getElem_take, List.getD_eq_getElem?_getD, List.getElem?_eq_getElem (by omega)]; rfl
      · rw [if_neg hi]
  · unfold umS
    rw [hW, mskA_drop _ _ _ _ _ (Nat.le_refl _) (by omega)]
end Go.Proofs.Ytihmlfpfpadfpaa
