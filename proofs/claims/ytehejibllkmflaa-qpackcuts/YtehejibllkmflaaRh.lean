/-
  takeWhole: contracts that the statements' walks use.
-/
import Derived.Test.YtehejibllkmflaaRf
namespace Go.Proofs.Ytehejibllkmflaa
open Go.RowKit
set_option linter.unusedVariables false
set_option maxRecDepth 20000

theorem WE.more {w w1 w2 : World} {db : Nat} {D : Dk} {rb tk : Nat} {R : WR} {e : Sv} {F : Nat → Prop} (h : WE w1 db D rb tk R w2 e) (q : Q w w1) {w3 : World} (k : Keep F w2 w3) (hF : ∀ b, F b → w.heap.size ≤ b ∧ b ≠ db ∧ b ≠ tk ∧ (∀ c, blk e.a = some c → c ≠ b)) : WE w db D rb tk R w3 e :=
  ⟨⟨(k.block _ (lt_of_block h.i.b) (fun e => (hF _ e).2.1 rfl)).trans h.i.b, h.i.r.keep k (fun b e f => (hF b f).2.2.2 b e rfl), h.i.d⟩, (k.block _ (lt_of_block h.tx) (fun e => (hF _ e).2.2.1 rfl)).trans h.tx,
    ((Keep.ofQ q).trans h.k).trans' k (fun i hi f => by have := (hF i f).1; omega), fun b e => (h.b b e).imp id (fun hh => Nat.le_trans q.size hh), h.c, h.s⟩
set_option maxHeartbeats 4000000 in
theorem fault30 (db : Nat) (D : Dk) (es : List Fd) (rb : Nat) (x : Sv) (zs : List Int) (br bt tk : Nat) (w : World) (h : TR w db D es rb x zs 0) (hbr : w.heap[br]? = some (.cells #[.pointer (some ⟨rb, 0, none⟩)] 78 (0, 0))) (hbt : w.heap[bt]? = some (.cells #[.func (.func 19) #[.pointer (some ⟨db, 0, none⟩)] #[]] 59 (0, 0))) (htk : w.heap[tk]? = some (.cells #[.int .i64 0] 3 (0, 0)))
    (hd : ∀ b, b = br ∨ b = bt ∨ b = tk → b ≠ db ∧ b ≠ rb ∧ blk D.e.a ≠ some b ∧ blk x.a ≠ some b) (hd2 : tk ≠ br ∧ tk ≠ bt) (hm : D.most ≤ 100000000) (hG : D.gone + es.length + zs.length ≤ 140737488355328) :
    Calls Try.prog 29 #[.func (.func 30) #[] #[.pointer (some ⟨br, 0, none⟩), .pointer (some ⟨bt, 0, none⟩), .pointer (some ⟨tk, 0, none⟩)]] w fun e w' => e = .returned (.int .i64 (whl D.most zs.length D.cap D.gone es zs 0).e) ∧ ∃ e', WE w db D rb tk (whl D.most zs.length D.cap D.gone es zs 0) w' e' := by
  have hmf : ∀ (fn : Fn) (first cap : Array Value) (w : World), (Instr.makeFunc fn first cap).run Try.prog w = .ok (.func fn first cap) w := fun _ _ _ _ => rfl
  have HV := hid (fun u (k : Q w u) => whole_in db D es rb x zs br bt tk u (h.q k) (blk_q k hbr) (blk_q k hbt) (blk_q k htk) hd hd2 hm hG)
  generalize whl D.most zs.length D.cap D.gone es zs 0 = R at *
  have hld := lt_of_block h.i.b
  have hlr := lt_of_block h.r.b
  have hlk := lt_of_block htk
  have hle : ∀ b, blk D.e.a = some b → b < w.heap.size := fun b e => Sub.lt h.i.r b e
  clear h hbr hbt htk
  have HB := hid (heap_alloc_new w (.cells #[.int .i64 0] 33))
  have HQ := hid ((Q.refl w).alloc (.cells #[.int .i64 0] 33))
  by_cases hR : R.e = 0
  · rw [if_pos hR] at HV
    rw [hR]
    go_enter_defers Try.func29, Try.ntmps29
    go_wp2_with fail
    generalize hW : World.alloc w _ = W0 at *
    clear hW
    refine (HV.out _ HQ.out).mono ?_
    rintro e w1 ⟨rfl, e', h1⟩
    have hW0 : w.heap.size < W0.heap.size := lt_of_block HB.out
    have B1 := hid (show w1.heap[w.heap.size]? = some (.cells #[.int .i64 0] 33 (0, 0)) from (h1.k.block _ hW0 (by
      rintro (e | e | e | e)
      · omega
      · omega
      · omega
      · have := hle _ e; omega)).trans HB.out)
    have H1 := hid h1
    have c0 : w1.cell? ⟨w.heap.size, 0, none⟩ = some (.int .i64 0) := by rw [cell_of_row w1 _ 0 _ 33 (0, 0) B1.out]; rfl
    have z0 : w1.frozen? ⟨w.heap.size, 0, none⟩ = false := frozen_of_row w1 _ 0 _ 33 B1.out
    have k2 : Keep (fun b => b = w.heap.size) w1 (w1.setCell ⟨w.heap.size, 0, none⟩ (.int .i64 0)) := (Keep.refl _ w1).setCell _ 0 _ (.inl rfl)
    have HE := hid (h1.more HQ.out k2 (fun b e => ⟨by omega, by omega, by omega, fun c hc => by
      rcases h1.b c hc with h2 | h2
      · have := hle c h2; omega
      · omega⟩))
    have HC := hid (show (w1.setCell ⟨w.heap.size, 0, none⟩ (.int .i64 0)).cell? ⟨w.heap.size, 0, none⟩ = some (.int .i64 0) from by rw [cell_of_row _ _ 0 _ 33 (0, 0) (heap_setCell_same w1 w.heap.size 0 _ 33 (.int .i64 0) B1.out)]; rfl)
    clear k2 h1
    go_wp2
    exact out_idle (be := w.heap.size) 0 HC.out rfl ⟨rfl, e', HE.out⟩
  · rw [if_neg hR] at HV
    go_enter_defers Try.func29, Try.ntmps29
    go_wp2_with fail
    generalize hW : World.alloc w _ = W0 at *
    clear hW
    refine (HV.out _ HQ.out).mono ?_
    rintro e w1 ⟨rfl, e', h1⟩
    have hW0 : w.heap.size < W0.heap.size := lt_of_block HB.out
    have b1 : w1.heap[w.heap.size]? = some (.cells #[.int .i64 0] 33 (0, 0)) := (h1.k.block _ hW0 (by
      rintro (e | e | e | e)
      · omega
      · omega
      · omega
      · have := hle _ e; omega)).trans HB.out
    refine out_caught R.e b1 rfl (fun w'' ks => ⟨rfl, e', h1.more HQ.out ks (fun b e => ⟨by omega, by omega, by omega, fun c hc => by
      rcases h1.b c hc with h2 | h2
      · have := hle c h2; omega
      · omega⟩)⟩)
end Go.Proofs.Ytehejibllkmflaa
