/-
  What header.open and Parse do: contracts that the statements' walks use.
-/
import Derived.Test.YtnnjogfpapndaaaPkt
namespace Go.Proofs.Ytnnjogfpapndaaa
open Go.RowKit
set_option linter.unusedVariables false
set_option maxRecDepth 20000

set_option maxHeartbeats 1000000 in
theorem open_rg (a : Option Addr) (n c : Nat) (zs : List Int) (cid : Int) (w : World) (hl : zs.length = n) (hz : ∀ y ∈ zs, 0 ≤ y ∧ y < 256) (hn : n ≤ 140737488355328) (hs : Seg w a zs) :
    Calls Try.prog 59 #[.slice a n c, .int .i64 cid] w fun e w' => ∃ rk rb g, e = .returned (.pointer (some ⟨rk, 0, none⟩)) ∧ Q w w' ∧ Rg w' rk rb g n zs cid 0 ∧ w.heap.size ≤ rk ∧ w.heap.size ≤ rb ∧ w.heap.size ≤ g := by
  have HL := hid hl
  have HZ := hid hz
  have HS := hid hs
  clear hl hz hs
  go_enter Try.func59, Try.ntmps59
  go_wp2_with fail
  refine (vopen_any a n c zs w HL.out (by omega) HS.out).mono ?_
  rintro e w1 ⟨g, rb, rfl, hq, hrb, hg, hne, hrd, hown⟩
  have hrow := own_block hown
  have hrl := hrd.lt
  have hgl := lt_of_block hrow
  have HQ := hid hq
  have HR := hid hrd
  have HO := hid hrow
  clear hq hrd hrow hown
  go_wp2
  go_ret
  have q2 : ∀ o, Q w1 (w1.alloc o) := fun o => (Q.refl w1).alloc o
  exact ⟨w1.heap.size, rb, g, rfl, HQ.out.alloc _, ⟨heap_alloc_new w1 _, HR.out.q (q2 _), (Below.block (q2 _) g hgl).trans HO.out, HL.out, HZ.out, hn, by omega, hne, by omega, by omega, by omega⟩, HQ.out.size, hrb, hg⟩

/-- What Parse tells: the header, its end, the packet's end, the error's number. -/
def parM (zs : List Int) (cid : Int) : Hd × Int × Int × Int :=
  match hdrO zs cid 0 with
  | .ok H q => (H, q, q + behM zs.length H.kind H.len q, 0)
  | .bad x => (zh, 0, 0, x)
theorem ansP_par {w w' : World} {rk rb g n : Nat} {zs : List Int} {cid : Int} {e : Ending} (hl : zs.length = n) (h : AnsP w rk rb g n zs cid 0 e w') :
    Keep (fun k => k = rb) w w' ∧ ∃ H d s t v fr at_ en x, e = .returned (.tuple #[.agg (pcells H d s t v fr at_ en), .int .i64 x]) ∧ parM zs cid = (H, at_, en, x) ∧ Holds w.heap.size w' H d s t v := by
  obtain ⟨hk, ⟨H, q, v, ho, rfl, ⟨d, s, t, vs, rfl, hh⟩, _⟩ | ⟨x, ho, rfl⟩⟩ := h
  · exact ⟨hk, H, d, s, t, vs, 0, q, q + behM n H.kind H.len q, 0, rfl, by unfold parM; rw [ho, hl], hh⟩
  · exact ⟨hk, zh, nilS, nilS, nilS, nilS, 0, 0, 0, x, rfl, by unfold parM; rw [ho], holds_nil _ _ _ _ _⟩
theorem results10 (tmps : Array Value) (w : World) (hb : Nat) (h : Hd) (d s t v : Sv) (x y z : Int) (h4 : tmps.getD 4 undef = .pointer (some ⟨hb, 0, none⟩)) (h5 : tmps.getD 5 undef = .int .i64 x) (h6 : tmps.getD 6 undef = .int .i64 y) (h7 : tmps.getD 7 undef = .int .i64 z)
    (b : Box w 80 hb h d s t v) : (results Try.f45 tmps).run Try.prog w = .ok (.tuple #[hv h d s t v, .int .i64 x, .int .i64 y, .int .i64 z]) w := by
  have h4' : tmps[4]?.getD undef = .pointer (some ⟨hb, 0, none⟩) := by simpa using h4
  have h5' : tmps[5]?.getD undef = .int .i64 x := by simpa using h5
  have h6' : tmps[6]?.getD undef = .int .i64 y := by simpa using h6
  have h7' : tmps[7]?.getD undef = .int .i64 z := by simpa using h7
  obtain ⟨c0, c1, c2, c3, c4, c5, c6⟩ := b.all
  simp [results, h4', h5', h6', h7', asAddr, go_sem, c0, c1, c2, c3, c4, c5, c6]

set_option maxHeartbeats 4000000 in
theorem parse_any (a : Option Addr) (n c : Nat) (zs : List Int) (cid : Int) (w : World) (hl : zs.length = n) (hz : ∀ y ∈ zs, 0 ≤ y ∧ y < 256) (hn : n ≤ 140737488355328) (hs : Seg w a zs) :
    Calls Try.prog 45 #[.slice a n c, .int .i64 cid] w fun e w' => ∃ d s t v, e = .returned (.tuple #[hv (parM zs cid).1 d s t v, .int .i64 (parM zs cid).2.1, .int .i64 (parM zs cid).2.2.1, .int .i64 (parM zs cid).2.2.2]) ∧ Q w w' ∧ Holds w.heap.size w' (parM zs cid).1 d s t v := by
  have HL := hid hl
  have HZ := hid hz
  have HS := hid hs
  clear hl hz hs
  go_enter Try.func45, Try.ntmps45
  go_wp2_with fail
  generalize hw1 : World.alloc w _ = w1
  have q1 : Q w w1 := by rw [← hw1]; exact (Q.refl w).alloc _
  have b1 : Box w1 80 w.heap.size zh nilS nilS nilS nilS := by rw [← hw1]; exact heap_alloc_new w _
  have s1 : w1.heap.size = w.heap.size + 1 := by rw [← hw1]; simp
  clear hw1
  refine (open_rg a n c zs cid w1 HL.out HZ.out hn (HS.out.q q1)).mono ?_
  rintro e w2 ⟨rk, rb, g, rfl, q2, r2, hrk, hrb, hg⟩
  have hs2 := q2.size
  have R2 := hid r2
  have B2 := hid (b1.q q2)
  have Q2 := hid (q1.trans q2)
  clear q1 b1 q2 r2
  go_wp2_with fail
  refine (packet_at rk rb g n zs cid 0 w2 R2.out).mono ?_
  intro e w3 hp
  obtain ⟨hk, H, dS, sS, tS, vS, fr, at_, en, x, rfl, hpar, hh⟩ := ansP_par HL.out hp
  have hs3 := hk.size
  have B3 := hid (B2.out.keep hk (by omega))
  have Q3 := hid (show Q w w3 from hk.below Q2.out Q2.out.size (fun i e => by omega))
  have H3 := hid (hh.mono (show w.heap.size + 1 ≤ w2.heap.size by omega))
  have HP := hid hpar
  clear hk hp hh B2 Q2 R2 hpar
  go_wp2_with (refine wpList_store_row rfl 97 _ _ rfl w3.heap.size (pcells H dS sS tS vS fr at_ en) rfl rfl 97 _ (heap_alloc_new w3 _) (pcells_info _ _ _ _ _ _ _ _) rfl (pcells_one _ _ _ _ _ _ _ _) ?_; refine Hid.out ?_)
  refine hid ?_
  generalize hw4 : World.setRow _ _ _ = w4
  have k4 : Keep (fun i => i = w3.heap.size) w3 w4 := by rw [← hw4]; exact ((Keep.refl (fun i => i = w3.heap.size) w3).alloc _).setRow _ _ (.inl rfl)
  have b4 : PBox w4 w3.heap.size H dS sS tS vS fr at_ en := by rw [← hw4]; exact setRow_heap _ _ _ _ 97 _ (heap_alloc_new w3 _)
  clear hw4
  have hs4 := k4.size
  have hq3 := Q3.out.size
  have B4 := hid (B3.out.keep k4 (by omega))
  have Q4 := hid (show Q w w4 from k4.below Q3.out Q3.out.size (fun i e => by omega))
  have H4 := hid (H3.out.keep k4 (fun i e => .inr (by omega)))
  have BP4 := hid b4
  have hlt4 := lt_of_block b4
  generalize hpb : w3.heap.size = pb at *
  clear hpb k4 b4 B3 Q3 H3
  go_wp2
  refine wp_region_held (S := fun w' => PBox w' pb H dS sS tS vS fr at_ en) (by kernel_rfl) ?_
  show wpAnyH Try.prog .any _ _ _ 11 _ _ (w4.drewN 1)
  have BP5 : PBox (w4.drewN 1) pb H dS sS tS vS fr at_ en := BP4.out
  refine wpAnyH_take (i := 0) (fuel := 10) (v := .pointer (some ⟨pb, 0, none⟩)) rfl (by kernel_rfl) (by kernel_rfl) (by kernel_rfl) (fun _ _ _ h => h) (.inl ⟨by kernel_rfl, by intro w' hb'; kernel_rfl⟩) BP5 ?_
  refine wpAnyH_take (i := 1) (fuel := 9) (v := hv H dS sS tS vS) rfl (by kernel_rfl) (by kernel_rfl) (by kernel_rfl) (fun _ _ _ h => h) (.inl ⟨by kernel_rfl, by intro w' hb'; have c0 := PBox.cell hb' 0 _ rfl; have c1 := PBox.cell hb' 1 _ rfl; have c2 := PBox.cell hb' 2 _ rfl; have c3 := PBox.cell hb' 3 _ rfl; have c4 := PBox.cell hb' 4 _ rfl; have c5 := PBox.cell hb' 5 _ rfl; have c6 := PBox.cell hb' 6 _ rfl; simp [execOp, go_sem, c0, c1, c2, c3, c4, c5, c6]⟩) BP5 ?_
  refine wpAnyH_take (i := 2) (fuel := 8) (v := .pointer (some ⟨pb, 8, none⟩)) rfl (by kernel_rfl) (by kernel_rfl) (by kernel_rfl) (fun _ _ _ h => h) (.inl ⟨by kernel_rfl, by intro w' hb'; kernel_rfl⟩) BP5 ?_
  refine wpAnyH_take (i := 3) (fuel := 7) (v := .int .i64 at_) rfl (by kernel_rfl) (by kernel_rfl) (by kernel_rfl) (fun _ _ _ h => h) (.inl ⟨by kernel_rfl, by intro w' hb'; have c8 := PBox.cell hb' 8 _ rfl; simp [execOp, go_sem, c8]⟩) BP5 ?_
  refine wpAnyH_take (i := 4) (fuel := 6) (v := .pointer (some ⟨pb, 9, none⟩)) rfl (by kernel_rfl) (by kernel_rfl) (by kernel_rfl) (fun _ _ _ h => h) (.inl ⟨by kernel_rfl, by intro w' hb'; kernel_rfl⟩) BP5 ?_
  refine wpAnyH_take (i := 5) (fuel := 5) (v := .int .i64 en) rfl (by kernel_rfl) (by kernel_rfl) (by kernel_rfl) (fun _ _ _ h => h) (.inl ⟨by kernel_rfl, by intro w' hb'; have c9 := PBox.cell hb' 9 _ rfl; simp [execOp, go_sem, c9]⟩) BP5 ?_
  refine wpAnyH_take (i := 6) (fuel := 4) (v := .int .i64 x) rfl (by kernel_rfl) (by kernel_rfl) (by kernel_rfl) (fun _ _ _ h => h) (.inl ⟨by kernel_rfl, by intro w' hb'; kernel_rfl⟩) BP5 ?_
  refine wpAnyH_all (rs := [7]) (fuel := 3) (by kernel_rfl) (by simp) ?_
  intro i hi
  have hi' := List.mem_singleton.1 hi
  clear hi
  subst hi'
  generalize hA : Act.put _ _ _ = A
  have b5 : Box (w4.drewN 1) 80 w.heap.size zh nilS nilS nilS nilS := B4.out
  have k6 : Keep (fun i => i = w.heap.size) (w4.drewN 1) ((w4.drewN 1).setRow w.heap.size (hcells H dS sS tS vS)) := (Keep.refl _ _).setRow _ _ (.inl rfl)
  have bp6 : PBox ((w4.drewN 1).setRow w.heap.size (hcells H dS sS tS vS)) pb H dS sS tS vS fr at_ en := (k6.block pb (lt_of_block BP5) (by omega)).trans BP5
  have b6 : Box ((w4.drewN 1).setRow w.heap.size (hcells H dS sS tS vS)) 80 w.heap.size H dS sS tS vS := b5.row_ _ _ _ _ _
  refine wpOp_in rfl (by rw [← hA]; kernel_rfl) (wp_store_row 80 _ _ rfl w.heap.size (hcells H dS sS tS vS) (by rw [← hA]; kernel_rfl) (by rw [← hA]; kernel_rfl) 80 _ b5 (hcells_info _ _ _ _ _) rfl (hcells_one _ _ _ _ _) ⟨bp6, ?_⟩)
  have hs6 : ((w4.drewN 1).setRow w.heap.size (hcells H dS sS tS vS)).heap.size = w4.heap.size := by simp
  generalize hw6 : (w4.drewN 1).setRow w.heap.size (hcells H dS sS tS vS) = w6 at *
  subst hA
  refine wpAnyH_take (i := 8) (fuel := 2) (v := .int .i64 at_) rfl (by kernel_rfl) (by kernel_rfl) (by kernel_rfl) (fun _ _ _ h => h) (.inl ⟨by kernel_rfl, by intro w' hb'; kernel_rfl⟩) bp6 ?_
  refine wpAnyH_take (i := 9) (fuel := 1) (v := .int .i64 en) rfl (by kernel_rfl) (by kernel_rfl) (by kernel_rfl) (fun _ _ _ h => h) (.inl ⟨by kernel_rfl, by intro w' hb'; kernel_rfl⟩) bp6 ?_
  refine wpAnyH_take (i := 10) (fuel := 0) (v := .int .i64 x) rfl (by kernel_rfl) (by kernel_rfl) (by kernel_rfl) (fun _ _ _ h => h) (.inl ⟨by kernel_rfl, by intro w' hb'; kernel_rfl⟩) bp6 ?_
  refine wpAnyH_done (by kernel_rfl) ?_ _
  have HX := hid (show ∃ d s t v, Ending.returned (.tuple #[hv H dS sS tS vS, .int .i64 at_, .int .i64 en, .int .i64 x]) = .returned (.tuple #[hv (parM zs cid).1 d s t v, .int .i64 (parM zs cid).2.1, .int .i64 (parM zs cid).2.2.1, .int .i64 (parM zs cid).2.2.2]) ∧ Q w w6 ∧ Holds w.heap.size w6 (parM zs cid).1 d s t v from by
    rw [HP.out]
    refine ⟨dS, sS, tS, vS, rfl, ?_, ?_⟩
    · exact k6.below (Q4.out.drewN 1) (by have := Q4.out.size; exact this) (fun i e => by omega)
    · exact ((H4.out.q ((Q.refl w4).drewN 1)).keep k6 (fun i e => .inl (by omega))).mono (by omega))
  generalize hA : Act.put _ _ _ = A
  have hD : A.defers = [] := by rw [← hA]; kernel_rfl
  have h4 : A.tmps.getD 4 undef = .pointer (some ⟨w.heap.size, 0, none⟩) := by rw [← hA]; kernel_rfl
  have h5 : A.tmps.getD 5 undef = .int .i64 at_ := by rw [← hA]; kernel_rfl
  have h6 : A.tmps.getD 6 undef = .int .i64 en := by rw [← hA]; kernel_rfl
  have h7 : A.tmps.getD 7 undef = .int .i64 x := by rw [← hA]; kernel_rfl
  clear hA
  obtain ⟨tm, df⟩ := A
  dsimp only at hD h4 h5 h6 h7
  subst hD
  go_wp2
  exact ⟨rfl, _, results10 tm w6 w.heap.size H dS sS tS vS at_ en x h4 h5 h6 h7 b6, HX.out⟩
end Go.Proofs.Ytnnjogfpapndaaa
