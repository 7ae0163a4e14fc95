/- Contract of parts.Of: a row of the terms that stand in a right one; none of others. -/
import Derived.Test.YtfmjjickgjkcbaaInside
import Derived.RangeFuncNested
import Derived.RangeFuncBound
import Derived.RangeFuncCalls
import Derived.RangeFuncLeaves
import Derived.RangeFuncBox
import Derived.Shelf.Abstract
import Derived.Shelf.RegionOpen
import Derived.WalkKit
import Derived.OwnWalkIn
import Derived.TacticsInMore
import Derived.LoopNIn
import Derived.LoopIn
import Derived.Maps.AppendAt
import Derived.Sort.LoopGhostIn
namespace Go.Proofs.Ytfmjjickgjkcbaa
open Go.ChangeShapes Go.WideShapes Go.ChangeAt Go.RowKit Go.Shelf

attribute [local go_sem] Oper.semAt_some


set_option maxHeartbeats 400000 in
theorem inside_calls (s : ByteArray) (w : World) :
    Calls Try.prog 48 #[.string s] w fun e w' => e = .returned (.func (.func 64) #[] #[.pointer (some ⟨w.heap.size, 0, none⟩)]) ∧ w.alloc (.cells #[.string s] 37) = w' := by
  go_enter Try.func48, Try.ntmps48
  go_wp2
  go_ret
  exact ⟨rfl, rfl⟩

theorem inside_stops (n Bn n₀ : Nat) (s : ByteArray) (hs : s.size ≤ 20000) (hr : Tm.right s.data.toList = true) (w : World) (hBn : Bn < w.heap.size) (hc : w.cell? ⟨Bn, 0, none⟩ = some (.string s)) :
    SeqStopsK Fence.wide n Try.prog 64 #[.pointer (some ⟨Bn, 0, none⟩)] (fun x : List UInt8 => #[Value.string ⟨x.toArray⟩]) (Below n₀) (fun ys => ys = Tm.ofL s.data.toList) (fun pre => pre <+: Tm.ofL s.data.toList) (Tm.ofL s.data.toList).length w :=
  fun l J Jx W hW hJ _ hY h0 =>
    inside1_in n l Bn n₀ s hs hr J Jx (fun pre A B h hb => hJ pre A B none h (grown_of_below hb) (fun r e => by cases e)) hY W ((hW.cell (p := ⟨Bn, 0, none⟩) hBn).trans hc) h0

def OfOut (w : World) (ps : List (List UInt8)) (e : Ending) (w' : World) : Prop :=
  ∃ v, e = .returned v ∧ w'.ownsRow w.heap.size 37 1 v ps.length (strs ps) ∧ (v = .slice none 0 0 ↔ ps = []) ∧ Below w.heap.size w w'

set_option maxRecDepth 100000 in
set_option maxHeartbeats 4000000 in
theorem Of_right (s : ByteArray) (hr : Tm.right s.data.toList = true) (w : World) :
    Calls Try.prog 37 #[.string s] w (OfOut w (Tm.ofL s.data.toList)) := by
  have hs : s.size ≤ 20000 := by have := (Tm.ofL_ok hr).2.2.2.2.2; rwa [len_bytes] at this
  have hlen : (Tm.ofL s.data.toList).length ≤ 32 := by rw [(Tm.ofL_ok hr).2.2.1]; exact (Tm.begin_le _).2
  have cR := fun W => Right_calls s (by unfold maxLen; omega) W
  rw [hr] at cR
  have HR := Lib.hid cR
  obtain ⟨i0, hi, hz0, hz1, hz2⟩ := info_parts info_term
  clear cR
  refine (callsIn_wide (n := 9)).1 ?_
  refine callsIn_of_wp_marks Try.func37 rfl trivial ?_ rfl
  simp only [Try.ntmps37, List.size_toArray, List.length_cons, List.length_nil, Nat.reduceAdd, Nat.reduceSub, Array.replicate_succ, Array.replicate_zero, List.push_toArray, List.append_toArray, List.nil_append, List.cons_append]
  gi_wp2_with (refine ⟨trivial, ?_⟩; first
    | (gi_at_call 19; refine (callsIn_wide.2 (HR.out _)).mono ?_; rintro e w1 ⟨rfl, b1⟩)
    | (gi_at_call 48; refine (callsIn_wide.2 (inside_calls s _)).mono ?_; rintro e w' ⟨rfl, rfl⟩))
  have hw1 := b1.size
  have bO := Boxed.new w1 30 (.slice none 0 0)
  have bN := Boxed.new (w1.alloc (.cells #[.slice none 0 0] 30)) 37 (.string s)
  rw [World.size_alloc] at bN
  have hB0 : Below w.heap.size w ((w1.alloc (.cells #[.slice none 0 0] 30)).alloc (.cells #[.string s] 37)) := (b1.alloc hw1 _).alloc (by simp; omega) _
  have hstops := inside_stops 8 (w1.heap.size + 1) w.heap.size s hs hr ((w1.alloc (.cells #[.slice none 0 0] 30)).alloc (.cells #[.string s] 37)) (by simp) bN.cell
  generalize Tm.ofL s.data.toList = ps at *
  refine wpIn_rangeFunc_ownG rfl (by omega) (gf := 64) (lb := #[.pointer (some ⟨w1.heap.size + 1, 0, none⟩)]) rfl trivial (enters_of Try.func64 (by kernel_rfl) rfl)
    hstops belowK_t (belowK_b (by simp; omega)) (Below.refl _ _) (fun _ => rfl)
    (fun pre W => (∃ v, Boxed W w1.heap.size 30 v ∧ W.ownsRow w.heap.size 37 1 v pre.length (strs pre) ∧ (v = .slice none 0 0 ↔ pre = [])) ∧ Below w.heap.size w W)
    (fun _ _ _ => False)
    (OwnFrom.and (Own.from (holdsRow_own w.heap.size w1.heap.size 30 37 1 (fun pre => pre.length) (fun pre => strs pre) (fun pre v => v = .slice none 0 0 ↔ pre = [])) _) (ownFrom_below (Nat.le_refl _) (by simp; omega)))
    (fun _ _ _ _ _ hs _ _ => hs)
    ⟨⟨_, bO.alloc _, World.ownsRow_nil _ _ _ _, by simp⟩, hB0⟩
    (fun x => { tmps := #[.string s, undef, .slice none 0 0, .pointer (some ⟨w1.heap.size, 0, none⟩), .string ⟨x.toArray⟩, .string s, .bool true, .bool false, .string s, .func (.func 64) #[] #[.pointer (some ⟨w1.heap.size + 1, 0, none⟩)], .string ⟨x.toArray⟩, undef, undef, undef, undef, undef], defers := [] }) ?assign ?body ?done ?stop
  case assign =>
    intro l x W K hK
    gi_wp2
    exact hK
  case body =>
    rintro l pre x W ⟨⟨v, hv, hrow, hnil⟩, hB⟩ hlt
    have hc := hv.cell
    have hsz := hB.size
    gi_wp2_with (gi_at_builtin; refine wpListIn_append_own _ rfl _ _ 30 rfl w.heap.size 37 i0 (.string ⟨#[]⟩) 1 16 Try.underlying30 hi hz0 hz1 hz2 rfl (by decide) _ _ _ rfl (hrow.alloc _) ⟨W.heap.size, 0, none⟩ 1 1 [.string ⟨x.toArray⟩] rfl rfl (cell_one_new _ _ _) (by simp [Value.oneCell']) (by unfold maxLen; omega) (by omega) (by simp; omega) ?_; intro v' w2 hown' hgrow _; obtain ⟨g', cap', rfl⟩ := ownsRow_succ hown'; obtain ⟨hv1, hv2, hr2, hk2, hb2⟩ := hv.appended (by decide) hrow hB.size hw1 hown' hgrow; have hc1 := hv1.cell; have hf1 := hv1.frozen)
    exact ⟨hk2.from _, hb2, ⟨_, hv2, by simpa [strs] using hr2, by simp⟩, hB.trans hb2⟩
  case done =>
    rintro D ys W hD rfl ⟨⟨v, hv, hrow, hnil⟩, hB⟩ hK
    have hc := hv.cell
    gi_wp2
    refine ⟨by simp, .inl ⟨_, _, rfl, run_takeDeferred hK, ?_⟩⟩
    exact ⟨_, results_tmp rfl _ _ _, v, rfl, ownsRow_putObj hrow _ hK rfl, hnil, hB.trans (belowK_b (w := w) (Nat.le_refl _) W D _ _ (by simp at hD; omega) hK rfl rfl)⟩
  case stop =>
    rintro D c pre W _ _ h _
    exact h.elim

set_option maxHeartbeats 400000 in
theorem Of_wrong (s : ByteArray) (hs : s.size ≤ maxLen) (hr : Tm.right s.data.toList = false) (w : World) :
    Calls Try.prog 37 #[.string s] w (OfOut w []) := by
  have cR := fun W => Right_calls s hs W
  rw [hr] at cR
  have HR := Lib.hid cR
  clear cR hr
  go_enter Try.func37, Try.ntmps37
  go_wp2_with fail
  refine (HR.out _).mono ?_
  rintro e w1 ⟨rfl, b1⟩
  go_wp2
  go_ret
  exact ⟨_, rfl, World.ownsRow_nil _ _ _ _, by simp, b1⟩

theorem Of_calls (s : ByteArray) (hs : s.size ≤ maxLen) (w : World) :
    Calls Try.prog 37 #[.string s] w (OfOut w (Tm.partsOfT s.data.toList)) := by
  unfold Tm.partsOfT
  cases hr : Tm.right s.data.toList with
  | true => rw [if_pos rfl]; exact Of_right s hr w
  | false => exact Of_wrong s hs hr w

end Go.Proofs.Ytfmjjickgjkcbaa
