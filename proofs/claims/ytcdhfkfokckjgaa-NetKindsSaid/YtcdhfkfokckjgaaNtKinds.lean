/- NetKinds: what is refused is neither heard nor lies in the net; who it is from, and to, stays with a frame. -/
import Derived.Test.YtcdhfkfokckjgaaNtLaw
import Derived.Deep.RegionHeld3
namespace Go.Proofs.Ytcdhfkfokckjgaa.L8
open Go.ChangeShapes Go.WideShapes Go.ChangeAt Go.RowKit Go.Deep

set_option maxRecDepth 100000 in
set_option maxHeartbeats 8000000 in
theorem kinds_calls (src dst : Int) (s : ByteArray) (w : World) : Calls Try.prog 7 #[.int .i64 src, .int .i64 dst, .string s] w (L5.One w (.bool true)) := by
  obtain ⟨fr, rfl⟩ : ∃ fr : Bytes, s = ⟨fr.toArray⟩ := ⟨s.data.toList, by simp⟩
  have HSh := Lib.hid (shown_calls w)
  have HN := Lib.hid (fun V => New_calls V)
  have hsize : (⟨fr.toArray⟩ : ByteArray).size = fr.length := by show fr.toArray.size = _; simp
  by_cases hlen : 1000 < fr.length
  · have j1 : (1000 : Int) < (fr.length : Int) := by omega
    clear hlen
    go_enter Try.func7, Try.ntmps7
    go_wp2_with fail
    refine HSh.out.mono ?_
    rintro e w1 ⟨rfl, b1⟩
    have HN := Lib.hid (HN.out w1)
    have HB1 := Lib.hid b1
    clear b1
    go_wp2_with fail
    refine HN.out.mono ?_
    rintro e w2 ⟨rfl, a2, b2⟩
    have HB2 : Hid (Below w.heap.size w w2) := HB1.out.trans (b2.mono HB1.out.size)
    clear a2 b2 HN HB1
    go_wp2
    go_ret
    exact ⟨rfl, HB2.out⟩
  have j1 : ¬ (1000 : Int) < (fr.length : Int) := by omega
  have HFl : Hid (fr.length ≤ maxLen) := by show fr.length ≤ maxLen; unfold maxLen; omega
  have HFk : Hid (fr.length ≤ 1000) := by show fr.length ≤ 1000; omega
  have HRt : Hid (∀ V, Calls Try.prog 23 #[.string ⟨fr.toArray⟩] V (One V (.bool (Tm.right fr)))) := fun V => by
    have := Right_calls ⟨fr.toArray⟩ (by show fr.toArray.size ≤ _; simpa using HFl.out) V
    simpa using this
  clear hlen
  by_cases hd : (⟨src, dst, fr⟩ : Dg).ok
  rotate_left
  · have HD : Hid (¬ (⟨src, dst, fr⟩ : Dg).ok) := hd
    by_cases h1 : 1 ≤ src
    rotate_left
    · clear hd HRt
      go_enter Try.func7, Try.ntmps7
      go_wp2_with fail
      refine HSh.out.mono ?_
      rintro e w1 ⟨rfl, b1⟩
      have HN := Lib.hid (HN.out w1)
      have HB1 := Lib.hid b1
      clear b1
      go_wp2_with fail
      refine HN.out.mono ?_
      rintro e w2 ⟨rfl, a2, b2⟩
      have HB2 : Hid (Below w.heap.size w w2) := HB1.out.trans (b2.mono HB1.out.size)
      have bA : Below w2.heap.size w2 (w2.alloc (.cells #[.int .i64 src, .int .i64 dst, .string ⟨fr.toArray⟩] 36)) := (Below.refl _ w2).alloc (Nat.le_refl _) _
      have hnew := heap_alloc_new w2 (.cells #[.int .i64 src, .int .i64 dst, .string ⟨fr.toArray⟩] 36)
      have HA3 := Lib.hid (a2.below bA)
      have HS := send_no HA3.out (d := ⟨src, dst, fr⟩) HD.out HFl.out
      unfold Dg.val at HS
      have HS := Lib.hid HS
      have HBA : Hid (Below w.heap.size w (w2.alloc (.cells #[.int .i64 src, .int .i64 dst, .string ⟨fr.toArray⟩] 36))) := HB2.out.trans (bA.mono HB2.out.size)
      have hsz : (w2.alloc (.cells #[.int .i64 src, .int .i64 dst, .string ⟨fr.toArray⟩] 36)).heap.size = w2.heap.size + 1 := by simp
      have HSz := Lib.hid hsz
      have HNw := Lib.hid hnew
      clear a2 b2 bA hnew hsz HN HB1
      go_wp2_with fail
      refine HS.out.mono ?_
      rintro e w4 ⟨rfl, a4, b4⟩
      have x2 : w4.cell? ⟨w2.heap.size, 2, none⟩ = some (.string ⟨fr.toArray⟩) := blk_cell8 ((b4.block w2.heap.size (by have := HSz.out; omega)).trans HNw.out)
      have HA4 := Lib.hid a4
      have HB4 : Hid (Below w.heap.size w w4) := HBA.out.trans (b4.mono HBA.out.size)
      clear a4 b4 HS HA3 HBA HB2 HSz HNw
      skip
      have HM := Lib.hid (Many_calls HA4.out)
      have HH := Lib.hid (Heard_calls HA4.out (by simp))
      clear x2
      go_wp2_with fail
      refine HM.out.mono ?_
      rintro e w5 ⟨rfl, rfl⟩
      clear HM
      go_wp2_with fail
      refine HH.out.mono ?_
      rintro e w6 ⟨v6, rfl, k1, k2⟩
      obtain ⟨A6, c6, rfl⟩ := L5.own_slice k1
      have HF : Hid (Below w.heap.size w w6) := HB4.out.trans (k2.mono HB4.out.size)
      clear k1 k2 HH HA4 HB4
      go_wp2
      go_ret
      exact ⟨rfl, HF.out⟩
    by_cases h2 : src ≤ 8
    rotate_left
    · clear hd HRt
      go_enter Try.func7, Try.ntmps7
      go_wp2_with fail
      refine HSh.out.mono ?_
      rintro e w1 ⟨rfl, b1⟩
      have HN := Lib.hid (HN.out w1)
      have HB1 := Lib.hid b1
      clear b1
      go_wp2_with fail
      refine HN.out.mono ?_
      rintro e w2 ⟨rfl, a2, b2⟩
      have HB2 : Hid (Below w.heap.size w w2) := HB1.out.trans (b2.mono HB1.out.size)
      have bA : Below w2.heap.size w2 (w2.alloc (.cells #[.int .i64 src, .int .i64 dst, .string ⟨fr.toArray⟩] 36)) := (Below.refl _ w2).alloc (Nat.le_refl _) _
      have hnew := heap_alloc_new w2 (.cells #[.int .i64 src, .int .i64 dst, .string ⟨fr.toArray⟩] 36)
      have HA3 := Lib.hid (a2.below bA)
      have HS := send_no HA3.out (d := ⟨src, dst, fr⟩) HD.out HFl.out
      unfold Dg.val at HS
      have HS := Lib.hid HS
      have HBA : Hid (Below w.heap.size w (w2.alloc (.cells #[.int .i64 src, .int .i64 dst, .string ⟨fr.toArray⟩] 36))) := HB2.out.trans (bA.mono HB2.out.size)
      have hsz : (w2.alloc (.cells #[.int .i64 src, .int .i64 dst, .string ⟨fr.toArray⟩] 36)).heap.size = w2.heap.size + 1 := by simp
      have HSz := Lib.hid hsz
      have HNw := Lib.hid hnew
      clear a2 b2 bA hnew hsz HN HB1
      go_wp2_with fail
      refine HS.out.mono ?_
      rintro e w4 ⟨rfl, a4, b4⟩
      have x2 : w4.cell? ⟨w2.heap.size, 2, none⟩ = some (.string ⟨fr.toArray⟩) := blk_cell8 ((b4.block w2.heap.size (by have := HSz.out; omega)).trans HNw.out)
      have HA4 := Lib.hid a4
      have HB4 : Hid (Below w.heap.size w w4) := HBA.out.trans (b4.mono HBA.out.size)
      clear a4 b4 HS HA3 HBA HB2 HSz HNw
      skip
      have HM := Lib.hid (Many_calls HA4.out)
      have HH := Lib.hid (Heard_calls HA4.out (by simp))
      clear x2
      go_wp2_with fail
      refine HM.out.mono ?_
      rintro e w5 ⟨rfl, rfl⟩
      clear HM
      go_wp2_with fail
      refine HH.out.mono ?_
      rintro e w6 ⟨v6, rfl, k1, k2⟩
      obtain ⟨A6, c6, rfl⟩ := L5.own_slice k1
      have HF : Hid (Below w.heap.size w w6) := HB4.out.trans (k2.mono HB4.out.size)
      clear k1 k2 HH HA4 HB4
      go_wp2
      go_ret
      exact ⟨rfl, HF.out⟩
    by_cases h3 : 1 ≤ dst
    rotate_left
    · clear hd HRt
      go_enter Try.func7, Try.ntmps7
      go_wp2_with fail
      refine HSh.out.mono ?_
      rintro e w1 ⟨rfl, b1⟩
      have HN := Lib.hid (HN.out w1)
      have HB1 := Lib.hid b1
      clear b1
      go_wp2_with fail
      refine HN.out.mono ?_
      rintro e w2 ⟨rfl, a2, b2⟩
      have HB2 : Hid (Below w.heap.size w w2) := HB1.out.trans (b2.mono HB1.out.size)
      have bA : Below w2.heap.size w2 (w2.alloc (.cells #[.int .i64 src, .int .i64 dst, .string ⟨fr.toArray⟩] 36)) := (Below.refl _ w2).alloc (Nat.le_refl _) _
      have hnew := heap_alloc_new w2 (.cells #[.int .i64 src, .int .i64 dst, .string ⟨fr.toArray⟩] 36)
      have HA3 := Lib.hid (a2.below bA)
      have HS := send_no HA3.out (d := ⟨src, dst, fr⟩) HD.out HFl.out
      unfold Dg.val at HS
      have HS := Lib.hid HS
      have HBA : Hid (Below w.heap.size w (w2.alloc (.cells #[.int .i64 src, .int .i64 dst, .string ⟨fr.toArray⟩] 36))) := HB2.out.trans (bA.mono HB2.out.size)
      have hsz : (w2.alloc (.cells #[.int .i64 src, .int .i64 dst, .string ⟨fr.toArray⟩] 36)).heap.size = w2.heap.size + 1 := by simp
      have HSz := Lib.hid hsz
      have HNw := Lib.hid hnew
      clear a2 b2 bA hnew hsz HN HB1
      go_wp2_with fail
      refine HS.out.mono ?_
      rintro e w4 ⟨rfl, a4, b4⟩
      have x2 : w4.cell? ⟨w2.heap.size, 2, none⟩ = some (.string ⟨fr.toArray⟩) := blk_cell8 ((b4.block w2.heap.size (by have := HSz.out; omega)).trans HNw.out)
      have HA4 := Lib.hid a4
      have HB4 : Hid (Below w.heap.size w w4) := HBA.out.trans (b4.mono HBA.out.size)
      clear a4 b4 HS HA3 HBA HB2 HSz HNw
      skip
      have HM := Lib.hid (Many_calls HA4.out)
      have HH := Lib.hid (Heard_calls HA4.out (by simp))
      clear x2
      go_wp2_with fail
      refine HM.out.mono ?_
      rintro e w5 ⟨rfl, rfl⟩
      clear HM
      go_wp2_with fail
      refine HH.out.mono ?_
      rintro e w6 ⟨v6, rfl, k1, k2⟩
      obtain ⟨A6, c6, rfl⟩ := L5.own_slice k1
      have HF : Hid (Below w.heap.size w w6) := HB4.out.trans (k2.mono HB4.out.size)
      clear k1 k2 HH HA4 HB4
      go_wp2
      go_ret
      exact ⟨rfl, HF.out⟩
    by_cases h4 : dst ≤ 8
    rotate_left
    · clear hd HRt
      go_enter Try.func7, Try.ntmps7
      go_wp2_with fail
      refine HSh.out.mono ?_
      rintro e w1 ⟨rfl, b1⟩
      have HN := Lib.hid (HN.out w1)
      have HB1 := Lib.hid b1
      clear b1
      go_wp2_with fail
      refine HN.out.mono ?_
      rintro e w2 ⟨rfl, a2, b2⟩
      have HB2 : Hid (Below w.heap.size w w2) := HB1.out.trans (b2.mono HB1.out.size)
      have bA : Below w2.heap.size w2 (w2.alloc (.cells #[.int .i64 src, .int .i64 dst, .string ⟨fr.toArray⟩] 36)) := (Below.refl _ w2).alloc (Nat.le_refl _) _
      have hnew := heap_alloc_new w2 (.cells #[.int .i64 src, .int .i64 dst, .string ⟨fr.toArray⟩] 36)
      have HA3 := Lib.hid (a2.below bA)
      have HS := send_no HA3.out (d := ⟨src, dst, fr⟩) HD.out HFl.out
      unfold Dg.val at HS
      have HS := Lib.hid HS
      have HBA : Hid (Below w.heap.size w (w2.alloc (.cells #[.int .i64 src, .int .i64 dst, .string ⟨fr.toArray⟩] 36))) := HB2.out.trans (bA.mono HB2.out.size)
      have hsz : (w2.alloc (.cells #[.int .i64 src, .int .i64 dst, .string ⟨fr.toArray⟩] 36)).heap.size = w2.heap.size + 1 := by simp
      have HSz := Lib.hid hsz
      have HNw := Lib.hid hnew
      clear a2 b2 bA hnew hsz HN HB1
      go_wp2_with fail
      refine HS.out.mono ?_
      rintro e w4 ⟨rfl, a4, b4⟩
      have x2 : w4.cell? ⟨w2.heap.size, 2, none⟩ = some (.string ⟨fr.toArray⟩) := blk_cell8 ((b4.block w2.heap.size (by have := HSz.out; omega)).trans HNw.out)
      have HA4 := Lib.hid a4
      have HB4 : Hid (Below w.heap.size w w4) := HBA.out.trans (b4.mono HBA.out.size)
      clear a4 b4 HS HA3 HBA HB2 HSz HNw
      skip
      have HM := Lib.hid (Many_calls HA4.out)
      have HH := Lib.hid (Heard_calls HA4.out (by simp))
      clear x2
      go_wp2_with fail
      refine HM.out.mono ?_
      rintro e w5 ⟨rfl, rfl⟩
      clear HM
      go_wp2_with fail
      refine HH.out.mono ?_
      rintro e w6 ⟨v6, rfl, k1, k2⟩
      obtain ⟨A6, c6, rfl⟩ := L5.own_slice k1
      have HF : Hid (Below w.heap.size w w6) := HB4.out.trans (k2.mono HB4.out.size)
      clear k1 k2 HH HA4 HB4
      go_wp2
      go_ret
      exact ⟨rfl, HF.out⟩
    · have hr : Tm.right fr = false := by
        cases hr : Tm.right fr with
        | false => rfl
        | true => exact absurd ⟨⟨h1, h2⟩, ⟨h3, h4⟩, hr⟩ hd
      rw [hr] at HRt
      clear hd hr
      go_enter Try.func7, Try.ntmps7
      go_wp2_with fail
      refine HSh.out.mono ?_
      rintro e w1 ⟨rfl, b1⟩
      have HN := Lib.hid (HN.out w1)
      have HB1 := Lib.hid b1
      clear b1
      go_wp2_with fail
      refine HN.out.mono ?_
      rintro e w2 ⟨rfl, a2, b2⟩
      have HB2 : Hid (Below w.heap.size w w2) := HB1.out.trans (b2.mono HB1.out.size)
      have bA : Below w2.heap.size w2 (w2.alloc (.cells #[.int .i64 src, .int .i64 dst, .string ⟨fr.toArray⟩] 36)) := (Below.refl _ w2).alloc (Nat.le_refl _) _
      have hnew := heap_alloc_new w2 (.cells #[.int .i64 src, .int .i64 dst, .string ⟨fr.toArray⟩] 36)
      have HA3 := Lib.hid (a2.below bA)
      have HS := send_no HA3.out (d := ⟨src, dst, fr⟩) HD.out HFl.out
      unfold Dg.val at HS
      have HS := Lib.hid HS
      have HBA : Hid (Below w.heap.size w (w2.alloc (.cells #[.int .i64 src, .int .i64 dst, .string ⟨fr.toArray⟩] 36))) := HB2.out.trans (bA.mono HB2.out.size)
      have hsz : (w2.alloc (.cells #[.int .i64 src, .int .i64 dst, .string ⟨fr.toArray⟩] 36)).heap.size = w2.heap.size + 1 := by simp
      have HSz := Lib.hid hsz
      have HNw := Lib.hid hnew
      clear a2 b2 bA hnew hsz HN HB1
      go_wp2_with fail
      refine HS.out.mono ?_
      rintro e w4 ⟨rfl, a4, b4⟩
      have x2 : w4.cell? ⟨w2.heap.size, 2, none⟩ = some (.string ⟨fr.toArray⟩) := blk_cell8 ((b4.block w2.heap.size (by have := HSz.out; omega)).trans HNw.out)
      have HA4 := Lib.hid a4
      have HB4 : Hid (Below w.heap.size w w4) := HBA.out.trans (b4.mono HBA.out.size)
      clear a4 b4 HS HA3 HBA HB2 HSz HNw
      have HR := Lib.hid (HRt.out w4)
      go_wp2_with fail
      refine HR.out.mono ?_
      rintro e w5 ⟨rfl, b5⟩
      have HA4 := Lib.hid (HA4.out.below b5)
      have HB4 : Hid (Below w.heap.size w w5) := HB4.out.trans (b5.mono HB4.out.size)
      clear b5 HR
      have HM := Lib.hid (Many_calls HA4.out)
      have HH := Lib.hid (Heard_calls HA4.out (by simp))
      clear x2
      go_wp2_with fail
      refine HM.out.mono ?_
      rintro e w5 ⟨rfl, rfl⟩
      clear HM
      go_wp2_with fail
      refine HH.out.mono ?_
      rintro e w6 ⟨v6, rfl, k1, k2⟩
      obtain ⟨A6, c6, rfl⟩ := L5.own_slice k1
      have HF : Hid (Below w.heap.size w w6) := HB4.out.trans (k2.mono HB4.out.size)
      clear k1 k2 HH HA4 HB4
      go_wp2
      go_ret
      exact ⟨rfl, HF.out⟩
  · have HD : Hid (⟨src, dst, fr⟩ : Dg).ok := hd
    obtain ⟨⟨h1, h2⟩, ⟨h3, h4⟩, hr⟩ := hd
    dsimp only at h1 h2 h3 h4 hr
    rw [hr] at HRt
    clear hr
    go_enter Try.func7, Try.ntmps7
    go_wp2_with fail
    refine HSh.out.mono ?_
    rintro e w1 ⟨rfl, b1⟩
    have HN := Lib.hid (HN.out w1)
    have hw01 : w.heap.size ≤ w1.heap.size := b1.size
    have HB1 := Lib.hid b1
    clear b1
    go_wp2_with fail
    refine HN.out.mono ?_
    rintro e w2 ⟨rfl, a2, b2⟩
    have HB2 : Hid (Below w.heap.size w w2) := HB1.out.trans (b2.mono HB1.out.size)
    have bA : Below w2.heap.size w2 (w2.alloc (.cells #[.int .i64 src, .int .i64 dst, .string ⟨fr.toArray⟩] 36)) := (Below.refl _ w2).alloc (Nat.le_refl _) _
    have hnew := heap_alloc_new w2 (.cells #[.int .i64 src, .int .i64 dst, .string ⟨fr.toArray⟩] 36)
    have hsz : (w2.alloc (.cells #[.int .i64 src, .int .i64 dst, .string ⟨fr.toArray⟩] 36)).heap.size = w2.heap.size + 1 := by simp
    have hwl : w1.heap.size ≤ w2.heap.size := b2.size
    have HA2 := Lib.hid a2
    have HA3 := Lib.hid (a2.below bA)
    have HS := send_yes HA3.out (by omega) (d := ⟨src, dst, fr⟩) HD.out HFl.out (by simp [maxLen]) (by simp)
    have e1 : layC [] = 0 := rfl
    have e2 : layL [] (⟨src, dst, fr⟩ : Dg) = [⟨src, dst, fr⟩] := rfl
    have e3 : putH [] fr = [fr] := by simp [putH]
    unfold SendYes Ntd Dg.val at HS
    rw [e1, e2, e3] at HS
    have HS := Lib.hid HS
    have HBA : Hid (Below w.heap.size w (w2.alloc (.cells #[.int .i64 src, .int .i64 dst, .string ⟨fr.toArray⟩] 36))) := HB2.out.trans (bA.mono HB2.out.size)
    have HSz := Lib.hid hsz
    have HNw := Lib.hid hnew
    clear a2 b2 bA hnew hsz HN HB1 e1 e2 e3
    go_wp2_with fail
    refine HS.out.mono ?_
    rintro e w4 ⟨rfl, v4, a4, o4, n4⟩
    have hb9 : w4.heap[w2.heap.size]? = some (.cells #[.int .i64 src, .int .i64 dst, .string ⟨fr.toArray⟩] 36 (0, 0)) := (o4.block _ (by have := HSz.out; omega) (fun hn => by have := (HA2.out.inlt hn).2; omega)).trans HNw.out
    have x2 : w4.cell? ⟨w2.heap.size, 2, none⟩ = some (.string ⟨fr.toArray⟩) := blk_cell8 hb9
    have HA4 := Lib.hid a4
    have HB4 : Hid (Below w.heap.size w w4) := Only.below HBA.out o4 HBA.out.size (fun q hq => Nat.le_trans hw01 (HA3.out.inlt hq).1)
    have h24 : w2.heap.size < w4.heap.size := by have := o4.size; have := HSz.out; omega
    have H9 := Lib.hid hb9
    have HV4 : Hid (∀ q, v4.ownBlock = some q → w2.heap.size + 1 ≤ q) := fun q e => by
      rcases n4 q (.inr (.inr e)) with c | c
      · rcases c with c | c | c
        · exact absurd e (by rw [c]; exact HA4.out.apart.2.1)
        · exact absurd e (by rw [c]; exact HA4.out.apart.2.2)
        · cases c
      · have := HSz.out; omega
    clear a4 o4 n4 hb9 HS HBA HSz HNw HA3
    have HR := Lib.hid (HRt.out w4)
    go_wp2_with fail
    refine HR.out.mono ?_
    rintro e w5 ⟨rfl, b5⟩
    have HA5 := Lib.hid (HA4.out.below b5)
    have HB5 : Hid (Below w.heap.size w w5) := HB4.out.trans (b5.mono HB4.out.size)
    have H95 := Lib.hid ((b5.block _ h24).trans H9.out)
    have h25 : w2.heap.size < w5.heap.size := Nat.lt_of_lt_of_le h24 b5.size
    have HL := Lib.hid (Lie_calls HA5.out (by simp))
    clear b5 HR HA4 HB4 H9 x2
    go_wp2_with fail
    refine HL.out.mono ?_
    rintro e w6 ⟨v6, rfl, k1, k2⟩
    obtain ⟨g6, c6, rfl, hg6, _, hg6b, _⟩ := dg_shape k1 (by simp)
    obtain ⟨y0, y1, y2⟩ := dg_cells k1 (i := 0) (d := ⟨src, dst, fr⟩) rfl
    have HA6 := Lib.hid (HA5.out.below k2)
    have HB6 : Hid (Below w.heap.size w w6) := HB5.out.trans (k2.mono HB5.out.size)
    have H96 := Lib.hid ((k2.block _ h25).trans H95.out)
    have h26 : w2.heap.size < w6.heap.size := Nat.lt_of_lt_of_le h25 k2.size
    have HY := Lib.hid (And.intro y0 (And.intro y1 y2))
    have HT := take_yes HA6.out (i := 0) (d := ⟨src, dst, fr⟩) rfl (by simp)
    unfold TakeYes Ntd Dg.val at HT
    have HT := Lib.hid HT
    clear k1 k2 HL HB5 H95 y0 y1 y2
    go_wp2_with fail
    refine HT.out.mono ?_
    rintro e w7 ⟨rfl, v7, a7, o7, n7⟩
    have bC : Below w7.heap.size w7 (w7.alloc (.cells #[.int .i64 src, .int .i64 dst, .string ⟨fr.toArray⟩] 36)) := (Below.refl _ w7).alloc (Nat.le_refl _) _
    have hz8 : (w7.alloc (.cells #[.int .i64 src, .int .i64 dst, .string ⟨fr.toArray⟩] 36)).heap.size = w7.heap.size + 1 := by simp
    have n13 := heap_alloc_new w7 (.cells #[.int .i64 src, .int .i64 dst, .string ⟨fr.toArray⟩] 36)
    have h27 : w2.heap.size < w7.heap.size := Nat.lt_of_lt_of_le h26 o7.size
    have hg67 : g6 < w7.heap.size := Nat.lt_of_lt_of_le hg6 o7.size
    have n9 := (bC.block _ h27).trans ((o7.block _ h26 (fun hn => by
      rcases hn with e | e | e
      · have := HA2.out.lt; omega
      · have := HA2.out.map.lt; omega
      · have h1 := HA5.out.row.lt _ e
        have h2 := HV4.out _ e
        omega)).trans H96.out)
    have ng := (bC.block _ hg67).trans (o7.block _ hg6 (fun hn => by have := (HA5.out.inlt hn).2; omega))
    obtain ⟨w8, hw8⟩ : ∃ w8, w7.alloc (.cells #[.int .i64 src, .int .i64 dst, .string ⟨fr.toArray⟩] 36) = w8 := ⟨_, rfl⟩
    have HA8 : Hid (NtAt w8 w1.heap.size (w1.heap.size + 1) [] v7 w1.heap.size 1 [fr]) := by rw [← hw8]; exact a7.below bC
    have HB8 : Hid (Below w.heap.size w w8) := by
      have h8 : Below w.heap.size w w7 := Only.below HB6.out o7 HB6.out.size (fun q hq => Nat.le_trans hw01 (HA6.out.inlt hq).1)
      rw [← hw8]
      exact h8.trans (bC.mono h8.size)
    rw [hw8] at n13 n9 ng bC hz8
    have HB78 := Lib.hid bC
    have z0 : w8.cell? ⟨w2.heap.size, 0, none⟩ = some (.int .i64 src) := blk_cell8 n9
    have z1 : w8.cell? ⟨w2.heap.size, 1, none⟩ = some (.int .i64 dst) := blk_cell8 n9
    have z2 : w8.cell? ⟨w2.heap.size, 2, none⟩ = some (.string ⟨fr.toArray⟩) := blk_cell8 n9
    have t0 : w8.cell? ⟨w7.heap.size, 0, none⟩ = some (.int .i64 src) := blk_cell8 n13
    have t1 : w8.cell? ⟨w7.heap.size, 1, none⟩ = some (.int .i64 dst) := blk_cell8 n13
    have t2 : w8.cell? ⟨w7.heap.size, 2, none⟩ = some (.string ⟨fr.toArray⟩) := blk_cell8 n13
    have g0 : w8.cell? ⟨g6, 0, none⟩ = some (.int .i64 src) := (World.cell?_of_block (w := w6) ng).trans HY.out.1
    have g1 : w8.cell? ⟨g6, 1, none⟩ = some (.int .i64 dst) := (World.cell?_of_block (w := w6) ng).trans HY.out.2.1
    have g2 : w8.cell? ⟨g6, 2, none⟩ = some (.string ⟨fr.toArray⟩) := (World.cell?_of_block (w := w6) ng).trans HY.out.2.2
    have l8 : w2.heap.size < w8.heap.size ∧ w7.heap.size < w8.heap.size ∧ g6 < w8.heap.size := by omega
    have HHr : Hid (∀ V, V.cell? ⟨w2.heap.size, 0, none⟩ = some (.int .i64 src) ∧ V.cell? ⟨w2.heap.size, 1, none⟩ = some (.int .i64 dst) ∧ V.cell? ⟨w2.heap.size, 2, none⟩ = some (.string ⟨fr.toArray⟩) ∧ V.cell? ⟨w7.heap.size, 0, none⟩ = some (.int .i64 src) ∧ V.cell? ⟨w7.heap.size, 1, none⟩ = some (.int .i64 dst) ∧ V.cell? ⟨w7.heap.size, 2, none⟩ = some (.string ⟨fr.toArray⟩) ∧ V.cell? ⟨g6, 0, none⟩ = some (.int .i64 src) ∧ V.cell? ⟨g6, 1, none⟩ = some (.int .i64 dst) ∧ V.cell? ⟨g6, 2, none⟩ = some (.string ⟨fr.toArray⟩) ∧ Below w8.heap.size w8 V →
        Calls Try.prog 19 #[.pointer (some ⟨w1.heap.size + 1, 0, none⟩)] V fun e w' => ∃ A c, e = .returned (.slice A 1 c) ∧ w'.cell? ⟨w2.heap.size, 0, none⟩ = some (.int .i64 src) ∧ w'.cell? ⟨w2.heap.size, 1, none⟩ = some (.int .i64 dst) ∧ w'.cell? ⟨w2.heap.size, 2, none⟩ = some (.string ⟨fr.toArray⟩) ∧ w'.cell? ⟨w7.heap.size, 0, none⟩ = some (.int .i64 src) ∧ w'.cell? ⟨w7.heap.size, 1, none⟩ = some (.int .i64 dst) ∧ w'.cell? ⟨w7.heap.size, 2, none⟩ = some (.string ⟨fr.toArray⟩) ∧ w'.cell? ⟨g6, 0, none⟩ = some (.int .i64 src) ∧ w'.cell? ⟨g6, 1, none⟩ = some (.int .i64 dst) ∧ w'.cell? ⟨g6, 2, none⟩ = some (.string ⟨fr.toArray⟩) ∧ Below w8.heap.size w8 w') := fun V ⟨v0, v1, v2, v3, v4, v5, v6, v7, v8, v9⟩ => by
      refine (Heard_calls (HA8.out.below v9) (by simp)).mono ?_
      rintro e w' ⟨u, rfl, k1, k2⟩
      obtain ⟨A, c, rfl⟩ := L5.own_slice k1
      have hz := v9.size
      exact ⟨A, c, rfl, (k2.cell (p := ⟨w2.heap.size, 0, none⟩) (by show w2.heap.size < _; omega)).trans v0, (k2.cell (p := ⟨w2.heap.size, 1, none⟩) (by show w2.heap.size < _; omega)).trans v1, (k2.cell (p := ⟨w2.heap.size, 2, none⟩) (by show w2.heap.size < _; omega)).trans v2, (k2.cell (p := ⟨w7.heap.size, 0, none⟩) (by show w7.heap.size < _; omega)).trans v3, (k2.cell (p := ⟨w7.heap.size, 1, none⟩) (by show w7.heap.size < _; omega)).trans v4, (k2.cell (p := ⟨w7.heap.size, 2, none⟩) (by show w7.heap.size < _; omega)).trans v5, (k2.cell (p := ⟨g6, 0, none⟩) (by show g6 < _; omega)).trans v6, (k2.cell (p := ⟨g6, 1, none⟩) (by show g6 < _; omega)).trans v7, (k2.cell (p := ⟨g6, 2, none⟩) (by show g6 < _; omega)).trans v8, v9.trans (k2.mono hz)⟩
    have hS0 : Below w8.heap.size w8 w8.drew := (Below.refl _ _).drew
    clear HT a7 o7 n7 bC n13 n9 ng hz8 HY HA5 HA6 HB6 H96 HB78 HV4 HRt
    go_wp2
    go_region_held3 (fun w' => w'.cell? ⟨w2.heap.size, 0, none⟩ = some (.int .i64 src) ∧ w'.cell? ⟨w2.heap.size, 1, none⟩ = some (.int .i64 dst) ∧ w'.cell? ⟨w2.heap.size, 2, none⟩ = some (.string ⟨fr.toArray⟩) ∧ w'.cell? ⟨w7.heap.size, 0, none⟩ = some (.int .i64 src) ∧ w'.cell? ⟨w7.heap.size, 1, none⟩ = some (.int .i64 dst) ∧ w'.cell? ⟨w7.heap.size, 2, none⟩ = some (.string ⟨fr.toArray⟩) ∧ w'.cell? ⟨g6, 0, none⟩ = some (.int .i64 src) ∧ w'.cell? ⟨g6, 1, none⟩ = some (.int .i64 dst) ∧ w'.cell? ⟨g6, 2, none⟩ = some (.string ⟨fr.toArray⟩) ∧ Below w8.heap.size w8 w')
      ((first | exact ⟨z0, z1, z2, t0, t1, t2, g0, g1, g2, hS0⟩ | (go_split_ands; refine ⟨?_, ?_, ?_, ?_, ?_, ?_, ?_, ?_, ?_, ?_⟩ <;> assumption)))
      ((go_at_call 19; refine (HHr.out _ (by first | exact ⟨z0, z1, z2, t0, t1, t2, g0, g1, g2, hS0⟩ | (refine ⟨?_, ?_, ?_, ?_, ?_, ?_, ?_, ?_, ?_, ?_⟩ <;> assumption))).mono ?_; rintro e w9 ⟨A9, c9, rfl, f0, f1, f2, f3, f4, f5, f6, f7, f8, f9⟩))
    all_goals
      have HF : Hid (Below w.heap.size w w9) := HB8.out.trans (f9.mono HB8.out.size)
      clear f0 f1 f2 f3 f4 f5 f6 f7 f8 f9 HHr
      go_wp2
      go_ret
      exact ⟨rfl, HF.out⟩
end Go.Proofs.Ytcdhfkfokckjgaa.L8
