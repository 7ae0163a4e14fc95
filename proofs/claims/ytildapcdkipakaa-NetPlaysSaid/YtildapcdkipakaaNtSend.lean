/- Contract of net.Send. -/
import Derived.Test.YtildapcdkipakaaNtCalls
namespace Go.Proofs.Ytildapcdkipakaa.L8
open Go.ChangeShapes Go.WideShapes Go.ChangeAt Go.RowKit Go.Deep

def Dg.ok (d : Dg) : Prop := (1 ≤ d.src ∧ d.src ≤ 8) ∧ (1 ≤ d.dst ∧ d.dst ≤ 8) ∧ Tm.right d.fr = true
section
variable {w : World} {B h : Nat} {l : List Dg} {v : Value} {b n : Nat} {hs : List Bytes}
def SendNo (w : World) (B h : Nat) (l : List Dg) (v : Value) (b n : Nat) (hs : List Bytes) (e : Ending) (w' : World) : Prop := e = .returned (.int .i64 1) ∧ NtAt w' B h l v b n hs ∧ Below w.heap.size w w'
set_option maxRecDepth 100000 in
set_option maxHeartbeats 4000000 in
theorem send_no (a : NtAt w B h l v b n hs) {d : Dg} (hd : ¬ d.ok) (hf : d.fr.length ≤ maxLen) : Calls Try.prog 14 #[.pointer (some ⟨h, 0, none⟩), d.val] w (SendNo w B h l v b n hs) := by
  obtain ⟨src, dst, fr⟩ := d
  have bA : Below w.heap.size w (w.alloc (.cells #[.int .i64 src, .int .i64 dst, .string ⟨fr.toArray⟩] 36)) := (Below.refl _ w).alloc (Nat.le_refl _) _
  have hnew := heap_alloc_new w (.cells #[.int .i64 src, .int .i64 dst, .string ⟨fr.toArray⟩] 36)
  obtain ⟨W1, hW1⟩ : ∃ W1, w.alloc (.cells #[.int .i64 src, .int .i64 dst, .string ⟨fr.toArray⟩] 36) = W1 := ⟨_, rfl⟩
  rw [hW1] at bA hnew
  have x0 : W1.cell? ⟨w.heap.size, 0, none⟩ = some (.int .i64 src) := by simp only [World.cell?]; rw [hnew]; rfl
  have x1 : W1.cell? ⟨w.heap.size, 1, none⟩ = some (.int .i64 dst) := by simp only [World.cell?]; rw [hnew]; rfl
  have x2 : W1.cell? ⟨w.heap.size, 2, none⟩ = some (.string ⟨fr.toArray⟩) := by simp only [World.cell?]; rw [hnew]; rfl
  have HF : Hid (∀ V, Below W1.heap.size W1 V → SendNo w B h l v b n hs (.returned (.int .i64 1)) V) := fun V hV => by
    have hb := bA.trans (hV.mono bA.size)
    exact ⟨rfl, a.below hb, hb⟩
  have HP1 := isProcess_calls src W1
  have HP2 := isProcess_calls dst W1
  have HR := Right_calls ⟨fr.toArray⟩ (by show fr.toArray.size ≤ _; simpa using hf) W1
  have e0 : (⟨fr.toArray⟩ : ByteArray).data.toList = fr := by simp
  rw [e0] at HR
  have hdd : ¬ ((1 ≤ src ∧ src ≤ 8) ∧ (1 ≤ dst ∧ dst ≤ 8) ∧ Tm.right fr = true) := hd
  unfold Dg.val
  clear hd hf bA hnew a e0
  by_cases h1 : 1 ≤ src ∧ src ≤ 8
  · rw [decide_eq_true h1] at HP1
    have HP1 := Lib.hid HP1
    by_cases h2 : 1 ≤ dst ∧ dst ≤ 8
    · rw [decide_eq_true h2] at HP2
      have hr : Tm.right fr = false := by cases hr : Tm.right fr with
        | false => rfl
        | true => exact absurd ⟨h1, h2, hr⟩ hdd
      rw [hr] at HR
      have HP2 := Lib.hid HP2
      have HR := Lib.hid HR
      clear hdd h1 h2 hr
      go_enter Try.func14, Try.ntmps14
      go_wp2_with fail
      refine HP1.out.mono ?_
      rintro e w' ⟨rfl, rfl⟩
      go_wp2_with fail
      refine HP2.out.mono ?_
      rintro e w' ⟨rfl, rfl⟩
      go_wp2_with fail
      refine HR.out.mono ?_
      rintro e w2 ⟨rfl, b2⟩
      have HF := Lib.hid (HF.out w2 b2)
      clear b2 HP1 HP2 HR
      go_wp2
      go_ret
      exact HF.out
    · rw [decide_eq_false h2] at HP2
      have HP2 := Lib.hid HP2
      clear hdd h1 h2 HR
      go_enter Try.func14, Try.ntmps14
      go_wp2_with fail
      refine HP1.out.mono ?_
      rintro e w' ⟨rfl, rfl⟩
      go_wp2_with fail
      refine HP2.out.mono ?_
      rintro e w' ⟨rfl, rfl⟩
      have HF := Lib.hid (HF.out _ (Below.refl _ _))
      clear HP1 HP2
      go_wp2
      go_ret
      exact HF.out
  · rw [decide_eq_false h1] at HP1
    have HP1 := Lib.hid HP1
    clear hdd h1 HP2 HR
    go_enter Try.func14, Try.ntmps14
    go_wp2_with fail
    refine HP1.out.mono ?_
    rintro e w' ⟨rfl, rfl⟩
    have HF := Lib.hid (HF.out _ (Below.refl _ _))
    clear HP1
    go_wp2
    go_ret
    exact HF.out
def SendYes (w : World) (B h : Nat) (l : List Dg) (v : Value) (b n : Nat) (hs : List Bytes) (d : Dg) (e : Ending) (w' : World) : Prop :=
  e = .returned (.int .i64 (layC l)) ∧ Ntd w B h v b (layL l d) (n + 1) (putH hs d.fr) w'
set_option maxRecDepth 100000 in
set_option maxHeartbeats 4000000 in
theorem send_yes (a : NtAt w B h l v b n hs) (hB : B ≤ w.heap.size) {d : Dg} (hd : d.ok) (hf : d.fr.length ≤ maxLen) (hn : n < maxLen) (hl : l.length ≤ 1000000) : Calls Try.prog 14 #[.pointer (some ⟨h, 0, none⟩), d.val] w (SendYes w B h l v b n hs d) := by
  obtain ⟨src, dst, fr⟩ := d
  have bA : Below w.heap.size w (w.alloc (.cells #[.int .i64 src, .int .i64 dst, .string ⟨fr.toArray⟩] 36)) := (Below.refl _ w).alloc (Nat.le_refl _) _
  have hnew := heap_alloc_new w (.cells #[.int .i64 src, .int .i64 dst, .string ⟨fr.toArray⟩] 36)
  have hsz : (w.alloc (.cells #[.int .i64 src, .int .i64 dst, .string ⟨fr.toArray⟩] 36)).heap.size = w.heap.size + 1 := by simp
  obtain ⟨W1, hW1⟩ : ∃ W1, w.alloc (.cells #[.int .i64 src, .int .i64 dst, .string ⟨fr.toArray⟩] 36) = W1 := ⟨_, rfl⟩
  rw [hW1] at bA hnew hsz
  have HNew : Hid (∀ V : World, V.heap[w.heap.size]? = W1.heap[w.heap.size]? → V.cell? ⟨w.heap.size, 0, none⟩ = some (.int .i64 src) ∧ V.cell? ⟨w.heap.size, 1, none⟩ = some (.int .i64 dst) ∧ V.cell? ⟨w.heap.size, 2, none⟩ = some (.string ⟨fr.toArray⟩)) := fun V hV => by
    rw [hnew] at hV
    refine ⟨?_, ?_, ?_⟩ <;> (simp only [World.cell?]; rw [hV]; rfl)
  obtain ⟨x0, x1, x2⟩ := HNew.out W1 rfl
  have HA := Lib.hid a
  have HBl := Lib.hid bA
  have HSz := Lib.hid hsz
  obtain ⟨h1, h2, hr⟩ := hd
  dsimp only at h1 h2 hr
  have HP1 := isProcess_calls src W1
  have HP2 := isProcess_calls dst W1
  have HR := Right_calls ⟨fr.toArray⟩ (by show fr.toArray.size ≤ _; simpa using hf) W1
  have e0 : (⟨fr.toArray⟩ : ByteArray).data.toList = fr := by simp
  rw [decide_eq_true h1] at HP1
  rw [decide_eq_true h2] at HP2
  rw [e0, hr] at HR
  have HP1 := Lib.hid HP1
  have HP2 := Lib.hid HP2
  have HR := Lib.hid HR
  have HBb := Lib.hid hB
  have HNn := Lib.hid hn
  have HLl := Lib.hid hl
  have HFf := Lib.hid hf
  unfold Dg.val
  clear a bA hsz h1 h2 hr e0 hnew hB hn hl hf
  go_enter Try.func14, Try.ntmps14
  go_wp2_with fail
  refine HP1.out.mono ?_
  rintro e w' ⟨rfl, rfl⟩
  go_wp2_with fail
  refine HP2.out.mono ?_
  rintro e w' ⟨rfl, rfl⟩
  go_wp2_with fail
  refine HR.out.mono ?_
  rintro e w2 ⟨rfl, b2⟩
  clear HP1 HP2 HR x0 x1 x2
  have hW1s : w.heap.size < W1.heap.size := by have := HSz.out; omega
  obtain ⟨x0, x1, x2⟩ := HNew.out w2 (b2.block _ hW1s)
  have HB2 : Hid (Below w.heap.size w w2) := HBl.out.trans (b2.mono HBl.out.size)
  have HA2 : Hid (NtAt w2 B h l v b n hs) := HA.out.below HB2.out
  obtain ⟨m0, m1, _⟩ := HA2.out.cells
  have hAd : NtAt w2.drew B h l v b n hs := HA2.out.same fun _ _ => rfl
  obtain ⟨W3, hset, hm, hg⟩ := hAd.map.set HNn.out (k := fr) HFf.out (.agg #[])
  have HA3 := Lib.hid (hAd.reown hm hg)
  have hbne : w.heap.size ≠ b := fun e => by have := HA.out.map.lt; omega
  have hw2s : w.heap.size < w2.heap.size := Nat.lt_of_lt_of_le hW1s b2.size
  obtain ⟨y0, y1, y2⟩ := HNew.out W3 ((hg.block w.heap.size hw2s (fun e => hbne (by cases e; rfl))).trans (b2.block _ hW1s))
  have hw3 : w2.heap.size ≤ W3.heap.size := hg.size
  have HL := Lib.hid (lay_calls HA3.out (Nat.le_trans HBb.out (Nat.le_trans HB2.out.size hw3)) ⟨src, dst, fr⟩ HLl.out)
  have HO3 : Hid (Only (NtIn h v b) w W3) := (Only.of_below HB2.out).onto ((Only.of_below (F := NtIn h v b) (a := w2) (Below.refl _ w2).drew).trans (Only.of_grown (F := NtIn h v b) (a := w2.drew) hg (fun k e => by cases e; exact .inr (.inl rfl)))) (fun q e => .inl e)
  clear hAd hm hg b2 hbne
  unfold Dg.val at HL
  go_wp2
  go_region_law (fail)
  all_goals
    go_wp2_with fail
    refine HL.out.mono ?_
    rintro e w4 ⟨rfl, v', k1, k2, k3⟩
    have HF : Hid (SendYes w B h l v b n hs ⟨src, dst, fr⟩ (.returned (.int .i64 (layC l))) w4) := by
      have hz := HB2.out.size
      exact ⟨rfl, v', k1, HO3.out.trans k2, fun q hq => (k3 q hq).imp id (fun e => by omega)⟩
    clear k1 k2 k3 HL HO3
    go_wp2
    go_ret
    exact HF.out
end
end Go.Proofs.Ytildapcdkipakaa.L8
