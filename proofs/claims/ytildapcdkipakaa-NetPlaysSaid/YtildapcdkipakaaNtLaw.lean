/- What layer 8's statements share: pick, shown. -/
import Derived.Test.YtildapcdkipakaaNtHear
import Derived.Test.YtildapcdkipakaaWord
import Derived.Test.YtildapcdkipakaaNm
namespace Go.Proofs.Ytildapcdkipakaa.L8
open Go.ChangeShapes Go.WideShapes Go.ChangeAt Go.RowKit Go.Deep

def pickN (c : Int) (n : Nat) : Nat := (if c < 0 then -(c + 1) else c).toNat % n
theorem pickN_lt (c : Int) {n : Nat} (hn : 0 < n) : pickN c n < n := Nat.mod_lt _ hn
set_option maxHeartbeats 400000 in
theorem pick_calls (c : Int) (n : Nat) (h1 : -9223372036854775808 ≤ c) (h2 : c ≤ 9223372036854775807) (hn : 0 < n) (hn2 : n ≤ 1000) (w : World) :
    Calls Try.prog 9 #[.int .i64 c, .int .i64 n] w fun e w' => ∃ m : Nat, m < n ∧ m = (if c < 0 then -(c + 1) else c).toNat % n ∧ e = .returned (.int .i64 m) ∧ w = w' := by
  have hz : ((n : Int) == 0) = false := by simp; omega
  have hz2 : ¬ (n : Int) = 0 := by omega
  by_cases hc : c < 0
  · obtain ⟨m, hm⟩ : ∃ m : Nat, -(c + 1) = m := ⟨(-(c + 1)).toNat, by omega⟩
    rw [if_pos hc, hm]
    have k1 : (0 : Int) ≤ (m : Int) := by omega
    have k2 : (m : Int) ≤ 9223372036854775807 := by omega
    have hcc : c = -(m : Int) - 1 := by omega
    have HN := Lib.hid (Nat.mod_lt m hn)
    clear hm
    subst hcc
    go_enter Try.func9, Try.ntmps9
    go_wp2
    all_goals first | omega | (go_ret; exact ⟨m % n, HN.out, rfl, by simp, rfl⟩)
  · obtain ⟨m, rfl⟩ : ∃ m : Nat, c = m := ⟨c.toNat, by omega⟩
    rw [if_neg hc]
    have HN := Lib.hid (Nat.mod_lt m hn)
    go_enter Try.func9, Try.ntmps9
    go_wp2
    all_goals first | omega | (go_ret; exact ⟨m % n, HN.out, rfl, by simp, rfl⟩)
theorem pick_is {c : Int} {n : Nat} (hc : isInt c) (hn : 0 < n) (hn2 : n ≤ 1000) (w : World) : Calls Try.prog 9 #[.int .i64 c, .int .i64 n] w fun e w' => e = .returned (.int .i64 (pickN c n)) ∧ w = w' := by
  refine (pick_calls c n hc.1 hc.2 hn hn2 w).mono ?_
  rintro e w' ⟨m, _, hm, he, hw⟩
  exact ⟨by rw [he, hm]; rfl, hw⟩
theorem right_g : Tm.right [103] = true := Tm.gen_right
def dgG : Dg := ⟨1, 2, [103]⟩
theorem dgG_ok : dgG.ok := ⟨⟨by decide, by decide⟩, ⟨by decide, by decide⟩, right_g⟩
/-- A net's changes, one behind the other, above a base. -/
theorem Ntd.below {w w' : World} {B h : Nat} {l : List Dg} {v : Value} {b n : Nat} {hs : List Bytes} (a : NtAt w B h l v b n hs) {W0 : World} (hb : Below B W0 w) (hB : B ≤ w.heap.size) {l' : List Dg} {n' : Nat} {hs' : List Bytes} (k : Ntd w B h v b l' n' hs' w') : ∃ v', NtAt w' B h l' v' b n' hs' ∧ Below B W0 w' := by
  obtain ⟨v', k1, k2, _⟩ := k
  exact ⟨v', k1, Only.below hb k2 hB (fun q hq => (a.inlt hq).1)⟩
set_option maxRecDepth 100000 in
set_option maxHeartbeats 4000000 in
theorem shown_calls (w : World) : Calls Try.prog 7 #[] w (L5.One w (.bool true)) := by
  have HN := Lib.hid (New_calls w)
  have HS : Hid (∀ V, NtAt V w.heap.size (w.heap.size + 1) [] (.slice none 0 0) w.heap.size 0 [] → Below w.heap.size w V → Calls Try.prog 14 #[.pointer (some ⟨w.heap.size + 1, 0, none⟩), .agg #[.int .i64 1, .int .i64 2, .string ⟨#[103]⟩]] V fun e w' => e = .returned (.int .i64 0) ∧ ∃ v', NtAt w' w.heap.size (w.heap.size + 1) [dgG] v' w.heap.size 1 [[103]] ∧ Below w.heap.size w w') := fun V a hb => by
    refine (send_yes a hb.size (d := dgG) dgG_ok (by simp [dgG, maxLen]) (by simp [maxLen]) (by simp)).mono ?_
    rintro e w' ⟨rfl, k⟩
    exact ⟨rfl, Ntd.below a hb hb.size k⟩
  have HD : Hid (∀ V v, NtAt V w.heap.size (w.heap.size + 1) [dgG] v w.heap.size 1 [[103]] → Below w.heap.size w V → Calls Try.prog 12 #[.pointer (some ⟨w.heap.size + 1, 0, none⟩), .int .i64 0] V fun e w' => e = .returned (.int .i64 0) ∧ ∃ v', NtAt w' w.heap.size (w.heap.size + 1) [dgG, dgG] v' w.heap.size 1 [[103]] ∧ Below w.heap.size w w') := fun V v a hb => by
    refine (double_yes a hb.size (i := 0) (d := dgG) rfl (by simp)).mono ?_
    rintro e w' ⟨rfl, k⟩
    exact ⟨rfl, Ntd.below a hb hb.size k⟩
  have HT : Hid (∀ V v, NtAt V w.heap.size (w.heap.size + 1) [dgG, dgG] v w.heap.size 1 [[103]] → Below w.heap.size w V → Calls Try.prog 10 #[.pointer (some ⟨w.heap.size + 1, 0, none⟩), .int .i64 0] V fun e w' => e = .returned (.tuple #[.agg #[.int .i64 1, .int .i64 2, .string ⟨#[103]⟩], .int .i64 0]) ∧ ∃ v', NtAt w' w.heap.size (w.heap.size + 1) [dgG] v' w.heap.size 1 [[103]] ∧ Below w.heap.size w w') := fun V v a hb => by
    refine (take_yes a (i := 0) (d := dgG) rfl (by simp)).mono ?_
    rintro e w' ⟨rfl, k⟩
    exact ⟨rfl, Ntd.below a hb hb.size k⟩
  go_enter Try.func7, Try.ntmps7
  go_wp2_with fail
  refine HN.out.mono ?_
  rintro e w1 ⟨rfl, a1, b1⟩
  have HS := Lib.hid (HS.out w1 a1 b1)
  clear a1 b1 HN
  go_wp2_with fail
  refine HS.out.mono ?_
  rintro e w2 ⟨rfl, v2, a2, b2⟩
  have HD := Lib.hid (HD.out w2 v2 a2 b2)
  clear a2 b2 HS
  go_wp2_with fail
  refine HD.out.mono ?_
  rintro e w3 ⟨rfl, v3, a3, b3⟩
  have HT := Lib.hid (HT.out w3 v3 a3 b3)
  clear a3 b3 HD
  go_wp2_with fail
  refine HT.out.mono ?_
  rintro e w4 ⟨rfl, v4, a4, b4⟩
  have bA : Below w4.heap.size w4 (w4.alloc (.cells #[.int .i64 1, .int .i64 2, .string ⟨#[103]⟩] 36)) := (Below.refl _ w4).alloc (Nat.le_refl _) _
  have HM := Lib.hid (Many_calls (a4.below bA))
  have HB : Hid (Below w.heap.size w (w4.alloc (.cells #[.int .i64 1, .int .i64 2, .string ⟨#[103]⟩] 36))) := b4.trans (bA.mono b4.size)
  clear a4 b4 bA HT
  go_wp2_with fail
  refine HM.out.mono ?_
  rintro e w5 ⟨rfl, rfl⟩
  go_wp2
  go_ret
  exact ⟨rfl, HB.out⟩
end Go.Proofs.Ytildapcdkipakaa.L8
