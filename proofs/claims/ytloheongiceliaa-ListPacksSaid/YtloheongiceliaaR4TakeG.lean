/- Contract of the document's own Of (gemotref2), for every text. Contract of the document's own Take of rows (gemotref4): as the program's. -/
import Derived.Test.YtloheongiceliaaRef2
import Derived.Test.YtloheongiceliaaRefNum
import Derived.Test.YtloheongiceliaaRowFacts
section
namespace Go.Proofs.Ytloheongiceliaa
open Go.ChangeShapes Go.WideShapes Go.ChangeAt Go.RowKit

namespace Tm
theorem leaf_parts {t : List UInt8} (h : right t = true) (h1 : ¬ t.getD 0 0 = 107) (h2 : ¬ t.getD 0 0 = 104) (h3 : ¬ t.getD 0 0 = 112) (h4 : ¬ t.getD 0 0 = 115) (h5 : ¬ t.getD 0 0 = 120) (h6 : ¬ t.getD 0 0 = 101) : ofL t = [] := by
  have hb := bytesIn_ofL h
  unfold bytesIn at hb
  rw [if_neg h6, if_neg (by rintro (h | h | h | h | h); exact h1 h; exact h3 h; exact h2 h; exact h4 h; exact h5 h)] at hb
  by_cases hne : ofL t = []
  · exact hne
  · exfalso
    obtain ⟨x, xs, hx⟩ := List.exists_cons_of_ne_nil hne
    have hm := (ofL_ok h).2.1 x (by rw [hx]; simp)
    have hl := (right_ne_nil ((right_iff x).2 hm.1)).2
    have := congrArg List.length hb
    rw [hx, List.flatten_cons, List.length_append] at this
    simp at this
    omega
end Tm

set_option maxRecDepth 100000 in
set_option maxHeartbeats 2000000 in
theorem ROf_nil (s : ByteArray) (hs : s.size ≤ 9223372036854775807) (h1 : ¬ Tm.kindOf s.data.toList = 107) (h2 : ¬ Tm.kindOf s.data.toList = 104) (h3 : ¬ Tm.kindOf s.data.toList = 112) (h4 : ¬ Tm.kindOf s.data.toList = 115) (h5 : ¬ Tm.kindOf s.data.toList = 120) (h6 : ¬ Tm.kindOf s.data.toList = 101) (w : World) :
    Calls Try.prog 81 #[.string s] w (ROfOut w []) := by
  have HK := Lib.hid (fun W => RKind_calls s hs W)
  have g1 : (((Tm.kindOf s.data.toList).toNat : Int) == 107) = false := u8_no (n := 107) (by omega) h1
  have g2 : (((Tm.kindOf s.data.toList).toNat : Int) == 104) = false := u8_no (n := 104) (by omega) h2
  have g3 : (((Tm.kindOf s.data.toList).toNat : Int) == 112) = false := u8_no (n := 112) (by omega) h3
  have g4 : (((Tm.kindOf s.data.toList).toNat : Int) == 115) = false := u8_no (n := 115) (by omega) h4
  have g5 : (((Tm.kindOf s.data.toList).toNat : Int) == 120) = false := u8_no (n := 120) (by omega) h5
  have g6 : (((Tm.kindOf s.data.toList).toNat : Int) == 101) = false := u8_no (n := 101) (by omega) h6
  generalize Tm.kindOf s.data.toList = c at *
  clear h1 h2 h3 h4 h5 h6
  go_enter Try.func81, Try.ntmps81
  go_wp2_with fail
  refine (HK.out _).mono ?_
  rintro e' w' ⟨rfl, md, rfl⟩
  go_wp2
  go_ret
  exact ⟨_, rfl, World.ownsRow_nil _ _ _ _, below_drewN (Below.refl _ _) _⟩

theorem ROf_calls (s : ByteArray) (hs : s.size ≤ 9223372036854775807) (w : World) : Calls Try.prog 81 #[.string s] w (ROfOut w (Tm.partsOfT s.data.toList)) := by
  unfold Tm.partsOfT
  cases hr : Tm.right s.data.toList with
  | false =>
    have hk : Tm.kindOf s.data.toList = 0 := by unfold Tm.kindOf; rw [hr]; rfl
    exact ROf_nil s hs (by rw [hk]; decide) (by rw [hk]; decide) (by rw [hk]; decide) (by rw [hk]; decide) (by rw [hk]; decide) (by rw [hk]; decide) w
  | true =>
    rw [if_pos rfl]
    have hk : Tm.kindOf s.data.toList = s.data.toList.getD 0 0 := by unfold Tm.kindOf; rw [if_pos hr]
    obtain ⟨o1, o2, o3, o4, o5, o6⟩ := Tm.ofL_ok hr
    rw [len_bytes] at o6
    have hlen : (Tm.ofL s.data.toList).length ≤ 32 := by rw [o3]; exact (Tm.begin_le _).2
    have hbl : (Tm.begin_ s.data.toList).1 ≤ s.size := by have := (Tm.begin_le s.data.toList).1; rwa [len_bytes] at this
    have hgood : ∀ x ∈ Tm.ofL s.data.toList, Tm.Good 400 20000 x := fun x hx => ⟨(o2 x hx).1, Tm.depthOf_le x, by have := (o2 x hx).2.2; rw [len_bytes] at this; omega⟩
    have hb := Tm.head_of_right hr
    have hne := (Tm.right_ne_nil hr).1
    have hh := Tm.headOf_ne hne
    rw [hb.1] at o1 hbl
    have go : ∀ a, (Tm.headOf s.data.toList).1 = a → KindOfNode (Tm.kindOf s.data.toList) a → Calls Try.prog 81 #[.string s] w (ROfOut w (Tm.ofL s.data.toList)) := by
      intro a h1 h2
      exact ROf_node s o6 _ a hlen hgood (by rw [← h1]; exact o1.symm) (by rw [← h1]; exact hbl) h2 w
    rw [hk] at go
    have hnil := fun a b c d e f => ROf_nil s hs (by rw [hk]; exact a) (by rw [hk]; exact b) (by rw [hk]; exact c) (by rw [hk]; exact d) (by rw [hk]; exact e) (by rw [hk]; exact f) w
    have hlp := Tm.leaf_parts hr
    generalize s.data.toList.getD 0 0 = c at *
    by_cases c1 : c = 107
    · subst c1; exact go 1 (by rw [hh]; rfl) (.inl ⟨rfl, rfl⟩)
    by_cases c2 : c = 104
    · subst c2; exact go 1 (by rw [hh]; rfl) (.inr (.inl ⟨rfl, rfl, rfl⟩))
    by_cases c3 : c = 112
    · subst c3; exact go 1 (by rw [hh]; rfl) (.inr (.inr (.inl ⟨rfl, rfl, rfl, rfl⟩)))
    by_cases c4 : c = 115
    · subst c4; exact go 1 (by rw [hh]; rfl) (.inr (.inr (.inr (.inl ⟨rfl, rfl, rfl, rfl, rfl⟩))))
    by_cases c5 : c = 120
    · subst c5; exact go 1 (by rw [hh]; rfl) (.inr (.inr (.inr (.inr (.inl ⟨rfl, rfl, rfl, rfl, rfl, rfl⟩)))))
    by_cases c6 : c = 101
    · subst c6
      refine go 2 ?_ (.inr (.inr (.inr (.inr (.inr ⟨rfl, rfl, rfl, rfl, rfl, rfl, rfl⟩)))))
      have h0 := hb.2
      rw [hh] at h0 ⊢
      simp only [show ¬ ((101 : UInt8) = 103) from by decide, show ¬ ((101 : UInt8) = 110 ∨ (101 : UInt8) = 117) from by decide, show ¬ ((101 : UInt8) = 116) from by decide, show ¬ ((101 : UInt8) = 105) from by decide, if_false, if_true] at h0 ⊢
      split at h0
      · rename_i h; rw [if_pos h]
      · exact absurd rfl h0
    · rw [hlp c1 c2 c3 c4 c5 c6]
      exact hnil c1 c2 c3 c4 c5 c6

/-- A row of texts that is not empty, as a slice with its texts. -/
theorem text_slice {w : World} {B : Nat} {v : Value} {ps : List (List UInt8)} (h : w.ownsRow B 9 1 v ps.length (strs ps)) (hne : ps ≠ []) :
    ∃ g cap, v = .slice (some ⟨g, 0, none⟩) ps.length cap ∧ Texts w g ps ∧ g < w.heap.size := by
  rcases h.2 with ⟨_, h0⟩ | ⟨g, cap, cur, rfl, _⟩
  · exact absurd (List.length_eq_zero_iff.1 h0) hne
  · exact ⟨g, cap, rfl, texts_of_row h, lt_of_row h⟩

end Go.Proofs.Ytloheongiceliaa
end

section
namespace Go.Proofs.Ytloheongiceliaa
open Go.ChangeShapes Go.WideShapes Go.ChangeAt Go.RowKit

def RTakeOut (w : World) (r : List (List UInt8) × Nat) (e : Ending) (w' : World) : Prop :=
  ∃ v, e = .returned (.tuple #[v, .int .i64 (r.2 : Nat)]) ∧ w'.ownsRow w.heap.size 9 1 v r.1.length (strs r.1) ∧ Below w.heap.size w w'
def unrowR (k : Nat) (t : List UInt8) : Option (List (List UInt8)) := if Tm.right t = true then Tm.unrow k t else none
theorem takeRow_R (t : List UInt8) : Tm.takeRow t = match unrowR 151 t with | some zs => (zs, 0) | none => ([], 2) := by
  unfold Tm.takeRow unrowR
  split <;> rfl
def RTaking (w : World) (t0 : List UInt8) (k : Nat) (v4 v5 : Value) (wr : World) : Prop :=
  ∃ t acc, k + acc.length = 151 ∧ acc.length ≤ 150 ∧ v5 = .string ⟨t.toArray⟩ ∧ t.length ≤ maxLen ∧ unrowR 151 t0 = (unrowR k t).map (acc ++ ·) ∧ wr.ownsRow w.heap.size 9 1 v4 acc.length (strs acc) ∧ Below w.heap.size w wr

set_option maxRecDepth 100000 in
set_option maxHeartbeats 8000000 in
theorem RTake4_calls (t : List UInt8) (hs : t.length ≤ maxLen) (w : World) : Calls Try.prog 54 #[.string ⟨t.toArray⟩] w (RTakeOut w (Tm.takeRow t)) := by
  obtain ⟨i0, hi, hz0, hz1, hz2⟩ := info_parts info_text
  have HNum : Hid (∀ V : World, Calls Try.prog 14 #[.int .u64 0] V (One V (.string ⟨Tm.num0.toArray⟩))) := fun V => refNumber_calls 0 (by decide) V
  obtain ⟨r, hrr⟩ : ∃ r, Tm.takeRow t = r := ⟨_, rfl⟩
  rw [hrr]
  rw [takeRow_R] at hrr
  have HRr := Lib.hid hrr
  have HS := Lib.hid hs
  clear hrr hs
  go_enter Try.func54, Try.ntmps54
  go_wp2
  go_loopg [4, 5] 151 (fun k v4 v5 wr => RTaking w t k v4 v5 wr)
  case atStart => exact ⟨t, [], rfl, by simp, rfl, HS.out, by simp, World.ownsRow_nil _ _ _ _, Below.refl _ _⟩
  case round =>
    obtain ⟨t1, acc, hk, hal, rfl, hl1, hun, hrow, hB⟩ := hrel
    obtain ⟨k, rfl⟩ : ∃ k, gk = k + 1 := ⟨gk - 1, by omega⟩
    have HRow := Lib.hid hrow
    have HB := Lib.hid hB
    have hszB := hB.size
    obtain ⟨A, c, rfl⟩ := own_slice hrow
    by_cases hz : t1 = Tm.num0
    · have hfin : Hid (∀ w3, Below wr.heap.size wr w3 → RTakeOut w r (.returned (.tuple #[.slice A acc.length c, .int .i64 0])) w3) := fun w3 b3 => by
        have hu : unrowR (k + 1) t1 = some [] := by
          unfold unrowR
          rw [hz, if_pos Tm.num0_right]
          show (if _ then _ else _) = _
          rw [if_neg (by rw [Tm.num0_kind]; decide), if_pos rfl]
        rw [hu] at hun
        have := HRr.out
        rw [hun] at this
        simp at this
        rw [← this]
        exact ⟨_, rfl, own_below HRow.out b3, HB.out.trans (b3.mono hszB)⟩
      have hbq : (t1 == Tm.num0) = true := by rw [hz]; exact beq_self_eq_true _
      clear hrow hB hun hl1 HRow hk hal hz
      go_wp2_with fail
      refine (HNum.out _).mono ?_
      rintro e w3 ⟨rfl, b3⟩
      have HF := Lib.hid (hfin.out w3 b3)
      clear b3
      go_wp2
      go_ret2
      exact HF.out
    · have hbq : (t1 == Tm.num0) = false := beq_eq_false_iff_ne.2 hz
      have HOf : Hid (∀ V : World, Calls Try.prog 81 #[.string ⟨t1.toArray⟩] V (ROfOut V (Tm.partsOfT t1))) := fun V => ROf_calls ⟨t1.toArray⟩ (by rw [size_list]; exact hl1) V
      have cK : ∀ V : World, Calls Try.prog 82 #[.string ⟨t1.toArray⟩] V (Drew V (.int .u8 (Tm.kindOf t1).toNat)) := fun V => RKind_calls ⟨t1.toArray⟩ (by rw [size_list]; exact hl1) V
      by_cases hp : Tm.kindOf t1 = 112
      · obtain ⟨hr1, hk1⟩ := Tm.kind_right hp (by decide)
        obtain ⟨x, y, hof, he, hgx, hry, hyl, hy2⟩ := Tm.pair_two hr1 hk1
        have hu : unrowR (k + 1) t1 = (unrowR k y).map (x :: ·) := by
          unfold unrowR
          rw [if_pos hr1, if_pos hry]
          show (if _ then _ else _) = _
          rw [if_pos hk1, hof]
        rw [hu] at hun
        have hpt : Tm.partsOfT t1 = [x, y] := by unfold Tm.partsOfT; rw [if_pos hr1, hof]
        rw [hpt] at HOf
        rw [hp] at cK
        have HK := Lib.hid cK
        have hxl : x.length ≤ 20000 := hgx.2.2
        by_cases hfull : acc.length = 150
        · obtain rfl : k = 0 := by omega
          have hfin : Hid (∀ w3, Below wr.heap.size wr w3 → RTakeOut w r (.returned (.tuple #[.slice none 0 0, .int .i64 2])) w3) := fun w3 b3 => by
            have h1 : unrowR 151 t = none := by
              rw [hun]
              unfold unrowR
              rw [if_pos hry]
              rfl
            have := HRr.out
            rw [h1] at this
            rw [← this]
            exact ⟨_, rfl, World.ownsRow_nil _ _ _ _, HB.out.trans (b3.mono hszB)⟩
          rw [hfull]
          clear hrow hB hun hl1 HRow hk hal hz hp hr1 hk1 hof he hgx hry hyl hy2 hu hpt cK hfull
          go_wp2_with fail
          refine (HNum.out _).mono ?_
          rintro e w3 ⟨rfl, b3⟩
          go_wp2_with fail
          refine (HOf.out _).mono ?_
          rintro e w4 ⟨v4, rfl, hrow4, b4⟩
          obtain ⟨A4, c4, rfl⟩ := own_slice hrow4
          have b34 := b3.trans (b4.mono b3.size)
          have HB34 := Lib.hid b34
          clear hrow4 b3 b4 b34
          go_wp2_with fail
          refine (HK.out _).mono ?_
          rintro e w5 ⟨rfl, md, rfl⟩
          have HF := Lib.hid (hfin.out _ (below_drewN HB34.out md))
          go_wp2
          go_ret2
          exact HF.out
        · have hneq : ((acc.length : Int) == 150) = false := by rw [beq_eq_false_iff_ne]; omega
          have hRel : Hid (∀ (w3 : World) (v2 : Value) (w4 : World), Below wr.heap.size wr w3 → w4.ownsRow w.heap.size 9 1 v2 (acc.length + 1) (strs acc ++ [.string ⟨x.toArray⟩]) → (w3.alloc (.cells #[.string ⟨x.toArray⟩] 9)).grownBy w4 (Value.slice A acc.length c).ownBlock → RTaking w t k v2 (.string ⟨y.toArray⟩) w4) := by
            intro w3 v2 w4 b3 k1 k2
            refine ⟨y, acc ++ [x], by simp; omega, by simp; omega, rfl, by unfold maxLen; omega, ?_, by simpa [strs] using k1, ?_⟩
            · rw [hun, Option.map_map]
              congr 1
              funext l
              simp
            · have b4 := HB.out.trans (b3.mono hszB)
              have hg2 := grow_trans (World.grownBy_alloc w3 (.cells #[.string ⟨x.toArray⟩] 9) _) k2
              exact b4.grown hg2 b4.size (fun q e => (HRow.out.lt q e).1)
          have hal2 : acc.length < 150 := by omega
          clear hrow hB hun hl1 hk hal hz hp hr1 hk1 hof he hgx hry hyl hy2 hu hpt cK hfull
          go_wp2_with fail
          refine (HNum.out _).mono ?_
          rintro e w3 ⟨rfl, b3⟩
          go_wp2_with fail
          refine (HOf.out _).mono ?_
          rintro e w4 ⟨v4, rfl, hrow4, b4⟩
          obtain ⟨g4, c4, ev4⟩ : ∃ g4 c4, v4 = .slice (some ⟨g4, 0, none⟩) 2 c4 := by
            rcases hrow4.2 with ⟨_, h0⟩ | ⟨g, cap, cur, rfl, _⟩
            · cases h0
            · exact ⟨g, cap, rfl⟩
          subst ev4
          have hT4 := texts_of_row hrow4
          have hg4 := lt_of_row hrow4
          have hg4lo : wr.heap.size ≤ g4 := Nat.le_trans b3.size (hrow4.lt g4 rfl).1
          have c0 := hT4 0 x rfl
          have c1 := hT4 1 y rfl
          have b34 := b3.trans (b4.mono b3.size)
          have HB34 := Lib.hid b34
          have hrow5 : Hid (∀ n, (w4.drewN n).ownsRow w.heap.size 9 1 (.slice A acc.length c) acc.length (strs acc)) := fun n => own_below HRow.out (below_drewN b34 n)
          have hsz4 := b34.size
          clear hrow4 b3 b4 b34 hT4
          go_wp2_with fail
          refine (HK.out _).mono ?_
          rintro e w5 ⟨rfl, md, rfl⟩
          have hr5 := hrow5.out md
          have d0 : (w4.drewN md).cell? ⟨g4, 0, none⟩ = some (.string ⟨x.toArray⟩) := c0
          have hzz : (w4.drewN md).heap.size = w4.heap.size := rfl
          have HB5 := Lib.hid (below_drewN HB34.out md)
          have HC1 : Hid (∀ w6 : World, ((w4.drewN md).alloc (.cells #[.string ⟨x.toArray⟩] 9)).grownBy w6 (Value.slice A acc.length c).ownBlock → w6.cell? ⟨g4, 1, none⟩ = some (.string ⟨y.toArray⟩)) := fun w6 hg => by
            have hb : w6.heap[g4]? = w4.heap[g4]? := by
              refine (hg.block g4 (by simp; omega) (fun e => ?_)).trans ((World.grownBy_alloc (w4.drewN md) (.cells #[.string ⟨x.toArray⟩] 9) none).block g4 (by omega) (by simp))
              have := (HRow.out.lt g4 e.symm).2
              omega
            exact (World.cell?_of_block (a := ⟨g4, 1, none⟩) hb).trans c1
          have hg4' : g4 < (w4.drewN md).heap.size := hg4
          have hsz5 : wr.heap.size ≤ (w4.drewN md).heap.size := hsz4
          clear c0 c1 hzz hrow5 HB34 hg4 hsz4
          generalize w4.drewN md = w5 at *
          go_wp2_with (at_builtin; refine wpList_append_own_at _ rfl _ _ 53 rfl w.heap.size 9 i0 _ 1 16 Try.underlying53 hi hz0 hz1 hz2 rfl (by decide) _ _ _ rfl (hr5.alloc _) ⟨w5.heap.size, 0, none⟩ 1 1 [.string ⟨x.toArray⟩] rfl rfl (cell_one_new _ _ _) (by simp [Value.oneCell']) (by unfold maxLen; omega) (by omega) (by simp; omega) ?_; intro v2 w6 hown' hgrow hnil hat; have hc1 := HC1.out w6 hgrow)
          have hRl := Lib.hid (hRel.out w5 v2 w6 HB5.out hown' hgrow)
          clear hown' hgrow hnil hat
          go_roundg k
          case measure => omega
          case rel => exact hRl.out
      · have hfin : Hid (∀ w3, Below wr.heap.size wr w3 → RTakeOut w r (.returned (.tuple #[.slice none 0 0, .int .i64 2])) w3) := fun w3 b3 => by
          have h1 : unrowR (k + 1) t1 = none := by
            unfold unrowR
            by_cases hr1 : Tm.right t1 = true
            · rw [if_pos hr1]
              show (if _ then _ else _) = _
              unfold Tm.kindOf at hp
              rw [if_pos hr1] at hp
              rw [if_neg hp, if_neg hz]
            · rw [if_neg hr1]
          rw [h1] at hun
          have := HRr.out
          rw [hun] at this
          simp at this
          rw [← this]
          exact ⟨_, rfl, World.ownsRow_nil _ _ _ _, HB.out.trans (b3.mono hszB)⟩
        have g1 : (((Tm.kindOf t1).toNat : Int) != 112) = true := kind_no (n := 112) (by omega) hp
        have HK := Lib.hid cK
        generalize Tm.kindOf t1 = kd at *
        clear hrow hB hun hl1 HRow hk hal hz hp cK
        go_wp2_with fail
        refine (HNum.out _).mono ?_
        rintro e w3 ⟨rfl, b3⟩
        go_wp2_with fail
        refine (HOf.out _).mono ?_
        rintro e w4 ⟨v4, rfl, hrow4, b4⟩
        obtain ⟨A4, c4, rfl⟩ := own_slice hrow4
        have b34 := b3.trans (b4.mono b3.size)
        have HB34 := Lib.hid b34
        clear hrow4 b3 b4 b34
        go_wp2_with fail
        refine (HK.out _).mono ?_
        rintro e w5 ⟨rfl, md, rfl⟩
        have HF := Lib.hid (hfin.out _ (below_drewN HB34.out md))
        go_wp2
        go_ret2
        exact HF.out

end Go.Proofs.Ytloheongiceliaa
end
