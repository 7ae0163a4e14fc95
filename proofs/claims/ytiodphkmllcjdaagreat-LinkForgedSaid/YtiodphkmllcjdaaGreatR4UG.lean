/- Contract of the document's own Of (gemotref2), for every text. Contracts of the document's own Open and Check (gemotref2), for every text. Contract of the document's own Take of rows (gemotref4): as the program's. Contract of the document's own Unpack of messages (gemotref4). -/
import Derived.Test.YtiodphkmllcjdaaGreatRefG
import Derived.Test.YtiodphkmllcjdaaGreatRowFacts
import Derived.Test.YtiodphkmllcjdaaGreatR4G
import Derived.Test.YtiodphkmllcjdaaGreatRVal
import Derived.Test.YtiodphkmllcjdaaGreatAsMsg
section
namespace Go.Proofs.YtiodphkmllcjdaaGreat
open Go.ChangeShapes Go.WideShapes Go.ChangeAt Go.RowKit

namespace Tm
theorem leaf_parts {t : List UInt8} (h : right t = true) (h1 : ¬ t.getD 0 0 = 107) (h2 : ¬ t.getD 0 0 = 104) (h3 : ¬ t.getD 0 0 = 112) (h4 : ¬ t.getD 0 0 = 115) (h5 : ¬ t.getD 0 0 = 120) (h6 : ¬ t.getD 0 0 = 101) : ofL t = [] := by
  have hb := bytesIn_ofL h
  unfold bytesIn at hb
  rw [if_neg h6, if_neg (by rintro (h | h | h | h | h); exact h1 h; exact h3 h; exact h2 h; exact h4 h; exact h5 h)] at hb
  by_cases hne : ofL t = []
  · exact hne
  · exfalso
    obtain ⟨x, xs, hx⟩ := List.exists_cons_of_ne_nil hne
    have hm := (ofL_ok h).2.1 x (by rw [hx]; simp)
    have hl := (right_ne_nil ((right_iff x).2 hm.1)).2
    have := congrArg List.length hb
    rw [hx, List.flatten_cons, List.length_append] at this
    simp at this
    omega
end Tm

set_option maxRecDepth 100000 in
set_option maxHeartbeats 2000000 in
theorem ROf_nil (s : ByteArray) (hs : s.size ≤ 9223372036854775807) (h1 : ¬ Tm.kindOf s.data.toList = 107) (h2 : ¬ Tm.kindOf s.data.toList = 104) (h3 : ¬ Tm.kindOf s.data.toList = 112) (h4 : ¬ Tm.kindOf s.data.toList = 115) (h5 : ¬ Tm.kindOf s.data.toList = 120) (h6 : ¬ Tm.kindOf s.data.toList = 101) (w : World) :
    Calls Tryz.prog 87 #[.string s] w (ROfOut w []) := by
  have HK := Lib.hid (fun W => RKind_calls s hs W)
  have g1 : (((Tm.kindOf s.data.toList).toNat : Int) == 107) = false := u8_no (n := 107) (by omega) h1
  have g2 : (((Tm.kindOf s.data.toList).toNat : Int) == 104) = false := u8_no (n := 104) (by omega) h2
  have g3 : (((Tm.kindOf s.data.toList).toNat : Int) == 112) = false := u8_no (n := 112) (by omega) h3
  have g4 : (((Tm.kindOf s.data.toList).toNat : Int) == 115) = false := u8_no (n := 115) (by omega) h4
  have g5 : (((Tm.kindOf s.data.toList).toNat : Int) == 120) = false := u8_no (n := 120) (by omega) h5
  have g6 : (((Tm.kindOf s.data.toList).toNat : Int) == 101) = false := u8_no (n := 101) (by omega) h6
  generalize Tm.kindOf s.data.toList = c at *
  clear h1 h2 h3 h4 h5 h6
  go_enter Tryz.func87, Tryz.ntmps87
  go_wp2_with fail
  refine (HK.out _).mono ?_
  rintro e' w' ⟨rfl, md, rfl⟩
  go_wp2
  go_ret
  exact ⟨_, rfl, World.ownsRow_nil _ _ _ _, below_drewN (Below.refl _ _) _⟩

theorem ROf_calls (s : ByteArray) (hs : s.size ≤ 9223372036854775807) (w : World) : Calls Tryz.prog 87 #[.string s] w (ROfOut w (Tm.partsOfT s.data.toList)) := by
  unfold Tm.partsOfT
  cases hr : Tm.right s.data.toList with
  | false =>
    have hk : Tm.kindOf s.data.toList = 0 := by unfold Tm.kindOf; rw [hr]; rfl
    exact ROf_nil s hs (by rw [hk]; decide) (by rw [hk]; decide) (by rw [hk]; decide) (by rw [hk]; decide) (by rw [hk]; decide) (by rw [hk]; decide) w
  | true =>
    rw [if_pos rfl]
    have hk : Tm.kindOf s.data.toList = s.data.toList.getD 0 0 := by unfold Tm.kindOf; rw [if_pos hr]
    obtain ⟨o1, o2, o3, o4, o5, o6⟩ := Tm.ofL_ok hr
    rw [len_bytes] at o6
    have hlen : (Tm.ofL s.data.toList).length ≤ 32 := by rw [o3]; exact (Tm.begin_le _).2
    have hbl : (Tm.begin_ s.data.toList).1 ≤ s.size := by have := (Tm.begin_le s.data.toList).1; rwa [len_bytes] at this
    have hgood : ∀ x ∈ Tm.ofL s.data.toList, Tm.Good 400 20000 x := fun x hx => ⟨(o2 x hx).1, Tm.depthOf_le x, by have := (o2 x hx).2.2; rw [len_bytes] at this; omega⟩
    have hb := Tm.head_of_right hr
    have hne := (Tm.right_ne_nil hr).1
    have hh := Tm.headOf_ne hne
    rw [hb.1] at o1 hbl
    have go : ∀ a, (Tm.headOf s.data.toList).1 = a → KindOfNode (Tm.kindOf s.data.toList) a → Calls Tryz.prog 87 #[.string s] w (ROfOut w (Tm.ofL s.data.toList)) := by
      intro a h1 h2
      exact ROf_node s o6 _ a hlen hgood (by rw [← h1]; exact o1.symm) (by rw [← h1]; exact hbl) h2 w
    rw [hk] at go
    have hnil := fun a b c d e f => ROf_nil s hs (by rw [hk]; exact a) (by rw [hk]; exact b) (by rw [hk]; exact c) (by rw [hk]; exact d) (by rw [hk]; exact e) (by rw [hk]; exact f) w
    have hlp := Tm.leaf_parts hr
    generalize s.data.toList.getD 0 0 = c at *
    by_cases c1 : c = 107
    · subst c1; exact go 1 (by rw [hh]; rfl) (.inl ⟨rfl, rfl⟩)
    by_cases c2 : c = 104
    · subst c2; exact go 1 (by rw [hh]; rfl) (.inr (.inl ⟨rfl, rfl, rfl⟩))
    by_cases c3 : c = 112
    · subst c3; exact go 1 (by rw [hh]; rfl) (.inr (.inr (.inl ⟨rfl, rfl, rfl, rfl⟩)))
    by_cases c4 : c = 115
    · subst c4; exact go 1 (by rw [hh]; rfl) (.inr (.inr (.inr (.inl ⟨rfl, rfl, rfl, rfl, rfl⟩))))
    by_cases c5 : c = 120
    · subst c5; exact go 1 (by rw [hh]; rfl) (.inr (.inr (.inr (.inr (.inl ⟨rfl, rfl, rfl, rfl, rfl, rfl⟩)))))
    by_cases c6 : c = 101
    · subst c6
      refine go 2 ?_ (.inr (.inr (.inr (.inr (.inr ⟨rfl, rfl, rfl, rfl, rfl, rfl, rfl⟩)))))
      have h0 := hb.2
      rw [hh] at h0 ⊢
      simp only [show ¬ ((101 : UInt8) = 103) from by decide, show ¬ ((101 : UInt8) = 110 ∨ (101 : UInt8) = 117) from by decide, show ¬ ((101 : UInt8) = 116) from by decide, show ¬ ((101 : UInt8) = 105) from by decide, if_false, if_true] at h0 ⊢
      split at h0
      · rename_i h; rw [if_pos h]
      · exact absurd rfl h0
    · rw [hlp c1 c2 c3 c4 c5 c6]
      exact hnil c1 c2 c3 c4 c5 c6

/-- A row of texts that is not empty, as a slice with its texts. -/
theorem text_slice {w : World} {B : Nat} {v : Value} {ps : List (List UInt8)} (h : w.ownsRow B 9 1 v ps.length (strs ps)) (hne : ps ≠ []) :
    ∃ g cap, v = .slice (some ⟨g, 0, none⟩) ps.length cap ∧ Texts w g ps ∧ g < w.heap.size := by
  rcases h.2 with ⟨_, h0⟩ | ⟨g, cap, cur, rfl, _⟩
  · exact absurd (List.length_eq_zero_iff.1 h0) hne
  · exact ⟨g, cap, rfl, texts_of_row h, lt_of_row h⟩

end Go.Proofs.YtiodphkmllcjdaaGreat
end

section
namespace Go.Proofs.YtiodphkmllcjdaaGreat
open Go.ChangeShapes Go.WideShapes Go.ChangeAt Go.RowKit

set_option maxRecDepth 100000 in
set_option maxHeartbeats 1000000 in
theorem RCheck_calls (s : ByteArray) (p : Int) (hs : s.size ≤ 9223372036854775807) (w : World) :
    Calls Tryz.prog 67 #[.string s, .int .i64 p] w (One w (.tuple #[.string ⟨(Tm.checkT s.data.toList p).1.toArray⟩, .int .i64 (Tm.checkT s.data.toList p).2])) := by
  have HK := Lib.hid (fun W => RKind_calls s hs W)
  have cO := fun W => ROf_calls s hs W
  obtain ⟨r, hr⟩ : ∃ r, Tm.checkT s.data.toList p = r := ⟨_, rfl⟩
  rw [hr]
  unfold Tm.checkT at hr
  by_cases hk : Tm.kindOf s.data.toList = 120
  · rw [if_neg (by simp [hk])] at hr
    obtain ⟨k1, k2⟩ := Tm.kind_right hk (by decide)
    obtain ⟨x, y, hxy⟩ := Tm.sign_parts k1 k2
    unfold Tm.partsOfT at cO
    rw [if_pos k1, hxy] at cO
    rw [hxy] at hr
    have HO := Lib.hid cO
    have g1 : (((Tm.kindOf s.data.toList).toNat : Int) != 120) = false := kind_yes (n := 120) (by omega) hk
    generalize Tm.kindOf s.data.toList = c at *
    clear hk k1 k2 cO hxy
    simp only [List.getD_cons_zero, List.getD_cons_succ] at hr
    by_cases hp : p < 1 ∨ 8 < p
    · rw [if_pos hp] at hr
      subst hr
      have HP := Lib.hid (fun W => refPrivate_no_calls p hp W)
      clear hp
      go_enter Tryz.func67, Tryz.ntmps67
      go_wp2_with fail
      refine (HK.out _).mono ?_
      rintro e' w' ⟨rfl, md, rfl⟩
      go_wp2_with fail
      refine (HO.out _).mono ?_
      rintro e' w2 ⟨v, rfl, hrow, b2⟩
      obtain ⟨g, cap, rfl, hT, _⟩ := text_slice hrow (by simp)
      have B := (below_drewN (Below.refl w.heap.size w) md).trans b2
      clear hrow hT b2
      go_wp2_with fail
      refine (HP.out _).mono ?_
      rintro e' w3 ⟨rfl, b3⟩
      replace B := B.trans (b3.mono B.size)
      go_wp2
      go_ret2
      exact ⟨rfl, B⟩
    · rw [if_neg hp] at hr
      have cP := fun W => refPrivate_calls p (by omega) (by omega) W
      have eP : (#[105, UInt8.ofNat p.toNat] : Array UInt8) = [105, UInt8.ofNat p.toNat].toArray := rfl
      rw [eP] at cP
      obtain ⟨q, hq⟩ : ∃ q, [105, UInt8.ofNat p.toNat] = q := ⟨_, rfl⟩
      rw [hq] at cP hr
      have HP := Lib.hid cP
      clear cP eP hq hp
      by_cases hx : x = q
      · subst hx
        rw [if_neg (by simp)] at hr
        subst hr
        have q1 : (x == x) = true := by simp
        go_enter Tryz.func67, Tryz.ntmps67
        go_wp2_with fail
        refine (HK.out _).mono ?_
        rintro e' w' ⟨rfl, md, rfl⟩
        go_wp2_with fail
        refine (HO.out _).mono ?_
        rintro e' w2 ⟨v, rfl, hrow, b2⟩
        obtain ⟨g, cap, rfl, hT, hg⟩ := text_slice hrow (by simp)
        have B := (below_drewN (Below.refl w.heap.size w) md).trans b2
        have HT := Lib.hid hT
        clear hrow hT b2
        go_wp2_with fail
        refine (HP.out _).mono ?_
        rintro e' w3 ⟨rfl, b3⟩
        have t0 := (HT.out.below b3 hg) 0 x rfl
        have t1 := (HT.out.below b3 hg) 1 y rfl
        replace B := B.trans (b3.mono B.size)
        clear b3
        go_wp2
        go_ret2
        exact ⟨rfl, B⟩
      · rw [if_pos hx] at hr
        subst hr
        have q1 : (x == q) = false := by simpa using hx
        clear hx
        go_enter Tryz.func67, Tryz.ntmps67
        go_wp2_with fail
        refine (HK.out _).mono ?_
        rintro e' w' ⟨rfl, md, rfl⟩
        go_wp2_with fail
        refine (HO.out _).mono ?_
        rintro e' w2 ⟨v, rfl, hrow, b2⟩
        obtain ⟨g, cap, rfl, hT, hg⟩ := text_slice hrow (by simp)
        have B := (below_drewN (Below.refl w.heap.size w) md).trans b2
        have HT := Lib.hid hT
        clear hrow hT b2
        go_wp2_with fail
        refine (HP.out _).mono ?_
        rintro e' w3 ⟨rfl, b3⟩
        have t0 := (HT.out.below b3 hg) 0 x rfl
        replace B := B.trans (b3.mono B.size)
        clear b3
        go_wp2
        go_ret2
        exact ⟨rfl, B⟩
  · rw [if_pos hk] at hr
    subst hr
    have g1 : (((Tm.kindOf s.data.toList).toNat : Int) != 120) = true := kind_no (n := 120) (by omega) hk
    generalize Tm.kindOf s.data.toList = c at *
    clear hk cO
    go_enter Tryz.func67, Tryz.ntmps67
    go_wp2_with fail
    refine (HK.out _).mono ?_
    rintro e' w' ⟨rfl, md, rfl⟩
    go_wp2
    go_ret2
    exact ⟨rfl, below_drewN (Below.refl _ _) _⟩

end Go.Proofs.YtiodphkmllcjdaaGreat
end

section
namespace Go.Proofs.YtiodphkmllcjdaaGreat
open Go.ChangeShapes Go.WideShapes Go.ChangeAt Go.RowKit

def RTakeOut (w : World) (r : List (List UInt8) × Nat) (e : Ending) (w' : World) : Prop :=
  ∃ v, e = .returned (.tuple #[v, .int .i64 (r.2 : Nat)]) ∧ w'.ownsRow w.heap.size 9 1 v r.1.length (strs r.1) ∧ Below w.heap.size w w'
def unrowR (k : Nat) (t : List UInt8) : Option (List (List UInt8)) := if Tm.right t = true then Tm.unrow k t else none
theorem takeRow_R (t : List UInt8) : Tm.takeRow t = match unrowR 151 t with | some zs => (zs, 0) | none => ([], 2) := by
  unfold Tm.takeRow unrowR
  split <;> rfl
def RTaking (w : World) (t0 : List UInt8) (k : Nat) (v4 v5 : Value) (wr : World) : Prop :=
  ∃ t acc, k + acc.length = 151 ∧ acc.length ≤ 150 ∧ v5 = .string ⟨t.toArray⟩ ∧ t.length ≤ maxLen ∧ unrowR 151 t0 = (unrowR k t).map (acc ++ ·) ∧ wr.ownsRow w.heap.size 9 1 v4 acc.length (strs acc) ∧ Below w.heap.size w wr

set_option maxRecDepth 100000 in
set_option maxHeartbeats 8000000 in
theorem RTake4_calls (t : List UInt8) (hs : t.length ≤ maxLen) (w : World) : Calls Tryz.prog 88 #[.string ⟨t.toArray⟩] w (RTakeOut w (Tm.takeRow t)) := by
  obtain ⟨i0, hi, hz0, hz1, hz2⟩ := info_parts info_text
  have HNum : Hid (∀ V : World, Calls Tryz.prog 29 #[.int .u64 0] V (One V (.string ⟨Tm.num0.toArray⟩))) := fun V => refNumber_calls 0 (by decide) V
  obtain ⟨r, hrr⟩ : ∃ r, Tm.takeRow t = r := ⟨_, rfl⟩
  rw [hrr]
  rw [takeRow_R] at hrr
  have HRr := Lib.hid hrr
  have HS := Lib.hid hs
  clear hrr hs
  go_enter Tryz.func88, Tryz.ntmps88
  go_wp2
  go_loopg [4, 5] 151 (fun k v4 v5 wr => RTaking w t k v4 v5 wr)
  case atStart => exact ⟨t, [], rfl, by simp, rfl, HS.out, by simp, World.ownsRow_nil _ _ _ _, Below.refl _ _⟩
  case round =>
    obtain ⟨t1, acc, hk, hal, rfl, hl1, hun, hrow, hB⟩ := hrel
    obtain ⟨k, rfl⟩ : ∃ k, gk = k + 1 := ⟨gk - 1, by omega⟩
    have HRow := Lib.hid hrow
    have HB := Lib.hid hB
    have hszB := hB.size
    obtain ⟨A, c, rfl⟩ := own_slice hrow
    by_cases hz : t1 = Tm.num0
    · have hfin : Hid (∀ w3, Below wr.heap.size wr w3 → RTakeOut w r (.returned (.tuple #[.slice A acc.length c, .int .i64 0])) w3) := fun w3 b3 => by
        have hu : unrowR (k + 1) t1 = some [] := by
          unfold unrowR
          rw [hz, if_pos Tm.num0_right]
          show (if _ then _ else _) = _
          rw [if_neg (by rw [Tm.num0_kind]; decide), if_pos rfl]
        rw [hu] at hun
        have := HRr.out
        rw [hun] at this
        simp at this
        rw [← this]
        exact ⟨_, rfl, own_below HRow.out b3, HB.out.trans (b3.mono hszB)⟩
      have hbq : (t1 == Tm.num0) = true := by rw [hz]; exact beq_self_eq_true _
      clear hrow hB hun hl1 HRow hk hal hz
      go_wp2_with fail
      refine (HNum.out _).mono ?_
      rintro e w3 ⟨rfl, b3⟩
      have HF := Lib.hid (hfin.out w3 b3)
      clear b3
      go_wp2
      go_ret2
      exact HF.out
    · have hbq : (t1 == Tm.num0) = false := beq_eq_false_iff_ne.2 hz
      have HOf : Hid (∀ V : World, Calls Tryz.prog 87 #[.string ⟨t1.toArray⟩] V (ROfOut V (Tm.partsOfT t1))) := fun V => ROf_calls ⟨t1.toArray⟩ (by rw [size_list]; exact hl1) V
      have cK : ∀ V : World, Calls Tryz.prog 86 #[.string ⟨t1.toArray⟩] V (Drew V (.int .u8 (Tm.kindOf t1).toNat)) := fun V => RKind_calls ⟨t1.toArray⟩ (by rw [size_list]; exact hl1) V
      by_cases hp : Tm.kindOf t1 = 112
      · obtain ⟨hr1, hk1⟩ := Tm.kind_right hp (by decide)
        obtain ⟨x, y, hof, he, hgx, hry, hyl, hy2⟩ := Tm.pair_two hr1 hk1
        have hu : unrowR (k + 1) t1 = (unrowR k y).map (x :: ·) := by
          unfold unrowR
          rw [if_pos hr1, if_pos hry]
          show (if _ then _ else _) = _
          rw [if_pos hk1, hof]
        rw [hu] at hun
        have hpt : Tm.partsOfT t1 = [x, y] := by unfold Tm.partsOfT; rw [if_pos hr1, hof]
        rw [hpt] at HOf
        rw [hp] at cK
        have HK := Lib.hid cK
        have hxl : x.length ≤ 20000 := hgx.2.2
        by_cases hfull : acc.length = 150
        · obtain rfl : k = 0 := by omega
          have hfin : Hid (∀ w3, Below wr.heap.size wr w3 → RTakeOut w r (.returned (.tuple #[.slice none 0 0, .int .i64 2])) w3) := fun w3 b3 => by
            have h1 : unrowR 151 t = none := by
              rw [hun]
              unfold unrowR
              rw [if_pos hry]
              rfl
            have := HRr.out
            rw [h1] at this
            rw [← this]
            exact ⟨_, rfl, World.ownsRow_nil _ _ _ _, HB.out.trans (b3.mono hszB)⟩
          rw [hfull]
          clear hrow hB hun hl1 HRow hk hal hz hp hr1 hk1 hof he hgx hry hyl hy2 hu hpt cK hfull
          go_wp2_with fail
          refine (HNum.out _).mono ?_
          rintro e w3 ⟨rfl, b3⟩
          go_wp2_with fail
          refine (HOf.out _).mono ?_
          rintro e w4 ⟨v4, rfl, hrow4, b4⟩
          obtain ⟨A4, c4, rfl⟩ := own_slice hrow4
          have b34 := b3.trans (b4.mono b3.size)
          have HB34 := Lib.hid b34
          clear hrow4 b3 b4 b34
          go_wp2_with fail
          refine (HK.out _).mono ?_
          rintro e w5 ⟨rfl, md, rfl⟩
          have HF := Lib.hid (hfin.out _ (below_drewN HB34.out md))
          go_wp2
          go_ret2
          exact HF.out
        · have hneq : ((acc.length : Int) == 150) = false := by rw [beq_eq_false_iff_ne]; omega
          have hRel : Hid (∀ (w3 : World) (v2 : Value) (w4 : World), Below wr.heap.size wr w3 → w4.ownsRow w.heap.size 9 1 v2 (acc.length + 1) (strs acc ++ [.string ⟨x.toArray⟩]) → (w3.alloc (.cells #[.string ⟨x.toArray⟩] 9)).grownBy w4 (Value.slice A acc.length c).ownBlock → RTaking w t k v2 (.string ⟨y.toArray⟩) w4) := by
            intro w3 v2 w4 b3 k1 k2
            refine ⟨y, acc ++ [x], by simp; omega, by simp; omega, rfl, by unfold maxLen; omega, ?_, by simpa [strs] using k1, ?_⟩
            · rw [hun, Option.map_map]
              congr 1
              funext l
              simp
            · have b4 := HB.out.trans (b3.mono hszB)
              have hg2 := grow_trans (World.grownBy_alloc w3 (.cells #[.string ⟨x.toArray⟩] 9) _) k2
              exact b4.grown hg2 b4.size (fun q e => (HRow.out.lt q e).1)
          have hal2 : acc.length < 150 := by omega
          clear hrow hB hun hl1 hk hal hz hp hr1 hk1 hof he hgx hry hyl hy2 hu hpt cK hfull
          go_wp2_with fail
          refine (HNum.out _).mono ?_
          rintro e w3 ⟨rfl, b3⟩
          go_wp2_with fail
          refine (HOf.out _).mono ?_
          rintro e w4 ⟨v4, rfl, hrow4, b4⟩
          obtain ⟨g4, c4, ev4⟩ : ∃ g4 c4, v4 = .slice (some ⟨g4, 0, none⟩) 2 c4 := by
            rcases hrow4.2 with ⟨_, h0⟩ | ⟨g, cap, cur, rfl, _⟩
            · cases h0
            · exact ⟨g, cap, rfl⟩
          subst ev4
          have hT4 := texts_of_row hrow4
          have hg4 := lt_of_row hrow4
          have hg4lo : wr.heap.size ≤ g4 := Nat.le_trans b3.size (hrow4.lt g4 rfl).1
          have c0 := hT4 0 x rfl
          have c1 := hT4 1 y rfl
          have b34 := b3.trans (b4.mono b3.size)
          have HB34 := Lib.hid b34
          have hrow5 : Hid (∀ n, (w4.drewN n).ownsRow w.heap.size 9 1 (.slice A acc.length c) acc.length (strs acc)) := fun n => own_below HRow.out (below_drewN b34 n)
          have hsz4 := b34.size
          clear hrow4 b3 b4 b34 hT4
          go_wp2_with fail
          refine (HK.out _).mono ?_
          rintro e w5 ⟨rfl, md, rfl⟩
          have hr5 := hrow5.out md
          have d0 : (w4.drewN md).cell? ⟨g4, 0, none⟩ = some (.string ⟨x.toArray⟩) := c0
          have hzz : (w4.drewN md).heap.size = w4.heap.size := rfl
          have HB5 := Lib.hid (below_drewN HB34.out md)
          have HC1 : Hid (∀ w6 : World, ((w4.drewN md).alloc (.cells #[.string ⟨x.toArray⟩] 9)).grownBy w6 (Value.slice A acc.length c).ownBlock → w6.cell? ⟨g4, 1, none⟩ = some (.string ⟨y.toArray⟩)) := fun w6 hg => by
            have hb : w6.heap[g4]? = w4.heap[g4]? := by
              refine (hg.block g4 (by simp; omega) (fun e => ?_)).trans ((World.grownBy_alloc (w4.drewN md) (.cells #[.string ⟨x.toArray⟩] 9) none).block g4 (by omega) (by simp))
              have := (HRow.out.lt g4 e.symm).2
              omega
            exact (World.cell?_of_block (a := ⟨g4, 1, none⟩) hb).trans c1
          have hg4' : g4 < (w4.drewN md).heap.size := hg4
          have hsz5 : wr.heap.size ≤ (w4.drewN md).heap.size := hsz4
          clear c0 c1 hzz hrow5 HB34 hg4 hsz4
          generalize w4.drewN md = w5 at *
          go_wp2_with (at_builtin; refine wpList_append_own_at _ rfl _ _ 48 rfl w.heap.size 9 i0 _ 1 16 Tryz.underlying48 hi hz0 hz1 hz2 rfl (by decide) _ _ _ rfl (hr5.alloc _) ⟨w5.heap.size, 0, none⟩ 1 1 [.string ⟨x.toArray⟩] rfl rfl (cell_one_new _ _ _) (by simp [Value.oneCell']) (by unfold maxLen; omega) (by omega) (by simp; omega) ?_; intro v2 w6 hown' hgrow hnil hat; have hc1 := HC1.out w6 hgrow)
          have hRl := Lib.hid (hRel.out w5 v2 w6 HB5.out hown' hgrow)
          clear hown' hgrow hnil hat
          go_roundg k
          case measure => omega
          case rel => exact hRl.out
      · have hfin : Hid (∀ w3, Below wr.heap.size wr w3 → RTakeOut w r (.returned (.tuple #[.slice none 0 0, .int .i64 2])) w3) := fun w3 b3 => by
          have h1 : unrowR (k + 1) t1 = none := by
            unfold unrowR
            by_cases hr1 : Tm.right t1 = true
            · rw [if_pos hr1]
              show (if _ then _ else _) = _
              unfold Tm.kindOf at hp
              rw [if_pos hr1] at hp
              rw [if_neg hp, if_neg hz]
            · rw [if_neg hr1]
          rw [h1] at hun
          have := HRr.out
          rw [hun] at this
          simp at this
          rw [← this]
          exact ⟨_, rfl, World.ownsRow_nil _ _ _ _, HB.out.trans (b3.mono hszB)⟩
        have g1 : (((Tm.kindOf t1).toNat : Int) != 112) = true := kind_no (n := 112) (by omega) hp
        have HK := Lib.hid cK
        generalize Tm.kindOf t1 = kd at *
        clear hrow hB hun hl1 HRow hk hal hz hp cK
        go_wp2_with fail
        refine (HNum.out _).mono ?_
        rintro e w3 ⟨rfl, b3⟩
        go_wp2_with fail
        refine (HOf.out _).mono ?_
        rintro e w4 ⟨v4, rfl, hrow4, b4⟩
        obtain ⟨A4, c4, rfl⟩ := own_slice hrow4
        have b34 := b3.trans (b4.mono b3.size)
        have HB34 := Lib.hid b34
        clear hrow4 b3 b4 b34
        go_wp2_with fail
        refine (HK.out _).mono ?_
        rintro e w5 ⟨rfl, md, rfl⟩
        have HF := Lib.hid (hfin.out _ (below_drewN HB34.out md))
        go_wp2
        go_ret2
        exact HF.out

end Go.Proofs.YtiodphkmllcjdaaGreat
end

section
namespace Go.Proofs.YtiodphkmllcjdaaGreat.L4
open Go.ChangeShapes Go.WideShapes Go.ChangeAt Go.RowKit

def RNums (W1 : World) (zs : List (List UInt8)) (N k : Nat) (v6 v7 : Value) (wr : World) : Prop :=
  ∃ i : Nat, k + i = N ∧ v7 = .int .i64 i ∧ wr.ownsRow W1.heap.size 3 1 v6 i (intV ((zs.take i).map num4)) ∧ Below W1.heap.size W1 wr

set_option maxRecDepth 100000 in
set_option maxHeartbeats 16000000 in
theorem unpack4_calls (t : List UInt8) (hs : t.length ≤ maxLen) (w : World) : Calls Tryz.prog 68 #[.string ⟨t.toArray⟩] w (UnpackOut w t) := by
  obtain ⟨j0, hj, hy0, hy1, hy2⟩ := info_parts info_int4
  obtain ⟨W0, hW0⟩ : ∃ W0, w.alloc (.cells #[.int .i64 0, .int .i64 0, .int .i64 0, .int .i64 0, .int .i64 0, .int .i64 0, .slice none 0 0, .slice none 0 0] 52) = W0 := ⟨_, rfl⟩
  have hs0 : W0.heap.size = w.heap.size + 1 := by rw [← hW0]; simp
  have hB0 : Below w.heap.size w W0 := by rw [← hW0]; exact (Below.refl _ w).alloc (Nat.le_refl _) _
  have hR0 : W0.heap[w.heap.size]? = some (.cells #[.int .i64 0, .int .i64 0, .int .i64 0, .int .i64 0, .int .i64 0, .int .i64 0, .slice none 0 0, .slice none 0 0] 52 (0, 0)) := by
    rw [← hW0]; exact World.alloc_heap_new _ _
  have HR0 : Hid (∀ V, Below W0.heap.size W0 V → V.heap[w.heap.size]? = some (.cells #[.int .i64 0, .int .i64 0, .int .i64 0, .int .i64 0, .int .i64 0, .int .i64 0, .slice none 0 0, .slice none 0 0] 52 (0, 0)) ∧ Below w.heap.size w V) := fun V hV => ⟨(hV.block w.heap.size (by omega)).trans hR0, hB0.trans (hV.mono (by omega))⟩
  have HT := Lib.hid (RTake4_calls t hs W0)
  have HTwo := Lib.hid (Tm.takeRow_two t)
  have HSay : Hid (∀ m, Says t m → Tm.takeRow t = (m.row, 0) ∧ m.ok = true ∧ m.pack = (t, 0)) := fun m h => says4 h
  have HRT : Hid (∀ zs, Tm.takeRow t = (zs, 0) → zs.length ≤ 150 ∧ ∀ z ∈ zs, z.length ≤ maxLen) := fun zs hz => by
    obtain ⟨_, k1, k2, _⟩ := Tm.putRow_ok (Tm.put_take hz)
    refine ⟨k1, fun z hm => ?_⟩
    unfold Tm.wrongIn at k2
    rw [List.any_eq_false] at k2
    have h1 := k2 z hm
    have := Tm.depthOf_short (z := z) (by simpa using h1)
    unfold maxLen
    omega
  obtain ⟨⟨zs, er⟩, hz⟩ : ∃ r, Tm.takeRow t = r := ⟨_, rfl⟩
  rw [hz] at HT HTwo HSay HRT
  have HS0 := Lib.hid hs0
  have HPS : Hid (∀ m, m.pack = (t, 0) → Says t m) := fun m h => Msg.pack_says h
  clear hB0 hR0 hs hs0 hz
  go_enter Tryz.func68, Tryz.ntmps68
  go_wp2_with fail
  refine HT.out.mono ?_
  rintro e w1 ⟨v, rfl, hown, hB⟩
  by_cases her : er = 0
  case neg =>
    have h2 : er = 2 := by
      rcases HTwo.out with h | h
      · exact absurd h her
      · exact congrArg Prod.snd h
    subst h2
    obtain ⟨hr2, hbw⟩ := HR0.out w1 hB
    obtain ⟨u1, u2, u3, u4, u5, u6, u7, u8, ⟨e0, d0, f0⟩, ⟨e1, d1, f1⟩, ⟨e2, d2, f2⟩, ⟨e3, d3, f3⟩, ⟨e4, d4, f4⟩, ⟨e5, d5, f5⟩, ⟨e6, d6, f6⟩, ⟨e7, d7, f7⟩, hlast, hBlast, hklast⟩ := store8 (.int .i64 0) (.int .i64 0) (.int .i64 0) (.int .i64 0) (.int .i64 0) (.int .i64 0) (.slice none 0 0) (.slice none 0 0) hr2
    have HL := Lib.hid hlast
    have HF : Hid (UnpackOut w t (.returned (.tuple #[zeroMsg, .int .i64 2])) u8) := .inr ⟨rfl, fun ⟨m, hm⟩ => by
      obtain ⟨e, _⟩ := HSay.out m hm
      simp at e, hbw.trans (hBlast.mono (Nat.le_refl _))⟩
    clear hown hB hr2 hbw hlast hBlast hklast her hW0
    go_wp2
    refine bodyPost_ret (results_both rfl _ _ w.heap.size 52 _ (0, 0) _ rfl HL.out Tryz.underlying52 rfl (by kernel_rfl)) rfl ?_
    exact HF.out
  subst her
  have HFail : Hid ((∀ m, Says t m → False) → ∀ V, Below w1.heap.size w1 V → ∃ u1 u2 u3 u4 u5 u6 u7 u8 : World, (V.setCell ⟨w.heap.size, 0, none⟩ (.int .i64 0) = u1 ∧ V.cell? ⟨w.heap.size, 0, none⟩ = some (.int .i64 0) ∧ V.frozen? ⟨w.heap.size, 0, none⟩ = false) ∧ (u1.setCell ⟨w.heap.size, 1, none⟩ (.int .i64 0) = u2 ∧ u1.cell? ⟨w.heap.size, 1, none⟩ = some (.int .i64 0) ∧ u1.frozen? ⟨w.heap.size, 1, none⟩ = false) ∧ (u2.setCell ⟨w.heap.size, 2, none⟩ (.int .i64 0) = u3 ∧ u2.cell? ⟨w.heap.size, 2, none⟩ = some (.int .i64 0) ∧ u2.frozen? ⟨w.heap.size, 2, none⟩ = false) ∧ (u3.setCell ⟨w.heap.size, 3, none⟩ (.int .i64 0) = u4 ∧ u3.cell? ⟨w.heap.size, 3, none⟩ = some (.int .i64 0) ∧ u3.frozen? ⟨w.heap.size, 3, none⟩ = false) ∧ (u4.setCell ⟨w.heap.size, 4, none⟩ (.int .i64 0) = u5 ∧ u4.cell? ⟨w.heap.size, 4, none⟩ = some (.int .i64 0) ∧ u4.frozen? ⟨w.heap.size, 4, none⟩ = false) ∧ (u5.setCell ⟨w.heap.size, 5, none⟩ (.int .i64 0) = u6 ∧ u5.cell? ⟨w.heap.size, 5, none⟩ = some (.int .i64 0) ∧ u5.frozen? ⟨w.heap.size, 5, none⟩ = false) ∧ (u6.setCell ⟨w.heap.size, 6, none⟩ (.slice none 0 0) = u7 ∧ u6.cell? ⟨w.heap.size, 6, none⟩ = some (.slice none 0 0) ∧ u6.frozen? ⟨w.heap.size, 6, none⟩ = false) ∧ (u7.setCell ⟨w.heap.size, 7, none⟩ (.slice none 0 0) = u8 ∧ u7.cell? ⟨w.heap.size, 7, none⟩ = some (.slice none 0 0) ∧ u7.frozen? ⟨w.heap.size, 7, none⟩ = false) ∧
      Hid (u8.heap[w.heap.size]? = some (.cells #[.int .i64 0, .int .i64 0, .int .i64 0, .int .i64 0, .int .i64 0, .int .i64 0, .slice none 0 0, .slice none 0 0] 52 (0, 0)) ∧ UnpackOut w t (.returned (.tuple #[zeroMsg, .int .i64 2])) u8)) := fun hno V hV => by
    have hBV : Below W0.heap.size W0 V := hB.trans (hV.mono hB.size)
    obtain ⟨hr2, hbw⟩ := HR0.out V hBV
    obtain ⟨u1, u2, u3, u4, u5, u6, u7, u8, q0, q1, q2, q3, q4, q5, q6, q7, hlast, hBlast, hklast⟩ := store8 (.int .i64 0) (.int .i64 0) (.int .i64 0) (.int .i64 0) (.int .i64 0) (.int .i64 0) (.slice none 0 0) (.slice none 0 0) hr2
    exact ⟨u1, u2, u3, u4, u5, u6, u7, u8, q0, q1, q2, q3, q4, q5, q6, q7, hlast, .inr ⟨rfl, fun ⟨m, hm⟩ => hno m hm, hbw.trans (hBlast.mono (Nat.le_refl _))⟩⟩
  obtain ⟨hl150, hsh⟩ := HRT.out zs rfl
  have HRows : Hid (∀ m, Says t m → zs = m.row ∧ m.ok = true ∧ m.pack = (t, 0)) := fun m hm => by
    obtain ⟨e, h1, h2⟩ := HSay.out m hm
    simp at e
    exact ⟨e, h1, h2⟩
  obtain ⟨Al, cl, rfl⟩ := own_slice hown
  have HOwn := Lib.hid (And.intro hown (And.intro hsh hl150))
  have HB := Lib.hid hB
  clear hown hB hsh HRT HTwo HSay hW0
  by_cases h7 : zs.length < 7
  · have j1 : (zs.length : Int) < 7 := by omega
    obtain ⟨u1, u2, u3, u4, u5, u6, u7, u8, ⟨e0, d0, f0⟩, ⟨e1, d1, f1⟩, ⟨e2, d2, f2⟩, ⟨e3, d3, f3⟩, ⟨e4, d4, f4⟩, ⟨e5, d5, f5⟩, ⟨e6, d6, f6⟩, ⟨e7, d7, f7⟩, HFu⟩ := HFail.out (fun m hm => by
      obtain ⟨e, ho, _⟩ := HRows.out m hm
      have := (msg4_row ho).1
      rw [← e] at this
      omega) w1 (Below.refl _ _)
    clear h7
    go_wp2
    refine bodyPost_ret (results_both rfl _ _ w.heap.size 52 _ (0, 0) _ rfl HFu.out.1 Tryz.underlying52 rfl (by kernel_rfl)) rfl ?_
    exact HFu.out.2
  have j1 : ¬ (zs.length : Int) < 7 := by omega
  obtain ⟨gl, rfl⟩ : ∃ gl, Al = some ⟨gl, 0, none⟩ := by
    rcases HOwn.out.1.2 with ⟨_, h0⟩ | ⟨g, cap, cur, e, _⟩
    · have h0' : zs.length = 0 := h0
      omega
    · cases e; exact ⟨g, rfl⟩
  have hgl := (HOwn.out.1.lt gl rfl).2
  obtain ⟨N, hN⟩ : ∃ N, min 15 zs.length = N := ⟨_, rfl⟩
  have hNb : 7 ≤ N ∧ N ≤ 15 ∧ N ≤ zs.length := by omega
  have HNb := Lib.hid (And.intro hNb hN)
  have HGl := Lib.hid hgl
  clear hNb hN hgl h7
  go_wp2
  go_loopg [6, 7] N (fun k v6 v7 wr => RNums w1 zs N k v6 v7 wr)
  case atStart => exact ⟨0, rfl, rfl, World.ownsRow_nil _ _ _ _, Below.refl _ _⟩
  case round =>
    obtain ⟨i, hk, rfl, hr6, hB⟩ := hrel
    obtain ⟨A6, c6, rfl⟩ := own_slice hr6
    have hNN := HNb.out
    by_cases hlt : i < N
    · obtain ⟨z, hz⟩ : ∃ z, zs[i]? = some z := ⟨_, List.getElem?_eq_getElem (by omega)⟩
      have hz0 := HOwn.out.1.cellAt i (show i < (zs, 0).fst.length * 1 by show i < zs.length * 1; omega)
      have hzc : wr.cell? ⟨gl, i, none⟩ = some (.string ⟨z.toArray⟩) := by
        rw [hB.cell (p := ⟨gl, i, none⟩) HGl.out, hz0]
        simp [strs, hz]
      have hzl : z.length ≤ maxLen := HOwn.out.2.1 z (List.mem_of_getElem? hz)
      have HV := Lib.hid (RValue_calls ⟨z.toArray⟩ (by rw [size_list]; exact hzl) wr)
      obtain ⟨q, hq⟩ : ∃ q, (Tm.valueT z).1 = q := ⟨_, rfl⟩
      obtain ⟨b, hb⟩ : ∃ b, (Tm.valueT z).2 = b := ⟨_, rfl⟩
      have e2 : (⟨z.toArray⟩ : ByteArray).data.toList = z := by simp
      rw [e2, hq, hb] at HV
      obtain ⟨r, hr⟩ : ∃ r, q % 4294967296 = r := ⟨_, rfl⟩
      have hrI : (q : Int) % 4294967296 = (r : Int) := by omega
      have hrb : (r : Int) < 4294967296 := by omega
      have hq0 : (0 : Int) ≤ (q : Int) := by omega
      have hrt : (q : Int).tmod 4294967296 = (r : Int) := by rw [Int.tmod_eq_emod_of_nonneg hq0]; exact hrI
      have hw : IntKind.i64.wrap (r : Int) = (r : Int) := by rw [IntKind.wrap_i64]; omega
      have hn4 : num4 z = (r : Int) := by unfold num4; rw [hq, hr]
      have j2 : (i : Int) < (zs.length : Int) := by omega
      have j3 : (i : Int) < 15 := by omega
      have j4 : (0 : Int) ≤ (i : Int) := by omega
      have hmm := Lib.hid (show gk - 1 < gk by omega)
      have hfin : Hid (∀ n, ((wr.drewN n).alloc (.cells #[.int .i64 (r : Int)] 3)).ownsRow w1.heap.size 3 1 (.slice A6 i c6) i (intV ((zs.take i).map num4)) ∧ w1.heap.size ≤ ((wr.drewN n).alloc (.cells #[.int .i64 (r : Int)] 3)).heap.size ∧
          ∀ v5 w5, w5.ownsRow w1.heap.size 3 1 v5 (i + 1) (intV ((zs.take i).map num4) ++ [.int .i64 (r : Int)]) → ((wr.drewN n).alloc (.cells #[.int .i64 (r : Int)] 3)).grownBy w5 (Value.slice A6 i c6).ownBlock → RNums w1 zs N (gk - 1) v5 (.int .i64 ((i + 1 : Nat) : Int)) w5) := fun n => by
        have hd := below_drewN hB n
        refine ⟨(own_below hr6 (below_drewN (Below.refl _ wr) n)).alloc _, by have := hB.size; simp; exact Nat.le_succ_of_le this, fun v5 w5 k1 k2 => ⟨i + 1, by omega, rfl, ?_, hd.grown (grow_trans (World.grownBy_alloc (wr.drewN n) _ _) k2) hd.size (fun q e => (hr6.lt q e).1)⟩⟩
        have ht : zs.take (i + 1) = zs.take i ++ [z] := by rw [List.take_add_one, hz]; rfl
        rw [ht]
        simpa [intV, hn4] using k1
      have HIb := Lib.hid (show i ≤ 15 by omega)
      clear hr6 hB hk hz hz0 hzl hq hb e2 hr hn4 hlt hNN
      go_wp2_with fail
      refine HV.out.mono ?_
      rintro e w4 ⟨rfl, md, rfl⟩
      obtain ⟨q1, q2, q3⟩ := hfin.out md
      have HQ1 := Lib.hid q1
      have HQ2 := Lib.hid q2
      have HQ3 := Lib.hid q3
      have hsz : (wr.drewN md).heap.size = wr.heap.size := rfl
      clear q1 q2 q3 hfin HV hzc
      go_wp2_with (at_builtin; refine wpList_append_own_at _ rfl _ _ 33 rfl w1.heap.size 3 j0 _ 1 8 Tryz.underlying33 hj hy0 hy1 hy2 rfl (by decide) _ _ _ rfl HQ1.out ⟨wr.heap.size, 0, none⟩ 1 1 [.int .i64 (r : Int)] rfl rfl (cell_one_new (wr.drewN md) _ _) (by simp [Value.oneCell']) (by have := HIb.out; unfold maxLen; omega) (by have := HIb.out; omega) HQ2.out ?_; intro v5 w5 hown5 hgrow5 hnil5 hat5; have HF := Lib.hid (HQ3.out v5 w5 hown5 hgrow5); clear hown5 hgrow5 hnil5 hat5)
      go_roundg (gk - 1)
      case measure => exact hmm.out
      case rel => simpa using HF.out
    · obtain rfl : i = N := by omega
      have hnum : (zs.take i).map num4 = nums4 zs := by
        unfold nums4
        congr 1
        rw [← HNb.out.2]
        rcases Nat.le_total 15 zs.length with h | h
        · rw [Nat.min_eq_left h]
        · rw [Nat.min_eq_right h, List.take_of_length_le h, List.take_of_length_le (Nat.le_refl _)]
      have hnl : (nums4 zs).length = i := by unfold nums4; rw [List.length_map, List.length_take]; exact HNb.out.2
      rw [hnum] at hr6
      obtain ⟨g, rfl⟩ : ∃ g, A6 = some ⟨g, 0, none⟩ := by
        rcases hr6.2 with ⟨_, h0⟩ | ⟨g, cap, cur, e, _⟩
        · omega
        · cases e; exact ⟨g, rfl⟩
      have hcap6 : i ≤ c6 ∧ c6 ≤ maxLen := by
        rcases hr6.2 with ⟨h0, _⟩ | ⟨g', cap, cur, e, _, _, h1, h2, _⟩
        · cases h0
        · cases e; exact ⟨h1, h2⟩
      have hcapl : zs.length ≤ cl ∧ cl ≤ maxLen := by
        rcases HOwn.out.1.2 with ⟨h0, _⟩ | ⟨g', cap, cur, e, _, _, h1, h2, _⟩
        · cases h0
        · cases e; exact ⟨h1, h2⟩
      have hcj : ∀ j, j < i → wr.cell? ⟨g, j, none⟩ = some (.int .i64 ((nums4 zs).getD j 0)) := fun j hj => by
        rw [hr6.cellAt j (by omega)]
        simp only [intV, List.getElem?_map, List.getD]
        rw [List.getElem?_eq_getElem (by omega)]
        rfl
      have hpos : ∀ j, 0 ≤ (nums4 zs).getD j 0 ∧ (nums4 zs).getD j 0 ≤ 4294967295 := fun j => by
        rw [List.getD]
        cases hq : (nums4 zs)[j]? with
        | none => simp
        | some x =>
          obtain ⟨z, _, rfl⟩ := List.mem_map.1 (List.mem_of_getElem? hq)
          exact num4_bound z
      have n0 := hcj 0 (by omega)
      have n1 := hcj 1 (by omega)
      have n2 := hcj 2 (by omega)
      have n3 := hcj 3 (by omega)
      have n4 := hcj 4 (by omega)
      have n5 := hcj 5 (by omega)
      have n6 := hcj 6 (by omega)
      obtain ⟨K, hK⟩ : ∃ K, many4 zs = K := ⟨_, rfl⟩
      have hK6 : (nums4 zs).getD 6 0 = (K : Int) := by
        have := hpos 6
        rw [← hK]
        unfold many4
        omega
      rw [hK6] at n6
      have hg1 := (hr6.lt g rfl).1
      have hg2 := (hr6.lt g rfl).2
      have HNums := Lib.hid (And.intro hr6 (And.intro hnl (And.intro hpos (And.intro hg1 hg2))))
      have HKK := Lib.hid hK
      have HMsg : Hid (msg4 zs = ⟨(nums4 zs).getD 0 0, (nums4 zs).getD 1 0, (nums4 zs).getD 2 0, (nums4 zs).getD 3 0, (nums4 zs).getD 4 0, (nums4 zs).getD 5 0, ((nums4 zs).drop 7).take K, zs.drop (7 + K)⟩) := by show msg4 zs = _; unfold msg4; rw [hK]
      have HBn := Lib.hid hB
      have hKb : (K : Int) ≤ 4294967295 := by have := hpos 6; omega
      have HCaps := Lib.hid (And.intro hcap6 hcapl)
      have t7 : (7 : Int) ≤ (i : Int) := by omega
      have b0 : (0 : Int) < (i : Int) := by omega
      have b00 : 0 < i := by omega
      have b1 : (1 : Int) < (i : Int) := by omega
      have b2 : (2 : Int) < (i : Int) := by omega
      have b3 : (3 : Int) < (i : Int) := by omega
      have b4 : (4 : Int) < (i : Int) := by omega
      have b5 : (5 : Int) < (i : Int) := by omega
      have b6 : (6 : Int) < (i : Int) := by omega
      have hleni : (zs.length : Int) ≤ 150 := by have := HOwn.out.2.2; omega
      have hcase : (15 < zs.length ∧ i = 15) ∨ (zs.length ≤ 15 ∧ i = zs.length) := by have := HNb.out.2; omega
      generalize (nums4 zs).getD 0 0 = x0 at *
      generalize (nums4 zs).getD 1 0 = x1 at *
      generalize (nums4 zs).getD 2 0 = x2 at *
      generalize (nums4 zs).getD 3 0 = x3 at *
      generalize (nums4 zs).getD 4 0 = x4 at *
      generalize (nums4 zs).getD 5 0 = x5 at *
      clear hr6 hB hk hlt hNN hnum hnl hcap6 hcapl hcj hpos hK hK6 hg1 hg2
      by_cases h8 : 8 < K
      · have k8 : (8 : Int) < (K : Int) := by omega
        obtain ⟨u1, u2, u3, u4, u5, u6, u7, u8, ⟨e0, d0, f0⟩, ⟨e1, d1, f1⟩, ⟨e2, d2, f2⟩, ⟨e3, d3, f3⟩, ⟨e4, d4, f4⟩, ⟨e5, d5, f5⟩, ⟨e6, d6, f6⟩, ⟨e7, d7, f7⟩, HFu⟩ := HFail.out (fun m hm => by
          obtain ⟨e, ho, _⟩ := HRows.out m hm
          have := (msg4_row ho).2.1
          rw [← e, HKK.out] at this
          omega) wr HBn.out
        rcases hcase with ⟨q1, q2⟩ | ⟨q1, q2⟩
        all_goals
          first
          | (have p1 : (i : Int) < (zs.length : Int) := by omega
             have p2 : ¬ (i : Int) < 15 := by omega
             clear q1 q2 h8
             go_wp2
             refine bodyPost_ret (results_both rfl _ _ w.heap.size 52 _ (0, 0) _ rfl HFu.out.1 Tryz.underlying52 rfl (by kernel_rfl)) rfl ?_
             exact HFu.out.2)
          | (have p1 : ¬ (i : Int) < (zs.length : Int) := by omega
             clear q1 q2 h8
             go_wp2
             refine bodyPost_ret (results_both rfl _ _ w.heap.size 52 _ (0, 0) _ rfl HFu.out.1 Tryz.underlying52 rfl (by kernel_rfl)) rfl ?_
             exact HFu.out.2)
      have k8 : ¬ (8 : Int) < (K : Int) := by omega
      by_cases h9 : zs.length < 7 + K
      · have k9 : (zs.length : Int) < 7 + (K : Int) := by omega
        obtain ⟨u1, u2, u3, u4, u5, u6, u7, u8, ⟨e0, d0, f0⟩, ⟨e1, d1, f1⟩, ⟨e2, d2, f2⟩, ⟨e3, d3, f3⟩, ⟨e4, d4, f4⟩, ⟨e5, d5, f5⟩, ⟨e6, d6, f6⟩, ⟨e7, d7, f7⟩, HFu⟩ := HFail.out (fun m hm => by
          obtain ⟨e, ho, _⟩ := HRows.out m hm
          have := (msg4_row ho).2.2.1
          rw [← e, HKK.out] at this
          omega) wr HBn.out
        rcases hcase with ⟨q1, q2⟩ | ⟨q1, q2⟩
        all_goals
          first
          | (have p1 : (i : Int) < (zs.length : Int) := by omega
             have p2 : ¬ (i : Int) < 15 := by omega
             clear q1 q2 h8 h9
             go_wp2
             refine bodyPost_ret (results_both rfl _ _ w.heap.size 52 _ (0, 0) _ rfl HFu.out.1 Tryz.underlying52 rfl (by kernel_rfl)) rfl ?_
             exact HFu.out.2)
          | (have p1 : ¬ (i : Int) < (zs.length : Int) := by omega
             clear q1 q2 h8 h9
             go_wp2
             refine bodyPost_ret (results_both rfl _ _ w.heap.size 52 _ (0, 0) _ rfl HFu.out.1 Tryz.underlying52 rfl (by kernel_rfl)) rfl ?_
             exact HFu.out.2)
      have k9 : ¬ (zs.length : Int) < 7 + (K : Int) := by omega
      have hKi : 7 + K ≤ i := by omega
      have HKi := Lib.hid (And.intro hKi (show 7 + K ≤ zs.length by omega))
      rcases hcase with ⟨q1, q2⟩ | ⟨q1, q2⟩
      all_goals
        first
        | (have p1 : (i : Int) < (zs.length : Int) := by omega
           have p2 : ¬ (i : Int) < 15 := by omega)
        | (have p1 : ¬ (i : Int) < (zs.length : Int) := by omega)
        have HIL := Lib.hid (And.intro q1 q2)
        clear q1 q2 h8 h9 hKi
        go_wp2
        go_region_held3 (fun w' => w'.cell? ⟨g, 0, none⟩ = some (.int .i64 x0) ∧ w'.cell? ⟨g, 1, none⟩ = some (.int .i64 x1) ∧ w'.cell? ⟨g, 2, none⟩ = some (.int .i64 x2) ∧ w'.cell? ⟨g, 3, none⟩ = some (.int .i64 x3) ∧ w'.cell? ⟨g, 4, none⟩ = some (.int .i64 x4) ∧ w'.cell? ⟨g, 5, none⟩ = some (.int .i64 x5)) (go_keep) (fail)
        obtain ⟨bx, hbx⟩ : ∃ bx, wr.heap.size = bx := ⟨_, rfl⟩
        have hY0 : ((wr.alloc (.cells #[.int .i64 x0, .int .i64 x1, .int .i64 x2, .int .i64 x3, .int .i64 x4, .int .i64 x5, .slice none 0 0, .slice none 0 0] 52)).drew).heap[bx]? = some (.cells #[.int .i64 x0, .int .i64 x1, .int .i64 x2, .int .i64 x3, .int .i64 x4, .int .i64 x5, .slice none 0 0, .slice none 0 0] 52 (0, 0)) := by rw [← hbx]; exact World.alloc_heap_new _ _
        have hYB : Below wr.heap.size wr ((wr.alloc (.cells #[.int .i64 x0, .int .i64 x1, .int .i64 x2, .int .i64 x3, .int .i64 x4, .int .i64 x5, .slice none 0 0, .slice none 0 0] 52)).drew) := below_drewN ((Below.refl _ wr).alloc (Nat.le_refl _) _) 1
        have hYs : ((wr.alloc (.cells #[.int .i64 x0, .int .i64 x1, .int .i64 x2, .int .i64 x3, .int .i64 x4, .int .i64 x5, .slice none 0 0, .slice none 0 0] 52)).drew).heap.size = bx + 1 := by rw [← hbx]; simp
        rw [hbx]
        generalize (wr.alloc (.cells #[.int .i64 x0, .int .i64 x1, .int .i64 x2, .int .i64 x3, .int .i64 x4, .int .i64 x5, .slice none 0 0, .slice none 0 0] 52)).drew = Y0 at *
        have HY0 := Lib.hid (And.intro hY0 (And.intro hYB (And.intro hYs hbx)))
        clear hY0 hYB hYs hbx n0 n1 n2 n3 n4 n5 n6 b0 b00 b1 b2 b3 b4 b5 b6
        have HTail : Hid (∀ vm vt, ∃ Y1 Y2, Y0.setCell ⟨bx, 6, none⟩ vm = Y1 ∧ Y0.cell? ⟨bx, 6, none⟩ = some (.slice none 0 0) ∧ Y0.frozen? ⟨bx, 6, none⟩ = false ∧ Y1.setCell ⟨bx, 7, none⟩ vt = Y2 ∧ Y1.cell? ⟨bx, 7, none⟩ = some (.slice none 0 0) ∧ Y1.frozen? ⟨bx, 7, none⟩ = false ∧ Hid (Y2.heap[bx]? = some (.cells #[.int .i64 x0, .int .i64 x1, .int .i64 x2, .int .i64 x3, .int .i64 x4, .int .i64 x5, vm, vt] 52 (0, 0)) ∧ Below wr.heap.size wr Y2 ∧ Y2.heap.size = bx + 1 ∧ wr.heap.size = bx)) := fun vm vt => by
          obtain ⟨hY0, hYB, hYs, hbx⟩ := HY0.out
          have h1 : (Y0.setCell ⟨bx, 6, none⟩ vm).heap[bx]? = some (.cells #[.int .i64 x0, .int .i64 x1, .int .i64 x2, .int .i64 x3, .int .i64 x4, .int .i64 x5, vm, .slice none 0 0] 52 (0, 0)) := set_blk hY0 vm
          have h2 : ((Y0.setCell ⟨bx, 6, none⟩ vm).setCell ⟨bx, 7, none⟩ vt).heap[bx]? = some (.cells #[.int .i64 x0, .int .i64 x1, .int .i64 x2, .int .i64 x3, .int .i64 x4, .int .i64 x5, vm, vt] 52 (0, 0)) := set_blk h1 vt
          exact ⟨_, _, rfl, blk_cell hY0, blk_frozen hY0, rfl, blk_cell h1, blk_frozen h1, h2, (hYB.setCell (by simp [hbx]) _).setCell (by simp [hbx]) _, by simp [World.setCell, hYs], hbx⟩
        have HM : Hid (∀ V vm vt, V.heap[g]? = wr.heap[g]? → V.heap[gl]? = wr.heap[gl]? → wr.heap.size ≤ V.heap.size → ((c6 = 7 ∧ vm = .slice (some ⟨g, 0, none⟩) K 0) ∨ vm = .slice (some ⟨g, 7, none⟩) K (c6 - 7)) → ((cl = 7 + K ∧ vt = .slice (some ⟨gl, 0, none⟩) (zs.length - (7 + K)) 0) ∨ vt = .slice (some ⟨gl, 7 + K, none⟩) (zs.length - (7 + K)) (cl - (7 + K))) → MsgA V ⟨x0, x1, x2, x3, x4, x5, ((nums4 zs).drop 7).take K, zs.drop (7 + K)⟩ vm vt) := fun V vm vt v1 v2 v3 a1 a2 => by
          obtain ⟨hr6, hnl, hpos, hg1, hg2⟩ := HNums.out
          obtain ⟨hK1, hK2⟩ := HKi.out
          obtain ⟨⟨ca1, ca2⟩, cb1, cb2⟩ := HCaps.out
          have hml : (((nums4 zs).drop 7).take K).length = K := by rw [List.length_take, List.length_drop]; omega
          have htl : (zs.drop (7 + K)).length = zs.length - (7 + K) := List.length_drop
          have hmc : ∀ j x, (((nums4 zs).drop 7).take K)[j]? = some x → j < K ∧ V.cell? ⟨g, 7 + j, none⟩ = some (.int .i64 x) := fun j x hx => by
            have hjK : j < K := by have := (List.getElem?_eq_some_iff.1 hx).1; omega
            rw [List.getElem?_take, if_pos hjK, List.getElem?_drop] at hx
            refine ⟨hjK, ?_⟩
            rw [World.cell?_of_block (a := ⟨g, 7 + j, none⟩) v1, hr6.cellAt (7 + j) (by omega)]
            simp [intV, hx]
          have htc : ∀ j z, (zs.drop (7 + K))[j]? = some z → V.cell? ⟨gl, 7 + K + j, none⟩ = some (.string ⟨z.toArray⟩) ∧ gl < V.heap.size ∧ z.length ≤ maxLen := fun j z hz => by
            have hjl := (List.getElem?_eq_some_iff.1 hz).1
            rw [List.getElem?_drop] at hz
            refine ⟨?_, by have := HGl.out; have := HBn.out.size; omega, HOwn.out.2.1 z (List.mem_of_getElem? hz)⟩
            rw [World.cell?_of_block (a := ⟨gl, 7 + K + j, none⟩) v2, HBn.out.cell (p := ⟨gl, 7 + K + j, none⟩) HGl.out]
            rw [HOwn.out.1.cellAt (7 + K + j) (show 7 + K + j < zs.length * 1 by omega)]
            simp [strs, hz]
          refine ⟨⟨?_, fun x hx => ?_, by show (((nums4 zs).drop 7).take K).length ≤ maxLen; rw [hml]; unfold maxLen; omega⟩, ⟨?_, fun z hz => ?_, by show (zs.drop (7 + K)).length ≤ maxLen; rw [htl]; unfold maxLen; omega⟩⟩
          · show ∃ A c, vm = .slice A (((nums4 zs).drop 7).take K).length c ∧ _
            rw [hml]
            rcases a1 with ⟨c7, rfl⟩ | rfl
            · exact ⟨_, _, rfl, fun j x hx => absurd (hmc j x hx).1 (by omega)⟩
            · refine ⟨_, _, rfl, fun j x hx => ⟨⟨g, 7, none⟩, rfl, by show g < V.heap.size; omega, ?_⟩⟩
              have e2 : (⟨g, 7, none⟩ : Addr).add j = ⟨g, 7 + j, none⟩ := by unfold Addr.add; split <;> simp_all
              rw [e2]
              exact (hmc j x hx).2
          · obtain ⟨z, _, rfl⟩ := List.mem_map.1 (List.mem_of_mem_drop (List.mem_of_mem_take hx))
            have := num4_bound z
            omega
          · show ∃ A c, vt = .slice A (zs.drop (7 + K)).length c ∧ _
            rw [htl]
            rcases a2 with ⟨cz, rfl⟩ | rfl
            · refine ⟨_, _, rfl, fun j z hz => ?_⟩
              have := (List.getElem?_eq_some_iff.1 hz).1
              rw [List.length_drop] at this
              omega
            · refine ⟨_, _, rfl, fun j z hz => ⟨⟨gl, 7 + K, none⟩, rfl, (htc j z hz).2.1, id, ?_⟩⟩
              have e2 : (⟨gl, 7 + K, none⟩ : Addr).add j = ⟨gl, 7 + K + j, none⟩ := by unfold Addr.add; split <;> simp_all
              rw [e2]
              exact (htc j z hz).1
          · obtain ⟨j, hj⟩ := List.getElem?_of_mem hz
            exact (htc j z hj).2.2
        have HEnd : Hid (∀ vm vt, ((c6 = 7 ∧ vm = .slice (some ⟨g, 0, none⟩) K 0) ∨ vm = .slice (some ⟨g, 7, none⟩) K (c6 - 7)) → ((cl = 7 + K ∧ vt = .slice (some ⟨gl, 0, none⟩) (zs.length - (7 + K)) 0) ∨ vt = .slice (some ⟨gl, 7 + K, none⟩) (zs.length - (7 + K)) (cl - (7 + K))) →
            ∃ Y1 Y2, Y0.setCell ⟨bx, 6, none⟩ vm = Y1 ∧ Y0.cell? ⟨bx, 6, none⟩ = some (.slice none 0 0) ∧ Y0.frozen? ⟨bx, 6, none⟩ = false ∧ Y1.setCell ⟨bx, 7, none⟩ vt = Y2 ∧ Y1.cell? ⟨bx, 7, none⟩ = some (.slice none 0 0) ∧ Y1.frozen? ⟨bx, 7, none⟩ = false ∧
              (∀ V, Below Y2.heap.size Y2 V → V.cell? ⟨bx, 0, none⟩ = some (.int .i64 x0) ∧ V.cell? ⟨bx, 1, none⟩ = some (.int .i64 x1) ∧ V.cell? ⟨bx, 2, none⟩ = some (.int .i64 x2) ∧ V.cell? ⟨bx, 3, none⟩ = some (.int .i64 x3) ∧ V.cell? ⟨bx, 4, none⟩ = some (.int .i64 x4) ∧ V.cell? ⟨bx, 5, none⟩ = some (.int .i64 x5) ∧ V.cell? ⟨bx, 6, none⟩ = some vm ∧ V.cell? ⟨bx, 7, none⟩ = some vt) ∧
              Calls Tryz.prog 12 #[.agg #[.int .i64 x0, .int .i64 x1, .int .i64 x2, .int .i64 x3, .int .i64 x4, .int .i64 x5, vm, vt]] Y2 (fun e V => e = .returned (.tuple #[.string ⟨(Msg.pack ⟨x0, x1, x2, x3, x4, x5, ((nums4 zs).drop 7).take K, zs.drop (7 + K)⟩).1.toArray⟩, .int .i64 ((Msg.pack ⟨x0, x1, x2, x3, x4, x5, ((nums4 zs).drop 7).take K, zs.drop (7 + K)⟩).2 : Nat)]) ∧ Below Y2.heap.size Y2 V ∧ Below w1.heap.size w1 V) ∧
              (∀ V, Below Y2.heap.size Y2 V → Msg.pack ⟨x0, x1, x2, x3, x4, x5, ((nums4 zs).drop 7).take K, zs.drop (7 + K)⟩ = (t, 0) → ∃ u1 u2 u3 u4 u5 u6 u7 u8 : World, (V.setCell ⟨w.heap.size, 0, none⟩ (.int .i64 x0) = u1 ∧ V.cell? ⟨w.heap.size, 0, none⟩ = some (.int .i64 0) ∧ V.frozen? ⟨w.heap.size, 0, none⟩ = false) ∧ (u1.setCell ⟨w.heap.size, 1, none⟩ (.int .i64 x1) = u2 ∧ u1.cell? ⟨w.heap.size, 1, none⟩ = some (.int .i64 0) ∧ u1.frozen? ⟨w.heap.size, 1, none⟩ = false) ∧ (u2.setCell ⟨w.heap.size, 2, none⟩ (.int .i64 x2) = u3 ∧ u2.cell? ⟨w.heap.size, 2, none⟩ = some (.int .i64 0) ∧ u2.frozen? ⟨w.heap.size, 2, none⟩ = false) ∧ (u3.setCell ⟨w.heap.size, 3, none⟩ (.int .i64 x3) = u4 ∧ u3.cell? ⟨w.heap.size, 3, none⟩ = some (.int .i64 0) ∧ u3.frozen? ⟨w.heap.size, 3, none⟩ = false) ∧ (u4.setCell ⟨w.heap.size, 4, none⟩ (.int .i64 x4) = u5 ∧ u4.cell? ⟨w.heap.size, 4, none⟩ = some (.int .i64 0) ∧ u4.frozen? ⟨w.heap.size, 4, none⟩ = false) ∧ (u5.setCell ⟨w.heap.size, 5, none⟩ (.int .i64 x5) = u6 ∧ u5.cell? ⟨w.heap.size, 5, none⟩ = some (.int .i64 0) ∧ u5.frozen? ⟨w.heap.size, 5, none⟩ = false) ∧ (u6.setCell ⟨w.heap.size, 6, none⟩ vm = u7 ∧ u6.cell? ⟨w.heap.size, 6, none⟩ = some (.slice none 0 0) ∧ u6.frozen? ⟨w.heap.size, 6, none⟩ = false) ∧ (u7.setCell ⟨w.heap.size, 7, none⟩ vt = u8 ∧ u7.cell? ⟨w.heap.size, 7, none⟩ = some (.slice none 0 0) ∧ u7.frozen? ⟨w.heap.size, 7, none⟩ = false) ∧
                Hid (u8.heap[w.heap.size]? = some (.cells #[.int .i64 x0, .int .i64 x1, .int .i64 x2, .int .i64 x3, .int .i64 x4, .int .i64 x5, vm, vt] 52 (0, 0)) ∧ UnpackOut w t (.returned (.tuple #[.agg #[.int .i64 x0, .int .i64 x1, .int .i64 x2, .int .i64 x3, .int .i64 x4, .int .i64 x5, vm, vt], .int .i64 0])) u8))) := fun vm vt a1 a2 => by
          obtain ⟨Y1, Y2, r1, r2, r3, r4, r5, r6, hY2, hYB, hYs, hbx⟩ := HTail.out vm vt
          obtain ⟨hr6, hnl, hpos, hg1, hg2⟩ := HNums.out
          obtain ⟨hK1, hK2⟩ := HKi.out
          have hB1 := HBn.out
          have hsz1 := hB1.size
          have hgl := HGl.out
          have hglo : W0.heap.size ≤ gl := (HOwn.out.1.lt gl rfl).1
          have hsB := HB.out.size
          have hs0 := HS0.out
          have nm : ∀ n c, vm = .slice none n c → c = 0 := fun n c e => by rcases a1 with ⟨_, h⟩ | h <;> rw [h] at e <;> cases e
          have nt : ∀ n c, vt = .slice none n c → c = 0 := fun n c e => by rcases a2 with ⟨_, h⟩ | h <;> rw [h] at e <;> cases e
          have htl : (zs.drop (7 + K)).length ≤ 900 := by rw [List.length_drop]; have := HOwn.out.2.2; omega
          refine ⟨Y1, Y2, r1, r2, r3, r4, r5, r6, fun V hV => ?_, ?_, fun V hV hp => ?_⟩
          · have k : ∀ j, V.cell? ⟨bx, j, none⟩ = (#[.int .i64 x0, .int .i64 x1, .int .i64 x2, .int .i64 x3, .int .i64 x4, .int .i64 x5, vm, vt] : Array Value)[j]? := fun j => (hV.cell (p := ⟨bx, j, none⟩) (by show bx < Y2.heap.size; omega)).trans (blk_cell hY2)
            exact ⟨k 0, k 1, k 2, k 3, k 4, k 5, k 6, k 7⟩
          · refine (pack4_calls ⟨x0, x1, x2, x3, x4, x5, ((nums4 zs).drop 7).take K, zs.drop (7 + K)⟩ vm vt Y2 (HM.out Y2 vm vt (hYB.block g hg2) (hYB.block gl (by omega)) hYB.size a1 a2) nm nt htl).mono ?_
            rintro e V ⟨h1, h2⟩
            exact ⟨h1, h2, (hB1.trans (hYB.mono hsz1)).trans (h2.mono (Nat.le_trans hsz1 hYB.size))⟩
          · have hb := (HR0.out V (HB.out.trans (((hB1.trans (hYB.mono hsz1)).trans (hV.mono (Nat.le_trans hsz1 hYB.size))).mono hsB))).1
            obtain ⟨u1, u2, u3, u4, u5, u6, u7, u8, p0, p1, p2, p3, p4, p5, p6, p7, hlast, hu1, hu2⟩ := store8 (.int .i64 x0) (.int .i64 x1) (.int .i64 x2) (.int .i64 x3) (.int .i64 x4) (.int .i64 x5) vm vt hb
            refine ⟨u1, u2, u3, u4, u5, u6, u7, u8, p0, p1, p2, p3, p4, p5, p6, p7, hlast, ?_⟩
            have hbV := (HR0.out V (HB.out.trans (((hB1.trans (hYB.mono hsz1)).trans (hV.mono (Nat.le_trans hsz1 hYB.size))).mono hsB))).2
            have hgs : ∀ q, q < wr.heap.size → w.heap.size < q → u8.heap[q]? = wr.heap[q]? := fun q q1 q2 => (hu2 q (by omega)).trans ((hV.block q (by have := hYB.size; omega)).trans (hYB.block q q1))
            exact .inl ⟨⟨x0, x1, x2, x3, x4, x5, ((nums4 zs).drop 7).take K, zs.drop (7 + K)⟩, vm, vt, HPS.out _ hp, rfl, HM.out u8 vm vt (hgs g hg2 (by omega)) (hgs gl (by omega) (by omega)) (by have := hu1.size; have := hV.size; have := hYB.size; omega) a1 a2, nt, hbV.trans (hu1.mono (Nat.le_refl _))⟩
        have HNo : Hid (Msg.pack ⟨x0, x1, x2, x3, x4, x5, ((nums4 zs).drop 7).take K, zs.drop (7 + K)⟩ ≠ (t, 0) → ∀ m, Says t m → False) := fun hne m hm => by
          obtain ⟨e, ho, hp⟩ := HRows.out m hm
          have h4 := (msg4_row ho).2.2.2
          rw [← e, HMsg.out] at h4
          exact hne (h4 ▸ hp)
        clear HM HTail
        generalize hpk : Msg.pack ⟨x0, x1, x2, x3, x4, x5, ((nums4 zs).drop 7).take K, zs.drop (7 + K)⟩ = pk at *
        clear hpk HMsg
        have s1 : (7 : Int) ≤ 7 + (K : Int) := by omega
        have s2 : 7 + (K : Int) ≤ (c6 : Int) := by have := HCaps.out; have := HKi.out; omega
        have s3 : 7 + (K : Int) ≤ (zs.length : Int) := by have := HKi.out; omega
        have s4 : (zs.length : Int) ≤ (cl : Int) := by have := HCaps.out; omega
        have s5 : (7 + (K : Int)).toNat = 7 + K := by omega
        have hsplit : ((∃ _ : c6 = 7, True) ∨ ¬ c6 = 7) ∧ ((∃ _ : cl = 7 + K, True) ∨ ¬ cl = 7 + K) := by
          refine ⟨?_, ?_⟩
          · by_cases h : c6 = 7
            · exact .inl ⟨h, trivial⟩
            · exact .inr h
          · by_cases h : cl = 7 + K
            · exact .inl ⟨h, trivial⟩
            · exact .inr h
        have himp : cl = 7 + K → 15 < zs.length → False := fun h1 h2 => by have := HCaps.out; omega
        have hway : Hid (cl = 7 + K → 15 < zs.length → False) := himp
        clear himp
        obtain ⟨hsp1, hsp2⟩ := hsplit
        have HSp1 := Lib.hid hsp1
        clear hsp1
        rcases hsp2 with ⟨hce, _⟩ | hcl
        all_goals
          first
          | (exfalso; exact hway.out hce HIL.out.1)
          | skip
        all_goals
          first
          | subst hce
          | skip
          obtain ⟨rfl, _⟩ | hc6 := HSp1.out
        all_goals
          first
          | obtain ⟨Y1, Y2, r1, r2, r3, r4, r5, r6, hcs, hcall, hfin⟩ := HEnd.out (.slice (some ⟨g, 0, none⟩) K 0) (.slice (some ⟨gl, 0, none⟩) (zs.length - (7 + K)) 0) (.inl ⟨rfl, rfl⟩) (.inl ⟨rfl, rfl⟩)
          | obtain ⟨Y1, Y2, r1, r2, r3, r4, r5, r6, hcs, hcall, hfin⟩ := HEnd.out (.slice (some ⟨g, 0, none⟩) K 0) (.slice (some ⟨gl, 7 + K, none⟩) (zs.length - (7 + K)) (cl - (7 + K))) (.inl ⟨rfl, rfl⟩) (.inr rfl)
          | obtain ⟨Y1, Y2, r1, r2, r3, r4, r5, r6, hcs, hcall, hfin⟩ := HEnd.out (.slice (some ⟨g, 7, none⟩) K (c6 - 7)) (.slice (some ⟨gl, 0, none⟩) (zs.length - (7 + K)) 0) (.inr rfl) (.inl ⟨rfl, rfl⟩)
          | obtain ⟨Y1, Y2, r1, r2, r3, r4, r5, r6, hcs, hcall, hfin⟩ := HEnd.out (.slice (some ⟨g, 7, none⟩) K (c6 - 7)) (.slice (some ⟨gl, 7 + K, none⟩) (zs.length - (7 + K)) (cl - (7 + K))) (.inr rfl) (.inr rfl)
          have HCs := Lib.hid hcs
          have HCall := Lib.hid hcall
          have HFin2 := Lib.hid hfin
          obtain ⟨l0, l1, l2, l3, l4, l5, l6, l7⟩ := hcs Y2 (Below.refl _ _)
          clear hcs hcall hfin HEnd HSp1
          go_wp2_with fail
          refine HCall.out.mono ?_
          rintro e V ⟨rfl, b1, b2⟩
          have HB2 := Lib.hid (And.intro b1 b2)
          clear b1 b2 l0 l1 l2 l3 l4 l5 l6 l7 r1 r2 r3 r4 r5 r6 s1 s2 s3 s4 s5 k8 k9 t7
          obtain ⟨l0, l1, l2, l3, l4, l5, l6, l7⟩ := HCs.out V HB2.out.1
          by_cases hok : pk = (t, 0)
          · subst hok
            obtain ⟨u1, u2, u3, u4, u5, u6, u7, u8, ⟨e0, d0, f0⟩, ⟨e1, d1, f1⟩, ⟨e2, d2, f2⟩, ⟨e3, d3, f3⟩, ⟨e4, d4, f4⟩, ⟨e5, d5, f5⟩, ⟨e6, d6, f6⟩, ⟨e7, d7, f7⟩, HFu⟩ := HFin2.out V HB2.out.1 rfl
            clear HFin2 HCall HCs HNo HFail
            go_wp2
            refine bodyPost_ret (results_both rfl _ _ w.heap.size 52 _ (0, 0) _ rfl HFu.out.1 Tryz.underlying52 rfl (by kernel_rfl)) rfl ?_
            exact HFu.out.2
          · obtain ⟨u1, u2, u3, u4, u5, u6, u7, u8, ⟨e0, d0, f0⟩, ⟨e1, d1, f1⟩, ⟨e2, d2, f2⟩, ⟨e3, d3, f3⟩, ⟨e4, d4, f4⟩, ⟨e5, d5, f5⟩, ⟨e6, d6, f6⟩, ⟨e7, d7, f7⟩, HFu⟩ := HFail.out (HNo.out hok) V HB2.out.2
            obtain ⟨pt, pe⟩ := pk
            by_cases hpe : pe = 0
            · subst hpe
              have hpt : (pt == t) = false := beq_eq_false_iff_ne.2 (fun e => hok (by rw [e]))
              clear hok HFin2 HCall HCs HNo HFail
              go_wp2
              refine bodyPost_ret (results_both rfl _ _ w.heap.size 52 _ (0, 0) _ rfl HFu.out.1 Tryz.underlying52 rfl (by kernel_rfl)) rfl ?_
              exact HFu.out.2
            · have hq : ((pe : Int) != 0) = true := by rw [bne_iff_ne]; omega
              clear hok HFin2 HCall HCs HNo HFail
              go_wp2
              refine bodyPost_ret (results_both rfl _ _ w.heap.size 52 _ (0, 0) _ rfl HFu.out.1 Tryz.underlying52 rfl (by kernel_rfl)) rfl ?_
              exact HFu.out.2

end Go.Proofs.YtiodphkmllcjdaaGreat.L4
end
