/- Contract of the document's own Value (gemotref2). -/
import Derived.Test.YtiodphkmllcjdaaGreatRefG
import Derived.Test.YtiodphkmllcjdaaGreatReadsP
import Derived.Test.YtiodphkmllcjdaaGreatValue
section
namespace Go.Proofs.YtiodphkmllcjdaaGreat
open Go.ChangeShapes Go.WideShapes Go.ChangeAt Go.RowKit

def RValuing (l : List UInt8) (w : World) (k : Nat) (v5 v6 : Value) (wr : World) : Prop :=
  ∃ i : Nat, k + i = 8 ∧ v6 = .int .i64 ((i + 1 : Nat) : Int) ∧ v5 = .int .u64 (Tm.beNum (l.take i)) ∧ ∃ m, wr = w.drewN m

set_option maxRecDepth 100000 in
set_option maxHeartbeats 2000000 in
theorem RValue_word (s : ByteArray) (hr : Tm.right s.data.toList = true) (hk : s.data.toList.getD 0 0 = 110 ∨ s.data.toList.getD 0 0 = 117) (w : World) :
    Calls Tryz.prog 89 #[.string s] w (Drew w (.tuple #[.int .u64 (Tm.beNum (s.data.toList.drop 1)), .bool true])) := by
  have h9 := Tm.word_long hr hk
  rw [len_bytes] at h9
  have cK := fun W => RKind_calls s (by omega) W
  have hkind : Tm.kindOf s.data.toList = s.data.toList.getD 0 0 := by unfold Tm.kindOf; rw [if_pos hr]
  rw [hkind] at cK
  generalize s.data.toList.getD 0 0 = c at *
  have HK := Lib.hid cK
  obtain ⟨l, hl⟩ : ∃ l, s.data.toList.drop 1 = l := ⟨_, rfl⟩
  have hl8 : l.length = 8 := by rw [← hl, List.length_drop, len_bytes]; omega
  have hget : ∀ i (h : i < 8), l[i]? = some (s[i + 1]'(by omega)) := by
    intro i h
    rw [← hl, List.getElem?_drop, Nat.add_comm 1 i, List.getElem?_eq_getElem (by rw [len_bytes]; omega)]
    congr 1
  rw [hl]
  have HGet := Lib.hid hget
  have gk1 : (((c.toNat : Int) != 110) = false) ∨ (((c.toNat : Int) != 110) = true ∧ ((c.toNat : Int) != 117) = false) := by
    rcases hk with rfl | rfl
    · exact .inl rfl
    · exact .inr ⟨rfl, rfl⟩
  have i9 : (s.size : Int) = 9 := by omega
  have H9 := Lib.hid h9
  clear cK hkind hl hk hr hget
  rcases gk1 with g1 | ⟨g1, g2⟩
  all_goals
    go_enter Tryz.func89, Tryz.ntmps89
    go_wp2_with fail
    refine (HK.out _).mono ?_
    rintro e' w' ⟨rfl, md, rfl⟩
    go_wp2
    go_loopg [5, 6] 8 (fun k v5 v6 wr => RValuing l w k v5 v6 wr)
    case atStart => exact ⟨0, by omega, rfl, rfl, _, rfl⟩
    case round =>
      obtain ⟨i, hk, rfl, rfl, md2, rfl⟩ := hrel
      by_cases hi : i < 8
      · have hb := HGet.out i hi
        have l1 : i + 1 < s.size := by have := H9.out; omega
        obtain ⟨b, hbb⟩ : ∃ b, s[i + 1] = b := ⟨_, rfl⟩
        have htk : l.take (i + 1) = l.take i ++ [b] := by rw [List.take_add_one, hb, hbb]; rfl
        have hbs := Tm.beNum_snoc (l.take i) b
        rw [← htk] at hbs
        have hlt := Tm.beNum_lt (l.take i)
        have hlt7 : Tm.beNum (l.take i) < 72057594037927936 := by
          refine Nat.lt_of_lt_of_le hlt ?_
          have : (l.take i).length ≤ 7 := by simp; omega
          calc 256 ^ (l.take i).length ≤ 256 ^ 7 := Nat.pow_le_pow_right (by omega) this
            _ = 72057594037927936 := by decide
        obtain ⟨m, hm⟩ : ∃ m, Tm.beNum (l.take i) = m := ⟨_, rfl⟩
        rw [hm] at hbs hlt7 ⊢
        have HBS := Lib.hid hbs
        have hbn := b.toNat_lt
        have j1 : (i : Int) + 1 < 9 := by omega
        have j2 : (0 : Int) ≤ (i : Int) + 1 := by omega
        have m1 : (0 : Int) ≤ (m : Int) := by omega
        have m2 : (m : Int) < 72057594037927936 := by omega
        have m3 : (b.toNat : Int) < 256 := by omega
        clear hbs htk hlt hm hb
        go_wp2
        go_roundg (gk - 1)
        case measure => omega
        case rel => exact ⟨i + 1, by omega, by simp, by rw [HBS.out]; simp only [Value.int.injEq, true_and]; omega, _, rfl⟩
      · obtain rfl : i = 8 := by omega
        have htk : l.take 8 = l := List.take_of_length_le (by omega)
        rw [htk]
        go_wp2
        go_ret2
        exact ⟨rfl, _, rfl⟩

set_option maxHeartbeats 400000 in
theorem RValue_other (s : ByteArray) (hs : s.size ≤ maxLen) (h1 : ¬ Tm.kindOf s.data.toList = 110) (h2 : ¬ Tm.kindOf s.data.toList = 117) (w : World) :
    Calls Tryz.prog 89 #[.string s] w (Drew w (.tuple #[.int .u64 0, .bool false])) := by
  have HK := Lib.hid (fun W => RKind_calls s hs W)
  have g1 : (((Tm.kindOf s.data.toList).toNat : Int) != 110) = true := kind_no (n := 110) (by omega) h1
  have g2 : (((Tm.kindOf s.data.toList).toNat : Int) != 117) = true := kind_no (n := 117) (by omega) h2
  generalize Tm.kindOf s.data.toList = c at *
  clear h1 h2
  go_enter Tryz.func89, Tryz.ntmps89
  go_wp2_with fail
  refine (HK.out _).mono ?_
  rintro e' w' ⟨rfl, md, rfl⟩
  go_wp2
  go_ret2
  exact ⟨rfl, _, rfl⟩

theorem RValue_calls (s : ByteArray) (hs : s.size ≤ maxLen) (w : World) :
    Calls Tryz.prog 89 #[.string s] w (Drew w (.tuple #[.int .u64 (Tm.valueT s.data.toList).1, .bool (Tm.valueT s.data.toList).2])) := by
  unfold Tm.valueT
  by_cases h1 : Tm.kindOf s.data.toList = 110
  · rw [if_pos (.inl h1)]
    obtain ⟨k1, k2⟩ := Tm.kind_right h1 (by decide)
    exact RValue_word s k1 (.inl k2) w
  by_cases h2 : Tm.kindOf s.data.toList = 117
  · rw [if_pos (.inr h2)]
    obtain ⟨k1, k2⟩ := Tm.kind_right h2 (by decide)
    exact RValue_word s k1 (.inr k2) w
  rw [if_neg (fun h => h.elim h1 h2)]
  exact RValue_other s hs h1 h2 w

end Go.Proofs.YtiodphkmllcjdaaGreat
end
