/- Contracts of the leaf functions of package term's reader: what each returns for every argument, nothing that lay in memory being changed. -/
import Derived.Test.YtckmpbmlneionaaRows
import Derived.Test.YtckmpbmlneionaaPure
import Derived.WalkKit
import Derived.ProofKit
import Derived.OpenShut
import Derived.Lib.Hide
import Derived.Deep.QuietTactic
import Derived.BigQuiet
namespace Go.Proofs.Ytckmpbmlneionaa
open Go.ChangeShapes Go.WideShapes Go.ChangeAt Go.RowKit

theorem of_list (s : ByteArray) : ∃ l : List UInt8, s = ⟨l.toArray⟩ := ⟨s.data.toList, by cases s; simp⟩
theorem u8_iff (c : UInt8) (n : Nat) (h : n < 256) : (c.toNat : Int) = (n : Int) ↔ c = UInt8.ofNat n := by
  constructor
  · intro e
    apply UInt8.toNat_inj.1
    rw [UInt8.toNat_ofNat']
    omega
  · rintro rfl
    rw [UInt8.toNat_ofNat']
    omega
theorem u8_yes {c : UInt8} {n : Nat} (hn : n < 256) (h : c = UInt8.ofNat n) : ((c.toNat : Int) == (n : Int)) = true := by
  simp [(u8_iff c n hn).2 h]
theorem u8_no {c : UInt8} {n : Nat} (hn : n < 256) (h : ¬ c = UInt8.ofNat n) : ((c.toNat : Int) == (n : Int)) = false := by
  simp only [beq_eq_false_iff_ne, ne_eq]
  exact fun e => h ((u8_iff c n hn).1 e)
theorem getD_bytes (s : ByteArray) (i : Nat) (h : i < s.size) : s.data.toList.getD i 0 = s[i] := by
  have h' : i < s.data.toList.length := by simpa using h
  rw [List.getD_eq_getElem?_getD, List.getElem?_eq_getElem h']
  rfl
theorem len_bytes (s : ByteArray) : s.data.toList.length = s.size := by simp
theorem nil_bytes (s : ByteArray) : s.data.toList = [] ↔ s.size = 0 := by
  rw [← len_bytes, List.length_eq_zero_iff]
theorem bytes_cons (s : ByteArray) (h : 0 < s.size) : s.data.toList = s[0] :: s.data.toList.tail := by
  have h2 := getD_bytes s 0 h
  cases hs : s.data.toList with
  | nil => rw [nil_bytes] at hs; omega
  | cons a l => rw [hs] at h2; simp at h2; rw [h2]; rfl
theorem isEmpty_yes (s : ByteArray) (h : s.size = 0) : (s.toList == ([] : List UInt8)) = true := by
  rw [ByteArray.toList_eq, (nil_bytes s).2 h]; rfl
theorem isEmpty_no (s : ByteArray) (h : 0 < s.size) : (s.toList == ([] : List UInt8)) = false := by
  rw [ByteArray.toList_eq, bytes_cons s h]; rfl

set_option maxHeartbeats 400000 in
theorem beginsElement_calls (s : ByteArray) (w : World) :
    Calls Try.prog 99 #[.string s] w fun e w' => e = .returned (.bool (Tm.element s.data.toList)) ∧ w = w' := by
  by_cases h0 : s.size = 0
  · have hf : Tm.element s.data.toList = false := by rw [(nil_bytes s).2 h0]; rfl
    rw [hf]
    have he : s.toList = [] := by rw [ByteArray.toList_eq, (nil_bytes s).2 h0]
    go_enter Try.func99, Try.ntmps99
    go_wp2
    go_ret
    simp
  · have h1 : 0 < s.size := by omega
    have h1' : (0 : Int) < (s.size : Int) := by omega
    have hc := bytes_cons s h1
    have he : (s.toList == ([] : List UInt8)) = false := isEmpty_no s h1
    have he' : ¬ s.toList = [] := by simpa using he
    have he2 : (s.toList.isEmpty) = false := by simpa using he
    rw [hc]
    have HC := Lib.hid hc
    clear hc
    by_cases e1 : s[0] = 103
    · have hf : Tm.element (s[0] :: s.data.toList.tail) = true := by simp [Tm.element, e1]
      rw [hf]
      have g1 : ((s[0].toNat : Int) == 103) = true := u8_yes (n := 103) (by omega) e1
      clear e1 hf
      go_enter Try.func99, Try.ntmps99
      go_wp2
      all_goals go_ret
      all_goals simp_all
    · have hf : Tm.element (s[0] :: s.data.toList.tail) = decide (s[0] = 101) := by
        rw [Bool.eq_iff_iff]; simp [Tm.element]; exact fun h => absurd h e1
      rw [hf]
      have g1 : ((s[0].toNat : Int) == 103) = false := u8_no (n := 103) (by omega) e1
      clear e1 hf
      have g2 : decide (s[0] = 101) = ((s[0].toNat : Int) == 101) := by
        rw [Bool.eq_iff_iff]; simp; exact (u8_iff s[0] 101 (by omega)).symm
      rw [g2]
      have G2 := Lib.hid g2
      clear g2
      go_enter Try.func99, Try.ntmps99
      go_wp2
      all_goals go_ret
      all_goals simp_all

theorem or_bytes (a b : UInt8) : bits .or .i64 ((a.toNat : Int) * 256) (b.toNat : Int) = ((a.toNat * 256 + b.toNat : Nat) : Int) := by
  have ha := a.toNat_lt
  have hb := b.toNat_lt
  have h2 : ((a.toNat : Int) * 256) = ((a.toNat * 256 : Nat) : Int) := by omega
  rw [h2]
  have e1 : (BitVec.ofInt 64 ((a.toNat * 256 : Nat) : Int)).toNat = a.toNat * 256 := by
    rw [BitVec.ofInt_natCast, BitVec.toNat_ofNat]; exact Nat.mod_eq_of_lt (by omega)
  have e2 : (BitVec.ofInt 64 (b.toNat : Int)).toNat = b.toNat := by
    rw [BitVec.ofInt_natCast, BitVec.toNat_ofNat]; exact Nat.mod_eq_of_lt (by omega)
  have hx : a.toNat * 256 ||| b.toNat = a.toNat * 256 + b.toNat := by
    have := Nat.shiftLeft_add_eq_or_of_lt (a := a.toNat) (b := b.toNat) (i := 8) (by omega)
    rw [Nat.shiftLeft_eq] at this
    exact this.symm
  show IntKind.i64.wrap ((BitVec.ofInt 64 ((a.toNat * 256 : Nat) : Int) ||| BitVec.ofInt 64 (b.toNat : Int)).toNat : Int) = _
  rw [BitVec.toNat_or, e1, e2, hx, IntKind.wrap_i64]
  omega

set_option maxHeartbeats 400000 in
theorem textHead_calls (s : ByteArray) (hs : s.size ≤ maxLen) (w : World) :
    Calls Try.prog 111 #[.string s] w fun e w' => e = .returned (.int .i64 (Tm.textHead s.data.toList)) ∧ ∃ n, w' = w.drewN n := by
  unfold maxLen at hs
  by_cases h3 : s.size < 3
  · have hf : Tm.textHead s.data.toList = 0 := by unfold Tm.textHead; rw [len_bytes, if_pos h3]
    rw [hf]
    go_enter Try.func111, Try.ntmps111
    go_wp2
    go_ret
    exact ⟨rfl, 0, rfl⟩
  · have hf : Tm.textHead s.data.toList = if 100 < s[1].toNat * 256 + s[2].toNat then 0 else 3 + (s[1].toNat * 256 + s[2].toNat) := by
      unfold Tm.textHead; rw [len_bytes, if_neg h3, getD_bytes s 1 (by omega), getD_bytes s 2 (by omega)]
    rw [hf]
    have HF := Lib.hid hf
    clear hf
    have h1 : (1 : Int) < (s.size : Int) := by omega
    have h2 : (2 : Int) < (s.size : Int) := by omega
    have h1' : 1 < s.size := by omega
    have h2' : 2 < s.size := by omega
    have g3 : decide ((s.size : Int) < 3) = false := by simp; omega
    have hb1 := s[1].toNat_lt
    have hb2 := s[2].toNat_lt
    have hor := or_bytes s[1] s[2]
    by_cases hm : 100 < s[1].toNat * 256 + s[2].toNat
    · rw [if_pos hm]
      have hm' : (100 : Int) < ((s[1].toNat * 256 + s[2].toNat : Nat) : Int) := by omega
      go_enter Try.func111, Try.ntmps111
      go_wp2
      go_quiet (fail)
      go_wp2
      all_goals first
        | omega
        | (go_ret; exact ⟨rfl, _, rfl⟩)
    · rw [if_neg hm]
      go_enter Try.func111, Try.ntmps111
      go_wp2
      go_quiet (fail)
      go_wp2
      all_goals first
        | omega
        | (go_ret; exact ⟨congrArg (fun z => Ending.returned (.int .i64 z)) (by omega), _, rfl⟩)

end Go.Proofs.Ytckmpbmlneionaa
