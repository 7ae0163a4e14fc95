/- Contract of parts.Value, for every text. -/
import Derived.Test.YtckmpbmlneionaaPFnP
import Derived.Laws.IdiomStrings
namespace Go.Proofs.Ytckmpbmlneionaa
open Go.ChangeShapes Go.WideShapes Go.ChangeAt Go.RowKit

namespace Tm
def beNum (l : List UInt8) : Nat := l.foldl (fun n b => n * 256 + b.toNat) 0
theorem beNum_snoc (l : List UInt8) (b : UInt8) : beNum (l ++ [b]) = beNum l * 256 + b.toNat := by simp [beNum]
theorem beNum_lt (l : List UInt8) : beNum l < 256 ^ l.length := by
  have h : ∀ (l : List UInt8) (n : Nat), l.foldl (fun n b => n * 256 + b.toNat) n < (n + 1) * 256 ^ l.length := by
    intro l
    induction l with
    | nil => intro n; simp
    | cons b l ih =>
      intro n
      have h1 := ih (n * 256 + b.toNat)
      have h2 := b.toNat_lt
      simp only [List.foldl_cons, List.length_cons, Nat.pow_succ]
      refine Nat.lt_of_lt_of_le h1 ?_
      rw [Nat.mul_comm (256 ^ l.length) 256, ← Nat.mul_assoc]
      exact Nat.mul_le_mul_right _ (by omega)
  have := h l 0
  simpa [beNum] using this
def valueT (t : List UInt8) : Nat × Bool := if kindOf t = 110 ∨ kindOf t = 117 then (beNum (t.drop 1), true) else (0, false)
theorem word_long {t : List UInt8} (h : right t = true) (hk : t.getD 0 0 = 110 ∨ t.getD 0 0 = 117) : t.length = 9 := by
  obtain ⟨hb, h0⟩ := head_of_right h
  have hh : headOf t = (9, 0) := by unfold headOf; rw [if_neg (right_ne_nil h).1]; rcases hk with hk | hk <;> rw [hk] <;> simp
  have ho : ofL t = [] := by unfold ofL; rw [hb, hh]; rfl
  have hf := (ofL_ok h).1
  rw [ho, hb, hh] at hf
  simp only [List.flatten_nil] at hf
  have h1 : t.length ≤ 9 := by
    have := congrArg List.length hf
    simp only [List.length_nil, List.length_drop] at this
    omega
  obtain ⟨_, h2⟩ := begin_some (l := t) (by rw [hb]; exact h0)
  rw [hh] at h2
  simp only at h2
  omega
end Tm

theorem bytes_at (s : ByteArray) (W : World) : ∃ (cp : Nat) (V : World), (convert 31 129 (.string s)).run Try.prog W = .ok (.slice (some ⟨W.heap.size, 0, none⟩) s.size cp) V ∧
    (∀ j b, s.data.toList[j]? = some b → V.cell? ⟨W.heap.size, j, none⟩ = some (.int .u8 b.toNat)) ∧ Below W.heap.size W V := by
  refine ⟨_, _, run_bytes_of_string W 31 129 5 s Try.underlying31 Try.underlying129 Try.underlying5, ?_, ?_⟩
  · intro j b hj
    have hjl : j < s.data.size := by
      have := (List.getElem?_eq_some_iff.1 hj).1
      simpa using this
    have hb : s.data[j] = b := by
      have := (List.getElem?_eq_some_iff.1 hj).2
      simpa using this
    rw [← hb]
    have h1 := heap_alloc_new W.drew (.cells (bytesRow s (grownCap W s.size 0 5)) 5 ((bytesRow s (grownCap W s.size 0 5)).size, (bytesRow s (grownCap W s.size 0 5)).size + 1))
    have h2 := bytesRow_at s (grownCap W s.size 0 5) j hjl
    simp only [World.cell?]
    have h3 : (W.drew.alloc (.cells (bytesRow s (grownCap W s.size 0 5)) 5 ((bytesRow s (grownCap W s.size 0 5)).size, (bytesRow s (grownCap W s.size 0 5)).size + 1))).heap[W.heap.size]? = _ := h1
    rw [h3]
    simpa using h2
  · exact (below_drewN (Below.refl W.heap.size W) 1).alloc (Nat.le_refl _) _

theorem or_word (m : Nat) (b : UInt8) (hm : m < 72057594037927936) : bits .or .u64 ((m : Int) * 256) (IntKind.u64.wrap (b.toNat : Int)) = ((m * 256 + b.toNat : Nat) : Int) := by
  have hb := b.toNat_lt
  have h2 : ((m : Int) * 256) = ((m * 256 : Nat) : Int) := by omega
  have h3 : IntKind.u64.wrap (b.toNat : Int) = (b.toNat : Int) := by
    rw [IntKind.wrap_u64]; omega
  rw [h2, h3]
  have e1 : (BitVec.ofInt 64 ((m * 256 : Nat) : Int)).toNat = m * 256 := by
    rw [BitVec.ofInt_natCast, BitVec.toNat_ofNat]; exact Nat.mod_eq_of_lt (by omega)
  have e2 : (BitVec.ofInt 64 (b.toNat : Int)).toNat = b.toNat := by
    rw [BitVec.ofInt_natCast, BitVec.toNat_ofNat]; exact Nat.mod_eq_of_lt (by omega)
  have hx : m * 256 ||| b.toNat = m * 256 + b.toNat := by
    have := Nat.shiftLeft_add_eq_or_of_lt (a := m) (b := b.toNat) (i := 8) (by omega)
    rw [Nat.shiftLeft_eq] at this
    exact this.symm
  show IntKind.u64.wrap ((BitVec.ofInt 64 ((m * 256 : Nat) : Int) ||| BitVec.ofInt 64 (b.toNat : Int)).toNat : Int) = _
  rw [BitVec.toNat_or, e1, e2, hx, IntKind.wrap_u64]
  omega

def Valuing (l : List UInt8) (V : World) (k : Nat) (v4 v16 : Value) (wr : World) : Prop :=
  ∃ i : Nat, k + i = 8 ∧ v16 = .int .i64 i ∧ v4 = .int .u64 (Tm.beNum (l.take i)) ∧ wr = V

set_option maxRecDepth 100000 in
set_option maxHeartbeats 2000000 in
theorem Value_word (s : ByteArray) (hr : Tm.right s.data.toList = true) (hk : s.data.toList.getD 0 0 = 110 ∨ s.data.toList.getD 0 0 = 117) (w : World) :
    Calls Try.prog 60 #[.string s] w (One w (.tuple #[.int .u64 (Tm.beNum (s.data.toList.drop 1)), .bool true])) := by
  have h9 := Tm.word_long hr hk
  rw [len_bytes] at h9
  have cK := fun W => Kind_calls s (by unfold maxLen; omega) W
  have hkind : Tm.kindOf s.data.toList = s.data.toList.getD 0 0 := by unfold Tm.kindOf; rw [if_pos hr]
  rw [hkind] at cK
  generalize s.data.toList.getD 0 0 = c at *
  have HK := Lib.hid cK
  obtain ⟨l, hl⟩ : ∃ l, s.data.toList.drop 1 = l := ⟨_, rfl⟩
  have hl8 : l.length = 8 := by rw [← hl, List.length_drop, len_bytes]; omega
  have e1 := extract_eq s 1 s.size
  rw [List.take_of_length_le (by simp), hl] at e1
  rw [hl]
  have i1 : (1 : Int) ≤ (s.size : Int) := by omega
  have HB := Lib.hid (fun W => bytes_at ⟨l.toArray⟩ W)
  have gk1 : ((c.toNat : Int) == 110) = true ∨ (((c.toNat : Int) == 110) = false ∧ ((c.toNat : Int) == 117) = true) := by
    rcases hk with rfl | rfl
    · exact .inl rfl
    · exact .inr ⟨rfl, rfl⟩
  have H9 := Lib.hid h9
  clear cK hkind hl hk hr h9
  rcases gk1 with g1 | ⟨g1, g2⟩
  all_goals
    go_enter Try.func60, Try.ntmps60
    go_wp2_with fail
    refine (HK.out _).mono ?_
    rintro e' w1 ⟨rfl, b1⟩
    obtain ⟨cp, V, hcv, hcell, bV⟩ := HB.out w1
    have HCell := Lib.hid hcell
    have B := b1.trans (bV.mono b1.size)
    clear hcell bV b1
    go_wp2
    go_loopg [4, 16] 8 (fun k v4 v16 wr => Valuing l V k v4 v16 wr)
    case atStart => exact ⟨0, by omega, rfl, rfl, rfl⟩
    case round =>
      obtain ⟨i, hk, rfl, rfl, rfl⟩ := hrel
      by_cases hi : i < 8
      · obtain ⟨b, hb⟩ : ∃ b, l[i]? = some b := ⟨_, List.getElem?_eq_getElem (by omega)⟩
        have hc := HCell.out i b hb
        have htk : l.take (i + 1) = l.take i ++ [b] := by rw [List.take_add_one, hb]; rfl
        have hbs := Tm.beNum_snoc (l.take i) b
        rw [← htk] at hbs
        have hlt := Tm.beNum_lt (l.take i)
        have hlt7 : Tm.beNum (l.take i) < 72057594037927936 := by
          refine Nat.lt_of_lt_of_le hlt ?_
          have : (l.take i).length ≤ 7 := by simp; omega
          calc 256 ^ (l.take i).length ≤ 256 ^ 7 := Nat.pow_le_pow_right (by omega) this
            _ = 72057594037927936 := by decide
        obtain ⟨m, hm⟩ : ∃ m, Tm.beNum (l.take i) = m := ⟨_, rfl⟩
        rw [hm] at hbs hlt7 ⊢
        have HBS := Lib.hid hbs
        have j1 : (i : Int) < 8 := by omega
        have j2 : (0 : Int) ≤ (i : Int) := by omega
        have m1 : (0 : Int) ≤ (m : Int) := by omega
        have m2 : (m : Int) < 72057594037927936 := by omega
        clear hbs htk hlt hm hb
        go_wp2
        go_roundg (gk - 1)
        case measure => omega
        case rel => exact ⟨i + 1, by omega, rfl, by rw [or_word m b hlt7, HBS.out], rfl⟩
      · obtain rfl : i = 8 := by omega
        have htk : l.take 8 = l := List.take_of_length_le (by omega)
        rw [htk]
        go_wp2
        go_ret2
        exact ⟨rfl, B⟩

set_option maxHeartbeats 400000 in
theorem Value_other (s : ByteArray) (hs : s.size ≤ maxLen) (h1 : ¬ Tm.kindOf s.data.toList = 110) (h2 : ¬ Tm.kindOf s.data.toList = 117) (w : World) :
    Calls Try.prog 60 #[.string s] w (One w (.tuple #[.int .u64 0, .bool false])) := by
  have HK := Lib.hid (fun W => Kind_calls s hs W)
  have g1 : (((Tm.kindOf s.data.toList).toNat : Int) == 110) = false := u8_no (n := 110) (by omega) h1
  have g2 : (((Tm.kindOf s.data.toList).toNat : Int) == 117) = false := u8_no (n := 117) (by omega) h2
  generalize Tm.kindOf s.data.toList = c at *
  clear h1 h2
  go_enter Try.func60, Try.ntmps60
  go_wp2_with fail
  refine (HK.out _).mono ?_
  rintro e' w1 ⟨rfl, b1⟩
  go_wp2
  go_ret2
  exact ⟨rfl, b1⟩

theorem Value_calls (s : ByteArray) (hs : s.size ≤ maxLen) (w : World) :
    Calls Try.prog 60 #[.string s] w (One w (.tuple #[.int .u64 (Tm.valueT s.data.toList).1, .bool (Tm.valueT s.data.toList).2])) := by
  unfold Tm.valueT
  by_cases h1 : Tm.kindOf s.data.toList = 110
  · rw [if_pos (.inl h1)]
    obtain ⟨k1, k2⟩ := Tm.kind_right h1 (by decide)
    exact Value_word s k1 (.inl k2) w
  by_cases h2 : Tm.kindOf s.data.toList = 117
  · rw [if_pos (.inr h2)]
    obtain ⟨k1, k2⟩ := Tm.kind_right h2 (by decide)
    exact Value_word s k1 (.inr k2) w
  rw [if_neg (fun h => h.elim h1 h2)]
  exact Value_other s hs h1 h2 w

end Go.Proofs.Ytckmpbmlneionaa
