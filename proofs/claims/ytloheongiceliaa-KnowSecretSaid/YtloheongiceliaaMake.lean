/- Contracts of the makers of leaves: Gen, Text, Private, Name, Number: the bytes that the chapter names, for every argument. -/
import Derived.Test.YtloheongiceliaaTop
import Derived.Laws.IdiomStrings
namespace Go.Proofs.Ytloheongiceliaa
open Go.ChangeShapes Go.WideShapes Go.ChangeAt Go.RowKit

theorem conv_lit (w : World) (l : List UInt8) (dst c : Nat) (t : TypeId) (hd : Try.prog.underlying dst = some .string) :
    (convert 67 dst (.slice (some ⟨w.heap.size, 0, none⟩) l.length c)).run Try.prog (w.alloc (.cells (l.map fun b => Value.int .u8 (b.toNat : Int)).toArray t)) =
      .ok (.string ⟨l.toArray⟩) (w.alloc (.cells (l.map fun b => Value.int .u8 (b.toNat : Int)).toArray t)) := by
  refine run_convert_bytes_back _ _ _ 5 _ _ l Try.underlying67 Try.underlying5 hd ?_
  intro j hj
  have h := World.news_of_block (heap_alloc_new w (.cells (l.map fun b => Value.int .u8 (b.toNat : Int)).toArray t)) j (.int .u8 (l[j].toNat : Int)) (by simp [hj])
  exact h

set_option maxHeartbeats 400000 in
theorem Gen_calls (w : World) : Calls Try.prog 15 #[] w (One w (.string ⟨#[103]⟩)) := by
  have hc : ∀ W : World, (convert 67 24 (.slice (some ⟨W.heap.size, 0, none⟩) 1 1)).run Try.prog (W.alloc (.cells #[.int .u8 103] 5)) = .ok (.string ⟨#[103]⟩) (W.alloc (.cells #[.int .u8 103] 5)) :=
    fun W => conv_lit W [103] 24 1 5 Try.underlying24
  go_enter Try.func15, Try.ntmps15
  go_wp2
  go_ret
  exact ⟨rfl, (Below.refl _ _).alloc (Nat.le_refl _) _⟩

set_option maxHeartbeats 400000 in
theorem Text_long_calls (s : ByteArray) (hs : s.size ≤ maxLen) (h : 100 < s.size) (w : World) :
    Calls Try.prog 7 #[.string s] w (One w (.tuple #[.string ⟨#[]⟩, .int .i64 3])) := by
  unfold maxLen at hs
  have h' : (100 : Int) < (s.size : Int) := by omega
  go_enter Try.func7, Try.ntmps7
  go_wp2
  all_goals first | omega | (go_ret2; exact ⟨rfl, Below.refl _ _⟩)

set_option maxRecDepth 100000 in
set_option maxHeartbeats 400000 in
theorem Text_calls (s : ByteArray) (h : s.size ≤ 100) (w : World) :
    Calls Try.prog 7 #[.string s] w (One w (.tuple #[.string ⟨(116 :: 0 :: UInt8.ofNat s.size :: s.data.toList).toArray⟩, .int .i64 0])) := by
  have h' : (s.size : Int) ≤ 100 := by omega
  have hc : ∀ W : World, (convert 67 24 (.slice (some ⟨W.heap.size, 0, none⟩) 3 3)).run Try.prog (W.alloc (.cells #[.int .u8 116, .int .u8 ((s.size : Int) / 256), .int .u8 (s.size : Int)] 5)) = .ok (.string ⟨#[116, 0, UInt8.ofNat s.size]⟩) (W.alloc (.cells #[.int .u8 116, .int .u8 ((s.size : Int) / 256), .int .u8 (s.size : Int)] 5)) := by
    intro W
    have := conv_lit W [116, 0, UInt8.ofNat s.size] 24 3 5 Try.underlying24
    have e : ((UInt8.ofNat s.size).toNat : Int) = (s.size : Int) := by rw [UInt8.toNat_ofNat']; omega
    have e2 : ((s.size : Int) / 256) = 0 := by omega
    have key : (List.map (fun b : UInt8 => Value.int .u8 (b.toNat : Int)) [116, 0, UInt8.ofNat s.size]).toArray = #[.int .u8 116, .int .u8 ((s.size : Int) / 256), .int .u8 (s.size : Int)] := by rw [e2, ← e]; rfl
    rw [key] at this
    exact this
  have hcat : (⟨#[116, 0, UInt8.ofNat s.size]⟩ ++ s : ByteArray) = ⟨(116 :: 0 :: UInt8.ofNat s.size :: s.data.toList).toArray⟩ := by
    obtain ⟨l, rfl⟩ := of_list s
    exact ByteArray.mk_append_mk [116, 0, UInt8.ofNat _] l
  have HC := Lib.hid hcat
  clear hcat
  generalize UInt8.ofNat s.size = u at *
  go_enter Try.func7, Try.ntmps7
  go_wp2
  all_goals first | omega | (go_ret2; exact ⟨by rw [← HC.out]; rfl, (Below.refl _ _).alloc (Nat.le_refl _) _⟩)

set_option maxHeartbeats 400000 in
theorem Private_no_calls (p : Int) (h : p < 1 ∨ 8 < p) (w : World) :
    Calls Try.prog 9 #[.int .i64 p] w (One w (.tuple #[.string ⟨#[]⟩, .int .i64 1])) := by
  by_cases h1 : p < 1
  · go_enter Try.func9, Try.ntmps9
    go_wp2
    all_goals first | omega | (go_ret2; exact ⟨rfl, Below.refl _ _⟩)
  · have h2 : 8 < p := by omega
    have h3 : decide (p < 1) = false := by simp; omega
    go_enter Try.func9, Try.ntmps9
    go_wp2
    all_goals first | omega | (go_ret2; exact ⟨rfl, Below.refl _ _⟩)

set_option maxRecDepth 100000 in
set_option maxHeartbeats 400000 in
theorem Private_calls (p : Int) (h0 : 1 ≤ p) (h8 : p ≤ 8) (w : World) :
    Calls Try.prog 9 #[.int .i64 p] w (One w (.tuple #[.string ⟨#[105, UInt8.ofNat p.toNat]⟩, .int .i64 0])) := by
  have hc : ∀ W : World, (convert 67 24 (.slice (some ⟨W.heap.size, 0, none⟩) 2 2)).run Try.prog (W.alloc (.cells #[.int .u8 105, .int .u8 p] 5)) = .ok (.string ⟨#[105, UInt8.ofNat p.toNat]⟩) (W.alloc (.cells #[.int .u8 105, .int .u8 p] 5)) := by
    intro W
    have := conv_lit W [105, UInt8.ofNat p.toNat] 24 2 5 Try.underlying24
    have e : ((UInt8.ofNat p.toNat).toNat : Int) = p := by rw [UInt8.toNat_ofNat']; omega
    have key : (List.map (fun b : UInt8 => Value.int .u8 (b.toNat : Int)) [105, UInt8.ofNat p.toNat]).toArray = #[.int .u8 105, .int .u8 p] := by
      have : (List.map (fun b : UInt8 => Value.int .u8 (b.toNat : Int)) [105, UInt8.ofNat p.toNat]).toArray = #[.int .u8 105, .int .u8 ((UInt8.ofNat p.toNat).toNat : Int)] := rfl
      rw [this, e]
    rw [key] at this
    exact this
  generalize UInt8.ofNat p.toNat = u at *
  go_enter Try.func9, Try.ntmps9
  go_wp2
  all_goals first | omega | (go_ret2; exact ⟨rfl, (Below.refl _ _).alloc (Nat.le_refl _) _⟩)

end Go.Proofs.Ytloheongiceliaa
