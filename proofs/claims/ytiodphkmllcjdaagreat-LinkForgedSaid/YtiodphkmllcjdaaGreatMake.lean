/- Contracts of the makers of leaves: Gen, Text, Private, Name, Number: the bytes that the chapter names, for every argument. -/
import Derived.Test.YtiodphkmllcjdaaGreatTop
import Derived.Laws.IdiomStrings
namespace Go.Proofs.YtiodphkmllcjdaaGreat
open Go.ChangeShapes Go.WideShapes Go.ChangeAt Go.RowKit

theorem conv_lit (w : World) (l : List UInt8) (dst c : Nat) (t : TypeId) (hd : Tryz.prog.underlying dst = some .string) :
    (convert 83 dst (.slice (some ⟨w.heap.size, 0, none⟩) l.length c)).run Tryz.prog (w.alloc (.cells (l.map fun b => Value.int .u8 (b.toNat : Int)).toArray t)) =
      .ok (.string ⟨l.toArray⟩) (w.alloc (.cells (l.map fun b => Value.int .u8 (b.toNat : Int)).toArray t)) := by
  refine run_convert_bytes_back _ _ _ 5 _ _ l Tryz.underlying83 Tryz.underlying5 hd ?_
  intro j hj
  have h := World.news_of_block (heap_alloc_new w (.cells (l.map fun b => Value.int .u8 (b.toNat : Int)).toArray t)) j (.int .u8 (l[j].toNat : Int)) (by simp [hj])
  exact h

set_option maxHeartbeats 400000 in
theorem Private_no_calls (p : Int) (h : p < 1 ∨ 8 < p) (w : World) :
    Calls Tryz.prog 13 #[.int .i64 p] w (One w (.tuple #[.string ⟨#[]⟩, .int .i64 1])) := by
  by_cases h1 : p < 1
  · go_enter Tryz.func13, Tryz.ntmps13
    go_wp2
    all_goals first | omega | (go_ret2; exact ⟨rfl, Below.refl _ _⟩)
  · have h2 : 8 < p := by omega
    have h3 : decide (p < 1) = false := by simp; omega
    go_enter Tryz.func13, Tryz.ntmps13
    go_wp2
    all_goals first | omega | (go_ret2; exact ⟨rfl, Below.refl _ _⟩)

set_option maxRecDepth 100000 in
set_option maxHeartbeats 400000 in
theorem Private_calls (p : Int) (h0 : 1 ≤ p) (h8 : p ≤ 8) (w : World) :
    Calls Tryz.prog 13 #[.int .i64 p] w (One w (.tuple #[.string ⟨#[105, UInt8.ofNat p.toNat]⟩, .int .i64 0])) := by
  have hc : ∀ W : World, (convert 83 46 (.slice (some ⟨W.heap.size, 0, none⟩) 2 2)).run Tryz.prog (W.alloc (.cells #[.int .u8 105, .int .u8 p] 5)) = .ok (.string ⟨#[105, UInt8.ofNat p.toNat]⟩) (W.alloc (.cells #[.int .u8 105, .int .u8 p] 5)) := by
    intro W
    have := conv_lit W [105, UInt8.ofNat p.toNat] 46 2 5 Tryz.underlying46
    have e : ((UInt8.ofNat p.toNat).toNat : Int) = p := by rw [UInt8.toNat_ofNat']; omega
    have key : (List.map (fun b : UInt8 => Value.int .u8 (b.toNat : Int)) [105, UInt8.ofNat p.toNat]).toArray = #[.int .u8 105, .int .u8 p] := by
      have : (List.map (fun b : UInt8 => Value.int .u8 (b.toNat : Int)) [105, UInt8.ofNat p.toNat]).toArray = #[.int .u8 105, .int .u8 ((UInt8.ofNat p.toNat).toNat : Int)] := rfl
      rw [this, e]
    rw [key] at this
    exact this
  generalize UInt8.ofNat p.toNat = u at *
  go_enter Tryz.func13, Tryz.ntmps13
  go_wp2
  all_goals first | omega | (go_ret2; exact ⟨rfl, (Below.refl _ _).alloc (Nat.le_refl _) _⟩)

end Go.Proofs.YtiodphkmllcjdaaGreat
