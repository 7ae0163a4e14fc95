/- Contract of the document's own private keys (gemotref1.Private). -/
import Derived.Test.YtccdpimmmicgaaaLaw
namespace Go.Proofs.Ytccdpimmmicgaaa
open Go.ChangeShapes Go.WideShapes Go.ChangeAt Go.RowKit

theorem cat_one (c : UInt8) (l : List UInt8) : (⟨#[c]⟩ ++ ⟨l.toArray⟩ : ByteArray) = ⟨(c :: l).toArray⟩ := ByteArray.mk_append_mk [c] l

set_option maxHeartbeats 400000 in
theorem refPrivate_no_calls (p : Int) (h : p < 1 ∨ 8 < p) (w : World) :
    Calls Try.prog 69 #[.int .i64 p] w (One w (.tuple #[.string ⟨#[]⟩, .int .i64 1])) := by
  by_cases h1 : p < 1
  · go_enter Try.func69, Try.ntmps69
    go_wp2
    all_goals first | omega | (go_ret2; exact ⟨rfl, Below.refl _ _⟩)
  · have h2 : 8 < p := by omega
    have h3 : decide (p < 1) = false := by simp; omega
    go_enter Try.func69, Try.ntmps69
    go_wp2
    all_goals first | omega | (go_ret2; exact ⟨rfl, Below.refl _ _⟩)

set_option maxRecDepth 100000 in
set_option maxHeartbeats 400000 in
theorem refPrivate_calls (p : Int) (h0 : 1 ≤ p) (h8 : p ≤ 8) (w : World) :
    Calls Try.prog 69 #[.int .i64 p] w (One w (.tuple #[.string ⟨#[105, UInt8.ofNat p.toNat]⟩, .int .i64 0])) := by
  have hc : ∀ W : World, (convert 80 9 (.slice (some ⟨W.heap.size, 0, none⟩) 1 1)).run Try.prog (W.alloc (.cells #[.int .u8 p] 5)) = .ok (.string ⟨#[UInt8.ofNat p.toNat]⟩) (W.alloc (.cells #[.int .u8 p] 5)) := by
    intro W
    have := conv_lit W [UInt8.ofNat p.toNat] 9 1 5 Try.underlying9
    have e : ((UInt8.ofNat p.toNat).toNat : Int) = p := by rw [UInt8.toNat_ofNat']; omega
    have key : (List.map (fun b : UInt8 => Value.int .u8 (b.toNat : Int)) [UInt8.ofNat p.toNat]).toArray = #[.int .u8 p] := by
      have : (List.map (fun b : UInt8 => Value.int .u8 (b.toNat : Int)) [UInt8.ofNat p.toNat]).toArray = #[.int .u8 ((UInt8.ofNat p.toNat).toNat : Int)] := rfl
      rw [this, e]
    rw [key] at this
    exact this
  have hcat : (⟨#[105]⟩ ++ ⟨#[UInt8.ofNat p.toNat]⟩ : ByteArray) = ⟨#[105, UInt8.ofNat p.toNat]⟩ := cat_one 105 [UInt8.ofNat p.toNat]
  have HC := Lib.hid hcat
  clear hcat
  generalize UInt8.ofNat p.toNat = u at *
  go_enter Try.func69, Try.ntmps69
  go_wp2
  all_goals first | omega | (go_ret2; exact ⟨by rw [← HC.out]; rfl, (Below.refl _ _).alloc (Nat.le_refl _) _⟩)

end Go.Proofs.Ytccdpimmmicgaaa
