/- Contract of the laws' own has: is a term one of a row's? -/
import Derived.Test.YtanfhnpnpdecnaaPTaken
namespace Go.Proofs.Ytanfhnpnpdecnaa.L2
open Go.ChangeShapes Go.WideShapes Go.ChangeAt Go.RowKit

def Looking (x : List UInt8) (ps : List (List UInt8)) (w : World) (k : Nat) (v5 : Value) (wr : World) : Prop := ∃ i : Nat, k + i = ps.length ∧ v5 = .int .i64 i ∧ x ∉ ps.take i ∧ wr = w

set_option maxRecDepth 100000 in
set_option maxHeartbeats 1000000 in
theorem has_calls (ps : List (List UInt8)) (x : List UInt8) (v : Value) (w : World) (hn : ps.length ≤ 1000000) (h : Reads w v ps) (b : Bool) (hb : b = true ↔ x ∈ ps) :
    Calls Try.prog 24 #[v, .string ⟨x.toArray⟩] w fun e w' => e = .returned (.bool b) ∧ w = w' := by
  obtain ⟨A, c, rfl, h1⟩ := h
  have HH := Lib.hid h1
  have HB := Lib.hid hb
  clear h1 hb
  go_enter Try.func24, Try.ntmps24
  go_wp2
  go_loopg [5] ps.length (fun k v5 wr => Looking x ps w k v5 wr)
  case atStart => exact ⟨0, by omega, rfl, by simp, rfl⟩
  case round =>
    obtain ⟨i, hk, rfl, hni, rfl⟩ := hrel
    by_cases hi : i < ps.length
    · obtain ⟨y, hy⟩ : ∃ y, ps[i]? = some y := ⟨_, List.getElem?_eq_getElem hi⟩
      obtain ⟨g, rfl, hg, hcell⟩ := HH.out i y hy
      have j1 : (i : Int) < (ps.length : Int) := by omega
      have j2 : (0 : Int) ≤ (i : Int) := by omega
      have HY := Lib.hid hy
      have HN := Lib.hid hni
      clear hy hni
      by_cases hxy : y = x
      · subst hxy
        have q1 : (y == y) = true := by simp
        obtain rfl : b = true := HB.out.2 (List.mem_of_getElem? HY.out)
        go_wp2
        go_ret
        exact ⟨rfl, rfl⟩
      · have q1 : (y == x) = false := by simpa using hxy
        go_wp2
        go_roundg (gk - 1)
        case measure => omega
        case rel =>
          refine ⟨i + 1, by omega, rfl, ?_, rfl⟩
          rw [List.take_add_one, HY.out]
          intro hm
          rcases List.mem_append.1 hm with hm | hm
          · exact HN.out hm
          · simp at hm; exact hxy hm.symm
    · obtain rfl : i = ps.length := by omega
      have j1 : ¬ ((ps.length : Int) < (ps.length : Int)) := by omega
      rw [List.take_length] at hni
      obtain rfl : b = false := by cases b with | true => exact absurd (HB.out.1 rfl) hni | false => rfl
      clear hni
      go_wp2
      go_ret
      exact ⟨rfl, rfl⟩

end Go.Proofs.Ytanfhnpnpdecnaa.L2
