/- The law TreeReadBack. -/
import Derived.Test.YtlpabhgfmkilnaaTrMade
namespace Go.Proofs.Ytlpabhgfmkilnaa.L13
open Go.ChangeShapes Go.WideShapes Go.ChangeAt Go.RowKit Go.Deep
open Go.Proofs.Ytlpabhgfmkilnaa.L5 (One)

theorem cat_bytes (a b : List UInt8) : (⟨a.toArray⟩ : ByteArray) ++ ⟨b.toArray⟩ = ⟨(a ++ b).toArray⟩ := by
  apply ByteArray.ext
  simp
theorem readT_open {t : Tr} (h : t.ok) (z : List UInt8) (hz : ∀ r, parse 22 (t.procs.reverse ++ []) z = some r → r.2.2 = []) : readT (40 :: (t.text ++ z)) = none := by
  unfold readT
  split
  · rfl
  · rw [show (23 : Nat) = 22 + 1 from rfl, parse_open, parse_full t 22 [] z h.len h (by simp)]
    cases hp : parse 22 (t.procs.reverse ++ []) z with
    | none => simp only [hp]
    | some r =>
      obtain ⟨a, b, y⟩ := r
      have := hz _ hp
      dsimp only at this
      subst this
      simp only [hp]
theorem read_again {t : Tr} (h : t.ok) {q : Nat} (h1 : 1 ≤ q) (h8 : q ≤ 8) (hm : q ∈ t.procs) : readT (40 :: (t.text ++ ((Tr.leaf q).text ++ [41]))) = none := by
  refine readT_open h _ (fun r hr => ?_)
  have hb := digit_byte h1 h8
  simp only [Tr.text, List.cons_append, List.nil_append] at hr
  have e : 48 + q - 48 = q := by omega
  rw [parse, if_neg (by rw [hb, e]; intro g; exact g.2.2 (by simp [hm])), if_pos (fun g => by rw [g] at hb; have : (40 : UInt8).toNat = 40 := rfl; omega)] at hr
  cases hr
theorem read_shut {t : Tr} (h : t.ok) : readT (40 :: (t.text ++ [41])) = none := by
  refine readT_open h _ (fun r hr => ?_)
  rw [parse, if_neg (fun g => absurd g.1 (by decide)), if_pos (by decide)] at hr
  cases hr
theorem read_behind {t : Tr} (h : t.ok) (q : Nat) : readT (t.text ++ (Tr.leaf q).text) = none := by
  unfold readT
  split
  · rfl
  · rw [parse_full t 23 [] _ (by have := h.len; omega) h (by simp)]
    rfl
theorem read_short {t : Tr} (h : t.ok) {q : Nat} (h1 : 1 ≤ q) (h8 : q ≤ 8) (hm : q ∉ t.procs) : readT (40 :: (t.text ++ (Tr.leaf q).text)) = none := by
  refine readT_open h _ (fun r hr => ?_)
  have hp := parse_full (.leaf q) 22 (t.procs.reverse ++ []) [] (by simp [Tr.text]) (Tr.ok.leaf h1 h8) (by simpa [Tr.procs] using hm)
  simp only [List.append_nil] at hp hr
  rw [hp] at hr
  cases hr
  rfl
theorem ahead_leaf {t : Tr} {q : Nat} (h : aheadB t (.leaf q) = false) : t.deep = 0 := by
  unfold aheadB at h
  by_cases e : t.deep = 0
  · exact e
  · rw [if_pos (by simpa [Tr.deep] using e)] at h
    have := of_decide_eq_false h
    simp only [Tr.deep] at this
    omega
end Go.Proofs.Ytlpabhgfmkilnaa.L13
