/- LinkNews: between which processes there is a link, and what is told of a body that is none. -/
import Derived.Test.YtiodphkmllcjdaaGreatLkRG
section
namespace Go.Proofs.YtiodphkmllcjdaaGreat.L7
open Go.ChangeShapes Go.WideShapes Go.ChangeAt Go.RowKit L6

theorem put_err (hd : Bytes) (ps : List Bytes) (h : (Tm.put hd ps).2 ≠ 0) : (Tm.put hd ps).1 = [] := by
  unfold Tm.put at h ⊢
  split
  · rfl
  · split
    · rfl
    · split
      · rfl
      · rename_i h1 h2 h3
        rw [if_neg h1, if_neg h2, if_neg h3] at h
        exact absurd rfl h
theorem frame_err {p q k n : Nat} {ts : List Bytes} (h : (frameL p q k n ts).2 ≠ 0) : (frameL p q k n ts).1 = [] := by
  unfold frameL signL at h ⊢
  split
  · rename_i hc
    rw [if_pos hc] at h
    exact put_err _ _ h
  · rfl
theorem pack_short (q k n : Nat) (b : Bytes) : (fmsg q k n [b]).pack.1.length ≤ 200 + b.length := by
  unfold Msg.pack
  split
  · unfold Tm.putRow
    split
    · show (Tm.rowL (fmsg q k n [b]).row).length ≤ _
      have e : (fmsg q k n [b]).row = [Tm.numL k, Tm.numL 0, Tm.numL 0, Tm.numL 0, Tm.numL 0, Tm.numL n, Tm.numL 1, Tm.numL q, b] := rfl
      rw [e]
      simp only [Tm.rowL_cons, List.length_cons, List.length_append, numL_len, Tm.rowL_len_nil]
      omega
    · simp
  · simp
def r0 (a b : Nat) : RSt := ⟨a, b, 0, 0, [], []⟩
/-- Both sends tell the same, and the same lies open then. -/
theorem send_both (a b : Nat) (body : Bytes) :
    (rsend (r0 a b) body).1 = (sendL (newL a b) body).1 ∧ (rsend (r0 a b) body).2.opens.map (frI (rsend (r0 a b) body).2) = (sendL (newL a b) body).2.opens ∧ (rsend (r0 a b) body).2.me = a ∧ (rsend (r0 a b) body).2.peer = b ∧
      ((rsend (r0 a b) body).2.opens = [] ∨ (rsend (r0 a b) body).2.opens = [(1, body)]) := by
  cases hr : Tm.right body with
  | false =>
    unfold rsend sendL
    rw [hr]
    exact ⟨rfl, rfl, rfl, rfl, .inl rfl⟩
  | true =>
    have eA : rsend (r0 a b) body = if (frameL a b 1 (0 + 1) [body]).2 = 0 then (frameL a b 1 (0 + 1) [body], ⟨a, b, 0 + 1, 0, [(0 + 1, body)], []⟩) else (([], (frameL a b 1 (0 + 1) [body]).2), r0 a b) := by
      unfold rsend
      rw [hr, if_neg (show ¬ (true = false) by decide), if_neg (show ¬ (r0 a b).opens.length = 64 by show ¬ (0 : Nat) = 64; omega)]
      unfold r0
      dsimp only
      rw [List.nil_append]
    have eB : sendL (newL a b) body = if (frameL a b 1 (0 + 1) [body]).2 = 0 then (frameL a b 1 (0 + 1) [body], ⟨a, b, 0 + 1, 0, [(frameL a b 1 (0 + 1) [body]).1], fun _ => none⟩) else (frameL a b 1 (0 + 1) [body], newL a b) := by
      unfold sendL
      rw [hr, if_neg (show ¬ (true = false) by decide), if_neg (show ¬ (newL a b).opens.length = 64 by show ¬ (0 : Nat) = 64; omega)]
      unfold newL
      dsimp only
      rw [List.nil_append]
    rw [eA, eB]
    have he := frame_err (p := a) (q := b) (k := 1) (n := 0 + 1) (ts := [body])
    have hfi : ∀ r : RSt, r.me = a → r.peer = b → frI r (0 + 1, body) = (frameL a b 1 (0 + 1) [body]).1 := fun r h1 h2 => by unfold frI; rw [h1, h2]
    generalize frameL a b 1 (0 + 1) [body] = fr at *
    by_cases h0 : fr.2 = 0
    · rw [if_pos h0, if_pos h0]
      refine ⟨rfl, ?_, rfl, rfl, .inr rfl⟩
      show [frI _ (0 + 1, body)] = [fr.1]
      rw [hfi _ rfl rfl]
    · rw [if_neg h0, if_neg h0]
      refine ⟨?_, rfl, rfl, rfl, .inl rfl⟩
      show (([] : Bytes), fr.2) = fr
      rw [← he h0]

end Go.Proofs.YtiodphkmllcjdaaGreat.L7
end
