/- Contract of term.Power at any two right terms, in terms of what stands in them. -/
import Derived.Test.YtanfhnpnpdecnaaOfPure
namespace Go.Proofs.Ytanfhnpnpdecnaa
open Go.ChangeShapes Go.WideShapes Go.ChangeAt Go.RowKit

namespace Tm
theorem element_iff {l : List UInt8} (h : l ≠ []) : element l = true ↔ (l.getD 0 0 = 103 ∨ l.getD 0 0 = 101) := by
  cases l with
  | nil => exact absurd rfl h
  | cons c r => simp [element]
theorem ofL_exps {a : List UInt8} (h : right a = true) (he : element a = true) : ofL a = expsOf a := by
  have hne := (right_ne_nil h).1
  obtain ⟨hb, h0⟩ := head_of_right h
  unfold ofL expsOf
  rw [hb]
  rcases (element_iff hne).1 he with hk | hk
  · have hh : headOf a = (1, 0) := by unfold headOf; rw [if_neg hne, if_pos hk]
    rw [if_pos hk, hh]; rfl
  · obtain ⟨p1, p2, p3⟩ := right_power h hk
    have hh : headOf a = (2, (a.getD 1 0).toNat) := by
      have e : headOf a = if 2 ≤ a.length ∧ 1 ≤ (a.getD 1 0).toNat ∧ (a.getD 1 0).toNat ≤ 32 then (2, (a.getD 1 0).toNat) else (0, 0) := by
        unfold headOf; rw [if_neg hne, hk]; simp
      rw [e, if_pos ⟨p1, p2, p3⟩]
    rw [if_neg (by rw [hk]; decide), hh]
/-- What Power makes of an element and an exponent, where it makes one. -/
def PowFact (a b l : List UInt8) : Prop :=
  ∃ i, i ≤ (ofL a).length ∧ ofL l = ins (ofL a) i b ∧ chain [] (ofL l) ∧ right l = true ∧ l = 101 :: UInt8.ofNat ((ofL a).length + 1) :: (ins (ofL a) i b).flatten
theorem pow_fact {a b l : List UInt8} {i : Nat} (ha : right a = true) (hel : element a = true) (hb : right b = true) (hf : Found (expsOf a) b i) (hn : (expsOf a).length ≠ 32)
    (h : put [101, UInt8.ofNat ((expsOf a).length + 1)] (ins (expsOf a) i b) = (l, 0)) : PowFact a b l := by
  obtain ⟨x1, x2, x3, x4⟩ := expsOf_ok ha hel
  have hil := ins_length (expsOf a) i b hf.1
  have hbg : begin_ ([101, UInt8.ofNat ((expsOf a).length + 1)] ++ (ins (expsOf a) i b).flatten) = ([101, UInt8.ofNat ((expsOf a).length + 1)].length, (ins (expsOf a) i b).length) := by
    rw [hil]; exact begin_pow _ (by omega) (by omega) _
  have hch : chain [] (ins (expsOf a) i b) := by
    refine chain_insert _ _ _ x1 hf (fun _ => ?_)
    cases b <;> simp [less, Op.bytesLess]
  obtain ⟨h1, h2, h3, h4⟩ := put_term h hbg (by simp) (by simp) (fun _ => hch)
  have ho := ofL_node hbg h2
  rw [← h1] at ho
  unfold PowFact
  rw [ofL_exps ha hel]
  exact ⟨i, hf.1, ho, by rw [ho]; exact hch, right_of_parse h3 h4, by rw [h1]; rfl⟩
end Tm

def PowOut (W : World) (a b : List UInt8) (e : Ending) (w' : World) : Prop :=
  ∃ (l : List UInt8) (en : Nat), e = .returned (.tuple #[.string ⟨l.toArray⟩, .int .i64 en]) ∧ Below W.heap.size W w' ∧
    ((Tm.element a = false ∧ en = 1 ∧ l = []) ∨ (Tm.element a = true ∧ (en = 3 ∨ en = 4) ∧ l = []) ∨ (Tm.element a = true ∧ en = 0 ∧ Tm.PowFact a b l))

theorem pow_put {W : World} {a b : List UInt8} {i : Nat} (ra : Tm.right a = true) (rb : Tm.right b = true) (hel : Tm.element a = true) (hf : Found (Tm.expsOf a) b i) (hn : (Tm.expsOf a).length ≠ 32) {e : Ending} {w' : World}
    (hp : Pair2 W (Tm.put [101, UInt8.ofNat ((Tm.expsOf a).length + 1)] (Tm.ins (Tm.expsOf a) i b)) e w') : PowOut W a b e w' := by
  obtain ⟨he, hb⟩ := hp
  obtain ⟨r, hr⟩ : ∃ r, Tm.put [101, UInt8.ofNat ((Tm.expsOf a).length + 1)] (Tm.ins (Tm.expsOf a) i b) = r := ⟨_, rfl⟩
  rw [hr] at he
  obtain ⟨l, en⟩ := r
  refine ⟨l, en, he, hb, ?_⟩
  have hall : ∀ p ∈ Tm.ins (Tm.expsOf a) i b, Tm.depthOf p ≠ 0 := by
    intro p hp
    obtain ⟨_, x2, _⟩ := Tm.expsOf_ok ra hel
    simp only [Tm.ins, List.mem_append, List.mem_cons] at hp
    rcases hp with hp | rfl | hp
    · exact (x2 p (List.mem_of_mem_take hp)).1
    · exact (Tm.right_iff _).1 rb
    · exact (x2 p (List.mem_of_mem_drop hp)).1
  by_cases c2 : 20000 < Tm.total [101, UInt8.ofNat ((Tm.expsOf a).length + 1)] (Tm.ins (Tm.expsOf a) i b)
  · rw [Tm.put_long hall c2] at hr
    simp only [Prod.mk.injEq] at hr
    exact .inr (.inl ⟨hel, .inl hr.2.symm, hr.1.symm⟩)
  by_cases c3 : 400 < Tm.maxDepth (Tm.ins (Tm.expsOf a) i b) + 1
  · rw [Tm.put_deep hall c2 c3] at hr
    simp only [Prod.mk.injEq] at hr
    exact .inr (.inl ⟨hel, .inr hr.2.symm, hr.1.symm⟩)
  have hok := Tm.put_ok hall c2 c3
  rw [hr] at hok
  simp only [Prod.mk.injEq] at hok
  obtain ⟨_, h0⟩ := hok
  subst h0
  exact .inr (.inr ⟨hel, rfl, Tm.pow_fact ra hel rb hf hn hr⟩)

theorem pow_at {a b : List UInt8} (ra : Tm.right a = true) (rb : Tm.right b = true) (W : World) : Calls Try.prog 31 #[.string ⟨a.toArray⟩, .string ⟨b.toArray⟩] W (PowOut W a b) := by
  have ea : (⟨a.toArray⟩ : ByteArray).data.toList = a := by simp
  have eb : (⟨b.toArray⟩ : ByteArray).data.toList = b := by simp
  have za : (⟨a.toArray⟩ : ByteArray).size ≤ maxLen := by rw [size_list]; have := (Tm.ofL_ok ra).2.2.2.2.2; unfold maxLen; omega
  have zb : (⟨b.toArray⟩ : ByteArray).size ≤ maxLen := by rw [size_list]; have := (Tm.ofL_ok rb).2.2.2.2.2; unfold maxLen; omega
  cases hel : Tm.element a with
  | false =>
    exact (Power_no ⟨a.toArray⟩ ⟨b.toArray⟩ za zb W (by rw [ea, hel]; simp)).mono fun _ _ hp => ⟨[], 1, hp.1, hp.2, .inl ⟨hel, rfl, rfl⟩⟩
  | true =>
    by_cases h0 : a.getD 0 0 = 103
    · refine (Power_gen ⟨a.toArray⟩ ⟨b.toArray⟩ za zb W (by rw [ea]; exact hel) (by rw [ea]; exact ra) (by rw [eb]; exact rb) (by rw [ea]; exact h0)).mono ?_
      rintro e w' ⟨i, hf, hp⟩
      rw [ea, eb] at hp hf
      refine pow_put ra rb hel hf ?_ hp
      unfold Tm.expsOf
      rw [if_pos h0]
      simp
    · by_cases h32 : (Tm.expsOf a).length = 32
      · exact (Power_full ⟨a.toArray⟩ ⟨b.toArray⟩ za zb W (by rw [ea]; exact hel) (by rw [ea]; exact ra) (by rw [eb]; exact rb) (by rw [ea]; exact h0) (by rw [ea]; exact h32)).mono fun _ _ hp => ⟨[], 3, hp.1, hp.2, .inr (.inl ⟨hel, .inl rfl, rfl⟩)⟩
      · refine (Power_pow ⟨a.toArray⟩ ⟨b.toArray⟩ za zb W (by rw [ea]; exact hel) (by rw [ea]; exact ra) (by rw [eb]; exact rb) (by rw [ea]; exact h0) (by rw [ea]; exact h32)).mono ?_
        rintro e w' ⟨i, hf, hp⟩
        rw [ea, eb] at hp hf
        exact pow_put ra rb hel hf h32 hp

end Go.Proofs.Ytanfhnpnpdecnaa
