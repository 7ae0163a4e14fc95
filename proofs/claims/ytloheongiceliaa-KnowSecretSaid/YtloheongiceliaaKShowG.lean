/- Contract of term.Power at any two right terms, in terms of what stands in them. term.Power at elements of few names, and term.Key of them. Contract of the statements' own head (layer 3): chapter 3's example comes out as the chapter says. -/
import Derived.Test.YtloheongiceliaaOfPure
import Derived.Test.YtloheongiceliaaKnowG
import Derived.Test.YtloheongiceliaaGathG
section
namespace Go.Proofs.Ytloheongiceliaa
open Go.ChangeShapes Go.WideShapes Go.ChangeAt Go.RowKit

namespace Tm
theorem element_iff {l : List UInt8} (h : l ≠ []) : element l = true ↔ (l.getD 0 0 = 103 ∨ l.getD 0 0 = 101) := by
  cases l with
  | nil => exact absurd rfl h
  | cons c r => simp [element]
theorem ofL_exps {a : List UInt8} (h : right a = true) (he : element a = true) : ofL a = expsOf a := by
  have hne := (right_ne_nil h).1
  obtain ⟨hb, h0⟩ := head_of_right h
  unfold ofL expsOf
  rw [hb]
  rcases (element_iff hne).1 he with hk | hk
  · have hh : headOf a = (1, 0) := by unfold headOf; rw [if_neg hne, if_pos hk]
    rw [if_pos hk, hh]; rfl
  · obtain ⟨p1, p2, p3⟩ := right_power h hk
    have hh : headOf a = (2, (a.getD 1 0).toNat) := by
      have e : headOf a = if 2 ≤ a.length ∧ 1 ≤ (a.getD 1 0).toNat ∧ (a.getD 1 0).toNat ≤ 32 then (2, (a.getD 1 0).toNat) else (0, 0) := by
        unfold headOf; rw [if_neg hne, hk]; simp
      rw [e, if_pos ⟨p1, p2, p3⟩]
    rw [if_neg (by rw [hk]; decide), hh]
/-- What Power makes of an element and an exponent, where it makes one. -/
def PowFact (a b l : List UInt8) : Prop :=
  ∃ i, i ≤ (ofL a).length ∧ ofL l = ins (ofL a) i b ∧ chain [] (ofL l) ∧ right l = true ∧ l = 101 :: UInt8.ofNat ((ofL a).length + 1) :: (ins (ofL a) i b).flatten
theorem pow_fact {a b l : List UInt8} {i : Nat} (ha : right a = true) (hel : element a = true) (hb : right b = true) (hf : Found (expsOf a) b i) (hn : (expsOf a).length ≠ 32)
    (h : put [101, UInt8.ofNat ((expsOf a).length + 1)] (ins (expsOf a) i b) = (l, 0)) : PowFact a b l := by
  obtain ⟨x1, x2, x3, x4⟩ := expsOf_ok ha hel
  have hil := ins_length (expsOf a) i b hf.1
  have hbg : begin_ ([101, UInt8.ofNat ((expsOf a).length + 1)] ++ (ins (expsOf a) i b).flatten) = ([101, UInt8.ofNat ((expsOf a).length + 1)].length, (ins (expsOf a) i b).length) := by
    rw [hil]; exact begin_pow _ (by omega) (by omega) _
  have hch : chain [] (ins (expsOf a) i b) := by
    refine chain_insert _ _ _ x1 hf (fun _ => ?_)
    cases b <;> simp [less, Op.bytesLess]
  obtain ⟨h1, h2, h3, h4⟩ := put_term h hbg (by simp) (by simp) (fun _ => hch)
  have ho := ofL_node hbg h2
  rw [← h1] at ho
  unfold PowFact
  rw [ofL_exps ha hel]
  exact ⟨i, hf.1, ho, by rw [ho]; exact hch, right_of_parse h3 h4, by rw [h1]; rfl⟩
end Tm

def PowOut (W : World) (a b : List UInt8) (e : Ending) (w' : World) : Prop :=
  ∃ (l : List UInt8) (en : Nat), e = .returned (.tuple #[.string ⟨l.toArray⟩, .int .i64 en]) ∧ Below W.heap.size W w' ∧
    ((Tm.element a = false ∧ en = 1 ∧ l = []) ∨ (Tm.element a = true ∧ (en = 3 ∨ en = 4) ∧ l = []) ∨ (Tm.element a = true ∧ en = 0 ∧ Tm.PowFact a b l))

theorem pow_put {W : World} {a b : List UInt8} {i : Nat} (ra : Tm.right a = true) (rb : Tm.right b = true) (hel : Tm.element a = true) (hf : Found (Tm.expsOf a) b i) (hn : (Tm.expsOf a).length ≠ 32) {e : Ending} {w' : World}
    (hp : Pair2 W (Tm.put [101, UInt8.ofNat ((Tm.expsOf a).length + 1)] (Tm.ins (Tm.expsOf a) i b)) e w') : PowOut W a b e w' := by
  obtain ⟨he, hb⟩ := hp
  obtain ⟨r, hr⟩ : ∃ r, Tm.put [101, UInt8.ofNat ((Tm.expsOf a).length + 1)] (Tm.ins (Tm.expsOf a) i b) = r := ⟨_, rfl⟩
  rw [hr] at he
  obtain ⟨l, en⟩ := r
  refine ⟨l, en, he, hb, ?_⟩
  have hall : ∀ p ∈ Tm.ins (Tm.expsOf a) i b, Tm.depthOf p ≠ 0 := by
    intro p hp
    obtain ⟨_, x2, _⟩ := Tm.expsOf_ok ra hel
    simp only [Tm.ins, List.mem_append, List.mem_cons] at hp
    rcases hp with hp | rfl | hp
    · exact (x2 p (List.mem_of_mem_take hp)).1
    · exact (Tm.right_iff _).1 rb
    · exact (x2 p (List.mem_of_mem_drop hp)).1
  by_cases c2 : 20000 < Tm.total [101, UInt8.ofNat ((Tm.expsOf a).length + 1)] (Tm.ins (Tm.expsOf a) i b)
  · rw [Tm.put_long hall c2] at hr
    simp only [Prod.mk.injEq] at hr
    exact .inr (.inl ⟨hel, .inl hr.2.symm, hr.1.symm⟩)
  by_cases c3 : 400 < Tm.maxDepth (Tm.ins (Tm.expsOf a) i b) + 1
  · rw [Tm.put_deep hall c2 c3] at hr
    simp only [Prod.mk.injEq] at hr
    exact .inr (.inl ⟨hel, .inr hr.2.symm, hr.1.symm⟩)
  have hok := Tm.put_ok hall c2 c3
  rw [hr] at hok
  simp only [Prod.mk.injEq] at hok
  obtain ⟨_, h0⟩ := hok
  subst h0
  exact .inr (.inr ⟨hel, rfl, Tm.pow_fact ra hel rb hf hn hr⟩)

theorem pow_at {a b : List UInt8} (ra : Tm.right a = true) (rb : Tm.right b = true) (W : World) : Calls Try.prog 21 #[.string ⟨a.toArray⟩, .string ⟨b.toArray⟩] W (PowOut W a b) := by
  have ea : (⟨a.toArray⟩ : ByteArray).data.toList = a := by simp
  have eb : (⟨b.toArray⟩ : ByteArray).data.toList = b := by simp
  have za : (⟨a.toArray⟩ : ByteArray).size ≤ maxLen := by rw [size_list]; have := (Tm.ofL_ok ra).2.2.2.2.2; unfold maxLen; omega
  have zb : (⟨b.toArray⟩ : ByteArray).size ≤ maxLen := by rw [size_list]; have := (Tm.ofL_ok rb).2.2.2.2.2; unfold maxLen; omega
  cases hel : Tm.element a with
  | false =>
    exact (Power_no ⟨a.toArray⟩ ⟨b.toArray⟩ za zb W (by rw [ea, hel]; simp)).mono fun _ _ hp => ⟨[], 1, hp.1, hp.2, .inl ⟨hel, rfl, rfl⟩⟩
  | true =>
    by_cases h0 : a.getD 0 0 = 103
    · refine (Power_gen ⟨a.toArray⟩ ⟨b.toArray⟩ za zb W (by rw [ea]; exact hel) (by rw [ea]; exact ra) (by rw [eb]; exact rb) (by rw [ea]; exact h0)).mono ?_
      rintro e w' ⟨i, hf, hp⟩
      rw [ea, eb] at hp hf
      refine pow_put ra rb hel hf ?_ hp
      unfold Tm.expsOf
      rw [if_pos h0]
      simp
    · by_cases h32 : (Tm.expsOf a).length = 32
      · exact (Power_full ⟨a.toArray⟩ ⟨b.toArray⟩ za zb W (by rw [ea]; exact hel) (by rw [ea]; exact ra) (by rw [eb]; exact rb) (by rw [ea]; exact h0) (by rw [ea]; exact h32)).mono fun _ _ hp => ⟨[], 3, hp.1, hp.2, .inr (.inl ⟨hel, .inl rfl, rfl⟩)⟩
      · refine (Power_pow ⟨a.toArray⟩ ⟨b.toArray⟩ za zb W (by rw [ea]; exact hel) (by rw [ea]; exact ra) (by rw [eb]; exact rb) (by rw [ea]; exact h0) (by rw [ea]; exact h32)).mono ?_
        rintro e w' ⟨i, hf, hp⟩
        rw [ea, eb] at hp hf
        exact pow_put ra rb hel hf h32 hp

end Go.Proofs.Ytloheongiceliaa
end

section
namespace Go.Proofs.Ytloheongiceliaa
open Go.ChangeShapes Go.WideShapes Go.ChangeAt Go.RowKit

namespace Tm
/-- An element whose exponents are these, in some order. -/
structure Elt (xs : List (List UInt8)) (l : List UInt8) : Prop where
  right : Tm.right l = true
  elem : element l = true
  perm : (ofL l).Perm xs
  kind : xs ≠ [] → l.getD 0 0 = 101
  size : l.length ≤ 2 + xs.flatten.length
theorem elt_gen : Elt [] [103] := by
  refine ⟨gen_right, by decide, ?_, fun h => absurd rfl h, by simp⟩
  have : ofL [103] = [] := by
    rw [ofL_exps gen_right (by decide)]
    rfl
  rw [this]
theorem nm_inj {a b : Nat} (ha : a < 18446744073709551616) (hb : b < 18446744073709551616) (h : nm a = nm b) : a = b := by
  simp only [nm, be8, List.cons.injEq, and_true, true_and] at h
  obtain ⟨h7, h6, h5, h4, h3, h2, h1, h0⟩ := h
  have k : ∀ x y : Nat, UInt8.ofNat x = UInt8.ofNat y → x % 256 = y % 256 := by
    intro x y h
    have := congrArg UInt8.toNat h
    rwa [UInt8.toNat_ofNat', UInt8.toNat_ofNat'] at this
  have k7 := k _ _ h7
  have k6 := k _ _ h6
  have k5 := k _ _ h5
  have k4 := k _ _ h4
  have k3 := k _ _ h3
  have k2 := k _ _ h2
  have k1 := k _ _ h1
  have k0 := k _ _ h0
  clear h7 h6 h5 h4 h3 h2 h1 h0 k
  simp only [Nat.pow_zero, Nat.div_one] at k0
  omega
theorem nm_kind (k : Nat) : (nm k).getD 0 0 = 110 := rfl
theorem nm_len (k : Nat) : (nm k).length = 9 := by simp [nm, be8_length]
/-- An element is made of one that is known, and of what more there is. -/
theorem mk_elt_yes {K : List UInt8 → Prop} {xs bs rest : List (List UInt8)} {goal b : List UInt8} (hg : Elt xs goal) (hx : xs ≠ []) (hb : Elt bs b) (hbs : bs ≠ []) (hk : K b) (hp : (bs ++ rest).Perm xs) (hr : ∀ x ∈ rest, Mk K x) : Mk K goal :=
  .power hg.right (hg.kind hx) (ofL b) rest (.inr ⟨b, hk, hb.kind hbs, rfl⟩) (((hb.perm.append_right rest).trans hp).trans hg.perm.symm) hr
theorem mk_elt_no {K : List UInt8 → Prop} {xs : List (List UInt8)} {goal m : List UInt8} (hg : Elt xs goal) (hx : xs ≠ []) (hn : ¬ K goal) (hm : m ∈ xs) (hmk : ¬ Mk K m) (hb : ∀ b, K b → b.getD 0 0 = 101 → m ∉ ofL b) : ¬ Mk K goal := by
  have hk := hg.kind hx
  intro h
  cases h with
  | known h => exact hn h
  | free _ h => rw [hk] at h; simp at h
  | parts _ h _ => rw [hk] at h; simp at h
  | power _ _ bs rest hbs hp hr =>
    rcases List.mem_append.1 (hp.mem_iff.2 (hg.perm.mem_iff.2 hm)) with h | h
    · rcases hbs with e | ⟨b, h1, h2, h3⟩
      · rw [e] at h; cases h
      · rw [← h3] at h
        exact hb b h1 h2 h
    · exact hmk (hr m h)
end Tm

def PowGood (W : World) (a b : List UInt8) (e : Ending) (w' : World) : Prop :=
  ∃ l, e = .returned (.tuple #[.string ⟨l.toArray⟩, .int .i64 0]) ∧ Tm.PowFact a b l ∧ Below W.heap.size W w'
theorem pow_good_put {W : World} {a b : List UInt8} {i : Nat} (ra : Tm.right a = true) (rb : Tm.right b = true) (hel : Tm.element a = true) (hf : Found (Tm.expsOf a) b i) (hn : (Tm.expsOf a).length ≠ 32) (hs : a.length + b.length ≤ 19000) (hda : Tm.depthOf a ≤ 300) (hdb : Tm.depthOf b ≤ 300) {e : Ending} {w' : World}
    (hp : Pair2 W (Tm.put [101, UInt8.ofNat ((Tm.expsOf a).length + 1)] (Tm.ins (Tm.expsOf a) i b)) e w') : PowGood W a b e w' := by
  obtain ⟨he, hb⟩ := hp
  obtain ⟨x1, x2, x3, x4⟩ := Tm.expsOf_ok ra hel
  have mem : ∀ p ∈ Tm.ins (Tm.expsOf a) i b, p ∈ Tm.expsOf a ∨ p = b := by
    intro p hp
    simp only [Tm.ins, List.mem_append, List.mem_cons] at hp
    rcases hp with hp | rfl | hp
    · exact .inl (List.mem_of_mem_take hp)
    · exact .inr rfl
    · exact .inl (List.mem_of_mem_drop hp)
  have hall : ∀ p ∈ Tm.ins (Tm.expsOf a) i b, Tm.depthOf p ≠ 0 := fun p hp => by
    rcases mem p hp with h | rfl
    · exact (x2 p h).1
    · exact (Tm.right_iff _).1 rb
  have c2 : ¬ 20000 < Tm.total [101, UInt8.ofNat ((Tm.expsOf a).length + 1)] (Tm.ins (Tm.expsOf a) i b) := by
    have h1 : (Tm.ins (Tm.expsOf a) i b).flatten.length = (Tm.expsOf a).flatten.length + b.length := by
      have := (Tm.ins_perm (Tm.expsOf a) i b).flatten.length_eq
      rw [this]
      simp
    unfold Tm.total
    rw [h1]
    simp only [List.length_cons, List.length_nil]
    omega
  have c3 : ¬ 400 < Tm.maxDepth (Tm.ins (Tm.expsOf a) i b) + 1 := by
    have := Tm.maxDepth_bound (k := 300) (ps := Tm.ins (Tm.expsOf a) i b) (fun p hp => by
      rcases mem p hp with h | rfl
      · have := (x2 p h).2; omega
      · exact hdb)
    omega
  have hok := Tm.put_ok hall c2 c3
  rw [hok] at he
  exact ⟨_, he, Tm.pow_fact ra hel rb hf hn hok, hb⟩
theorem pow_good {a b : List UInt8} (ra : Tm.right a = true) (rb : Tm.right b = true) (hel : Tm.element a = true) (hn : (Tm.ofL a).length < 32) (hs : a.length + b.length ≤ 19000) (hda : Tm.depthOf a ≤ 300) (hdb : Tm.depthOf b ≤ 300) (W : World) :
    Calls Try.prog 21 #[.string ⟨a.toArray⟩, .string ⟨b.toArray⟩] W (PowGood W a b) := by
  have ea : (⟨a.toArray⟩ : ByteArray).data.toList = a := by simp
  have eb : (⟨b.toArray⟩ : ByteArray).data.toList = b := by simp
  have za : (⟨a.toArray⟩ : ByteArray).size ≤ maxLen := by rw [size_list]; unfold maxLen; omega
  have zb : (⟨b.toArray⟩ : ByteArray).size ≤ maxLen := by rw [size_list]; unfold maxLen; omega
  rw [Tm.ofL_exps ra hel] at hn
  by_cases h0 : a.getD 0 0 = 103
  · refine (Power_gen ⟨a.toArray⟩ ⟨b.toArray⟩ za zb W (by rw [ea]; exact hel) (by rw [ea]; exact ra) (by rw [eb]; exact rb) (by rw [ea]; exact h0)).mono ?_
    rintro e w' ⟨i, hf, hp⟩
    rw [ea, eb] at hp hf
    exact pow_good_put ra rb hel hf (by omega) hs hda hdb hp
  · refine (Power_pow ⟨a.toArray⟩ ⟨b.toArray⟩ za zb W (by rw [ea]; exact hel) (by rw [ea]; exact ra) (by rw [eb]; exact rb) (by rw [ea]; exact h0) (by rw [ea]; omega)).mono ?_
    rintro e w' ⟨i, hf, hp⟩
    rw [ea, eb] at hp hf
    exact pow_good_put ra rb hel hf (by omega) hs hda hdb hp

theorem elt_depth {xs : List (List UInt8)} {l : List UInt8} (h : Tm.Elt xs l) (hx : ∀ x ∈ xs, Tm.depthOf x ≤ 1) : Tm.depthOf l ≤ 2 := by
  have h1 := (Tm.ofL_ok h.right).2.2.2.2.1
  have h2 := Tm.maxDepth_bound (k := 1) (ps := Tm.ofL l) (fun p hp => hx p (h.perm.mem_iff.1 hp))
  rw [Tm.maxDepth_eq] at h2
  omega
def EltOut (W : World) (xs : List (List UInt8)) (e : Ending) (w' : World) : Prop :=
  ∃ l, e = .returned (.tuple #[.string ⟨l.toArray⟩, .int .i64 0]) ∧ Tm.Elt xs l ∧ Below W.heap.size W w'
/-- A name more. -/
theorem pow_elt {xs : List (List UInt8)} {a : List UInt8} (k : Nat) (ha : Tm.Elt xs a) (hx : ∀ x ∈ xs, Tm.depthOf x ≤ 1) (hl : xs.length < 32) (hf : xs.flatten.length ≤ 1000) (W : World) :
    Calls Try.prog 21 #[.string ⟨a.toArray⟩, .string ⟨(Tm.nm k).toArray⟩] W (EltOut W (xs ++ [Tm.nm k])) := by
  have h9 : (Tm.nm k).length = 9 := by simp [Tm.nm, Tm.be8_length]
  have hs := ha.size
  refine (pow_good ha.right (Tm.nm_right k) ha.elem (by rw [ha.perm.length_eq]; exact hl) (by omega) (by have := elt_depth ha hx; omega) (by rw [Tm.nm_depth]; omega) W).mono ?_
  rintro e w' ⟨l, rfl, ⟨i, h1, h2, h3, h4, h5⟩, hb⟩
  have hp : (Tm.ofL l).Perm (xs ++ [Tm.nm k]) := by
    rw [h2]
    exact (Tm.ins_perm _ _ _).trans (ha.perm.append_right _)
  have hk : l.getD 0 0 = 101 := by rw [h5]; rfl
  refine ⟨l, rfl, ⟨h4, ?_, hp, fun _ => hk, ?_⟩, hb⟩
  · exact (Tm.element_iff (Tm.right_ne_nil h4).1).2 (.inr hk)
  · have hl5 := congrArg List.length h5
    simp only [List.length_cons] at hl5
    have e1 : l.length = 2 + (Tm.ofL l).flatten.length := by rw [h2]; omega
    rw [e1, hp.flatten.length_eq]
    omega

end Go.Proofs.Ytloheongiceliaa
end

section
namespace Go.Proofs.Ytloheongiceliaa
open Go.ChangeShapes Go.WideShapes Go.ChangeAt Go.RowKit

theorem plain_kind {x : List UInt8} (hr : Tm.right x = true) (h : x.getD 0 0 = 110 ∨ x.getD 0 0 = 101) : plainT x := by
  refine ⟨hr, ?_, ?_, ?_⟩ <;> rcases h with h | h <;> rw [h] <;> decide
/-- A name that is not known is not made. -/
theorem nm_not {K : List UInt8 → Prop} {k : Nat} (h : ¬ K (Tm.nm k)) : ¬ Tm.Mk K (Tm.nm k) := Tm.mk_not h (.inl rfl)
theorem der_true {W w' : World} {K : List UInt8 → Prop} {goal : List UInt8} {e : Ending} (h : DerOut W K goal e w') (hm : Tm.right goal = true ∧ Tm.Mk K goal) : One W (.bool true) e w' := by
  obtain ⟨b, rfl, hb, h3⟩ := h
  rw [hb.2 hm]
  exact ⟨rfl, h3⟩
theorem der_false {W w' : World} {K : List UInt8 → Prop} {goal : List UInt8} {e : Ending} (h : DerOut W K goal e w') (hm : ¬ Tm.Mk K goal) : One W (.bool false) e w' := by
  obtain ⟨b, rfl, hb, h3⟩ := h
  cases b with
  | true => exact absurd (hb.1 rfl).2 hm
  | false => exact ⟨rfl, h3⟩

namespace L3
set_option maxRecDepth 100000 in
set_option maxHeartbeats 1000000 in
theorem shown_calls (w : World) : Calls Try.prog 16 #[] w (One w (.bool true)) := by
  have c1 := fun W => Name_calls 1 (by omega) W
  have c2 := fun W => Name_calls 2 (by omega) W
  have e1 : (110 :: Tm.be8 1) = Tm.nm 1 := rfl
  have e2 : (110 :: Tm.be8 2) = Tm.nm 2 := rfl
  rw [e1] at c1
  rw [e2] at c2
  have c1' : ∀ W : World, Calls Try.prog 11 #[.int .u64 1] W (One W (.string ⟨(Tm.nm 1).toArray⟩)) := c1
  have c2' : ∀ W : World, Calls Try.prog 11 #[.int .u64 2] W (One W (.string ⟨(Tm.nm 2).toArray⟩)) := c2
  have eg : (#[103] : Array UInt8) = [103].toArray := rfl
  have cg : ∀ W : World, Calls Try.prog 15 #[] W (One W (.string ⟨[103].toArray⟩)) := fun W => Gen_calls W
  have cp : ∀ W : World, Calls Try.prog 21 #[.string ⟨[103].toArray⟩, .string ⟨(Tm.nm 1).toArray⟩] W (EltOut W ([] ++ [Tm.nm 1])) := fun W => pow_elt 1 Tm.elt_gen (by simp) (by simp) (by simp) W
  have H1 := Lib.hid c1'
  have H2 := Lib.hid c2'
  have HG := Lib.hid cg
  have HP := Lib.hid cp
  have hne : Tm.nm 1 ≠ Tm.nm 2 := fun h => by have := Tm.nm_inj (by omega) (by omega) h; omega
  have hk1 := Tm.nm_kind 1
  have hk2 := Tm.nm_kind 2
  have hr1 := Tm.nm_right 1
  have hr2 := Tm.nm_right 2
  have hl1 := Tm.nm_len 1
  have hl2 := Tm.nm_len 2
  have hd1 : Tm.depthOf (Tm.nm 1) ≤ 1 := by rw [Tm.nm_depth]; omega
  have HPb : Hid (∀ a, Tm.Elt ([] ++ [Tm.nm 1]) a → ∀ W, Calls Try.prog 21 #[.string ⟨a.toArray⟩, .string ⟨(Tm.nm 2).toArray⟩] W (EltOut W ([] ++ [Tm.nm 1] ++ [Tm.nm 2]))) := fun a ha W =>
    pow_elt 2 ha (by simpa using hd1) (by simp) (by simp [hl1]) W
  have HN1 : Hid (∀ K : List UInt8 → Prop, ¬ K (Tm.nm 1) → ¬ Tm.Mk K (Tm.nm 1)) := fun K h => nm_not h
  have HF := Lib.hid (And.intro hne (And.intro hk1 (And.intro hk2 (And.intro hr1 (And.intro hr2 (And.intro hl1 hl2))))))
  clear c1 c2 c1' c2' cg cp e1 e2 hne hk1 hk2 hr1 hr2 hl1 hl2 hd1
  generalize Tm.nm 1 = x at *
  generalize Tm.nm 2 = y at *
  go_enter Try.func16, Try.ntmps16
  go_wp2_with fail
  refine (H1.out _).mono ?_
  rintro e w1 ⟨rfl, B⟩
  go_wp2_with fail
  refine (H2.out _).mono ?_
  rintro e w2 ⟨rfl, b2⟩
  replace B := B.trans (b2.mono B.size)
  clear b2
  go_wp2_with fail
  refine (HG.out _).mono ?_
  rintro e w3 ⟨rfl, b3⟩
  replace B := B.trans (b3.mono B.size)
  clear b3
  go_wp2_with fail
  refine (HP.out _).mono ?_
  rintro e w4 ⟨a, rfl, ha, b4⟩
  replace B := B.trans (b4.mono B.size)
  have HPb2 := Lib.hid (HPb.out a ha)
  have HA := Lib.hid ha
  clear b4 ha HPb
  go_wp2_with fail
  refine (HPb2.out _).mono ?_
  rintro e w5 ⟨b, rfl, hb, b5⟩
  replace B := B.trans (b5.mono B.size)
  clear b5 HPb2
  have hB5 := B.size
  -- the row, and what can be made of it
  obtain ⟨hne, hk1, hk2, hr1, hr2, hl1, hl2⟩ := HF.out
  have hW : (w5.alloc (.cells #[.string ⟨a.toArray⟩, .string ⟨y.toArray⟩] 24)).heap.size = w5.heap.size + 1 := by simp
  have hReads : Reads (w5.alloc (.cells #[.string ⟨a.toArray⟩, .string ⟨y.toArray⟩] 24)) (.slice (some ⟨w5.heap.size, 0, none⟩) 2 2) [a, y] :=
    ⟨some ⟨w5.heap.size, 0, none⟩, 2, rfl, fun j z hz => ⟨w5.heap.size, rfl, by simp, text_cells (xs := [a, y]) (heap_alloc_new w5 _) j z hz⟩⟩
  have ha := HA.out
  have hak : a.getD 0 0 = 101 := ha.kind (by simp)
  have hsz : a.length ≤ 11 := by have := ha.size; simp [hl1] at this; omega
  have hbz : b.length ≤ 20 := by have := hb.size; simp [hl1, hl2] at this; omega
  have hplain : ∀ z ∈ [a, y], Tm.right z = true → plainT z := fun z hz hr => by
    rcases List.mem_cons.1 hz with rfl | hz
    · exact plain_kind hr (.inr hak)
    · simp at hz; subst hz; exact plain_kind hr (.inl hk2)
  have hlen : ∀ z ∈ [a, y], z.length ≤ 1000000 := fun z hz => by
    rcases List.mem_cons.1 hz with rfl | hz
    · omega
    · simp at hz; subst hz; omega
  have hKa : rightIn [a, y] a := ⟨by simp, ha.right⟩
  have hKy : rightIn [a, y] y := ⟨by simp, hr2⟩
  have hnx : ¬ rightIn [a, y] x := fun h => by
    rcases List.mem_cons.1 h.1 with e | e
    · rw [e, hak] at hk1; simp at hk1
    · simp at e; exact hne e
  have HD : ∀ (goal : List UInt8) (hg : goal.length ≤ 1000000) (W : World), Reads W (.slice (some ⟨w5.heap.size, 0, none⟩) 2 2) [a, y] → Calls Try.prog 24 #[.slice (some ⟨w5.heap.size, 0, none⟩) 2 2, .string ⟨goal.toArray⟩] W (DerOut W (rightIn [a, y]) goal) := fun goal hg W hR =>
    Derivable_plain [a, y] goal _ W hR (by simp) hlen hplain hg
  have D1 := Lib.hid (fun W hR => (HD b (by omega) W hR).mono (fun e w' h => der_true h ⟨hb.right, Tm.mk_elt_yes (rest := [y]) hb (by simp) ha (by simp) hKa (.refl _) (fun z hz => by simp at hz; subst hz; exact .known hKy)⟩))
  have D2 := Lib.hid (fun W hR => (HD x (by omega) W hR).mono (fun e w' h => der_false h (HN1.out _ hnx)))
  have D3 := Lib.hid (fun W hR => (HD y (by omega) W hR).mono (fun e w' h => der_true h ⟨hr2, .known hKy⟩))
  have HRd := Lib.hid hReads
  have HB : Hid (Below w.heap.size w (w5.alloc (.cells #[.string ⟨a.toArray⟩, .string ⟨y.toArray⟩] 24))) := B.alloc hB5 _
  clear HD hReads hplain hlen hKa hKy hnx ha hak hsz hbz hne hk1 hk2 hr1 hr2 hl1 hl2 hb B HN1 HF H1 H2 HG HP hW
  go_wp2_with fail
  refine (D1.out _ HRd.out).mono ?_
  rintro e w6 ⟨rfl, b6⟩
  have HR6 := Lib.hid (HRd.out.below b6)
  have HB6 := Lib.hid (HB.out.trans (b6.mono HB.out.size))
  clear b6 D1
  go_wp2_with fail
  refine (D2.out _ HR6.out).mono ?_
  rintro e w7 ⟨rfl, b7⟩
  have HR7 := Lib.hid (HR6.out.below b7)
  have HB7 := Lib.hid (HB6.out.trans (b7.mono HB6.out.size))
  clear b7 D2
  go_wp2_with fail
  refine (D3.out _ HR7.out).mono ?_
  rintro e w8 ⟨rfl, b8⟩
  have HB8 := Lib.hid (HB7.out.trans (b8.mono HB7.out.size))
  clear b8 D3
  go_wp2
  go_ret
  exact ⟨rfl, HB8.out⟩
end L3

end Go.Proofs.Ytloheongiceliaa
end
