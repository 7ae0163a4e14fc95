/- The order of texts by bytes: it is total, so a row in order is fixed by what stands in it. All terms that stand in a right one, however deep: what is reached by going through the parts, one by one; a row in order, each once, is fixed by what stands in it. A row of texts that can be read. Contract of the document's own Value (gemotref2). -/
import Derived.Test.YtloheongiceliaaMakes
import Derived.Test.YtloheongiceliaaOfPure
import Derived.Test.YtloheongiceliaaRef2
import Derived.Test.YtloheongiceliaaValue
section
namespace Go.Proofs.Ytloheongiceliaa.Tm

theorem less_cons (x y : UInt8) (a b : List UInt8) : less (x :: a) (y :: b) = true ↔ x < y ∨ (x = y ∧ less a b = true) := by
  simp only [less, Op.bytesLess, Bool.or_eq_true, decide_eq_true_eq, Bool.and_eq_true, beq_iff_eq]
theorem less_antisymm : ∀ a b : List UInt8, less a b = false → less b a = false → a = b := by
  intro a
  induction a with
  | nil => intro b h1 _; cases b <;> simp_all [less, Op.bytesLess]
  | cons x a ih =>
    intro b h1 h2
    cases b with
    | nil => simp [less, Op.bytesLess] at h2
    | cons y b =>
      have h1' : ¬ (x < y ∨ (x = y ∧ less a b = true)) := fun h => by rw [(less_cons x y a b).2 h] at h1; cases h1
      have h2' : ¬ (y < x ∨ (y = x ∧ less b a = true)) := fun h => by rw [(less_cons y x b a).2 h] at h2; cases h2
      have hxy : x = y := by
        apply UInt8.toNat_inj.1
        have a1 : ¬ x < y := fun h => h1' (.inl h)
        have a2 : ¬ y < x := fun h => h2' (.inl h)
        rw [UInt8.lt_iff_toNat_lt] at a1 a2
        omega
      subst hxy
      congr 1
      refine ih b ?_ ?_
      · cases h : less a b with
        | false => rfl
        | true => exact absurd (.inr ⟨rfl, h⟩) h1'
      · cases h : less b a with
        | false => rfl
        | true => exact absurd (.inr ⟨rfl, h⟩) h2'
theorem less_trans : ∀ a b c : List UInt8, less a b = true → less b c = true → less a c = true := by
  intro a
  induction a with
  | nil =>
    intro b c h1 h2
    cases c with
    | nil => cases b <;> simp [less, Op.bytesLess] at h2
    | cons z c => simp [less, Op.bytesLess]
  | cons x a ih =>
    intro b c h1 h2
    cases b with
    | nil => simp [less, Op.bytesLess] at h1
    | cons y b =>
      cases c with
      | nil => simp [less, Op.bytesLess] at h2
      | cons z c =>
        rw [less_cons] at h1 h2 ⊢
        rcases h1 with h1 | ⟨rfl, h1⟩
        · rcases h2 with h2 | ⟨rfl, h2⟩
          · left; rw [UInt8.lt_iff_toNat_lt] at h1 h2 ⊢; omega
          · exact .inl h1
        · rcases h2 with h2 | ⟨rfl, h2⟩
          · exact .inl h2
          · exact .inr ⟨rfl, ih b c h1 h2⟩
def leq (a b : List UInt8) : Prop := less b a = false
theorem leq_trans {a b c : List UInt8} (h1 : leq a b) (h2 : leq b c) : leq a c := by
  unfold leq at *
  cases h : less c a with
  | false => rfl
  | true =>
    exfalso
    cases hab : less a b with
    | true =>
      have := less_trans c a b h hab
      rw [this] at h2; cases h2
    | false =>
      have := less_antisymm a b hab h1
      subst this
      rw [h] at h2; cases h2
theorem leq_nil (a : List UInt8) : leq [] a := by cases a <;> simp [leq, less, Op.bytesLess]
theorem chain_pairwise : ∀ (xs : List (List UInt8)) (ah : List UInt8), chain ah xs → xs.Pairwise leq ∧ ∀ x ∈ xs, leq ah x := by
  intro xs
  induction xs with
  | nil => intro ah _; exact ⟨List.Pairwise.nil, fun x hx => by cases hx⟩
  | cons p ps ih =>
    intro ah h
    obtain ⟨i1, i2⟩ := ih p h.2
    refine ⟨List.Pairwise.cons i2 i1, fun x hx => ?_⟩
    rcases List.mem_cons.1 hx with rfl | hx
    · exact h.1
    · exact leq_trans h.1 (i2 x hx)
/-- A row in order is fixed by what stands in it. -/
theorem chain_unique {xs ys : List (List UInt8)} (h1 : chain [] xs) (h2 : chain [] ys) (hp : xs.Perm ys) : xs = ys :=
  List.Perm.eq_of_pairwise (le := leq) (fun a b _ _ h h' => less_antisymm a b h' h) (chain_pairwise xs [] h1).1 (chain_pairwise ys [] h2).1 hp
theorem ins_perm (xs : List (List UInt8)) (i : Nat) (t : List UInt8) : (ins xs i t).Perm (xs ++ [t]) := by
  unfold ins
  have h1 : (xs.take i ++ t :: xs.drop i).Perm (t :: (xs.take i ++ xs.drop i)) := List.perm_middle
  rw [List.take_append_drop] at h1
  exact h1.trans (List.perm_append_comm (l₁ := [t]) (l₂ := xs))

end Go.Proofs.Ytloheongiceliaa.Tm
end

section
namespace Go.Proofs.Ytloheongiceliaa.Tm

/-- A term that stands in a right one, however deep, or is it. -/
inductive Sub : List UInt8 → List UInt8 → Prop where
  | self (t : List UInt8) : Sub t t
  | part {t p x : List UInt8} (hp : p ∈ ofL t) (hx : Sub p x) : Sub t x
theorem Sub.snoc {t x p : List UInt8} (h : Sub t x) (hp : p ∈ ofL x) : Sub t p := by
  induction h with
  | self t => exact .part hp (.self p)
  | part hq _ ih => exact .part hq (ih hp)
theorem Sub.right {t x : List UInt8} (h : Sub t x) (ht : right t = true) : right x = true ∧ x.length ≤ t.length ∧ depthOf x ≤ depthOf t := by
  induction h with
  | self t => exact ⟨ht, Nat.le_refl _, Nat.le_refl _⟩
  | part hp _ ih =>
    obtain ⟨h1, h2, h3⟩ := (ofL_ok ht).2.1 _ hp
    obtain ⟨i1, i2, i3⟩ := ih ((right_iff _).2 h1)
    exact ⟨i1, by omega, by omega⟩

/-- How far the row has been gone through: all in it stand in t; the parts of those ahead of i are in it. -/
def Reached (t : List UInt8) (l : List (List UInt8)) (i : Nat) : Prop :=
  t ∈ l ∧ (∀ x ∈ l, Sub t x) ∧ ∀ x ∈ l.take i, ∀ p ∈ ofL x, p ∈ l
theorem reached_start (t : List UInt8) : Reached t [t] 0 := ⟨by simp, by intro x hx; simp at hx; subst hx; exact .self _, by simp⟩
theorem Reached.step {t x : List UInt8} {l : List (List UInt8)} {i : Nat} (h : Reached t l i) (hx : l[i]? = some x) : Reached t (l ++ ofL x) (i + 1) := by
  obtain ⟨h1, h2, h3⟩ := h
  have hxm : x ∈ l := List.mem_of_getElem? hx
  have hil : i < l.length := (List.getElem?_eq_some_iff.1 hx).1
  refine ⟨List.mem_append_left _ h1, ?_, ?_⟩
  · intro y hy
    rcases List.mem_append.1 hy with hy | hy
    · exact h2 y hy
    · exact (h2 x hxm).snoc hy
  · intro y hy p hp
    have e : (l ++ ofL x).take (i + 1) = l.take i ++ [x] := by
      rw [List.take_append_of_le_length (by omega), List.take_add_one, hx]; rfl
    rw [e] at hy
    rcases List.mem_append.1 hy with hy | hy
    · exact List.mem_append_left _ (h3 y hy p hp)
    · rw [List.mem_singleton.1 hy] at hp
      exact List.mem_append_right _ hp
theorem Reached.all {t : List UInt8} {l : List (List UInt8)} (h : Reached t l l.length) (x : List UInt8) : x ∈ l ↔ Sub t x := by
  obtain ⟨h1, h2, h3⟩ := h
  rw [List.take_length] at h3
  refine ⟨h2 x, fun hx => ?_⟩
  have key : ∀ a b, Sub a b → a ∈ l → b ∈ l := by
    intro a b hab
    induction hab with
    | self _ => exact fun h => h
    | part hp _ ih => exact fun h => ih (h3 _ h _ hp)
  exact key t x hx h1
/-- What is still to be gone through gets shorter. -/
theorem rest_shrinks {x : List UInt8} {l : List (List UInt8)} {i : Nat} (hx : l[i]? = some x) (hr : right x = true) : ((l ++ ofL x).drop (i + 1)).flatten.length < (l.drop i).flatten.length := by
  have hil : i < l.length := (List.getElem?_eq_some_iff.1 hx).1
  have e1 : l.drop i = x :: l.drop (i + 1) := by
    rw [List.drop_eq_getElem_cons hil]
    congr 1
    exact (List.getElem?_eq_some_iff.1 hx).2
  have e2 : (l ++ ofL x).drop (i + 1) = l.drop (i + 1) ++ ofL x := List.drop_append_of_le_length (by omega)
  have h1 := (ofL_ok hr).1
  have h2 := (begin_some (right_begin hr)).1
  have h3 := right_begin hr
  have h4 := (right_ne_nil hr).2
  rw [e1, e2, List.flatten_append, List.flatten_cons, List.length_append, List.length_append, h1, List.length_drop]
  omega

/-- By bytes, each once. -/
def strict (a b : List UInt8) : Prop := less a b = true
theorem strict_unique {xs ys : List (List UInt8)} (h1 : xs.Pairwise strict) (h2 : ys.Pairwise strict) (h : ∀ x, x ∈ xs ↔ x ∈ ys) : xs = ys := by
  have irr : ∀ a : List UInt8, ¬ strict a a := fun a ha => by
    have := less_asymm a a ha
    unfold strict at ha
    rw [ha] at this
    cases this
  induction xs generalizing ys with
  | nil =>
    cases ys with
    | nil => rfl
    | cons y ys => exact absurd ((h y).2 (by simp)) (by simp)
  | cons x xs ih =>
    cases ys with
    | nil => exact absurd ((h x).1 (by simp)) (by simp)
    | cons y ys =>
      cases h1 with
      | cons a1 a2 =>
      cases h2 with
      | cons b1 b2 =>
      have hxy : x = y := by
        rcases List.mem_cons.1 ((h x).1 (by simp)) with e | e
        · exact e
        · rcases List.mem_cons.1 ((h y).2 (by simp)) with e2 | e2
          · exact e2.symm
          · have c1 := b1 x e
            have c2 := a1 y e2
            have := less_asymm _ _ c1
            unfold strict at c2
            rw [c2] at this
            cases this
      subst hxy
      congr 1
      refine ih a2 b2 (fun z => ?_)
      constructor
      · intro hz
        rcases List.mem_cons.1 ((h z).1 (List.mem_cons_of_mem _ hz)) with e | e
        · subst e; exact absurd (a1 z hz) (irr z)
        · exact e
      · intro hz
        rcases List.mem_cons.1 ((h z).2 (List.mem_cons_of_mem _ hz)) with e | e
        · subst e; exact absurd (b1 z hz) (irr z)
        · exact e

end Go.Proofs.Ytloheongiceliaa.Tm
end

section
namespace Go.Proofs.Ytloheongiceliaa
open Go.ChangeShapes Go.WideShapes Go.ChangeAt Go.RowKit

/-- A row of texts that can be read. -/
def Reads (w : World) (v : Value) (xs : List (List UInt8)) : Prop :=
  ∃ A c, v = .slice A xs.length c ∧ ∀ j x, xs[j]? = some x → ∃ g, A = some ⟨g, 0, none⟩ ∧ g < w.heap.size ∧ w.cell? ⟨g, j, none⟩ = some (.string ⟨x.toArray⟩)
theorem Reads.below {w w' : World} {v : Value} {xs : List (List UInt8)} (h : Reads w v xs) (hb : Below w.heap.size w w') : Reads w' v xs := by
  obtain ⟨A, c, h1, h2⟩ := h
  refine ⟨A, c, h1, fun j x hx => ?_⟩
  obtain ⟨g, e, hg, hc⟩ := h2 j x hx
  exact ⟨g, e, Nat.lt_of_lt_of_le hg hb.size, (hb.cell (p := ⟨g, j, none⟩) hg).trans hc⟩
theorem reads_of_row {w : World} {B : Nat} {v : Value} {xs : List (List UInt8)} (h : w.ownsRow B 9 1 v xs.length (strs xs)) : Reads w v xs := by
  rcases h.2 with ⟨rfl, h0⟩ | ⟨g, cap, cur, rfl, _⟩
  · have : xs = [] := List.length_eq_zero_iff.1 h0
    subst this
    exact ⟨none, 0, rfl, fun j x hx => by simp at hx⟩
  · exact ⟨_, cap, rfl, fun j x hx => ⟨g, rfl, lt_of_row h, texts_of_row h j x hx⟩⟩

theorem less_of_not {x s : List UInt8} (h1 : Tm.less s x = false) (h2 : x ≠ s) : Tm.less x s = true := by
  cases h : Tm.less x s with
  | true => rfl
  | false => exact absurd (Tm.less_antisymm x s h h1) h2

end Go.Proofs.Ytloheongiceliaa
end

section
namespace Go.Proofs.Ytloheongiceliaa
open Go.ChangeShapes Go.WideShapes Go.ChangeAt Go.RowKit

def RValuing (l : List UInt8) (w : World) (k : Nat) (v5 v6 : Value) (wr : World) : Prop :=
  ∃ i : Nat, k + i = 8 ∧ v6 = .int .i64 ((i + 1 : Nat) : Int) ∧ v5 = .int .u64 (Tm.beNum (l.take i)) ∧ ∃ m, wr = w.drewN m

set_option maxRecDepth 100000 in
set_option maxHeartbeats 2000000 in
theorem RValue_word (s : ByteArray) (hr : Tm.right s.data.toList = true) (hk : s.data.toList.getD 0 0 = 110 ∨ s.data.toList.getD 0 0 = 117) (w : World) :
    Calls Try.prog 55 #[.string s] w (Drew w (.tuple #[.int .u64 (Tm.beNum (s.data.toList.drop 1)), .bool true])) := by
  have h9 := Tm.word_long hr hk
  rw [len_bytes] at h9
  have cK := fun W => RKind_calls s (by omega) W
  have hkind : Tm.kindOf s.data.toList = s.data.toList.getD 0 0 := by unfold Tm.kindOf; rw [if_pos hr]
  rw [hkind] at cK
  generalize s.data.toList.getD 0 0 = c at *
  have HK := Lib.hid cK
  obtain ⟨l, hl⟩ : ∃ l, s.data.toList.drop 1 = l := ⟨_, rfl⟩
  have hl8 : l.length = 8 := by rw [← hl, List.length_drop, len_bytes]; omega
  have hget : ∀ i (h : i < 8), l[i]? = some (s[i + 1]'(by omega)) := by
    intro i h
    rw [← hl, List.getElem?_drop, Nat.add_comm 1 i, List.getElem?_eq_getElem (by rw [len_bytes]; omega)]
    congr 1
  rw [hl]
  have HGet := Lib.hid hget
  have gk1 : (((c.toNat : Int) != 110) = false) ∨ (((c.toNat : Int) != 110) = true ∧ ((c.toNat : Int) != 117) = false) := by
    rcases hk with rfl | rfl
    · exact .inl rfl
    · exact .inr ⟨rfl, rfl⟩
  have i9 : (s.size : Int) = 9 := by omega
  have H9 := Lib.hid h9
  clear cK hkind hl hk hr hget
  rcases gk1 with g1 | ⟨g1, g2⟩
  all_goals
    go_enter Try.func55, Try.ntmps55
    go_wp2_with fail
    refine (HK.out _).mono ?_
    rintro e' w' ⟨rfl, md, rfl⟩
    go_wp2
    go_loopg [5, 6] 8 (fun k v5 v6 wr => RValuing l w k v5 v6 wr)
    case atStart => exact ⟨0, by omega, rfl, rfl, _, rfl⟩
    case round =>
      obtain ⟨i, hk, rfl, rfl, md2, rfl⟩ := hrel
      by_cases hi : i < 8
      · have hb := HGet.out i hi
        have l1 : i + 1 < s.size := by have := H9.out; omega
        obtain ⟨b, hbb⟩ : ∃ b, s[i + 1] = b := ⟨_, rfl⟩
        have htk : l.take (i + 1) = l.take i ++ [b] := by rw [List.take_add_one, hb, hbb]; rfl
        have hbs := Tm.beNum_snoc (l.take i) b
        rw [← htk] at hbs
        have hlt := Tm.beNum_lt (l.take i)
        have hlt7 : Tm.beNum (l.take i) < 72057594037927936 := by
          refine Nat.lt_of_lt_of_le hlt ?_
          have : (l.take i).length ≤ 7 := by simp; omega
          calc 256 ^ (l.take i).length ≤ 256 ^ 7 := Nat.pow_le_pow_right (by omega) this
            _ = 72057594037927936 := by decide
        obtain ⟨m, hm⟩ : ∃ m, Tm.beNum (l.take i) = m := ⟨_, rfl⟩
        rw [hm] at hbs hlt7 ⊢
        have HBS := Lib.hid hbs
        have hbn := b.toNat_lt
        have j1 : (i : Int) + 1 < 9 := by omega
        have j2 : (0 : Int) ≤ (i : Int) + 1 := by omega
        have m1 : (0 : Int) ≤ (m : Int) := by omega
        have m2 : (m : Int) < 72057594037927936 := by omega
        have m3 : (b.toNat : Int) < 256 := by omega
        clear hbs htk hlt hm hb
        go_wp2
        go_roundg (gk - 1)
        case measure => omega
        case rel => exact ⟨i + 1, by omega, by simp, by rw [HBS.out]; simp only [Value.int.injEq, true_and]; omega, _, rfl⟩
      · obtain rfl : i = 8 := by omega
        have htk : l.take 8 = l := List.take_of_length_le (by omega)
        rw [htk]
        go_wp2
        go_ret2
        exact ⟨rfl, _, rfl⟩

set_option maxHeartbeats 400000 in
theorem RValue_other (s : ByteArray) (hs : s.size ≤ maxLen) (h1 : ¬ Tm.kindOf s.data.toList = 110) (h2 : ¬ Tm.kindOf s.data.toList = 117) (w : World) :
    Calls Try.prog 55 #[.string s] w (Drew w (.tuple #[.int .u64 0, .bool false])) := by
  have HK := Lib.hid (fun W => RKind_calls s hs W)
  have g1 : (((Tm.kindOf s.data.toList).toNat : Int) != 110) = true := kind_no (n := 110) (by omega) h1
  have g2 : (((Tm.kindOf s.data.toList).toNat : Int) != 117) = true := kind_no (n := 117) (by omega) h2
  generalize Tm.kindOf s.data.toList = c at *
  clear h1 h2
  go_enter Try.func55, Try.ntmps55
  go_wp2_with fail
  refine (HK.out _).mono ?_
  rintro e' w' ⟨rfl, md, rfl⟩
  go_wp2
  go_ret2
  exact ⟨rfl, _, rfl⟩

theorem RValue_calls (s : ByteArray) (hs : s.size ≤ maxLen) (w : World) :
    Calls Try.prog 55 #[.string s] w (Drew w (.tuple #[.int .u64 (Tm.valueT s.data.toList).1, .bool (Tm.valueT s.data.toList).2])) := by
  unfold Tm.valueT
  by_cases h1 : Tm.kindOf s.data.toList = 110
  · rw [if_pos (.inl h1)]
    obtain ⟨k1, k2⟩ := Tm.kind_right h1 (by decide)
    exact RValue_word s k1 (.inl k2) w
  by_cases h2 : Tm.kindOf s.data.toList = 117
  · rw [if_pos (.inr h2)]
    obtain ⟨k1, k2⟩ := Tm.kind_right h2 (by decide)
    exact RValue_word s k1 (.inr k2) w
  rw [if_neg (fun h => h.elim h1 h2)]
  exact RValue_other s hs h1 h2 w

end Go.Proofs.Ytloheongiceliaa
end
