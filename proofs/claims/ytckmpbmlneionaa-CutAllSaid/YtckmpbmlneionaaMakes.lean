/- What the makers make of right terms is right, and at most one deeper; the exponents of a right power are right terms in order. -/
import Derived.Test.YtckmpbmlneionaaGood
namespace Go.Proofs.Ytckmpbmlneionaa.Tm

theorem less_asymm : ∀ a b : List UInt8, less a b = true → less b a = false := by
  intro a
  induction a with
  | nil => intro b h; cases b <;> simp_all [less, Op.bytesLess]
  | cons x a ih =>
    intro b h
    cases b with
    | nil => simp [less, Op.bytesLess] at h
    | cons y b =>
      simp only [less, Op.bytesLess, Bool.or_eq_true, decide_eq_true_eq, Bool.and_eq_true, beq_iff_eq] at h ih
      simp only [less, Op.bytesLess, Bool.or_eq_false_iff, decide_eq_false_iff_not, Bool.and_eq_false_iff]
      rcases h with h | ⟨rfl, h⟩
      · refine ⟨fun h2 => ?_, .inl ?_⟩
        · rw [UInt8.lt_iff_toNat_lt] at h h2; omega
        · simp only [beq_eq_false_iff_ne, ne_eq]
          rintro rfl
          rw [UInt8.lt_iff_toNat_lt] at h; omega
      · refine ⟨fun h2 => ?_, .inr (ih b h)⟩
        rw [UInt8.lt_iff_toNat_lt] at h2; omega

/-- What is read as parts is what exps lists. -/
theorem parts_inv {f : Nat} (hf : f ≤ 400) (kind : UInt8) (k : Nat) : ∀ l ah n e, partsOf (parse f) kind k l ah = (n, e, 0) → l.length ≤ 20000 →
    (exps k l).flatten = l.take n ∧ (∀ x ∈ exps k l, parse f x = (x.length, depthOf x, 0) ∧ depthOf x ≠ 0) ∧ (kind = 101 → chain ah (exps k l)) ∧ e = maxD (exps k l) := by
  induction k with
  | zero =>
    intro l ah n e h _
    simp only [partsOf, Prod.mk.injEq, and_true] at h
    obtain ⟨rfl, rfl⟩ := h
    simp [exps, chain, maxD]
  | succ k ih =>
    intro l ah n e h hl
    obtain ⟨n1, d1, n2, e2, a1, a2, a3, rfl, rfl⟩ := parts_ok h
    have hb := parse_bounds f l
    rw [a1] at hb
    have hb2 := hb.2 rfl
    simp only at hb hb2
    have hr : read l = (n1, d1, 0) := by
      rw [read_parse]
      exact parse_fuel f 400 l n1 d1 a1 (by omega)
    have hx : exps (k + 1) l = l.take n1 :: exps k (l.drop n1) := by simp only [exps, hr]
    have hlen : (l.take n1).length = n1 := by simp; omega
    have hs := parse_stable f l n1 d1 a1 []
    rw [List.append_nil] at hs
    have hd := depth_of_parse (p := l.take n1) (d := d1) (by
      rw [hlen]
      exact parse_fuel f 400 (l.take n1) n1 d1 hs (by omega)) (by rw [hlen]; omega)
    obtain ⟨i1, i2, i3, i4⟩ := ih (l.drop n1) (l.take n1) n2 e2 a3 (by rw [List.length_drop]; omega)
    rw [hx]
    refine ⟨?_, ?_, ?_, ?_⟩
    · rw [List.flatten_cons, i1, List.take_add]
    · intro x hxm
      rcases List.mem_cons.1 hxm with rfl | hxm
      · exact ⟨by rw [hlen, hd.1]; exact hs, by rw [hd.1]; exact hd.2⟩
      · exact i2 x hxm
    · intro h1
      refine ⟨?_, i3 h1⟩
      cases hl2 : less (l.take n1) ah with
      | false => rfl
      | true => exact absurd ⟨h1, hl2⟩ a2
    · simp only [maxD, hd.1, i4]

theorem expsOf_ok {l : List UInt8} (h : right l = true) (he : element l = true) :
    chain [] (expsOf l) ∧ (∀ x ∈ expsOf l, depthOf x ≠ 0 ∧ depthOf x + 1 ≤ depthOf l) ∧ (expsOf l).length ≤ 32 ∧ (expsOf l).flatten.length ≤ l.length := by
  by_cases h0 : l.getD 0 0 = 103
  · have : expsOf l = [] := by unfold expsOf; rw [if_pos h0]
    rw [this]
    simp [chain]
  · have h1 : l.getD 0 0 = 101 := by
      cases l with
      | nil => simp [element] at he
      | cons c r =>
        simp [element] at he h0 ⊢
        rcases he with he | he
        · exact absurd he h0
        · exact he
    obtain ⟨p1, p2, p3⟩ := right_power h h1
    have hx : expsOf l = exps (l.getD 1 0).toNat (l.drop 2) := by unfold expsOf; rw [if_neg h0]
    obtain ⟨hp, hl⟩ := right_parse ((right_iff l).1 h)
    obtain ⟨b0, b1, m, e, b2, b3, b4⟩ := parse_ok hp
    have hh : headOf l = (2, (l.getD 1 0).toNat) := by
      have hne : l ≠ [] := by rintro rfl; simp at p1
      have hh0 : headOf l = if 2 ≤ l.length ∧ 1 ≤ (l.getD 1 0).toNat ∧ (l.getD 1 0).toNat ≤ 32 then (2, (l.getD 1 0).toNat) else (0, 0) := by
        unfold headOf
        rw [if_neg hne, h1]
        simp
      rw [hh0, if_pos ⟨p1, p2, p3⟩]
    have hbg : begin_ l = (2, (l.getD 1 0).toNat) := by rw [(begin_some b0).1, hh]
    rw [hbg, h1] at b2
    simp only at b2
    obtain ⟨i1, i2, i3, i4⟩ := parts_inv (by omega) 101 _ _ _ _ _ b2 (by rw [List.length_drop]; omega)
    rw [hx]
    refine ⟨i3 rfl, ?_, by rw [exps_length]; exact p3, ?_⟩
    · intro x hxm
      refine ⟨(i2 x hxm).2, ?_⟩
      have hle : ∀ (qs : List (List UInt8)) q, q ∈ qs → depthOf q ≤ maxD qs := by
        intro qs
        induction qs with
        | nil => intro q hq; simp at hq
        | cons a qs ih =>
          intro q hq
          simp only [maxD]
          rcases List.mem_cons.1 hq with rfl | hq
          · omega
          · have := ih q hq; omega
      have := hle _ x hxm
      omega
    · rw [i1]
      simp
      omega

theorem chain_insert {t : List UInt8} : ∀ (xs : List (List UInt8)) (ah : List UInt8) (i : Nat), chain ah xs → Found xs t i → (i = 0 → less t ah = false) → chain ah (ins xs i t) := by
  intro xs
  induction xs with
  | nil =>
    intro ah i _ hf h0
    have : i = 0 := by have := hf.1; simp at this; exact this
    subst this
    exact ⟨h0 rfl, trivial⟩
  | cons x xs ih =>
    intro ah i hc hf h0
    cases i with
    | zero =>
      refine ⟨h0 rfl, ?_, hc.2⟩
      have := hf.2.2 (by simp)
      simpa using this
    | succ i =>
      have hf' : Found xs t i := by
        refine ⟨by have := hf.1; simp at this; exact this, fun hp => ?_, fun hl => ?_⟩
        · have := hf.2.1 (by omega)
          have e : (x :: xs).getD (i + 1 - 1) [] = xs.getD (i - 1) [] := by
            cases i with
            | zero => omega
            | succ i => simp
          rw [e] at this
          exact this
        · have := hf.2.2 (by simpa using hl)
          simpa using this
      refine ⟨hc.1, ?_⟩
      refine ih x i hc.2 hf' (fun hi => ?_)
      subst hi
      have := hf.2.1 (by omega)
      exact less_asymm _ _ (by simpa using this)

theorem maxDepth_bound {k : Nat} {ps : List (List UInt8)} (h : ∀ p ∈ ps, depthOf p ≤ k) : maxDepth ps ≤ k := by
  rw [maxDepth_eq]
  induction ps with
  | nil => simp [maxD]
  | cons p ps ih =>
    simp only [maxD]
    have h1 := h p (by simp)
    have h2 := ih (fun q hq => h q (by simp [hq]))
    omega

theorem good_put {hd : List UInt8} {ps : List (List UInt8)} {l : List UInt8} {k : Nat} (hput : put hd ps = (l, 0)) (hb : begin_ (hd ++ ps.flatten) = (hd.length, ps.length)) (hne : hd ≠ [])
    (hk : (hd ++ ps.flatten).getD 0 0 = 107 → element ps.flatten = true) (hc : (hd ++ ps.flatten).getD 0 0 = 101 → chain [] ps) (hg : ∀ p ∈ ps, depthOf p ≤ k) : l = hd ++ ps.flatten ∧ depthOf l = maxDepth ps + 1 ∧ Good (k + 1) 20000 l := by
  obtain ⟨h1, h2, h3, h4⟩ := put_term hput hb hne hk hc
  have hd := depth_of_parse h3 h4
  have := maxDepth_bound hg
  exact ⟨h1, hd.1, by rw [hd.1]; omega, by rw [hd.1]; omega, h4⟩

theorem good_pair {a b l : List UInt8} {k : Nat} (h : put [112] [a, b] = (l, 0)) (ha : depthOf a ≤ k) (hb : depthOf b ≤ k) : l = 112 :: (a ++ b) ∧ depthOf l = max (depthOf a) (depthOf b) + 1 ∧ Good (k + 1) 20000 l := by
  have := good_put (k := k) h (by simp [begin_, headOf]) (by simp) (by simp) (by simp) (by intro p hp; simp at hp; rcases hp with rfl | rfl <;> assumption)
  refine ⟨by simpa using this.1, ?_, this.2.2⟩
  rw [this.2.1]
  simp [maxDepth]
theorem good_sign {a b l : List UInt8} {k : Nat} (h : put [120] [a, b] = (l, 0)) (ha : depthOf a ≤ k) (hb : depthOf b ≤ k) : l = 120 :: (a ++ b) ∧ depthOf l = max (depthOf a) (depthOf b) + 1 ∧ Good (k + 1) 20000 l := by
  have := good_put (k := k) h (by simp [begin_, headOf]) (by simp) (by simp) (by simp) (by intro p hp; simp at hp; rcases hp with rfl | rfl <;> assumption)
  refine ⟨by simpa using this.1, ?_, this.2.2⟩
  rw [this.2.1]
  simp [maxDepth]
theorem good_hash {a l : List UInt8} {k : Nat} (h : put [104] [a] = (l, 0)) (ha : depthOf a ≤ k) : l = 104 :: a ∧ depthOf l = depthOf a + 1 ∧ Good (k + 1) 20000 l := by
  have := good_put (k := k) h (by simp [begin_, headOf]) (by simp) (by simp) (by simp) (by intro p hp; simp at hp; subst hp; assumption)
  refine ⟨by simpa using this.1, ?_, this.2.2⟩
  rw [this.2.1]
  simp [maxDepth]
theorem good_key {a l : List UInt8} {k : Nat} (h : put [107] [a] = (l, 0)) (he : element a = true) (ha : depthOf a ≤ k) : l = 107 :: a ∧ depthOf l = depthOf a + 1 ∧ Good (k + 1) 20000 l := by
  have := good_put (k := k) h (by simp [begin_, headOf]) (by simp) (by intro _; simpa using he) (by simp) (by intro p hp; simp at hp; subst hp; assumption)
  refine ⟨by simpa using this.1, ?_, this.2.2⟩
  rw [this.2.1]
  simp [maxDepth]
theorem good_seal3 {a b c l : List UInt8} {k : Nat} (h : put [115] [a, b, c] = (l, 0)) (ha : depthOf a ≤ k) (hb : depthOf b ≤ k) (hc : depthOf c ≤ k) : l = 115 :: (a ++ (b ++ c)) ∧ Good (k + 1) 20000 l := by
  have := good_put (k := k) h (by simp [begin_, headOf]) (by simp) (by simp) (by simp) (by intro p hp; simp at hp; rcases hp with rfl | rfl | rfl <;> assumption)
  exact ⟨by simpa using this.1, this.2.2⟩
theorem good_power {a b l : List UInt8} {k i : Nat} (ha : right a = true) (hel : element a = true) (hf : Found (expsOf a) b i) (hn : (expsOf a).length ≠ 32)
    (h : put [101, UInt8.ofNat ((expsOf a).length + 1)] (ins (expsOf a) i b) = (l, 0)) (hka : depthOf a ≤ k) (hkb : depthOf b ≤ k) : Good (k + 1) 20000 l := by
  obtain ⟨x1, x2, x3, x4⟩ := expsOf_ok ha hel
  have hil := ins_length (expsOf a) i b hf.1
  refine (good_put (k := k) h ?_ (by simp) ?_ ?_ ?_).2.2
  · rw [hil]
    exact begin_pow _ (by omega) (by omega) _
  · simp
  · intro _
    refine chain_insert _ _ _ x1 hf (fun _ => ?_)
    cases b <;> simp [less, Op.bytesLess]
  · intro p hp
    simp only [ins, List.mem_append, List.mem_cons] at hp
    rcases hp with hp | rfl | hp
    · have := (x2 p (List.mem_of_mem_take hp)).2; omega
    · exact hkb
    · have := (x2 p (List.mem_of_mem_drop hp)).2; omega

end Go.Proofs.Ytckmpbmlneionaa.Tm
