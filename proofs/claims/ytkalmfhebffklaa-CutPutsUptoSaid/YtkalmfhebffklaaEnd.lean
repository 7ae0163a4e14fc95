/- Contract of the document's own reader (gemotref1.End): it is the recursive reading, for every text and place. -/
import Derived.Test.YtkalmfhebffklaaEndLeaf
import Derived.Test.YtkalmfhebffklaaOfPure
namespace Go.Proofs.Ytkalmfhebffklaa
open Go.ChangeShapes Go.WideShapes Go.ChangeAt Go.RowKit

namespace Tm
def comb (c d : Nat) (r : Nat × Nat × Nat) : Nat × Nat × Nat := if r.2.2 ≠ 0 then (0, 0, r.2.2) else (c + r.1, max d r.2.1, 0)
def endI (at_ : Nat) (r : Nat × Nat × Nat) : Int := if r.2.2 = 0 then ((at_ + r.1 : Nat) : Int) else if r.2.2 = 4 then -2 else -1
def depI (r : Nat × Nat × Nat) : Nat := if r.2.2 = 0 then r.2.1 else 0
theorem parse_err (f : Nat) : ∀ l, (parse f l).2.2 = 0 ∨ (parse f l).2.2 = 2 ∨ (parse f l).2.2 = 4 := by
  induction f with
  | zero => intro l; simp [parse]
  | succ f ih =>
    have hp : ∀ kind k l ah, (partsOf (parse f) kind k l ah).2.2 = 0 ∨ (partsOf (parse f) kind k l ah).2.2 = 2 ∨ (partsOf (parse f) kind k l ah).2.2 = 4 := by
      intro kind k
      induction k with
      | zero => intro l ah; simp [partsOf]
      | succ k ihk =>
        intro l ah
        rw [partsOf]
        split
        · exact ih l
        · split
          · simp
          · split
            · exact ihk _ _
            · simp
    intro l
    rw [parse]
    split
    · simp
    · split
      · simp
      · split
        · exact hp _ _ _ _
        · simp
theorem parse_leaf {f : Nat} {l : List UInt8} (h0 : (begin_ l).1 ≠ 0) (h : (begin_ l).2 = 0) : parse (f + 1) l = ((begin_ l).1, 1, 0) := by
  have hk : ¬ (l.getD 0 0 = 107 ∧ element (l.drop (begin_ l).1) = false) := by
    rintro ⟨h1, _⟩
    have := begin_key h1 h0
    rw [this] at h
    simp at h
  exact parse_mk (f := f) (m := 0) (e := 0) h0 hk (by rw [h]; rfl)
theorem parse_node {f : Nat} {l : List UInt8} (h0 : (begin_ l).1 ≠ 0) (hk : ¬ (l.getD 0 0 = 107 ∧ element (l.drop (begin_ l).1) = false)) :
    parse (f + 1) l = if (partsOf (parse f) (l.getD 0 0) (begin_ l).2 (l.drop (begin_ l).1) []).2.2 ≠ 0 then (0, 0, (partsOf (parse f) (l.getD 0 0) (begin_ l).2 (l.drop (begin_ l).1) []).2.2)
      else ((begin_ l).1 + (partsOf (parse f) (l.getD 0 0) (begin_ l).2 (l.drop (begin_ l).1) []).1, (partsOf (parse f) (l.getD 0 0) (begin_ l).2 (l.drop (begin_ l).1) []).2.1 + 1, 0) := by
  rw [parse, if_neg h0, if_neg hk]
theorem parse_nokey {f : Nat} {l : List UInt8} (hk : l.getD 0 0 = 107 ∧ element (l.drop (begin_ l).1) = false) : parse (f + 1) l = (0, 0, 2) := by
  rw [parse]
  by_cases h : (begin_ l).1 = 0
  · rw [if_pos h]
  · rw [if_neg h, if_pos hk]
/-- One part more. -/
theorem comb_step {p : List UInt8 → Nat × Nat × Nat} {kind : UInt8} {k c d n1 d1 : Nat} {l ah : List UInt8} (h1 : p l = (n1, d1, 0)) (h2 : ¬ (kind = 101 ∧ less (l.take n1) ah = true)) :
    comb c d (partsOf p kind (k + 1) l ah) = comb (c + n1) (max d d1) (partsOf p kind k (l.drop n1) (l.take n1)) := by
  rw [partsOf, h1]
  simp only [ne_eq, not_true_eq_false, if_false, if_neg h2]
  generalize partsOf p kind k (l.drop n1) (l.take n1) = r
  obtain ⟨n2, d2, e2⟩ := r
  by_cases he : e2 = 0
  · subst he
    simp only [comb, ne_eq, not_true_eq_false, if_false, Prod.mk.injEq, and_true]
    exact ⟨by omega, by omega⟩
  · simp [comb, he]
theorem comb_self (r : Nat × Nat × Nat) (h : r.2.2 ≠ 0 → r.1 = 0 ∧ r.2.1 = 0) : comb 0 0 r = r := by
  obtain ⟨n, d, e⟩ := r
  simp only at h
  unfold comb
  by_cases he : e = 0
  · simp [he]
  · obtain ⟨rfl, rfl⟩ := h he
    simp [he]
theorem partsOf_err (p : List UInt8 → Nat × Nat × Nat) (kind : UInt8) (k : Nat) (l ah : List UInt8) : (partsOf p kind k l ah).2.2 ≠ 0 → (partsOf p kind k l ah).1 = 0 ∧ (partsOf p kind k l ah).2.1 = 0 := by
  cases k with
  | zero => simp [partsOf]
  | succ k =>
    rw [partsOf]
    split
    · simp
    · split
      · simp
      · split <;> simp
theorem comb_err {p : List UInt8 → Nat × Nat × Nat} {kind : UInt8} {k c d : Nat} {l ah : List UInt8} (h1 : (p l).2.2 ≠ 0) : comb c d (partsOf p kind (k + 1) l ah) = (0, 0, (p l).2.2) := by
  rw [partsOf, if_pos h1]
  simp [comb, h1]
theorem comb_less {p : List UInt8 → Nat × Nat × Nat} {kind : UInt8} {k c d n1 d1 : Nat} {l ah : List UInt8} (h1 : p l = (n1, d1, 0)) (h2 : kind = 101 ∧ less (l.take n1) ah = true) :
    comb c d (partsOf p kind (k + 1) l ah) = (0, 0, 2) := by
  rw [partsOf, h1]
  simp only [ne_eq, not_true_eq_false, if_false, if_pos h2]
  simp [comb]
end Tm

def Ends (l : List UInt8) (f : Nat) (kind : UInt8) (many k0 : Nat) (w : World) (K : Nat) (v10 v11 v12 v13 : Value) (wr : World) : Prop :=
  ∃ (i k d : Nat) (last : List UInt8), K + i = many ∧ v13 = .int .i64 i ∧ v10 = .int .i64 k ∧ v11 = .int .i64 d ∧ v12 = .string ⟨last.toArray⟩ ∧ k0 ≤ k ∧ k ≤ l.length ∧ d ≤ 400 ∧
    Tm.comb (k - k0) d (Tm.partsOf (Tm.parse f) kind K (l.drop k) last) = Tm.partsOf (Tm.parse f) kind many (l.drop k0) [] ∧ ∃ m, wr = w.drewN m

/-- How the reader may go on to a node's parts. -/
def Entry (s : ByteArray) (at_ m k0 : Nat) (pn : Int) (h : at_ < s.size) : Prop :=
  (((s[at_].toNat : Int) == 101) = true ∧ ((s[at_].toNat : Int) == 107) = false ∧ k0 = at_ + 2 ∧ ∃ h1 : at_ + 1 < s.size, s[at_ + 1].toNat = m ∧ 1 ≤ m ∧ m ≤ 32 ∧ pn = -1) ∨
  (((s[at_].toNat : Int) == 101) = false ∧ ((s[at_].toNat : Int) == 107) = true ∧ k0 = at_ + 1 ∧ pn = m ∧ 1 ≤ m ∧ m ≤ 32 ∧ ∃ h1 : at_ + 1 < s.size, ((s[at_ + 1].toNat : Int) != 103) = false) ∨
  (((s[at_].toNat : Int) == 101) = false ∧ ((s[at_].toNat : Int) == 107) = true ∧ k0 = at_ + 1 ∧ pn = m ∧ 1 ≤ m ∧ m ≤ 32 ∧ ∃ h1 : at_ + 1 < s.size, ((s[at_ + 1].toNat : Int) != 103) = true ∧ ((s[at_ + 1].toNat : Int) != 101) = false) ∨
  (((s[at_].toNat : Int) == 101) = false ∧ ((s[at_].toNat : Int) == 107) = false ∧ k0 = at_ + 1 ∧ pn = m ∧ 1 ≤ m ∧ m ≤ 32)

set_option maxRecDepth 100000 in
set_option maxHeartbeats 40000000 in
/-- The walk through a node's parts. -/
theorem End_node (s : ByteArray) (hs : s.size ≤ 9223372036854775807) (f : Nat) (hf : f + 1 ≤ 400)
    (ih : ∀ (k : Nat), k ≤ s.size → ∀ w, Calls Try.prog 86 #[.string s, .int .i64 k, .int .i64 f] w (Drew w (.tuple #[.int .i64 (Tm.endI k (Tm.parse f (s.data.toList.drop k))), .int .i64 (Tm.depI (Tm.parse f (s.data.toList.drop k)))])))
    (at_ m k0 : Nat) (hat : at_ < s.size) (hE : Entry s at_ m k0 (Tm.partsN s[at_]) hat) (hk0 : k0 ≤ s.size) (hleaf : Tm.leafN (s.data.toList.drop at_) = -1) (w : World)
    (hP : Tm.parse (f + 1) (s.data.toList.drop at_) = if (Tm.partsOf (Tm.parse f) s[at_] m (s.data.toList.drop k0) []).2.2 ≠ 0 then (0, 0, (Tm.partsOf (Tm.parse f) s[at_] m (s.data.toList.drop k0) []).2.2)
      else (k0 - at_ + (Tm.partsOf (Tm.parse f) s[at_] m (s.data.toList.drop k0) []).1, (Tm.partsOf (Tm.parse f) s[at_] m (s.data.toList.drop k0) []).2.1 + 1, 0)) (hka : at_ ≤ k0) :
    Calls Try.prog 86 #[.string s, .int .i64 at_, .int .i64 ((f + 1 : Nat) : Int)] w (Drew w (.tuple #[.int .i64 (Tm.endI at_ (Tm.parse (f + 1) (s.data.toList.drop at_))), .int .i64 (Tm.depI (Tm.parse (f + 1) (s.data.toList.drop at_)))])) := by
  obtain ⟨R, hR⟩ : ∃ R, Tm.parse (f + 1) (s.data.toList.drop at_) = R := ⟨_, rfl⟩
  rw [hR] at hP ⊢
  have cL := fun W => leaf_calls (s.extract at_ s.size) (by simp; omega) (by simp; omega) W
  rw [extract_drop, hleaf] at cL
  have cP := fun W => parts_calls s[at_] W
  generalize Tm.partsN s[at_] = pn at *
  have HL := Lib.hid cL
  have HP := Lib.hid cP
  have HI := Lib.hid ih
  have HR := Lib.hid hP
  have HF : Hid ((m : Int) ≤ 32 ∧ k0 ≤ s.size ∧ at_ ≤ k0) := ⟨by rcases hE with h | h | h | h <;> omega, hk0, hka⟩
  have len : s.data.toList.length = s.size := len_bytes s
  have j0 : (0 : Int) ≤ (at_ : Int) := by omega
  have j1 : (at_ : Int) < (s.size : Int) := by omega
  have j2 : (at_ : Int) ≤ (s.size : Int) := by omega
  have j3 : (s.size : Int) ≤ 9223372036854775807 := by omega
  have j4 : (f : Int) ≤ 399 := by omega
  have j5 : ¬ ((f : Int) + 1 = 0) := by omega
  have j6 : (((f : Int) + 1) == 0) = false := by rw [beq_eq_false_iff_ne]; exact j5
  obtain ⟨kind, hkind⟩ : ∃ kind, s[at_] = kind := ⟨_, rfl⟩
  have HK := Lib.hid hkind
  have HLen := Lib.hid len
  clear cL cP ih hP hR hleaf len hkind hk0 hka
  have HKi : Hid (((s[at_].toNat : Int) == 101) = true ↔ s[at_] = 101) := by
    show _ ↔ _
    rw [beq_iff_eq]
    exact u8_iff s[at_] 101 (by omega)
  rcases hE with ⟨g1, g2, rfl, h1, hm, m1, m2, rfl⟩ | hE
  · have n1 : (1 : Int) ≤ (m : Int) := by omega
    have n2 : (m : Int) ≤ 32 := by omega
    have n3 : (0 : Int) ≤ (m : Int) := by omega
    have n4 : (at_ : Int) + 1 < (s.size : Int) := by omega
    have n5 : (0 : Int) ≤ (at_ : Int) + 1 := by omega
    have HK1 : Hid (s[at_] = 101) := HKi.out.1 g1
    have hk0 := HF.out.2.1
    clear HK
    go_enter Try.func86, Try.ntmps86
    go_wp2_with fail
    refine (HL.out _).mono ?_
    rintro e' w' ⟨rfl, md, rfl⟩
    go_wp2_with fail
    refine (HP.out _).mono ?_
    rintro e' w' ⟨rfl, rfl⟩
    go_wp2_with fail
    go_loopg [10, 11, 12, 13] m (fun K v10 v11 v12 v13 wr => Ends s.data.toList f s[at_] m (at_ + 2) w K v10 v11 v12 v13 wr)
    case atStart => exact ⟨0, at_ + 2, 0, [], by omega, rfl, by simp <;> omega, rfl, rfl, by omega, by rw [HLen.out]; omega, by omega, by rw [Nat.sub_self]; exact Tm.comb_self _ (Tm.partsOf_err _ _ _ _ _), _, rfl⟩
    case round =>
      obtain ⟨i, k, d, last, hK, rfl, rfl, rfl, rfl, q1, q2, q3, hcomb, md2, rfl⟩ := hrel
      rw [HLen.out] at q2
      cases gk with
      | zero =>
        obtain rfl : i = m := by omega
        have l1 : ¬ ((i : Int) < (i : Int)) := by omega
        have hz : Tm.comb (k - (at_ + 2)) d (Tm.partsOf (Tm.parse f) s[at_] 0 (s.data.toList.drop k) last) = (k - (at_ + 2), d, 0) := by simp [Tm.partsOf, Tm.comb]
        rw [hz] at hcomb
        have HRr : Hid (R = (k - at_, d + 1, 0)) := by
          show R = _
          rw [HR.out, ← hcomb]
          simp only [ne_eq, not_true_eq_false, if_false, Prod.mk.injEq, and_true]
          omega
        have hend : Tm.endI at_ (k - at_, d + 1, 0) = (k : Int) := by simp only [Tm.endI, if_true]; omega
        have HEnd := Lib.hid hend
        clear hcomb hz hend
        go_wp2
        go_ret2
        exact ⟨by rw [HRr.out, HEnd.out]; rfl, _, rfl⟩
      | succ K =>
        have l1 : (i : Int) < (m : Int) := by omega
        have l2 : (0 : Int) ≤ (k : Int) := by omega
        have l3 : (k : Int) ≤ (s.size : Int) := by omega
        have cC := fun W => HI.out k q2 W
        have hb := Tm.parse_bounds f (s.data.toList.drop k)
        have he := Tm.parse_err f (s.data.toList.drop k)
        rw [List.length_drop, HLen.out] at hb
        obtain ⟨r, hr⟩ : ∃ r, Tm.parse f (s.data.toList.drop k) = r := ⟨_, rfl⟩
        rw [hr] at cC hb he
        obtain ⟨n1, d1, e1⟩ := r
        simp only at hb he
        rcases he with rfl | he
        · have eI : Tm.endI k (n1, d1, 0) = ((k + n1 : Nat) : Int) := by simp [Tm.endI]
          have eD : Tm.depI (n1, d1, 0) = d1 := by simp [Tm.depI]
          rw [eI, eD] at cC
          have hd1 := (hb.2 rfl).2.2
          obtain ⟨x, hx⟩ : ∃ x, (s.data.toList.drop k).take n1 = x := ⟨_, rfl⟩
          have hex : s.extract k (k + n1) = ⟨x.toArray⟩ := by rw [extract_eq, ← hx, Nat.add_sub_cancel_left]
          have hdr : s.data.toList.drop (k + n1) = (s.data.toList.drop k).drop n1 := by rw [List.drop_drop]
          have hcs := hx
          obtain ⟨en, hen⟩ : ∃ en, k + n1 = en := ⟨_, rfl⟩
          rw [hen] at cC hex hdr
          have HEn : Hid ((s.data.toList.drop en) = (s.data.toList.drop k).drop n1) := hdr
          have HC := Lib.hid cC
          have p1 : (k : Int) ≤ (en : Int) := by omega
          have p2 : (en : Int) ≤ (s.size : Int) := by omega
          have p3 : ¬ (en : Int) < 0 := by omega
          have p4 : (0 : Int) ≤ (en : Int) := by omega
          rw [← hx] at hex
          rw [hx] at hex
          clear cC hcs hdr eI eD
          have hxx : (s.data.toList.drop k).take n1 = x := hx
          by_cases hls : Tm.less x last = true
          · have hb1 : Op.bytesLess x last = true := hls
            have hfin := Tm.comb_less (c := k - (at_ + 2)) (d := d) (k := K) hr (show s[at_] = 101 ∧ Tm.less ((s.data.toList.drop k).take n1) last = true from ⟨HK1.out, by rw [hxx]; exact hls⟩)
            rw [hcomb] at hfin
            have HRr : Hid (R = (0, 0, 2)) := by
              show R = _
              rw [HR.out, hfin]; rfl
            clear hcomb hfin hls hr
            go_wp2_with fail
            refine (HC.out _).mono ?_
            rintro e' w' ⟨rfl, md3, rfl⟩
            go_wp2
            go_ret2
            exact ⟨by rw [HRr.out]; rfl, _, rfl⟩
          · have hb1 : Op.bytesLess x last = false := by
              cases h : Op.bytesLess x last with
              | false => rfl
              | true => exact absurd h hls
            have hstep := Tm.comb_step (c := k - (at_ + 2)) (d := d) (k := K) hr (fun h : s[at_] = 101 ∧ Tm.less ((s.data.toList.drop k).take n1) last = true => hls (by rw [← hxx]; exact h.2))
            rw [hcomb, hxx] at hstep
            have HSt := Lib.hid hstep
            clear hcomb hstep hls hr
            go_wp2_with fail
            refine (HC.out _).mono ?_
            rintro e' w' ⟨rfl, md3, rfl⟩
            go_wp2
            go_roundg K
            case measure => omega
            case rel => exact ⟨i + 1, en, max d d1, x, by omega, rfl, rfl, by simp only [Value.int.injEq, true_and]; omega, rfl, by omega, by rw [HLen.out]; omega, by omega, by rw [HSt.out, HEn.out]; congr 1; omega, _, rfl⟩
        · have hne : (Tm.parse f (s.data.toList.drop k)).2.2 ≠ 0 := by rw [hr]; rcases he with h | h <;> simp [h]
          have hfin := Tm.comb_err (c := k - (at_ + 2)) (d := d) (kind := s[at_]) (k := K) (ah := last) hne
          rw [hr] at hfin
          rw [hcomb] at hfin
          have HRr : Hid (R = (0, 0, e1)) := by
            show R = _
            rw [HR.out, hfin]
            rcases he with rfl | rfl <;> rfl
          rcases he with rfl | rfl
          · have eI : Tm.endI k (n1, d1, 2) = -1 := by simp [Tm.endI]
            rw [eI] at cC
            have HC := Lib.hid cC
            clear cC hcomb hfin hne hr eI
            go_wp2_with fail
            refine (HC.out _).mono ?_
            rintro e' w' ⟨rfl, md3, rfl⟩
            go_wp2
            go_ret2
            exact ⟨by rw [HRr.out]; rfl, _, rfl⟩
          · have eI : Tm.endI k (n1, d1, 4) = -2 := by simp [Tm.endI]
            rw [eI] at cC
            have HC := Lib.hid cC
            clear cC hcomb hfin hne hr eI
            go_wp2_with fail
            refine (HC.out _).mono ?_
            rintro e' w' ⟨rfl, md3, rfl⟩
            go_wp2
            go_ret2
            exact ⟨by rw [HRr.out]; rfl, _, rfl⟩
  rcases hE with ⟨g1, g2, rfl, rfl, m1, m2, h1, g3⟩ | ⟨g1, g2, rfl, rfl, m1, m2, h1, g3, g4⟩ | ⟨g1, g2, rfl, rfl, m1, m2⟩
  all_goals
    have n1 : (1 : Int) ≤ (m : Int) := by omega
    have n2 : (m : Int) ≤ 32 := by omega
    have n3 : (0 : Int) ≤ (m : Int) := by omega
    try have n4 : (at_ : Int) + 1 < (s.size : Int) := by omega
    have n5 : (0 : Int) ≤ (at_ : Int) + 1 := by omega
    have HK1 : Hid (¬ s[at_] = 101) := fun h => by have := HKi.out.2 h; rw [g1] at this; cases this
    have hk0 := HF.out.2.1
    clear HK
    go_enter Try.func86, Try.ntmps86
    go_wp2_with fail
    refine (HL.out _).mono ?_
    rintro e' w' ⟨rfl, md, rfl⟩
    go_wp2_with fail
    refine (HP.out _).mono ?_
    rintro e' w' ⟨rfl, rfl⟩
    go_wp2_with fail
    go_loopg [10, 11, 12, 13] m (fun K v10 v11 v12 v13 wr => Ends s.data.toList f s[at_] m (at_ + 1) w K v10 v11 v12 v13 wr)
    case atStart => exact ⟨0, at_ + 1, 0, [], by omega, rfl, by simp <;> omega, rfl, rfl, by omega, by rw [HLen.out]; omega, by omega, by rw [Nat.sub_self]; exact Tm.comb_self _ (Tm.partsOf_err _ _ _ _ _), _, rfl⟩
    case round =>
      obtain ⟨i, k, d, last, hK, rfl, rfl, rfl, rfl, q1, q2, q3, hcomb, md2, rfl⟩ := hrel
      rw [HLen.out] at q2
      cases gk with
      | zero =>
        obtain rfl : i = m := by omega
        have l1 : ¬ ((i : Int) < (i : Int)) := by omega
        have hz : Tm.comb (k - (at_ + 1)) d (Tm.partsOf (Tm.parse f) s[at_] 0 (s.data.toList.drop k) last) = (k - (at_ + 1), d, 0) := by simp [Tm.partsOf, Tm.comb]
        rw [hz] at hcomb
        have HRr : Hid (R = (k - at_, d + 1, 0)) := by
          show R = _
          rw [HR.out, ← hcomb]
          simp only [ne_eq, not_true_eq_false, if_false, Prod.mk.injEq, and_true]
          omega
        have hend : Tm.endI at_ (k - at_, d + 1, 0) = (k : Int) := by simp only [Tm.endI, if_true]; omega
        have HEnd := Lib.hid hend
        clear hcomb hz hend
        go_wp2
        go_ret2
        exact ⟨by rw [HRr.out, HEnd.out]; rfl, _, rfl⟩
      | succ K =>
        have l1 : (i : Int) < (m : Int) := by omega
        have l2 : (0 : Int) ≤ (k : Int) := by omega
        have l3 : (k : Int) ≤ (s.size : Int) := by omega
        have cC := fun W => HI.out k q2 W
        have hb := Tm.parse_bounds f (s.data.toList.drop k)
        have he := Tm.parse_err f (s.data.toList.drop k)
        rw [List.length_drop, HLen.out] at hb
        obtain ⟨r, hr⟩ : ∃ r, Tm.parse f (s.data.toList.drop k) = r := ⟨_, rfl⟩
        rw [hr] at cC hb he
        obtain ⟨n1, d1, e1⟩ := r
        simp only at hb he
        rcases he with rfl | he
        · have eI : Tm.endI k (n1, d1, 0) = ((k + n1 : Nat) : Int) := by simp [Tm.endI]
          have eD : Tm.depI (n1, d1, 0) = d1 := by simp [Tm.depI]
          rw [eI, eD] at cC
          have hd1 := (hb.2 rfl).2.2
          obtain ⟨x, hx⟩ : ∃ x, (s.data.toList.drop k).take n1 = x := ⟨_, rfl⟩
          have hex : s.extract k (k + n1) = ⟨x.toArray⟩ := by rw [extract_eq, ← hx, Nat.add_sub_cancel_left]
          have hdr : s.data.toList.drop (k + n1) = (s.data.toList.drop k).drop n1 := by rw [List.drop_drop]
          have hcs := hx
          obtain ⟨en, hen⟩ : ∃ en, k + n1 = en := ⟨_, rfl⟩
          rw [hen] at cC hex hdr
          have HEn : Hid ((s.data.toList.drop en) = (s.data.toList.drop k).drop n1) := hdr
          have HC := Lib.hid cC
          have p1 : (k : Int) ≤ (en : Int) := by omega
          have p2 : (en : Int) ≤ (s.size : Int) := by omega
          have p3 : ¬ (en : Int) < 0 := by omega
          have p4 : (0 : Int) ≤ (en : Int) := by omega
          rw [← hx] at hex
          rw [hx] at hex
          clear cC hcs hdr eI eD
          have hxx : (s.data.toList.drop k).take n1 = x := hx
          have hstep := Tm.comb_step (c := k - (at_ + 1)) (d := d) (k := K) hr (fun h : s[at_] = 101 ∧ Tm.less ((s.data.toList.drop k).take n1) last = true => HK1.out h.1)
          rw [hcomb, hxx] at hstep
          have HSt := Lib.hid hstep
          clear hcomb hstep hr
          go_wp2_with fail
          refine (HC.out _).mono ?_
          rintro e' w' ⟨rfl, md3, rfl⟩
          go_wp2
          go_roundg K
          case measure => omega
          case rel => exact ⟨i + 1, en, max d d1, x, by omega, rfl, rfl, by simp only [Value.int.injEq, true_and]; omega, rfl, by omega, by rw [HLen.out]; omega, by omega, by rw [HSt.out, HEn.out]; congr 1; omega, _, rfl⟩
        · have hne : (Tm.parse f (s.data.toList.drop k)).2.2 ≠ 0 := by rw [hr]; rcases he with h | h <;> simp [h]
          have hfin := Tm.comb_err (c := k - (at_ + 1)) (d := d) (kind := s[at_]) (k := K) (ah := last) hne
          rw [hr] at hfin
          rw [hcomb] at hfin
          have HRr : Hid (R = (0, 0, e1)) := by
            show R = _
            rw [HR.out, hfin]
            rcases he with rfl | rfl <;> rfl
          rcases he with rfl | rfl
          · have eI : Tm.endI k (n1, d1, 2) = -1 := by simp [Tm.endI]
            rw [eI] at cC
            have HC := Lib.hid cC
            clear cC hcomb hfin hne hr eI
            go_wp2_with fail
            refine (HC.out _).mono ?_
            rintro e' w' ⟨rfl, md3, rfl⟩
            go_wp2
            go_ret2
            exact ⟨by rw [HRr.out]; rfl, _, rfl⟩
          · have eI : Tm.endI k (n1, d1, 4) = -2 := by simp [Tm.endI]
            rw [eI] at cC
            have HC := Lib.hid cC
            clear cC hcomb hfin hne hr eI
            go_wp2_with fail
            refine (HC.out _).mono ?_
            rintro e' w' ⟨rfl, md3, rfl⟩
            go_wp2
            go_ret2
            exact ⟨by rw [HRr.out]; rfl, _, rfl⟩

end Go.Proofs.Ytkalmfhebffklaa
