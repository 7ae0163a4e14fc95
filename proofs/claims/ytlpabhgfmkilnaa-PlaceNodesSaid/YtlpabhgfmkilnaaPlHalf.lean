/- place.halves: the two trees in one. -/
import Derived.Test.YtlpabhgfmkilnaaTrBase
import Derived.Test.YtlpabhgfmkilnaaPlPure
namespace Go.Proofs.Ytlpabhgfmkilnaa.L14
open Go.ChangeShapes Go.WideShapes Go.ChangeAt Go.RowKit Go.Deep
open Go.Proofs.Ytlpabhgfmkilnaa.L13

/-- How many brackets are open. -/
def bal : List UInt8 → Int
  | [] => 0
  | b :: x => (if b = 40 then 1 else if b = 41 then -1 else 0) + bal x
theorem bal_append (x y : List UInt8) : bal (x ++ y) = bal x + bal y := by
  induction x with
  | nil => simp [bal]
  | cons b x ih => simp only [List.cons_append, bal, ih]; omega
theorem bal_text {t : Tr} (h : t.ok) : bal t.text = 0 := by
  induction t with
  | leaf p =>
    have h18 := h.small p (by simp [Tr.procs])
    have hb := digit_byte h18.1 h18.2
    have b1 : ¬ UInt8.ofNat (48 + p) = 40 := fun e => by rw [e] at hb; simp at hb; omega
    have b2 : ¬ UInt8.ofNat (48 + p) = 41 := fun e => by rw [e] at hb; simp at hb; omega
    simp only [Tr.text, bal]
    rw [if_neg b1, if_neg b2]
    rfl
  | node l r hl hr =>
    simp only [Tr.text, bal, bal_append, hl h.left, hr h.right]
    simp
theorem bal_take {t : Tr} (h : t.ok) : ∀ k, 0 < k → k < t.text.length → 0 < bal (t.text.take k) := by
  have ge : ∀ (s : Tr), s.ok → (∀ k, 0 < k → k < s.text.length → 0 < bal (s.text.take k)) → ∀ k, 0 ≤ bal (s.text.take k) := by
    intro s hs hk k
    rcases Nat.eq_zero_or_pos k with rfl | h0
    · simp [bal]
    · rcases Nat.lt_or_ge k s.text.length with h1 | h1
      · have := hk k h0 h1; omega
      · rw [List.take_of_length_le h1, bal_text hs]; omega
  induction t with
  | leaf p => intro k h0 h1; simp [Tr.text] at h1; omega
  | node l r hl hr =>
    intro k h0 h1
    obtain ⟨k, rfl⟩ : ∃ j, k = j + 1 := ⟨k - 1, by omega⟩
    simp only [Tr.text, List.length_cons, List.length_append, List.length_nil] at h1
    have g1 := ge l h.left (hl h.left)
    have g2 := ge r h.right (hr h.right)
    simp only [Tr.text, List.take_succ_cons, bal]
    rw [if_true, List.take_append, bal_append, List.take_append, bal_append]
    have a1 := g1 k
    have a2 := g2 (k - l.text.length)
    have a3 : bal (List.take (k - l.text.length - r.text.length) [41]) = 0 := by
      rw [show k - l.text.length - r.text.length = 0 by omega]; rfl
    omega
theorem bal_bound (x : List UInt8) : -(x.length : Int) ≤ bal x ∧ bal x ≤ x.length := by
  induction x with
  | nil => simp [bal]
  | cons b x ih =>
    simp only [bal, List.length_cons]
    split
    · omega
    · split <;> omega
theorem bal_next {x : List UInt8} {i : Nat} {b : UInt8} (h : x[i]? = some b) : bal (x.take (i + 1)) = bal (x.take i) + (if b = 40 then 1 else if b = 41 then -1 else 0) := by
  rw [List.take_add_one, h, bal_append]
  simp [bal]
def HalfRel (L : List UInt8) (n k : Nat) (v5 v6 : Value) (w wr : World) : Prop :=
  ∃ i : Nat, k + i = n ∧ i < n ∧ v6 = .int .i64 ((i + 1 : Nat) : Int) ∧ v5 = .int .i64 (bal ((L.drop 1).take i)) ∧ wr = w
theorem slice_list14 (L : List UInt8) (a b : Nat) : (⟨L.toArray⟩ : ByteArray).extract a b = ⟨((L.drop a).take (b - a)).toArray⟩ := by rw [extract_eq]
set_option maxHeartbeats 1000000 in
theorem halves_leaf (p : Nat) (w : World) : Calls Try.prog 31 #[.string ⟨(Tr.leaf p).text.toArray⟩] w fun e w' => e = .returned (.tuple #[.string ⟨[].toArray⟩, .string ⟨[].toArray⟩, .bool false]) ∧ w' = w := by
  go_enter Try.func31, Try.ntmps31
  go_wp2
  go_loopg [5, 6] 0 (fun _ v5 v6 wr => v5 = .int .i64 0 ∧ v6 = .int .i64 1 ∧ wr = w)
  case atStart => exact ⟨rfl, rfl, rfl⟩
  case round =>
    obtain ⟨rfl, rfl, rfl⟩ := hrel
    have hsz : (⟨(Tr.leaf p).text.toArray⟩ : ByteArray).size = 1 := rfl
    generalize (Tr.leaf p).text = L at *
    go_wp2
    go_ret3
    exact ⟨rfl, rfl⟩
set_option maxHeartbeats 8000000 in
theorem halves_node {l r : Tr} (h : (Tr.node l r).ok) (w : World) : Calls Try.prog 31 #[.string ⟨(Tr.node l r).text.toArray⟩] w fun e w' => e = .returned (.tuple #[.string ⟨l.text.toArray⟩, .string ⟨r.text.toArray⟩, .bool true]) ∧ Below w.heap.size w w' := by
  obtain ⟨L, hL⟩ : ∃ L, (Tr.node l r).text = L := ⟨_, rfl⟩
  have hLe : L = 40 :: (l.text ++ (r.text ++ [41])) := by rw [← hL]; rfl
  have hlen : L.length = l.text.length + r.text.length + 2 := by rw [hLe]; simp; omega
  have hl22 := h.len
  rw [hL] at hl22 ⊢
  have hd1 : L.drop 1 = l.text ++ (r.text ++ [41]) := by rw [hLe]; rfl
  have hlp : 1 ≤ l.text.length := by have := l.text_len; have := l.procs_pos; omega
  have s1 : (⟨L.toArray⟩ : ByteArray).extract 1 (l.text.length + 1) = ⟨l.text.toArray⟩ := by
    rw [slice_list14, hd1, show l.text.length + 1 - 1 = l.text.length by omega, List.take_left]
  have s2 : (⟨L.toArray⟩ : ByteArray).extract (l.text.length + 1) (L.length - 1) = ⟨r.text.toArray⟩ := by
    rw [slice_list14, show l.text.length + 1 = 1 + l.text.length by omega, ← List.drop_drop, hd1, List.drop_left, show L.length - 1 - (1 + l.text.length) = r.text.length by omega, List.take_left]
  have HB := Lib.hid (fun k (h0 : 0 < k) (h1 : k < l.text.length) => bal_take h.left k h0 h1)
  have HE := Lib.hid (bal_text h.left)
  have HT := Lib.hid (fun k (hk : k ≤ l.text.length) => show (L.drop 1).take k = l.text.take k by rw [hd1, List.take_append_of_le_length hk])
  have HG := Lib.hid (fun (k : Nat) (b : UInt8) (hb : L[k + 1]? = some b) => bal_next (x := L.drop 1) (i := k) (b := b) (by rw [List.getElem?_drop, Nat.add_comm]; exact hb))
  have HBd := Lib.hid (fun k => bal_bound ((L.drop 1).take k))
  have hsz : (⟨L.toArray⟩ : ByteArray).size = L.length := rfl
  have HS := Lib.hid (And.intro s1 s2)
  obtain ⟨m, hm⟩ : ∃ m, l.text.length = m := ⟨_, rfl⟩
  have HTl := Lib.hid (show l.text.take m = l.text by rw [← hm, List.take_length])
  rw [hm] at HB HT HS hlen hlp
  have HSt : Hid (HalfRel L m m (.int .i64 0) (.int .i64 1) w w) := ⟨0, by omega, by omega, rfl, by simp [bal], rfl⟩
  have hN' : (L.length : Int) - 1 = ((L.length - 1 : Nat) : Int) := by omega
  obtain ⟨N, hN⟩ : ∃ N, L.length - 1 = N := ⟨_, rfl⟩
  rw [hN] at HS hN'
  have hmN : m + 1 ≤ N := by omega
  have hNL : N ≤ L.length := by omega
  have hl200 : L.length ≤ 22 := hl22
  have hml : m + 1 < L.length := by omega
  have mixed : Try.prog.follows Departure.mixedOrders = true := by kernel_rfl
  clear s1 s2 hd1 hLe hL h hm hN hl22 hlen
  go_enter Try.func31, Try.ntmps31
  go_wp2
  go_loopg [5, 6] m (fun k v5 v6 wr => HalfRel L m k v5 v6 w wr)
  case atStart => exact HSt.out
  case round =>
    clear HSt
    obtain ⟨i, hk, him, rfl, rfl, rfl⟩ := hrel
    have hi1 : i + 1 < L.length := by omega
    obtain ⟨b, hb⟩ : ∃ b, L[i + 1]? = some b := ⟨_, List.getElem?_eq_getElem hi1⟩
    have hbx : (⟨L.toArray⟩ : ByteArray)[i + 1]'(by rw [hsz]; exact hi1) = b := by
      show L[i + 1] = b
      exact (List.getElem?_eq_some_iff.1 hb).2
    have hnx := HG.out i b hb
    have j1 : ((i + 1 : Nat) : Int) < (L.length : Int) := by omega
    have j2 : (0 : Int) ≤ ((i + 1 : Nat) : Int) := by omega
    have bd := HBd.out i
    rw [List.length_take, List.length_drop] at bd
    have hgk := Lib.hid (show gk - 1 < gk by omega)
    have hlast : Hid (i + 1 = m → bal ((L.drop 1).take (i + 1)) = 0) := fun e => by rw [e, HT.out m (Nat.le_refl _), HTl.out, HE.out]
    have hmore : Hid (i + 1 ≠ m → 0 < bal ((L.drop 1).take (i + 1)) ∧ HalfRel L m (gk - 1) (.int .i64 (bal ((L.drop 1).take (i + 1)))) (.int .i64 ((i + 2 : Nat) : Int)) wr wr) := fun e => ⟨by rw [HT.out _ (by omega)]; exact HB.out (i + 1) (by omega) (by omega), ⟨i + 1, by omega, by omega, rfl, rfl, rfl⟩⟩
    have HI := Lib.hid (And.intro him hk)
    clear hk hb
    generalize bal ((L.drop 1).take i) = o0 at *
    generalize bal ((L.drop 1).take (i + 1)) = o1 at *
    have hway : (b = 40 ∧ o0 + 1 = o1) ∨ (b = 41 ∧ o0 - 1 = o1) ∨ ((((b.toNat : Int) == 40) = false ∧ ((b.toNat : Int) == 41) = false) ∧ o0 = o1) := by
      by_cases h1 : b = 40
      · rw [if_pos h1] at hnx; exact .inl ⟨h1, hnx.symm⟩
      · rw [if_neg h1] at hnx
        by_cases h2 : b = 41
        · rw [if_pos h2] at hnx; exact .inr (.inl ⟨h2, by omega⟩)
        · rw [if_neg h2] at hnx
          have c1 : ¬ (b.toNat : Int) = 40 := fun e => h1 (UInt8.toNat_inj.1 (by simpa using (by omega : b.toNat = 40)))
          have c2 : ¬ (b.toNat : Int) = 41 := fun e => h2 (UInt8.toNat_inj.1 (by simpa using (by omega : b.toNat = 41)))
          exact .inr (.inr ⟨⟨beq_eq_false_iff_ne.2 c1, beq_eq_false_iff_ne.2 c2⟩, by omega⟩)
    clear hnx
    by_cases e : i + 1 = m
    · have h0 := hlast.out e
      subst e
      subst h0
      obtain ⟨s1, s2⟩ := HS.out
      have k1 : (0 : Int) ≤ ((i + 1 + 1 : Nat) : Int) := by omega
      have k2 : (1 : Int) ≤ ((i + 1 + 1 : Nat) : Int) := by omega
      have k3 : ((i + 1 + 1 : Nat) : Int) ≤ (L.length : Int) := by omega
      have k4 : ((i + 1 + 1 : Nat) : Int) ≤ (N : Int) := by omega
      have k5 : (N : Int) ≤ (L.length : Int) := by omega
      have k6 : (i : Int) + 1 + 1 = ((i + 1 + 1 : Nat) : Int) := by omega
      have k7 : 1 ≤ i + 1 + 1 := by omega
      have k8 : i + 1 + 1 ≤ L.length := by omega
      have HF : Hid (Below wr.heap.size wr wr) := Below.refl _ _
      clear hlast hmore HI HTl HB HE HT HG HBd
      obtain ⟨q, hq⟩ : ∃ q : Nat, i + 1 + 1 = q := ⟨_, rfl⟩
      rw [hq] at k1 k2 k3 k4 k6 k7 k8 hmN hml s1 s2
      have HS2 := Lib.hid (And.intro s1 s2)
      rcases hway with ⟨rfl, ho⟩ | ⟨rfl, ho⟩ | ⟨⟨c1, c2⟩, rfl⟩
      · go_wp2
        go_region_o
        all_goals (go_wp2; go_ret3; exact ⟨rfl, Below.drew (Below.refl _ _)⟩)
      · go_wp2
        go_region_o
        all_goals (go_wp2; go_ret3; exact ⟨rfl, Below.drew (Below.refl _ _)⟩)
      · go_wp2
        go_region_o
        all_goals (go_wp2; go_ret3; exact ⟨rfl, Below.drew (Below.refl _ _)⟩)
    · obtain ⟨h0, hR⟩ := hmore.out e
      have h0' : (o1 == 0) = false := beq_eq_false_iff_ne.2 (by omega)
      have HR := Lib.hid hR
      clear hlast hmore hR h0 e
      rcases hway with ⟨rfl, ho⟩ | ⟨rfl, ho⟩ | ⟨⟨c1, c2⟩, rfl⟩
      · go_wp2
        go_roundg (gk - 1)
        case measure => exact hgk.out
        case rel => exact HR.out
      · go_wp2
        go_roundg (gk - 1)
        case measure => exact hgk.out
        case rel => exact HR.out
      · go_wp2
        go_roundg (gk - 1)
        case measure => exact hgk.out
        case rel => exact HR.out
end Go.Proofs.Ytlpabhgfmkilnaa.L14
