/- Contracts of window.trimmed and window.with. -/
import Derived.Test.YtfbkebdlioibpaaWPure
namespace Go.Proofs.Ytfbkebdlioibpaa.L5
open Go.ChangeShapes Go.WideShapes Go.ChangeAt Go.RowKit

theorem two_new (w : World) (cs ds : Obj) : ((w.alloc cs).alloc ds).heap[w.heap.size + 1]? = some ds := by
  have h := heap_alloc_new (w.alloc cs) ds
  have e : (w.alloc cs).heap.size = w.heap.size + 1 := by simp
  rwa [e] at h

theorem trim_raw (t b : Nat) (ht : t < 64) (hb : b < 2 ^ t) (hb2 : b < 18446744073709551616) : bits .and .u64 (b : Int) (IntKind.u64.wrap (IntKind.u64.wrap (2 ^ t) - 1)) = (b : Int) := by
  have h1 : (2 : Nat) ^ t < 2 ^ 64 := Nat.pow_lt_pow_right (by omega) ht
  have h2 : 0 < 2 ^ t := Nat.two_pow_pos t
  have h3 : ((2 : Int) ^ t) = ((2 ^ t : Nat) : Int) := by simp
  have h4 : IntKind.u64.wrap (((2 ^ t : Nat) : Int)) = ((2 ^ t : Nat) : Int) := by rw [IntKind.wrap_u64]; omega
  have h5 : IntKind.u64.wrap (((2 ^ t : Nat) : Int) - 1) = ((2 ^ t - 1 : Nat) : Int) := by rw [IntKind.wrap_u64]; omega
  rw [h3, h4, h5, u64_and_nat b (2 ^ t - 1) hb2 (by omega), Nat.and_two_pow_sub_one_eq_mod, Nat.mod_eq_of_lt hb]

set_option maxRecDepth 100000 in
set_option maxHeartbeats 1000000 in
theorem trimmed_calls {t b : Nat} {L : List Nat} (h : Inv t b L) (w : World) :
    Calls Try.prog 75 #[.agg #[.int .u64 t, .int .u64 b]] w (One w (.agg #[.int .u64 t, .int .u64 b])) := by
  have hlow := Lib.hid h.low
  have hb := Lib.hid h.blt
  have hbel : ∀ cs, Below w.heap.size w ((w.alloc cs).alloc cs) := fun cs => ((Below.refl _ w).alloc (Nat.le_refl _) _).alloc (by simp) _
  have hnew : ∀ cs, ((w.alloc cs).alloc cs).heap[w.heap.size + 1]? = some cs := fun cs => two_new w cs cs
  have HF := Lib.hid (And.intro hbel hnew)
  clear hbel hnew
  by_cases h64 : t < 64
  · have h1 : (t : Int) < 64 := by omega
    have hr := Lib.hid (trim_raw t b h64 hlow.out hb.out)
    clear h
    go_enter Try.func75, Try.ntmps75
    go_wp2
    rw [hr.out]
    refine bodyPost_ret (results_cell_row rfl _ _ (w.heap.size + 1) 68 _ (0, 0) _ rfl (HF.out.2 _) Try.underlying68 rfl (by kernel_rfl)) rfl ?_
    exact ⟨rfl, HF.out.1 _⟩
  · have h1 : ¬ (t : Int) < 64 := by omega
    clear h
    go_enter Try.func75, Try.ntmps75
    go_wp2
    refine bodyPost_ret (results_cell_row rfl _ _ (w.heap.size + 1) 68 _ (0, 0) _ rfl (HF.out.2 _) Try.underlying68 rfl (by kernel_rfl)) rfl ?_
    exact ⟨rfl, HF.out.1 _⟩

theorem up_raw (b d : Nat) : bits .or .u64 (IntKind.u64.wrap ((b : Int) * 2 ^ min d 64)) 1 = (((b * 2 ^ min d 64 % 18446744073709551616) ||| 1 : Nat) : Int) := by
  have h1 : ((b : Int) * 2 ^ min d 64) = ((b * 2 ^ min d 64 : Nat) : Int) := by simp
  have h2 : IntKind.u64.wrap ((b * 2 ^ min d 64 : Nat) : Int) = ((b * 2 ^ min d 64 % 18446744073709551616 : Nat) : Int) := by rw [IntKind.wrap_u64]; omega
  rw [h1, h2]
  exact u64_or_nat _ 1 (Nat.mod_lt _ (by decide)) (by decide)

theorem down_raw (b d : Nat) (hb : b < 18446744073709551616) (hd : d < 64) : bits .or .u64 (b : Int) (IntKind.u64.wrap (2 ^ d)) = ((b ||| 2 ^ d : Nat) : Int) := by
  have h1 : (2 : Nat) ^ d < 2 ^ 64 := Nat.pow_lt_pow_right (by omega) hd
  have h3 : ((2 : Int) ^ d) = ((2 ^ d : Nat) : Int) := by simp
  rw [h3]
  generalize 2 ^ d = p at *
  have h4 : IntKind.u64.wrap ((p : Nat) : Int) = (p : Int) := by rw [IntKind.wrap_u64]; omega
  rw [h4, u64_or_nat b _ hb h1]

set_option maxRecDepth 100000 in
set_option maxHeartbeats 1000000 in
theorem with_up (t b d : Nat) (hn : t + (d + 1) < 18446744073709551616) (w : World) :
    Calls Try.prog 76 #[.agg #[.int .u64 t, .int .u64 b], .int .u64 (t + (d + 1) : Nat)] w (One w (.agg #[.int .u64 (t + (d + 1) : Nat), .int .u64 ((b * 2 ^ min (d + 1) 64 % 18446744073709551616) ||| 1 : Nat)])) := by
  obtain ⟨n, hnn⟩ : ∃ n, t + (d + 1) = n := ⟨_, rfl⟩
  rw [hnn] at hn ⊢
  have h1 : (t : Int) < n := by omega
  have h2 : (n : Int) - (t : Int) = ((d + 1 : Nat) : Int) := by omega
  have hr := Lib.hid (up_raw b (d + 1))
  have h3 : (0 : Int) ≤ ((d + 1 : Nat) : Int) := by omega
  clear hnn
  generalize d + 1 = k at *
  generalize ((b * 2 ^ min k 64 % 18446744073709551616) ||| 1 : Nat) = o at *
  have hbel : ∀ cs ds, Below w.heap.size w ((w.alloc cs).alloc ds) := fun cs ds => ((Below.refl _ w).alloc (Nat.le_refl _) _).alloc (by simp) _
  have hnew : ∀ cs ds, ((w.alloc cs).alloc ds).heap[w.heap.size + 1]? = some ds := fun cs ds => two_new w cs ds
  have HF := Lib.hid (And.intro hbel hnew)
  clear hbel hnew
  go_enter Try.func76, Try.ntmps76
  go_wp2
  rw [hr.out]
  refine bodyPost_ret (results_cell_row rfl _ _ (w.heap.size + 1) 68 _ (0, 0) _ rfl (HF.out.2 _ _) Try.underlying68 rfl (by kernel_rfl)) rfl ?_
  exact ⟨rfl, HF.out.1 _ _⟩

set_option maxRecDepth 100000 in
set_option maxHeartbeats 1000000 in
theorem with_old (t b n : Nat) (ht : t < 18446744073709551616) (h : n = 0 ∨ n + 64 ≤ t) (w : World) :
    Calls Try.prog 76 #[.agg #[.int .u64 t, .int .u64 b], .int .u64 n] w (One w (.agg #[.int .u64 t, .int .u64 b])) := by
  have h1 : ¬ (t : Int) < n := by omega
  have hbel : ∀ cs ds, Below w.heap.size w ((w.alloc cs).alloc ds) := fun cs ds => ((Below.refl _ w).alloc (Nat.le_refl _) _).alloc (by simp) _
  have hnew : ∀ cs ds, ((w.alloc cs).alloc ds).heap[w.heap.size + 1]? = some ds := fun cs ds => two_new w cs ds
  have HF := Lib.hid (And.intro hbel hnew)
  clear hbel hnew
  by_cases h0 : n = 0
  · subst h0
    clear h
    go_enter Try.func76, Try.ntmps76
    go_wp2
    refine bodyPost_ret (results_cell_row rfl _ _ (w.heap.size + 1) 68 _ (0, 0) _ rfl (HF.out.2 _ _) Try.underlying68 rfl (by kernel_rfl)) rfl ?_
    exact ⟨rfl, HF.out.1 _ _⟩
  · have h2 : ((n : Int) == 0) = false := by rw [beq_eq_false_iff_ne]; omega
    have h2' : ¬ (n : Int) = 0 := by omega
    obtain ⟨k, hk⟩ : ∃ k, t = n + k := ⟨t - n, by omega⟩
    have h3 : (t : Int) - (n : Int) = ((k : Nat) : Int) := by omega
    have h4 : (64 : Int) ≤ (k : Int) := by omega
    have h5 : (0 : Int) ≤ (k : Int) := by omega
    have h6 : (k : Int) ≤ 18446744073709551615 := by omega
    clear h hk
    go_enter Try.func76, Try.ntmps76
    go_wp2
    refine bodyPost_ret (results_cell_row rfl _ _ (w.heap.size + 1) 68 _ (0, 0) _ rfl (HF.out.2 _ _) Try.underlying68 rfl (by kernel_rfl)) rfl ?_
    exact ⟨rfl, HF.out.1 _ _⟩

set_option maxRecDepth 100000 in
set_option maxHeartbeats 1000000 in
theorem with_in (t b n k : Nat) (hb : b < 18446744073709551616) (h0 : n ≠ 0) (hk : t = n + k) (h64 : k < 64) (w : World) :
    Calls Try.prog 76 #[.agg #[.int .u64 t, .int .u64 b], .int .u64 n] w (One w (.agg #[.int .u64 t, .int .u64 (b ||| 2 ^ k : Nat)])) := by
  have h1 : ¬ (t : Int) < n := by omega
  have hbel : ∀ cs ds, Below w.heap.size w ((w.alloc cs).alloc ds) := fun cs ds => ((Below.refl _ w).alloc (Nat.le_refl _) _).alloc (by simp) _
  have hnew : ∀ cs ds, ((w.alloc cs).alloc ds).heap[w.heap.size + 1]? = some ds := fun cs ds => two_new w cs ds
  have HF := Lib.hid (And.intro hbel hnew)
  have hr := Lib.hid (down_raw b k hb h64)
  clear hbel hnew
  have h2 : ((n : Int) == 0) = false := by rw [beq_eq_false_iff_ne]; omega
  have h2' : ¬ (n : Int) = 0 := by omega
  have h3 : (t : Int) - (n : Int) = ((k : Nat) : Int) := by omega
  have h4 : ¬ (64 : Int) ≤ (k : Int) := by omega
  have h5 : (0 : Int) ≤ (k : Int) := by omega
  have h6 : (k : Int) ≤ 64 := by omega
  clear hk h0
  generalize (b ||| 2 ^ k) = o at *
  go_enter Try.func76, Try.ntmps76
  go_wp2
  rw [hr.out]
  refine bodyPost_ret (results_cell_row rfl _ _ (w.heap.size + 1) 68 _ (0, 0) _ rfl (HF.out.2 _ _) Try.underlying68 rfl (by kernel_rfl)) rfl ?_
  exact ⟨rfl, HF.out.1 _ _⟩

/-- What a window with one number more is. -/
def WithOut (w : World) (t b : Nat) (L : List Nat) (n : Nat) (e : Ending) (w' : World) : Prop :=
  ∃ t' b' : Nat, e = .returned (.agg #[.int .u64 t', .int .u64 b']) ∧ (seenS L n = true → t' = t ∧ b' = b) ∧ (seenS L n = false → Inv t' b' (L ++ [n]) ∧ (t < n → t' ≠ t) ∧ (¬ t < n → t' = t ∧ b' ≠ b)) ∧ Below w.heap.size w w'

theorem with_calls {t b : Nat} {L : List Nat} (h : Inv t b L) (n : Nat) (hn : n < 18446744073709551616) (w : World) :
    Calls Try.prog 76 #[.agg #[.int .u64 t, .int .u64 b], .int .u64 n] w (WithOut w t b L n) := by
  by_cases h1 : t < n
  · obtain ⟨d, rfl⟩ : ∃ d, n = t + (d + 1) := ⟨n - t - 1, by omega⟩
    have hs : seenS L (t + (d + 1)) = false := by
      unfold seenS
      rw [decide_eq_false_iff_not]
      rintro (h2 | h2 | h2)
      · omega
      · have := (h.mem h2).2; omega
      · rw [← h.top] at h2; omega
    refine (with_up t b d hn w).mono ?_
    rintro e w' ⟨rfl, hb⟩
    refine ⟨_, _, rfl, fun h2 => absurd h2 (by rw [hs]; decide), fun _ => ⟨?_, fun h2 => by omega, fun h2 => by omega⟩, hb⟩
    have := h.up h1 hn
    rwa [show t + (d + 1) - t = d + 1 by omega] at this
  · by_cases h2 : n = 0 ∨ n + 64 ≤ t
    · have hs : seenS L n = true := by
        unfold seenS
        rw [decide_eq_true_iff, ← h.top]
        omega
      refine (with_old t b n h.lt h2 w).mono ?_
      rintro e w' ⟨rfl, hb⟩
      exact ⟨_, _, rfl, fun _ => ⟨rfl, rfl⟩, fun h3 => absurd h3 (by rw [hs]; decide), hb⟩
    · obtain ⟨k, hk⟩ : ∃ k, t = n + k := ⟨t - n, by omega⟩
      have e1 : t - n = k := by omega
      have hsame := h.same (n := n) (by omega) (by omega) (by omega)
      have hdown := h.down (n := n) (by omega) (by omega) (by omega)
      rw [e1] at hsame hdown
      have hs : seenS L n = true ↔ n ∈ L := by
        unfold seenS
        rw [decide_eq_true_iff, ← h.top]
        constructor
        · rintro (h3 | h3 | h3)
          · omega
          · exact h3
          · omega
        · exact fun h3 => .inr (.inl h3)
      refine (with_in t b n k h.blt (by omega) hk (by omega) w).mono ?_
      rintro e w' ⟨rfl, hb⟩
      refine ⟨_, _, rfl, fun h3 => ⟨rfl, hsame.2 (hs.1 h3)⟩, fun h3 => ⟨hdown, fun h4 => by omega, fun _ => ⟨rfl, fun h4 => ?_⟩⟩, hb⟩
      rw [hs.2 (hsame.1 h4)] at h3
      cases h3

end Go.Proofs.Ytfbkebdlioibpaa.L5
