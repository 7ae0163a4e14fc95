/- Contracts of the document's own Set (gemotref5): Top, Seen, Let. -/
import Derived.Test.YtfbkebdlioibpaaWHeld
namespace Go.Proofs.Ytfbkebdlioibpaa.L5
open Go.ChangeShapes Go.WideShapes Go.ChangeAt Go.RowKit

/-- A set of numbers in memory. -/
structure SetAt (W : World) (h : Nat) (L : List Nat) : Prop where
  blk : ∃ A c, W.heap[h]? = some (.cells #[.slice A L.length c] 71 (0, 0)) ∧ W.ownsRow (h + 1) 30 1 (.slice A L.length c) L.length (nums L)
  small : ∀ x ∈ L, x < 18446744073709551616
theorem SetAt.lt {W : World} {h : Nat} {L : List Nat} (k : SetAt W h L) : h < W.heap.size := by
  obtain ⟨⟨A, c, h1, _⟩, _⟩ := k
  exact (Array.getElem?_eq_some_iff.1 h1).1
theorem SetAt.below {W W' : World} {h : Nat} {L : List Nat} (k : SetAt W h L) (hb : Below W.heap.size W W') : SetAt W' h L := by
  have hl := k.lt
  obtain ⟨⟨A, c, h1, h2⟩, hs⟩ := k
  exact ⟨⟨A, c, (hb.block h hl).trans h1, own_below h2 hb⟩, hs⟩
/-- What is read of it. -/
theorem SetAt.reads {W : World} {h : Nat} {L : List Nat} (k : SetAt W h L) : ∃ A c, W.cell? ⟨h, 0, none⟩ = some (.slice A L.length c) ∧ W.frozen? ⟨h, 0, none⟩ = false ∧ ∀ j x : Nat, L[j]? = some x → ∃ ad : Addr, A = some ad ∧ W.cell? (ad.add j) = some (.int .u64 x) := by
  obtain ⟨⟨A, c, h1, h2⟩, hs⟩ := k
  refine ⟨A, c, by simp only [World.cell?]; rw [h1]; rfl, by simp [World.frozen?, h1], fun j x hx => ?_⟩
  obtain ⟨⟨A', c', e, k2⟩, _⟩ := URow.of_own h2 hs
  cases e
  obtain ⟨ad, rfl, _, k3⟩ := k2 j x hx
  exact ⟨ad, rfl, k3⟩

theorem topL_take {L : List Nat} {i x : Nat} (h : L[i]? = some x) : topL (L.take (i + 1)) = max (topL (L.take i)) x := by
  rw [List.take_add_one, h]
  exact topL_snoc _ _
def TopGo (w : World) (L : List Nat) (k : Nat) (v3 v4 : Value) (wr : World) : Prop := ∃ i : Nat, k + i = L.length ∧ v4 = .int .i64 i ∧ v3 = .int .u64 (topL (L.take i)) ∧ wr = w

set_option maxRecDepth 100000 in
set_option maxHeartbeats 2000000 in
theorem Top_calls {w : World} {h : Nat} {L : List Nat} (k : SetAt w h L) (hl : L.length ≤ 1000) : Calls Try.prog 42 #[.pointer (some ⟨h, 0, none⟩)] w fun e w' => e = .returned (.int .u64 (topL L)) ∧ w = w' := by
  obtain ⟨A, c, c0, f0, hk⟩ := k.reads
  have HK : Hid (∀ j x : Nat, L[j]? = some x → ∃ ad : Addr, A = some ad ∧ w.cell? (ad.add j) = some (.int .u64 x)) := hk
  clear hk k f0
  go_enter Try.func42, Try.ntmps42
  go_wp2
  go_loopg [3, 4] L.length (fun k v3 v4 wr => TopGo w L k v3 v4 wr)
  case atStart => exact ⟨0, by omega, rfl, rfl, rfl⟩
  case round =>
    obtain ⟨i, hk, rfl, rfl, rfl⟩ := hrel
    by_cases hlt : i < L.length
    · obtain ⟨x, hx⟩ : ∃ x, L[i]? = some x := ⟨_, List.getElem?_eq_getElem hlt⟩
      obtain ⟨ad, rfl, hc⟩ := HK.out i x hx
      have s1 : (i : Int) < (L.length : Int) := by omega
      have s2 : (0 : Int) ≤ (i : Int) := by omega
      have ht := topL_take hx
      obtain ⟨t, htt⟩ : ∃ t, topL (L.take i) = t := ⟨_, rfl⟩
      rw [htt] at ht ⊢
      have hm := Lib.hid (show gk - 1 < gk by omega)
      have hK := Lib.hid (show gk - 1 + (i + 1) = L.length by omega)
      have HT := Lib.hid ht
      clear hx ht htt hk
      by_cases htx : (t : Int) < (x : Int)
      · have HT2 := Lib.hid (show topL (L.take (i + 1)) = x by have := HT.out; omega)
        go_wp2
        go_roundg (gk - 1)
        case measure => exact hm.out
        case rel => exact ⟨i + 1, hK.out, by simp, by rw [HT2.out], rfl⟩
      · have HT2 := Lib.hid (show topL (L.take (i + 1)) = t by have := HT.out; omega)
        go_wp2
        go_roundg (gk - 1)
        case measure => exact hm.out
        case rel => exact ⟨i + 1, hK.out, by simp, by rw [HT2.out], rfl⟩
    · have s1 : ¬ ((i : Int) < (L.length : Int)) := by omega
      have e : L.take i = L := List.take_of_length_le (by omega)
      rw [e]
      clear hk e
      go_wp2
      go_ret
      exact ⟨rfl, rfl⟩

def SeenGo (w : World) (L : List Nat) (n : Nat) (k : Nat) (v5 : Value) (wr : World) : Prop := ∃ i : Nat, k + i = L.length ∧ v5 = .int .i64 i ∧ n ∉ L.take i ∧ wr = w

set_option maxRecDepth 100000 in
set_option maxHeartbeats 2000000 in
theorem RSeen_calls {w : World} {h : Nat} {L : List Nat} (k : SetAt w h L) (hl : L.length ≤ 1000) (n : Nat) (hn : n < 18446744073709551616) : Calls Try.prog 39 #[.pointer (some ⟨h, 0, none⟩), .int .u64 n] w fun e w' => e = .returned (.bool (seenS L n)) ∧ w = w' := by
  have HTop := Lib.hid (Top_calls k hl)
  have htl : topL L < 18446744073709551616 := by
    rcases topL_mem L with e | e
    · omega
    · exact k.small _ e
  obtain ⟨A, c, c0, f0, hk⟩ := k.reads
  have HK : Hid (∀ j x : Nat, L[j]? = some x → ∃ ad : Addr, A = some ad ∧ w.cell? (ad.add j) = some (.int .u64 x)) := hk
  have HTl := Lib.hid (And.intro htl hn)
  clear hk k f0 htl hn
  go_enter Try.func39, Try.ntmps39
  go_wp2
  go_loopg [5] L.length (fun k v5 wr => SeenGo w L n k v5 wr)
  case atStart => exact ⟨0, by omega, rfl, by simp, rfl⟩
  case round =>
    obtain ⟨i, hk, rfl, hni, rfl⟩ := hrel
    by_cases hlt : i < L.length
    · obtain ⟨x, hx⟩ : ∃ x, L[i]? = some x := ⟨_, List.getElem?_eq_getElem hlt⟩
      obtain ⟨ad, rfl, hc⟩ := HK.out i x hx
      have s1 : (i : Int) < (L.length : Int) := by omega
      have s2 : (0 : Int) ≤ (i : Int) := by omega
      by_cases hxn : x = n
      · subst hxn
        have hs : Hid (seenS L x = true) := by
          show seenS L x = true
          unfold seenS
          rw [decide_eq_true_iff]
          exact .inr (.inl (List.mem_of_getElem? hx))
        clear hx hni hk
        go_wp2
        go_ret
        exact ⟨by rw [hs.out]; rfl, rfl⟩
      · have e1 : ((x : Int) == (n : Int)) = false := by rw [beq_eq_false_iff_ne]; omega
        have e2 : ¬ (x : Int) = (n : Int) := by omega
        have hm := Lib.hid (show gk - 1 < gk by omega)
        have hfin : Hid (SeenGo wr L n (gk - 1) (.int .i64 ((i + 1 : Nat) : Int)) wr) := ⟨i + 1, by omega, rfl, fun h => by
          rw [List.take_add_one, hx] at h
          rcases List.mem_append.1 h with h | h
          · exact hni h
          · simp at h; omega, rfl⟩
        clear hx hni hk hxn
        go_wp2
        go_roundg (gk - 1)
        case measure => exact hm.out
        case rel => simpa using hfin.out
    · have s1 : ¬ ((i : Int) < (L.length : Int)) := by omega
      have hnL : n ∉ L := by rwa [List.take_of_length_le (by omega)] at hni
      obtain ⟨htl, hn⟩ := HTl.out
      generalize htt : topL L = t at *
      have hsn : seenS L n = decide (n = 0 ∨ n + 64 ≤ t) := by
        unfold seenS
        rw [htt, decide_eq_decide]
        constructor
        · rintro (h | h | h)
          · exact .inl h
          · exact absurd h hnL
          · exact .inr h
        · rintro (h | h)
          · exact .inl h
          · exact .inr (.inr h)
      by_cases hn0 : n = 0
      · have hs : Hid (seenS L n = true) := by show _ = _; rw [hsn]; simp [hn0]
        have e1 : ((n : Int) == 0) = true := by rw [beq_iff_eq]; omega
        have e2 : (n : Int) = 0 := by omega
        clear hni hk hnL hsn htl hn hn0
        go_wp2
        go_ret
        exact ⟨by rw [hs.out]; rfl, rfl⟩
      have e1 : ((n : Int) == 0) = false := by rw [beq_eq_false_iff_ne]; omega
      have e2 : ¬ (n : Int) = 0 := by omega
      by_cases hgt : n < t
      · have g1 : (n : Int) < (t : Int) := by omega
        obtain ⟨d, hd⟩ : ∃ d, t - n = d := ⟨_, rfl⟩
        have hdI : (t : Int) - (n : Int) = (d : Int) := by omega
        have hdw : IntKind.u64.wrap (d : Int) = (d : Int) := by rw [IntKind.wrap_u64]; omega
        have hs : Hid (seenS L n = decide ((64 : Int) ≤ (d : Int))) := by show _ = _; rw [hsn, decide_eq_decide]; omega
        clear hni hk hnL hsn htl hn hd hgt hn0
        go_wp2_with fail
        refine HTop.out.mono ?_
        rintro e w1 ⟨rfl, rfl⟩
        go_wp2_with fail
        refine HTop.out.mono ?_
        rintro e w1 ⟨rfl, rfl⟩
        go_wp2
        go_ret
        exact ⟨by rw [hs.out]; rfl, rfl⟩
      · have g1 : ¬ (n : Int) < (t : Int) := by omega
        have hs : Hid (seenS L n = false) := by show _ = _; rw [hsn, decide_eq_false_iff_not]; omega
        clear hni hk hnL hsn htl hn hgt hn0
        go_wp2_with fail
        refine HTop.out.mono ?_
        rintro e w1 ⟨rfl, rfl⟩
        go_wp2
        go_ret
        exact ⟨by rw [hs.out]; rfl, rfl⟩

end Go.Proofs.Ytfbkebdlioibpaa.L5
