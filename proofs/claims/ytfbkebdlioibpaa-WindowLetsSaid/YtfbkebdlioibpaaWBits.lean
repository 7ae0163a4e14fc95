/- Contracts of the document's own Set (gemotref5): Bits, Let. -/
import Derived.Test.YtfbkebdlioibpaaWSet
namespace Go.Proofs.Ytfbkebdlioibpaa.L5
open Go.ChangeShapes Go.WideShapes Go.ChangeAt Go.RowKit

theorem mod_bit (b i : Nat) (c : Bool) (hc : b.testBit i = c) : (b % 2 ^ i) ||| (if c = true then 2 ^ i else 0) = b % 2 ^ (i + 1) := by
  apply Nat.eq_of_testBit_eq
  intro j
  rw [Nat.testBit_or, Nat.testBit_mod_two_pow, Nat.testBit_mod_two_pow]
  by_cases hj : j = i
  · subst hj
    rw [hc]
    cases c
    · simp
    · simp
  · cases c
    · simp
      by_cases h2 : j < i
      · have h3 : j < i + 1 := by omega
        simp [h2, h3]
      · have h3 : ¬ j < i + 1 := by omega
        simp [h2, h3]
    · rw [if_pos rfl, Nat.testBit_two_pow]
      have h4 : ¬ i = j := fun e => hj e.symm
      by_cases h2 : j < i
      · have h3 : j < i + 1 := by omega
        simp [h2, h3, h4]
      · have h3 : ¬ j < i + 1 := by omega
        simp [h2, h3, h4]
theorem or_twice (x y : Nat) : (x ||| y) ||| y = x ||| y := by rw [Nat.or_assoc, Nat.or_self]
def half (b i : Nat) (c : Bool) : Nat := (b % 2 ^ i) ||| (if c = true then 2 ^ i else 0)
theorem half_lt {b i : Nat} (hi : i < 64) (c : Bool) : half b i c < 18446744073709551616 := by
  have h1 : b % 2 ^ i < 2 ^ 64 := Nat.lt_of_lt_of_le (Nat.mod_lt _ (Nat.two_pow_pos i)) (Nat.pow_le_pow_right (by omega) (by omega))
  have h2 : (if c = true then 2 ^ i else 0) < 2 ^ 64 := by
    split
    · exact Nat.pow_lt_pow_right (by omega) hi
    · decide
  exact Nat.or_lt_two_pow h1 h2
theorem half_or {b i : Nat} (c : Bool) : half b i c ||| 2 ^ i = half b i true := by
  unfold half
  cases c
  · simp
  · simp only [if_true]
    exact or_twice _ _
theorem bits_raw (x i : Nat) (hx : x < 18446744073709551616) (hi : i < 64) : bits .or .u64 (x : Int) (IntKind.u64.wrap (2 ^ i)) = ((x ||| 2 ^ i : Nat) : Int) := down_raw x i hx hi

def BitsO (w : World) (b k : Nat) (v3 v5 : Value) (wr : World) : Prop := ∃ i : Nat, k + i = 64 ∧ v5 = .int .i64 i ∧ v3 = .int .u64 (b % 2 ^ i : Nat) ∧ wr = w
def BitsI (w : World) (L : List Nat) (b t i : Nat) (k : Nat) (v3 v7 : Value) (wr : World) : Prop := ∃ j : Nat, k + j = L.length ∧ v7 = .int .i64 j ∧ v3 = .int .u64 (half b i (decide (t - i ∈ L.take j))) ∧ wr = w

set_option maxRecDepth 100000 in
set_option maxHeartbeats 4000000 in
theorem Bits_calls {w : World} {h : Nat} {L : List Nat} (k : SetAt w h L) (hl : L.length ≤ 1000) {t b : Nat} (hI : Inv t b L) : Calls Try.prog 43 #[.pointer (some ⟨h, 0, none⟩)] w fun e w' => e = .returned (.int .u64 b) ∧ w = w' := by
  have HTop := Lib.hid (Top_calls k hl)
  rw [← hI.top] at HTop
  obtain ⟨A, c, c0, f0, hk⟩ := k.reads
  have HK : Hid (∀ j x : Nat, L[j]? = some x → ∃ ad : Addr, A = some ad ∧ w.cell? (ad.add j) = some (.int .u64 x)) := hk
  have HI := Lib.hid hI
  clear hk k f0 hI
  go_enter Try.func43, Try.ntmps43
  go_wp2_with fail
  refine HTop.out.mono ?_
  rintro e w1 ⟨rfl, rfl⟩
  go_wp2
  go_loopg [3, 5] 64 (fun k v3 v5 wr => BitsO w b k v3 v5 wr)
  case atStart => exact ⟨0, by omega, rfl, by simp [Nat.mod_one], rfl⟩
  case round =>
    obtain ⟨i, hk, rfl, rfl, rfl⟩ := hrel
    have hlow := HI.out.low
    have hblt := HI.out.blt
    have htlt := HI.out.lt
    by_cases hlt : i < 64
    · have s1 : (i : Int) < 64 := by omega
      have s2 : (0 : Int) ≤ (i : Int) := by omega
      have hiw : IntKind.u64.wrap (i : Int) = (i : Int) := by rw [IntKind.wrap_u64]; omega
      by_cases hti : t ≤ i
      · have s3 : (t : Int) ≤ (i : Int) := by omega
        have hb : b % 2 ^ i = b := Nat.mod_eq_of_lt (Nat.lt_of_lt_of_le hlow (Nat.pow_le_pow_right (by omega) hti))
        rw [hb]
        clear hk hlow hblt htlt hb hlt hti
        go_wp2
        go_ret
        exact ⟨rfl, rfl⟩
      · have s3 : ¬ (t : Int) ≤ (i : Int) := by omega
        obtain ⟨d, hd⟩ : ∃ d, t - i = d := ⟨_, rfl⟩
        have hdI : (t : Int) - (i : Int) = (d : Int) := by omega
        have hdw : IntKind.u64.wrap (d : Int) = (d : Int) := by rw [IntKind.wrap_u64]; omega
        have hbit := HI.out.bit i hlt
        rw [hd] at hbit
        have hbit2 : b.testBit i = decide (d ∈ L) := by
          rw [hbit, decide_eq_decide]
          exact ⟨fun h => h.2, fun h => ⟨by omega, h⟩⟩
        have hstart : Hid (BitsI wr L b t i L.length (.int .u64 (b % 2 ^ i : Nat)) (.int .i64 0) wr) := ⟨0, by omega, rfl, by simp [half], rfl⟩
        have hend := Lib.hid (mod_bit b i _ hbit2)
        have HD := Lib.hid hd
        have HK2 := Lib.hid (And.intro hk hlt)
        obtain ⟨gkO, rfl⟩ : ∃ z, z = gk := ⟨gk, rfl⟩
        clear hk hlow hblt htlt hd hbit hbit2 hlt hti
        generalize b % 2 ^ i = m at hstart ⊢
        go_wp2
        go_loopg [3, 7] L.length (fun k v3 v7 wr2 => BitsI wr L b t i k v3 v7 wr2)
        case atStart => exact hstart.out
        case round =>
          obtain ⟨j, hk, rfl, rfl, rfl⟩ := hrel
          have hd := HD.out
          by_cases hjl : j < L.length
          · obtain ⟨x, hx⟩ : ∃ x, L[j]? = some x := ⟨_, List.getElem?_eq_getElem hjl⟩
            obtain ⟨ad, rfl, hc⟩ := HK.out j x hx
            have r1 : (j : Int) < (L.length : Int) := by omega
            have r2 : (0 : Int) ≤ (j : Int) := by omega
            have hm := Lib.hid (show gk - 1 < gk by omega)
            have hgk := Lib.hid (show gk - 1 + (j + 1) = L.length by omega)
            have htk : L.take (j + 1) = L.take j ++ [x] := by rw [List.take_add_one, hx]; rfl
            rw [hd]
            obtain ⟨o, ho⟩ : ∃ o, half b i (decide (d ∈ L.take j)) = o := ⟨_, rfl⟩
            have holt : o < 18446744073709551616 := by rw [← ho]; exact half_lt HK2.out.2 _
            by_cases hxd : x = d
            · subst hxd
              have hraw := Lib.hid (bits_raw o i holt HK2.out.2)
              have hfin : Hid (BitsI wr L b t i (gk - 1) (.int .u64 (o ||| 2 ^ i : Nat)) (.int .i64 ((j + 1 : Nat) : Int)) wr) := ⟨j + 1, hgk.out, rfl, by
                rw [hd, htk, ← ho, half_or]
                congr 3
                simp, rfl⟩
              rw [ho]
              clear hk hx hd htk ho holt hjl
              go_wp2
              go_roundg (gk - 1)
              case measure => exact hm.out
              case rel =>
                have h1 := hfin.out
                rw [← hraw.out] at h1
                simpa using h1
            · have e1 : ((x : Int) == (d : Int)) = false := by rw [beq_eq_false_iff_ne]; omega
              have e2 : ¬ (x : Int) = (d : Int) := by omega
              have hfin : Hid (BitsI wr L b t i (gk - 1) (.int .u64 o) (.int .i64 ((j + 1 : Nat) : Int)) wr) := ⟨j + 1, hgk.out, rfl, by
                rw [hd, htk, ← ho]
                congr 4
                simp
                omega, rfl⟩
              rw [ho]
              clear hk hx hd htk ho holt hjl hxd
              go_wp2
              go_roundg (gk - 1)
              case measure => exact hm.out
              case rel => simpa using hfin.out
          · have r1 : ¬ ((j : Int) < (L.length : Int)) := by omega
            have e : L.take j = L := List.take_of_length_le (by omega)
            have hfin : Hid (BitsO wr b (gkO - 1) (.int .u64 (half b i (decide (t - i ∈ L.take j)))) (.int .i64 ((i + 1 : Nat) : Int)) wr) := ⟨i + 1, by have := HK2.out; omega, rfl, by
              rw [e, hd]
              unfold half
              rw [hend.out], rfl⟩
            generalize half b i (decide (t - i ∈ L.take j)) = o at *
            have hm := Lib.hid (show gkO - 1 < gkO by have := HK2.out; omega)
            clear hk e hd hjl
            go_wp2
            go_roundg (gkO - 1)
            case measure => exact hm.out
            case rel => simpa using hfin.out
    · have s1 : ¬ (i : Int) < 64 := by omega
      have hb : b % 2 ^ i = b := Nat.mod_eq_of_lt (Nat.lt_of_lt_of_le hblt (by rw [show (18446744073709551616 : Nat) = 2 ^ 64 from rfl]; exact Nat.pow_le_pow_right (by omega) (by omega)))
      rw [hb]
      clear hk hlow hblt htlt hb hlt
      go_wp2
      go_ret
      exact ⟨rfl, rfl⟩

/-- What Let of a set leaves. -/
def RLetOut (w : World) (h : Nat) (L : List Nat) (n : Nat) (e : Ending) (w' : World) : Prop :=
  (seenS L n = true ∧ e = .returned (.bool false) ∧ w = w') ∨ (seenS L n = false ∧ e = .returned (.bool true) ∧ SetAt w' h (L ++ [n]) ∧ Below h w w' ∧ ∀ q t b, WinAt w q t b → WinAt w' q t b)

set_option maxRecDepth 100000 in
set_option maxHeartbeats 4000000 in
theorem RLet_calls {w : World} {h : Nat} {L : List Nat} (k : SetAt w h L) (hl : L.length ≤ 500) (n : Nat) (hn : n < 18446744073709551616) : Calls Try.prog 41 #[.pointer (some ⟨h, 0, none⟩), .int .u64 n] w (RLetOut w h L n) := by
  obtain ⟨i0, hi, hz0, hz1, hz2⟩ := info_parts info_u64
  have HSeen := Lib.hid (RSeen_calls k (by omega) n hn)
  have hlt := k.lt
  obtain ⟨⟨A, c, h1, h2⟩, hs⟩ := k
  have c0 : w.cell? ⟨h, 0, none⟩ = some (.slice A L.length c) := by simp only [World.cell?]; rw [h1]; rfl
  cases hsn : seenS L n with
  | true =>
    rw [hsn] at HSeen
    have HS := Lib.hid hsn
    clear h1 h2 hs hsn
    go_enter Try.func41, Try.ntmps41
    go_wp2_with fail
    refine HSeen.out.mono ?_
    rintro e w1 ⟨rfl, rfl⟩
    go_wp2
    go_ret
    exact .inl ⟨HS.out, rfl, rfl⟩
  | false =>
    rw [hsn] at HSeen
    have HS := Lib.hid hsn
    have HR := Lib.hid h2
    have HA : Hid (∀ v2 w6, w6.ownsRow (h + 1) 30 1 v2 (L.length + 1) (nums L ++ [.int .u64 n]) → (w.alloc (.cells #[.int .u64 n] 30)).grownBy w6 (Value.slice A L.length c).ownBlock → w6.cell? ⟨h, 0, none⟩ = some (.slice A L.length c) ∧ w6.frozen? ⟨h, 0, none⟩ = false ∧ Hid (RLetOut w h L n (.returned (.bool true)) (w6.setCell ⟨h, 0, none⟩ v2))) := fun v2 w6 k1 k2 => by
      have hg2 := grow_trans (World.grownBy_alloc w (.cells #[.int .u64 n] 30) _) k2
      have hne : ∀ q, (Value.slice A L.length c).ownBlock = some q → q ≠ h := fun q e => by have := (h2.lt q e).1; omega
      have hb : w6.heap[h]? = w.heap[h]? := hg2.block h hlt (fun e => hne h e.symm rfl)
      have hb1 : w6.heap[h]? = some (.cells #[.slice A L.length c] 71 (0, 0)) := hb.trans h1
      refine ⟨by simp only [World.cell?]; rw [hb1]; rfl, by simp [World.frozen?, hb1], .inr ⟨hsn, rfl, ⟨?_, fun x hx => ?_⟩, ?_, fun q t b hw => ?_⟩⟩
      · obtain ⟨A2, c2, rfl⟩ := own_slice k1
        refine ⟨A2, c2, ?_, ?_⟩
        · have := set_blk hb1 (i := 0) (.slice A2 (L.length + 1) c2)
          simpa using this
        · have hk := own_same (W' := w6.setCell ⟨h, 0, none⟩ (.slice A2 (L.length + 1) c2)) k1 (fun q e => Below.heap_setCell _ _ _ _ (by have := (k1.lt q e).1; simp; omega))
          simpa [nums] using hk
      · rcases List.mem_append.1 hx with hx | hx
        · exact hs x hx
        · simp at hx; rw [hx]; exact hn
      · have hB6 : Below h w w6 := (Below.refl h w).grown hg2 (by omega) (fun q e => by have := (h2.lt q e).1; omega)
        exact hB6.setCell (by simp) _
      · have hq := hw.lt
        have hqh : q ≠ h := fun e => by
          subst e
          unfold WinAt at hw
          rw [h1] at hw
          simp at hw
        have hqr : ∀ g, (Value.slice A L.length c).ownBlock = some g → q ≠ g := fun g e e2 => by
          subst e2
          rcases h2.2 with ⟨e3, _⟩ | ⟨g', cap, cur, e3, _, h5, _⟩
          · rw [e3] at e; simp [Value.ownBlock] at e
          · cases e3
            simp [Value.ownBlock] at e
            subst e
            unfold WinAt at hw
            rw [h5] at hw
            simp at hw
        have hw6 : WinAt w6 q t b := (hg2.block q hq (fun e => hqr q e.symm rfl)).trans hw
        exact (Below.heap_setCell _ _ _ _ (by simpa using hqh)).trans hw6
    have HL := Lib.hid (show L.length ≤ 500 from hl)
    have HLt := Lib.hid hlt
    clear h1 h2 hs hsn hl hlt
    go_enter Try.func41, Try.ntmps41
    go_wp2_with fail
    refine HSeen.out.mono ?_
    rintro e w1 ⟨rfl, rfl⟩
    go_wp2_with (at_builtin; refine wpList_append_own_at _ rfl _ _ 66 rfl (h + 1) 30 i0 _ 1 8 Try.underlying66 hi hz0 hz1 hz2 rfl (by decide) _ _ _ rfl (HR.out.alloc _) ⟨w.heap.size, 0, none⟩ 1 1 [.int .u64 n] rfl rfl (cell_one_new _ _ _) (by simp [Value.oneCell']) (by have := HL.out; unfold maxLen; omega) (by have := HL.out; omega) (by have := HLt.out; simp; omega) ?_; intro v2 w6 hown6 hgrow6 hnil6 hat6; obtain ⟨a1, a2, a3⟩ := HA.out v2 w6 hown6 hgrow6; obtain ⟨A2, c2, rfl⟩ := own_slice hown6; clear hown6 hgrow6 hnil6 hat6)
    go_ret
    exact a3.out

end Go.Proofs.Ytfbkebdlioibpaa.L5
