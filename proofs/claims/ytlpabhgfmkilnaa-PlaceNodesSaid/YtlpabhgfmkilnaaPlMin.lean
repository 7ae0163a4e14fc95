/- Contracts of slices.Contains and slices.Min at rows of numbers, and of place.least, Sponsor and Beside. -/
import Derived.Test.YtlpabhgfmkilnaaPlAt
import Derived.Laws.Small
namespace Go.Proofs.Ytlpabhgfmkilnaa.L14
open Go.ChangeShapes Go.WideShapes Go.ChangeAt Go.RowKit Go.Deep
open Go.Proofs.Ytlpabhgfmkilnaa.L13
open Go.Proofs.Ytlpabhgfmkilnaa.L5 (One)

theorem intsA_at {w : World} {A : Option Addr} {n c : Nat} {xs : List Int} (h : IntsA w (.slice A n c) xs) : n = xs.length ∧ ∀ (j : Nat) (x : Int), xs[j]? = some x → (-9223372036854775808 ≤ x ∧ x ≤ 9223372036854775807) ∧ ∃ ad : Addr, A = some ad ∧ w.cell? (ad.add j) = some (.int .i64 x) := by
  obtain ⟨A', c', e, hr⟩ := h.reads
  cases e
  refine ⟨rfl, fun j x hx => ?_⟩
  obtain ⟨ad, e, _, h2⟩ := hr j x hx
  exact ⟨h.fit x (List.mem_of_getElem? hx), ad, e, h2⟩
def IdxRel (w : World) (xs : List Int) (p : Int) (k : Nat) (v8 : Value) (wr : World) : Prop := ∃ i : Nat, k + i = xs.length ∧ v8 = .int .i64 i ∧ wr = w ∧ p ∉ xs.take i
def IdxOut (w : World) (xs : List Int) (p : Int) (e : Ending) (w' : World) : Prop := ∃ r : Int, e = .returned (.int .i64 r) ∧ decide (0 ≤ r) = xs.contains p ∧ w' = w
set_option maxHeartbeats 4000000 in
theorem index_calls (v : Value) (xs : List Int) (p : Int) (w : World) (hI : IntsA w v xs) : Calls Try.prog 43 #[v, .int .i64 p] w (IdxOut w xs p) := by
  obtain ⟨A, c, rfl, _⟩ := id hI.reads
  have HI := Lib.hid (intsA_at hI).2
  have hfew := hI.few
  unfold maxLen at hfew
  have HSt : Hid (IdxRel w xs p xs.length (.int .i64 0) w) := ⟨0, by omega, rfl, rfl, by simp⟩
  clear hI
  go_enter Try.func43, Try.ntmps43
  go_wp2
  go_loopg [8] xs.length (fun k v8 wr => IdxRel w xs p k v8 wr)
  case atStart => exact HSt.out
  case round =>
    clear HSt
    obtain ⟨i, hk, rfl, rfl, hn⟩ := hrel
    by_cases hlt : i < xs.length
    · obtain ⟨x, hx⟩ : ∃ x, xs[i]? = some x := ⟨_, List.getElem?_eq_getElem hlt⟩
      obtain ⟨hxi, ad, rfl, c0⟩ := HI.out i x hx
      have j1 : (i : Int) < (xs.length : Int) := by omega
      have j2 : (0 : Int) ≤ (i : Int) := by omega
      by_cases e : p = x
      · subst e
        have hE : Hid (IdxOut wr xs p (.returned (.int .i64 (i : Int))) wr) := ⟨i, rfl, by rw [List.contains_iff_mem.2 (List.mem_of_getElem? hx)]; simp, rfl⟩
        clear hx hn hk hlt
        go_wp2
        go_ret
        exact hE.out
      · have e' : (p == x) = false := beq_eq_false_iff_ne.2 e
        have hgk := Lib.hid (show gk - 1 < gk by omega)
        have hR : Hid (IdxRel wr xs p (gk - 1) (.int .i64 ((i + 1 : Nat) : Int)) wr) := ⟨i + 1, by omega, rfl, rfl, by
          rw [List.take_add_one, hx]
          simp only [Option.toList, List.mem_append, List.mem_singleton, not_or]
          exact ⟨hn, e⟩⟩
        clear hx hn hk hlt e
        go_wp2
        go_roundg (gk - 1)
        case measure => exact hgk.out
        case rel => exact hR.out
    · have j1 : ¬ (i : Int) < (xs.length : Int) := by omega
      have hE : Hid (IdxOut wr xs p (.returned (.int .i64 (-1))) wr) := ⟨-1, rfl, by
        rw [List.take_of_length_le (by omega)] at hn
        rw [Bool.eq_iff_iff, List.contains_iff_mem]
        simp [hn], rfl⟩
      clear hn hk hlt
      go_wp2
      go_ret
      exact hE.out
set_option maxHeartbeats 1000000 in
theorem contains_calls (v : Value) (xs : List Int) (p : Int) (w : World) (hI : IntsA w v xs) : Calls Try.prog 35 #[v, .int .i64 p] w fun e w' => e = .returned (.bool (xs.contains p)) ∧ w' = w := by
  obtain ⟨b, hb0⟩ : ∃ b, xs.contains p = b := ⟨_, rfl⟩
  rw [hb0]
  have hX : Calls Try.prog 43 #[v, .int .i64 p] w (fun e w' => ∃ r : Int, e = .returned (.int .i64 r) ∧ decide (0 ≤ r) = b ∧ w' = w) := (index_calls v xs p w hI).mono (fun e w' ⟨r, h1, h2, h3⟩ => ⟨r, h1, h2.trans hb0, h3⟩)
  obtain ⟨A, c, rfl, _⟩ := id hI.reads
  clear hI hb0
  go_enter Try.func35, Try.ntmps35
  go_wp2_with (go_at_call 43; refine hX.mono ?_; rintro e w1 ⟨r, rfl, hb, rfl⟩)
  go_ret
  exact ⟨by simp, rfl⟩
def MinRel (w : World) (xs : List Int) (x0 : Int) (k : Nat) (v3 v4 : Value) (wr : World) : Prop := ∃ i : Nat, k + i = xs.length ∧ 1 ≤ i ∧ v4 = .int .i64 i ∧ v3 = .int .i64 x0 ∧ wr = w
set_option maxHeartbeats 4000000 in
theorem min_calls (v : Value) (xs : List Int) (x0 : Int) (w : World) (hI : IntsA w v xs) (h0 : xs.head? = some x0) (hs : ∀ x ∈ xs, x0 ≤ x) : Calls Try.prog 38 #[v] w fun e w' => e = .returned (.int .i64 x0) ∧ w' = w := by
  obtain ⟨A, c, rfl, _⟩ := id hI.reads
  have HI := Lib.hid (intsA_at hI).2
  have hfew := hI.few
  unfold maxLen at hfew
  have hx0 : xs[0]? = some x0 := by rw [← h0]; cases xs <;> rfl
  have hpos : 0 < xs.length := (List.getElem?_eq_some_iff.1 hx0).1
  have HSt : Hid (MinRel w xs x0 (xs.length - 1) (.int .i64 x0) (.int .i64 1) w) := ⟨1, by omega, Nat.le_refl _, rfl, rfl, rfl⟩
  have HS := Lib.hid hs
  obtain ⟨_, ad0, rfl, c0⟩ := HI.out 0 x0 hx0
  have j0 : ¬ (xs.length : Int) < 1 := by omega
  have j01 : (0 : Int) < (xs.length : Int) := by omega
  clear hI h0 hx0 hs
  have c0' : w.cell? ad0 = some (.int .i64 x0) := by rw [show ad0 = ad0.add 0 by unfold Addr.add; simp]; exact c0
  go_enter Try.func38, Try.ntmps38
  go_wp2
  go_loopg [3, 4] (xs.length - 1) (fun k v3 v4 wr => MinRel w xs x0 k v3 v4 wr)
  case atStart => exact HSt.out
  case round =>
    clear HSt
    obtain ⟨i, hk, hi1, rfl, rfl, rfl⟩ := hrel
    by_cases hlt : i < xs.length
    · obtain ⟨x, hx⟩ : ∃ x, xs[i]? = some x := ⟨_, List.getElem?_eq_getElem hlt⟩
      obtain ⟨hxi, ad, had, cx⟩ := HI.out i x hx
      cases had
      have hle := HS.out x (List.mem_of_getElem? hx)
      have j1 : (i : Int) < (xs.length : Int) := by omega
      have j2 : (0 : Int) ≤ (i : Int) := by omega
      have j3 : ¬ x < x0 := by omega
      have j4 : min x0 x = x0 := by omega
      have hgk := Lib.hid (show gk - 1 < gk by omega)
      have hR : Hid (MinRel wr xs x0 (gk - 1) (.int .i64 x0) (.int .i64 ((i + 1 : Nat) : Int)) wr) := ⟨i + 1, by omega, by omega, rfl, rfl, rfl⟩
      clear hx hk hlt hle
      go_wp2
      go_roundg (gk - 1)
      case measure => exact hgk.out
      case rel => exact hR.out
    · have j1 : ¬ (i : Int) < (xs.length : Int) := by omega
      clear hk hlt
      go_wp2
      go_ret
      exact ⟨rfl, rfl⟩
theorem mems_head (t : Tr) : t.mems.head? = some (low t : Int) ∧ ∀ x ∈ t.mems, (low t : Int) ≤ x := by
  have hm : ∀ x : Int, x ∈ t.mems ↔ ∃ q, q ∈ t.procs ∧ (q : Int) = x := fun x => by
    unfold Tr.mems Tr.ints
    rw [L10.sortL_mem, List.mem_map]
  have hall : ∀ x ∈ t.mems, (low t : Int) ≤ x := fun x hx => by
    obtain ⟨q, hq, rfl⟩ := (hm x).1 hx
    have := low_le t q hq
    omega
  refine ⟨?_, hall⟩
  have hs := L10.sortL_sorted t.ints
  have hl : (low t : Int) ∈ t.mems := (hm _).2 ⟨_, low_mem t, rfl⟩
  have e : t.mems = L10.sortL t.ints := rfl
  rw [← e] at hs
  cases hc : t.mems with
  | nil => rw [hc] at hl; cases hl
  | cons a b =>
    rw [hc] at hs hl hall
    have h1 := hall a (by simp)
    have h2 : a ≤ (low t : Int) := by
      rcases List.mem_cons.1 hl with h | h
      · omega
      · exact (List.pairwise_cons.1 hs).1 _ h
    rw [List.head?_cons]
    congr 1
    omega
set_option maxHeartbeats 1000000 in
theorem least_calls {t : Tr} (h : t.ok) (w : World) : Calls Try.prog 28 #[.string ⟨t.text.toArray⟩] w (One w (.int .i64 (low t : Int))) := by
  have hM := members_top t.text w
  have e : memsX t.text = t.mems := by unfold memsX; rw [readT_text h]
  rw [e] at hM
  obtain ⟨hh, hall⟩ := mems_head t
  have HMin := Lib.hid (fun (V : World) (v : Value) B (ho : V.ownsRow B 3 1 v t.mems.length (t.mems.map (Value.int .i64))) => min_calls v t.mems (low t : Int) V (h.ints ho) hh hall)
  clear e hh hall h
  generalize t.text = x at *
  go_enter Try.func28, Try.ntmps28
  go_wp2_with (first
    | (go_at_call 36; refine hM.mono ?_; rintro e w1 ⟨v, rfl, ho, b1⟩; have hMin := HMin.out _ _ _ ho; obtain ⟨A, c, rfl⟩ := L5.own_slice ho; have HB := Lib.hid b1; clear b1 ho)
    | (go_at_call 38; refine hMin.mono ?_; rintro e w2 ⟨rfl, rfl⟩))
  go_ret
  exact ⟨rfl, HB.out⟩
def sponsorX (x node : List UInt8) : Int := match readT x with
  | none => 0
  | some t => match t.at node with
    | none => 0
    | some u => low u
set_option maxHeartbeats 2000000 in
theorem sponsor_calls (x node : List UInt8) (w : World) : Calls Try.prog 16 #[.string ⟨x.toArray⟩, .string ⟨node.toArray⟩] w (One w (.int .i64 (sponsorX x node))) := by
  have hA := at_calls x node w
  have hcase : (∃ u : Tr, u.ok ∧ atX x node = (u.text, 0) ∧ sponsorX x node = low u) ∨ (∃ y k, atX x node = (y, k) ∧ (k != 0) = true ∧ sponsorX x node = 0) := by
    unfold atX sponsorX
    cases hx : readT x with
    | none => exact .inr ⟨[], 1, rfl, rfl, rfl⟩
    | some t =>
      have ho := (readT_some hx).2
      dsimp only
      cases ha : t.at node with
      | none => exact .inr ⟨[], 8, rfl, rfl, rfl⟩
      | some u => exact .inl ⟨u, ho.at ha, rfl, rfl⟩
  rcases hcase with ⟨u, hu, e1, e2⟩ | ⟨y, k, e1, hk, e2⟩
  · rw [e1] at hA
    rw [e2]
    have HL := Lib.hid (fun V => least_calls hu V)
    clear e1 e2 hu
    unfold Str2 at hA
    dsimp only at hA
    generalize u.text = tx at *
    go_enter Try.func16, Try.ntmps16
    go_wp2_with (first
      | (go_at_call 5; refine hA.mono ?_; rintro e w1 ⟨rfl, b1⟩; have HB := Lib.hid b1; clear b1)
      | (go_at_call 28; refine (HL.out _).mono ?_; rintro e w2 ⟨rfl, b2⟩; have HB2 := Lib.hid b2; clear b2))
    go_ret
    exact ⟨rfl, HB.out.trans (HB2.out.mono HB.out.size)⟩
  · rw [e1] at hA
    rw [e2]
    clear e1 e2
    unfold Str2 at hA
    dsimp only at hA
    go_enter Try.func16, Try.ntmps16
    go_wp2_with (go_at_call 5; refine hA.mono ?_; rintro e w1 ⟨rfl, b1⟩; have HB := Lib.hid b1; clear b1)
    go_ret
    exact ⟨rfl, HB.out⟩
theorem besideL_ne {x : List UInt8} (h : x ≠ []) : ∃ y b, x = y ++ [b] ∧ besideL x = y ++ [turn b] := by
  have := List.dropLast_concat_getLast h
  exact ⟨x.dropLast, x.getLast h, this.symm, by rw [← besideL_snoc, this]⟩
set_option maxHeartbeats 4000000 in
theorem beside_calls (x : List UInt8) (hl : x.length ≤ 1000) (w : World) : Calls Try.prog 12 #[.string ⟨x.toArray⟩] w (One w (.string ⟨(besideL x).toArray⟩)) := by
  by_cases h : x = []
  · subst h
    rw [besideL_nil]
    go_enter Try.func12, Try.ntmps12
    go_wp2
    go_ret
    exact ⟨rfl, Below.refl _ _⟩
  · obtain ⟨y, b, e, e2⟩ := besideL_ne h
    rw [e2]
    have hlen : x.length = y.length + 1 := by rw [e]; simp
    have s1 : (⟨x.toArray⟩ : ByteArray).extract 0 y.length = ⟨y.toArray⟩ := by rw [slice_list14, e]; simp
    have s2 : (⟨x.toArray⟩ : ByteArray).extract y.length x.length = ⟨[b].toArray⟩ := by rw [slice_list14, e]; simp
    have hsz : (⟨x.toArray⟩ : ByteArray).size = x.length := rfl
    have hx : (x == []) = false := by rw [beq_eq_false_iff_ne]; exact h
    have hcat := cat_bytes14
    have mixed : Try.prog.follows Departure.mixedOrders = true := by kernel_rfl
    have hty : turn b = if b = 108 then 114 else 108 := rfl
    obtain ⟨m, hm⟩ : ∃ m, y.length = m := ⟨_, rfl⟩
    have n1 : (x.length : Int) - 1 = (m : Int) := by omega
    have n2 : (m : Int) ≤ (x.length : Int) := by omega
    have n3 : m ≤ x.length := by omega
    have n4 : (0 : Int) ≤ (m : Int) := by omega
    rw [hm] at s1 s2
    have hml : y.length ≤ 1000 := by omega
    clear e e2 h hlen hm
    by_cases hb : b = 108
    · subst hb
      rw [hty, if_pos rfl]
      go_enter Try.func12, Try.ntmps12
      go_wp2
      go_region_o
      all_goals (go_wp2; go_ret; exact ⟨rfl, Below.drew (Below.refl _ _)⟩)
    · have hb' : ([b] == [108]) = false := by rw [beq_eq_false_iff_ne]; intro e; exact hb (List.cons.inj e).1
      have hb2 : (b == 108) = false := by rw [beq_eq_false_iff_ne]; exact hb
      rw [hty, if_neg hb]
      go_enter Try.func12, Try.ntmps12
      go_wp2
      go_region_o
      all_goals (go_wp2; go_ret; exact ⟨rfl, Below.drew (Below.refl _ _)⟩)
end Go.Proofs.Ytlpabhgfmkilnaa.L14
