/- The document's Build. -/
import Derived.Test.YtembihlkildodaaDoorRtMerge
namespace Go.Proofs.YtembihlkildodaaDoor.L13
open Go.ChangeShapes Go.WideShapes Go.ChangeAt Go.RowKit Go.Deep
open Go.Proofs.YtembihlkildodaaDoor.L5 (One)

def RbRel (w : World) (xs : List Int) (p k : Nat) (v4 v5 : Value) (wr : World) : Prop :=
  ∃ i : Nat, k + i = xs.length ∧ v5 = .int .i64 ((i + 1 : Nat) : Int) ∧ v4 = .string ⟨(joins (.leaf p) (xs.take i)).text.toArray⟩ ∧ Below w.heap.size w wr
theorem joinX_next {p : Nat} {xs : List Int} (h : L10.rowB ((p : Int) :: xs) = true) {i : Nat} {y : Int} (hy : xs[i]? = some y) : joinX (joins (.leaf p) (xs.take i)).text y = ((joins (.leaf p) (xs.take (i + 1))).text, 0) := by
  have ho := row_ok h i
  have ho2 := row_ok h (i + 1)
  rw [Int.toNat_natCast] at ho ho2
  rw [joins_take hy] at ho2 ⊢
  have h8 := ho2.small y.toNat ((Tr.put_mem _ _ _).2 (.inl rfl))
  have hn : y.toNat ∉ (joins (.leaf p) (xs.take i)).procs := by
    have := (Tr.put_procs (joins (.leaf p) (xs.take i)) y.toNat).nodup_iff.1 ho2.once
    exact (List.nodup_cons.1 this).1
  unfold joinX
  rw [readT_text ho]
  dsimp only
  rw [if_pos ⟨by omega, by omega, hn⟩]
set_option maxRecDepth 100000 in
set_option maxHeartbeats 8000000 in
theorem rBuild_top (v : Value) (xs : List Int) (w : World) (hI : IntsA w v xs) : Calls Tryd.prog 27 #[v] w (Str2 w (buildX xs)) := by
  have hRow := L10.rrow_calls v xs w hI
  unfold buildX
  cases hb : L10.rowB xs with
  | false =>
    rw [hb] at hRow
    rw [if_neg (by decide)]
    obtain ⟨A, c, rfl, _⟩ := id hI.reads
    clear hI hb
    go_enter Tryd.func27, Tryd.ntmps27
    go_wp2_with (go_at_call 53; refine hRow.mono ?_; rintro e w1 ⟨rfl, b1⟩; have B1 := Lib.hid b1; clear b1)
    go_ret2
    exact ⟨rfl, B1.out⟩
  | true =>
    rw [hb] at hRow
    rw [if_pos rfl]
    cases xs with
    | nil => simp [L10.rowB, riseB] at hb
    | cons x xs =>
      have hxs := (rise_mem _ _ (by unfold L10.rowB at hb; rw [Bool.and_eq_true] at hb; exact hb.1)).1
      have hx := hxs x (by simp)
      obtain ⟨p, rfl⟩ : ∃ p : Nat, x = p := ⟨x.toNat, by omega⟩
      obtain ⟨A, c, rfl, _⟩ := id hI.reads
      have HI := Lib.hid (ints_at hI)
      have hfew := hI.few
      unfold maxLen at hfew
      simp only [List.length_cons] at hfew
      have HOK := Lib.hid (fun i => row_ok hb i)
      rw [Int.toNat_natCast] at HOK
      have HNx : Hid (∀ (i : Nat) (y : Int) (V : World), xs[i]? = some y → Calls Tryd.prog 12 #[.string ⟨(joins (.leaf p) (xs.take i)).text.toArray⟩, .int .i64 y] V (Str2 V ((joins (.leaf p) (xs.take (i + 1))).text, 0))) := fun i y V hy => by
        have := rJoin_top (joins (.leaf p) (xs.take i)).text (by have := (HOK.out i).len; omega) y V
        rw [joinX_next hb hy] at this
        exact this
      have HEnd : Hid ((joins (.leaf p) (xs.take xs.length)).text = (buildT ((p : Int) :: xs)).text) := by
        rw [List.take_length]
        show _ = (joins (.leaf ((p : Int)).toNat) xs).text
        rw [Int.toNat_natCast]
      have HL := Lib.hid (fun V => rleaf_calls p (by omega) V)
      obtain ⟨_, ad, rfl, hc0⟩ := HI.out 0 (p : Int) rfl
      have e0 : ad.add 0 = ad := by unfold Addr.add; rw [if_pos rfl]
      rw [e0] at hc0
      have HC0 := Lib.hid hc0
      simp only [List.length_cons] at hRow ⊢
      clear hI hb hxs hx HOK e0 hc0
      obtain ⟨tb, htb⟩ : ∃ tb, (buildT ((p : Int) :: xs)).text = tb := ⟨_, rfl⟩
      rw [htb] at HEnd ⊢
      clear htb
      go_enter Tryd.func27, Tryd.ntmps27
      go_wp2_with fail
      refine hRow.mono ?_
      rintro e w1 ⟨rfl, b1⟩
      have c1 := HC0.out _ b1
      have HSt : Hid (RbRel w xs p xs.length (.string ⟨(Tr.leaf p).text.toArray⟩) (.int .i64 1) w1) := ⟨0, by omega, rfl, rfl, b1⟩
      clear b1 hRow
      generalize (Tr.leaf p).text = lt at *
      go_wp2_with fail
      refine (HL.out _).mono ?_
      rintro e w2 ⟨rfl, rfl⟩
      go_wp2
      go_loopg [4, 5] xs.length (fun k v4 v5 wr => RbRel w xs p k v4 v5 wr)
      case atStart => exact HSt.out
      case round =>
        clear HSt
        obtain ⟨i, hk, rfl, rfl, hB⟩ := hrel
        by_cases hil : i < xs.length
        · obtain ⟨y, hy⟩ : ∃ y, xs[i]? = some y := ⟨_, List.getElem?_eq_getElem hil⟩
          obtain ⟨_, ad2, e2, hc⟩ := HI.out (i + 1) y hy
          cases e2
          have c2 := hc _ hB
          have hJ := HNx.out i y wr hy
          unfold Str2 at hJ
          dsimp only at hJ
          have HN : Hid (∀ V, Below w.heap.size w V → RbRel w xs p (gk - 1) (.string ⟨(joins (.leaf p) (xs.take (i + 1))).text.toArray⟩) (.int .i64 ((i + 1 + 1 : Nat) : Int)) V) := fun V hV => ⟨i + 1, by omega, rfl, rfl, hV⟩
          have hgk := Lib.hid (show gk - 1 < gk by omega)
          have j1 : (i : Int) + 1 < (xs.length : Int) + 1 := by omega
          have j2 : (0 : Int) ≤ (i : Int) + 1 := by omega
          have HB := Lib.hid hB
          obtain ⟨n, hn⟩ : ∃ n, i + 1 = n := ⟨_, rfl⟩
          rw [hn] at c2 hJ HN ⊢
          have j3 : (n : Int) < (xs.length : Int) + 1 := by omega
          have j4 : (0 : Int) ≤ (n : Int) := by omega
          have j5 : n < xs.length + 1 := by omega
          clear hk hB hc hy hil j1 j2 HNx HI HEnd hn
          generalize (joins (.leaf p) (xs.take i)).text = t0 at *
          generalize (joins (.leaf p) (xs.take n)).text = t1 at *
          go_wp2_with fail
          refine hJ.mono ?_
          rintro e w3 ⟨rfl, b3⟩
          have HE := Lib.hid (HN.out _ (HB.out.trans (b3.mono HB.out.size)))
          clear b3 HN hJ
          go_wp2
          go_roundg (gk - 1)
          case measure => exact hgk.out
          case rel => exact HE.out
        · obtain rfl : i = xs.length := by omega
          rw [HEnd.out]
          have j1 : ¬ ((xs.length + 1 : Nat) : Int) < (xs.length : Int) + 1 := by omega
          have HB := Lib.hid hB
          clear hk hB hil HNx HI HEnd
          go_wp2
          go_ret2
          exact ⟨rfl, HB.out⟩
end Go.Proofs.YtembihlkildodaaDoor.L13
