/- The law TreeMerges. -/
import Derived.Test.YtembihlkildodaaDoorRtBuild
namespace Go.Proofs.YtembihlkildodaaDoor.L13
open Go.ChangeShapes Go.WideShapes Go.ChangeAt Go.RowKit Go.Deep
open Go.Proofs.YtembihlkildodaaDoor.L5 (One)

set_option maxRecDepth 100000 in
set_option maxHeartbeats 8000000 in
theorem merges_calls (s t : ByteArray) (v : Value) (xs : List Int) (w : World) (hI : IntsA w v xs) (hcap : ∀ A n c, v = .slice A n c → n ≤ c ∨ n = 0) : Calls Tryd.prog 4 #[.string s, .string t, v] w (One w (.bool true)) := by
  obtain ⟨L, rfl⟩ := of_list s
  obtain ⟨M, rfl⟩ := of_list t
  have hSh := shown_calls w
  have hsz : (⟨L.toArray⟩ : ByteArray).size = L.length := rfl
  have hsz2 : (⟨M.toArray⟩ : ByteArray).size = M.length := rfl
  have hcap' : ∀ A n c, v = .slice A n c → n ≤ c := fun A n c e => by
    rcases hcap A n c e with h | h
    · exact h
    · omega
  have HB1 := Lib.hid (fun V (hb : Below w.heap.size w V) => build_top v xs V (hI.below hb) hcap')
  have HB2 := Lib.hid (fun V (hb : Below w.heap.size w V) => rBuild_top v xs V (hI.below hb))
  obtain ⟨A, c, rfl, _⟩ := id hI.reads
  have hfew := hI.few
  unfold maxLen at hfew
  clear hI hcap hcap'
  by_cases hall : L.length ≤ 90 ∧ M.length ≤ 90 ∧ xs.length ≤ 30
  · have q1 : ¬ (90 : Int) < (L.length : Int) := by omega
    have q2 : ¬ (90 : Int) < (M.length : Int) := by omega
    have q3 : ¬ (30 : Int) < (xs.length : Int) := by omega
    have HM1 := Lib.hid (fun V => merge_top L M V)
    have HM2 := Lib.hid (fun V => rMerge_top L M (by omega) (by omega) V)
    unfold Str2 at HM1 HM2 HB1 HB2
    obtain ⟨⟨my, mz⟩, hm⟩ : ∃ r, mergeX L M = r := ⟨_, rfl⟩
    obtain ⟨⟨dy, dz⟩, hd⟩ : ∃ r, buildX xs = r := ⟨_, rfl⟩
    rw [hm] at HM1 HM2
    rw [hd] at HB1 HB2
    dsimp only at HM1 HM2 HB1 HB2
    clear hm hd hall
    go_enter Tryd.func4, Tryd.ntmps4
    go_wp2_with fail
    refine hSh.mono ?_
    rintro e w1 ⟨rfl, b1⟩
    have B1 := Lib.hid b1
    clear b1 hSh
    go_wp2_with fail
    refine (HM1.out _).mono ?_
    rintro e w2 ⟨rfl, b2⟩
    have B2 := Lib.hid (B1.out.trans (b2.mono B1.out.size))
    clear b2
    go_wp2_with fail
    refine (HM2.out _).mono ?_
    rintro e w3 ⟨rfl, b3⟩
    have B3 := Lib.hid (B2.out.trans (b3.mono B2.out.size))
    have hB1 := HB1.out _ B3.out
    clear b3
    go_wp2_with fail
    refine hB1.mono ?_
    rintro e w4 ⟨rfl, b4⟩
    have B4 := Lib.hid (B3.out.trans (b4.mono B3.out.size))
    have hB2 := HB2.out _ B4.out
    clear b4 hB1
    go_wp2_with fail
    refine hB2.mono ?_
    rintro e w5 ⟨rfl, b5⟩
    have B5 := Lib.hid (B4.out.trans (b5.mono B4.out.size))
    clear b5 hB2
    go_wp2
    go_ret
    exact ⟨by simp, B5.out⟩
  · clear HB1 HB2
    by_cases h1 : 90 < L.length
    · have q1 : (90 : Int) < (L.length : Int) := by omega
      clear hall h1
      go_enter Tryd.func4, Tryd.ntmps4
      go_wp2_with fail
      refine hSh.mono ?_
      rintro e w1 ⟨rfl, b1⟩
      have B1 := Lib.hid b1
      clear b1 hSh
      go_wp2
      go_ret
      exact ⟨rfl, B1.out⟩
    · have q1 : ¬ (90 : Int) < (L.length : Int) := by omega
      by_cases h2 : 90 < M.length
      · have q2 : (90 : Int) < (M.length : Int) := by omega
        clear hall h1 h2
        go_enter Tryd.func4, Tryd.ntmps4
        go_wp2_with fail
        refine hSh.mono ?_
        rintro e w1 ⟨rfl, b1⟩
        have B1 := Lib.hid b1
        clear b1 hSh
        go_wp2
        go_ret
        exact ⟨rfl, B1.out⟩
      · have q2 : ¬ (90 : Int) < (M.length : Int) := by omega
        have q3 : (30 : Int) < (xs.length : Int) := by omega
        clear hall h1 h2
        go_enter Tryd.func4, Tryd.ntmps4
        go_wp2_with fail
        refine hSh.mono ?_
        rintro e w1 ⟨rfl, b1⟩
        have B1 := Lib.hid b1
        clear b1 hSh
        go_wp2
        go_ret
        exact ⟨rfl, B1.out⟩
end Go.Proofs.YtembihlkildodaaDoor.L13
