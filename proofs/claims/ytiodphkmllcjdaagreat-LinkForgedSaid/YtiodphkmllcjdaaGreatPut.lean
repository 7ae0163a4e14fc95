/- Contract of put: a head and parts make one text, or the error that the chapter names first. -/
import Derived.Test.YtiodphkmllcjdaaGreatBuild
namespace Go.Proofs.YtiodphkmllcjdaaGreat
open Go.ChangeShapes Go.WideShapes Go.ChangeAt Go.RowKit

namespace Tm
def maxDepth (ps : List (List UInt8)) : Nat := ps.foldl (fun m p => max m (depthOf p)) 0
def put (hd : List UInt8) (ps : List (List UInt8)) : List UInt8 × Nat :=
  if ps.any (fun p => depthOf p == 0) = true then ([], 1)
  else if 20000 < hd.length + ps.flatten.length then ([], 3)
  else if 400 < maxDepth ps + 1 then ([], 4)
  else (hd ++ ps.flatten, 0)
theorem maxDepth_snoc (ps : List (List UInt8)) (p : List UInt8) : maxDepth (ps ++ [p]) = max (maxDepth ps) (depthOf p) := by
  simp [maxDepth]
theorem maxDepth_le (ps : List (List UInt8)) : maxDepth ps ≤ 400 := by
  have h : ∀ (l : List (List UInt8)) (m : Nat), m ≤ 400 → l.foldl (fun m p => max m (depthOf p)) m ≤ 400 := by
    intro l
    induction l with
    | nil => intro m h; exact h
    | cons p l ih => intro m h; exact ih _ (Nat.max_le.2 ⟨h, depthOf_le p⟩)
  exact h ps 0 (by omega)
theorem right_length (p : List UInt8) (h : depthOf p ≠ 0) : p.length ≤ 20000 := by
  unfold depthOf at h
  split at h
  · exact absurd rfl h
  · omega
theorem flatten_le (ps : List (List UInt8)) (h : ∀ p ∈ ps, depthOf p ≠ 0) : ps.flatten.length ≤ ps.length * 20000 := by
  induction ps with
  | nil => simp
  | cons p ps ih =>
    have h1 := right_length p (h p (by simp))
    have h2 := ih (fun q hq => h q (by simp [hq]))
    simp only [List.flatten_cons, List.length_append, List.length_cons]
    omega
def total (hd : List UInt8) (ps : List (List UInt8)) : Nat := hd.length + ps.flatten.length
theorem total_snoc (hd : List UInt8) (ps : List (List UInt8)) (p : List UInt8) : total hd (ps ++ [p]) = total hd ps + p.length := by
  simp [total, Nat.add_assoc]
theorem any_false {ps : List (List UInt8)} (h : ∀ p ∈ ps, depthOf p ≠ 0) : ¬ ps.any (fun p => depthOf p == 0) = true := by
  intro h2
  obtain ⟨p, hp, h3⟩ := List.any_eq_true.1 h2
  exact h p hp (by simpa using h3)
theorem put_long {hd : List UInt8} {ps : List (List UInt8)} (h : ∀ p ∈ ps, depthOf p ≠ 0) (h2 : 20000 < total hd ps) : put hd ps = ([], 3) := by
  unfold total at h2
  unfold put
  rw [if_neg (any_false h), if_pos h2]
theorem put_deep {hd : List UInt8} {ps : List (List UInt8)} (h : ∀ p ∈ ps, depthOf p ≠ 0) (h2 : ¬ 20000 < total hd ps) (h3 : 400 < maxDepth ps + 1) : put hd ps = ([], 4) := by
  unfold total at h2
  unfold put
  rw [if_neg (any_false h), if_neg h2, if_pos h3]
theorem put_ok {hd : List UInt8} {ps : List (List UInt8)} (h : ∀ p ∈ ps, depthOf p ≠ 0) (h2 : ¬ 20000 < total hd ps) (h3 : ¬ 400 < maxDepth ps + 1) : put hd ps = (hd ++ ps.flatten, 0) := by
  unfold total at h2
  unfold put
  rw [if_neg (any_false h), if_neg h2, if_neg h3]
end Tm

/-- The texts xs lie one by one from cell 0 of block g on. -/
def Texts (w : World) (g : Nat) (xs : List (List UInt8)) : Prop := ∀ j x, xs[j]? = some x → w.cell? ⟨g, j, none⟩ = some (.string ⟨x.toArray⟩)
theorem Texts.below {w w' : World} {B g : Nat} {xs : List (List UInt8)} (h : Texts w g xs) (hb : Below B w w') (hg : g < B) : Texts w' g xs :=
  fun j x hj => (hb.cell (p := ⟨g, j, none⟩) hg).trans (h j x hj)

def Adding (w : World) (hd : List UInt8) (ps : List (List UInt8)) (k : Nat) (v6 v7 v18 : Value) (wr : World) : Prop :=
  ∃ i, k + i = ps.length ∧ v18 = .int .i64 i ∧ v6 = .int .i64 (Tm.total hd (ps.take i)) ∧ v7 = .int .i64 (Tm.maxDepth (ps.take i)) ∧ (∀ p ∈ ps.take i, Tm.depthOf p ≠ 0) ∧ Below w.heap.size w wr

def Joining (w : World) (b : Nat) (hd : List UInt8) (ps : List (List UInt8)) (k : Nat) (v45 : Value) (wr : World) : Prop :=
  ∃ i, k + i = ps.length ∧ v45 = .int .i64 i ∧ Built w.heap.size b (hd ++ (ps.take i).flatten) wr ∧ Below w.heap.size w wr

def Pair2 (w : World) (r : List UInt8 × Nat) (e : Ending) (w' : World) : Prop := e = .returned (.tuple #[.string ⟨r.1.toArray⟩, .int .i64 r.2]) ∧ Below w.heap.size w w'

set_option maxRecDepth 100000 in
set_option maxHeartbeats 2000000 in
theorem put_calls (hd : List UInt8) (ps : List (List UInt8)) (gh ch g cap : Nat) (w : World) (hgh : gh < w.heap.size) (hg : g < w.heap.size) (hT : Texts w g ps)
    (hH : ∀ j u, (Lib.byteCells hd)[j]? = some u → w.cell? ((⟨gh, 0, none⟩ : Addr).add j) = some u) (hn : ps.length ≤ 40) (hh : 0 < hd.length) (hh2 : hd.length ≤ 10) (hp : ∀ p ∈ ps, p.length ≤ maxLen) :
    Calls Tryz.prog 31 #[.slice (some ⟨gh, 0, none⟩) hd.length ch, .slice (some ⟨g, 0, none⟩) ps.length cap] w (Pair2 w (Tm.put hd ps)) := by
  have HT := Lib.hid hT
  have HH := Lib.hid hH
  have HP := Lib.hid hp
  clear hT hH hp
  go_enter Tryz.func31, Tryz.ntmps31
  go_wp2
  go_loopg [6, 7, 18] ps.length (fun k v6 v7 v18 wr => Adding w hd ps k v6 v7 v18 wr)
  case atStart => exact ⟨0, by omega, rfl, by simp [Tm.total], rfl, by simp, Below.refl _ _⟩
  case round =>
    obtain ⟨i, hk, rfl, rfl, rfl, hall, hbel⟩ := hrel
    have HA := Lib.hid hall
    have hmd := Tm.maxDepth_le (ps.take i)
    have hfl := Tm.flatten_le (ps.take i) hall
    have htl : (ps.take i).length ≤ 40 := by simp; omega
    have htot : Tm.total hd (ps.take i) ≤ 800010 := by unfold Tm.total; omega
    clear hall hfl htl
    by_cases hi : i < ps.length
    · obtain ⟨p, hpi⟩ : ∃ p, ps[i]? = some p := ⟨_, List.getElem?_eq_getElem hi⟩
      have hpm : p ∈ ps := List.mem_of_getElem? hpi
      have hcell : wr.cell? ⟨g, i, none⟩ = some (.string ⟨p.toArray⟩) := (HT.out.below hbel hg) i p hpi
      have hpl := HP.out p hpm
      have cD := fun W => Depth_calls ⟨p.toArray⟩ (by simpa [ByteArray.size] using hpl) W
      have hd4 := Tm.depthOf_le p
      obtain ⟨d, hdd⟩ : ∃ d, Tm.depthOf p = d := ⟨_, rfl⟩
      have htk : ps.take (i + 1) = ps.take i ++ [p] := by
        rw [List.take_add_one, hpi]; rfl
      simp only at cD
      rw [hdd] at cD hd4
      have HD := Lib.hid cD
      have HX : Hid (Tm.depthOf p = d ∧ ps.take (i + 1) = ps.take i ++ [p] ∧ p ∈ ps) := ⟨hdd, htk, hpm⟩
      clear cD hdd htk hpm hpi
      have i1 : (i : Int) < (ps.length : Int) := by omega
      have hcap : (0 : Int) ≤ (i : Int) := by omega
      by_cases h0 : d = 0
      · subst h0
        have hfin : Hid (Tm.put hd ps = ([], 1)) := by
          show Tm.put hd ps = ([], 1)
          unfold Tm.put
          rw [if_pos (List.any_eq_true.2 ⟨p, HX.out.2.2, by simp [HX.out.1]⟩)]
        go_wp2_with (go_at_call 49; refine (HD.out _).mono ?_; rintro e' w' ⟨rfl, hbw⟩)
        go_ret2
        exact ⟨by rw [hfin.out]; rfl, hbel.trans (hbw.mono hbel.size)⟩
      · have h0' : ((d : Int) == 0) = false := by simp; omega
        have hpl2 : p.length ≤ 20000 := Tm.right_length p (by rw [HX.out.1]; exact h0)
        have HZ := Lib.hid h0
        clear h0
        go_wp2_with (go_at_call 49; refine (HD.out _).mono ?_; rintro e' w' ⟨rfl, hbw⟩)
        go_roundg (gk - 1)
        case measure => omega
        case rel =>
          refine ⟨i + 1, by omega, rfl, ?_, ?_, ?_, hbel.trans (hbw.mono hbel.size)⟩
          · rw [HX.out.2.1, Tm.total_snoc]
            rfl
          · rw [HX.out.2.1, Tm.maxDepth_snoc, HX.out.1]
            exact congrArg (Value.int .i64) (by omega)
          · rw [HX.out.2.1]
            intro q hq
            rcases List.mem_append.1 hq with hq | hq
            · exact HA.out q hq
            · rw [List.mem_singleton.1 hq, HX.out.1]
              exact HZ.out
    · have hi2 : i = ps.length := by omega
      subst hi2
      have i1 : ¬ ((ps.length : Int) < (ps.length : Int)) := by omega
      have HA2 : Hid (∀ p ∈ ps, Tm.depthOf p ≠ 0) := by
        have := HA.out
        rwa [List.take_length] at this
      rw [List.take_length] at htot hmd ⊢
      clear HA
      obtain ⟨T, hT⟩ : ∃ T, Tm.total hd ps = T := ⟨_, rfl⟩
      obtain ⟨M, hM⟩ : ∃ M, Tm.maxDepth ps = M := ⟨_, rfl⟩
      rw [hT, hM]
      rw [hT] at htot
      rw [hM] at hmd
      have HTM : Hid (Tm.total hd ps = T ∧ Tm.maxDepth ps = M) := ⟨hT, hM⟩
      clear hT hM
      by_cases h3 : 20000 < T
      · have h3' : (20000 : Int) < (T : Int) := by omega
        go_wp2
        all_goals first | omega | (go_ret2; exact ⟨by rw [Tm.put_long HA2.out (by rw [HTM.out.1]; exact h3)]; rfl, hbel⟩)
      have h3' : (T : Int) ≤ 20000 := by omega
      by_cases h4 : 400 < M + 1
      · have h4' : (400 : Int) < (M : Int) + 1 := by omega
        go_wp2
        all_goals first | omega | (go_ret2; exact ⟨by rw [Tm.put_deep HA2.out (by rw [HTM.out.1]; exact h3) (by rw [HTM.out.2]; exact h4)]; rfl, hbel⟩)
      have h4' : (M : Int) + 1 ≤ 400 := by omega
      have HF := Lib.hid (Tm.put_ok HA2.out (by rw [HTM.out.1]; exact h3) (by rw [HTM.out.2]; exact h4))
      have hTl : hd.length + ps.flatten.length ≤ 20000 := by have := HTM.out.1; unfold Tm.total at this; omega
      have hsz := hbel.size
      go_wp2_with (first
        | (go_at_call 50
           refine (Tryz.Builder_Grow_fresh w.heap.size wr.heap.size T _ hsz (heap_alloc_new wr _) (by simp; omega) (by omega)).mono ?_
           rintro e' w1 ⟨rfl, hb1, hbw1⟩
           have X1 : Hid (Built w.heap.size wr.heap.size [] w1 ∧ Below w.heap.size w w1) := ⟨hb1, (hbel.alloc hsz _).trans hbw1⟩
           clear hb1 hbw1)
        | (go_at_call 51
           refine (Write_calls w.heap.size wr.heap.size [] hd ⟨gh, 0, none⟩ ch w1 X1.out.1 (fun j u hj => (X1.out.2.cell (p := (⟨gh, 0, none⟩ : Addr).add j) (by unfold Addr.add; split <;> exact hgh)).trans (HH.out j u hj)) (by simp; omega) X1.out.2.size).mono ?_
           rintro e' w2 ⟨rfl, hb2, hbw2⟩
           have X2 : Hid (Built w.heap.size wr.heap.size hd w2 ∧ Below w.heap.size w w2) := ⟨hb2, X1.out.2.trans hbw2⟩
           clear hb2 hbw2 X1))
      obtain ⟨b, hb⟩ : ∃ b, b = wr.heap.size := ⟨_, rfl⟩
      rw [← hb] at X2 ⊢
      have H2 : Hid (Joining w b hd ps ps.length (.int .i64 0) w2) := ⟨0, by omega, rfl, by simpa using X2.out.1, X2.out.2⟩
      clear hb X2
      go_loopg [45] ps.length (fun k v45 wr => Joining w b hd ps k v45 wr)
      case atStart => exact H2.out
      case round =>
        clear H2
        obtain ⟨i, hk2, rfl, hbuilt, hbel2⟩ := hrel
        have HB := Lib.hid hbuilt
        clear hbuilt
        by_cases hi : i < ps.length
        · obtain ⟨p, hpi⟩ : ∃ p, ps[i]? = some p := ⟨_, List.getElem?_eq_getElem hi⟩
          have hcell : wr.cell? ⟨g, i, none⟩ = some (.string ⟨p.toArray⟩) := (HT.out.below hbel2 hg) i p hpi
          have htk : ps.take (i + 1) = ps.take i ++ [p] := by
            rw [List.take_add_one, hpi]; rfl
          have hpl := Tm.right_length p (HA2.out p (List.mem_of_getElem? hpi))
          have hle : (ps.take i).flatten.length ≤ 20000 := by
            have h5 : ps.flatten = (ps.take i).flatten ++ (ps.drop i).flatten := by rw [← List.flatten_append, List.take_append_drop]
            rw [h5, List.length_append] at hTl
            omega
          have HK := Lib.hid htk
          have HL := Lib.hid (And.intro hle hpl)
          clear htk hle hpl hpi
          have j1 : (i : Int) < (ps.length : Int) := by omega
          have j2 : (0 : Int) ≤ (i : Int) := by omega
          go_wp2_with (
            go_at_call 52
            refine (WriteString_calls w.heap.size b (hd ++ (ps.take i).flatten) ⟨p.toArray⟩ wr HB.out (by
              have h6 := HL.out
              have h7 : (⟨p.toArray⟩ : ByteArray).size = p.length := by simp [ByteArray.size]
              rw [List.length_append, h7]
              omega) hbel2.size).mono ?_
            rintro e' w3 ⟨rfl, hb3, hbw3⟩
            have X3 : Hid (Built w.heap.size b ((hd ++ (ps.take i).flatten) ++ p) w3 ∧ Below w.heap.size w w3) := ⟨by simpa using hb3, hbel2.trans hbw3⟩
            clear hb3 hbw3)
          go_roundg (ps.length - (i + 1))
          case measure => omega
          case rel =>
            refine ⟨i + 1, by omega, rfl, ?_, X3.out.2⟩
            rw [HK.out]
            simpa using X3.out.1
        · have hi2 : i = ps.length := by omega
          subst hi2
          have j1 : ¬ ((ps.length : Int) < (ps.length : Int)) := by omega
          have HB2 : Hid (Built w.heap.size b (hd ++ ps.flatten) wr) := by
            have := HB.out
            rwa [List.take_length] at this
          clear HB
          have hne : hd ++ ps.flatten ≠ [] := by
            intro h
            have := congrArg List.length h
            rw [List.length_append, List.length_nil] at this
            omega
          have HNE := Lib.hid hne
          clear hne
          go_wp2_with (
            go_at_call 53
            refine (Tryz.Builder_String w.heap.size b (hd ++ ps.flatten) wr (.inr HB2.out) HNE.out).mono ?_
            rintro e' w3 ⟨rfl, hbw3⟩
            have X3 := Lib.hid (hbel2.trans hbw3)
            clear hbw3)
          go_ret2
          exact ⟨by rw [HF.out]; rfl, X3.out⟩

end Go.Proofs.YtiodphkmllcjdaaGreat
