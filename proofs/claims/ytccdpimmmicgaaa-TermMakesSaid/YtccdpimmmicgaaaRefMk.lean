/- Contracts of the document's own element, made, Key, Of and Exponents (gemotref1). -/
import Derived.Test.YtccdpimmmicgaaaRef2
import Derived.Test.YtccdpimmmicgaaaPow
import Derived.Test.YtccdpimmmicgaaaOrder
namespace Go.Proofs.Ytccdpimmmicgaaa
open Go.ChangeShapes Go.WideShapes Go.ChangeAt Go.RowKit

namespace Tm
/-- A term that was put together, or what is wrong. -/
def madeT (l : List UInt8) : List UInt8 × Nat := if 20000 < l.length then ([], 3) else if right l = true then (l, 0) else ([], 4)
theorem put_made {hd : List UInt8} {ps : List (List UInt8)} (hp : ∀ p ∈ ps, depthOf p ≠ 0) (hb : begin_ (hd ++ ps.flatten) = (hd.length, ps.length)) (hne : hd ≠ [])
    (hk : (hd ++ ps.flatten).getD 0 0 = 107 → element ps.flatten = true) (hc : (hd ++ ps.flatten).getD 0 0 = 101 → chain [] ps) : put hd ps = madeT (hd ++ ps.flatten) := by
  unfold madeT
  rw [List.length_append]
  by_cases h2 : 20000 < hd.length + ps.flatten.length
  · rw [if_pos h2, put_long hp (by unfold total; exact h2)]
  rw [if_neg h2]
  by_cases h3 : 400 < maxDepth ps + 1
  · rw [put_deep hp (by unfold total; exact h2) h3]
    have hr : ¬ right (hd ++ ps.flatten) = true := by
      intro h
      have h5 := (ofL_ok h).2.2.2.2.1
      rw [ofL_node hb hp, ← maxDepth_eq] at h5
      have := depthOf_le (hd ++ ps.flatten)
      omega
    rw [if_neg hr]
  · rw [put_ok hp (by unfold total; exact h2) h3]
    have := node_parse hb hne hp (by omega) hk hc
    rw [if_pos (right_of_parse this (by rw [List.length_append]; omega))]
end Tm

set_option maxRecDepth 100000 in
set_option maxHeartbeats 1000000 in
theorem Relement_calls (s : ByteArray) (hs : s.size ≤ 1000000) (w : World) :
    Calls Try.prog 57 #[.string s] w (Drew w (.bool (Tm.right s.data.toList && Tm.element s.data.toList))) := by
  have cR := fun W => RRight_calls s hs W
  cases hr : Tm.right s.data.toList with
  | false =>
    rw [hr] at cR
    have HR := Lib.hid cR
    clear cR hr
    rw [Bool.false_and]
    go_enter Try.func57, Try.ntmps57
    go_wp2_with fail
    refine (HR.out _).mono ?_
    rintro e' w' ⟨rfl, md, rfl⟩
    go_wp2
    go_ret
    exact ⟨rfl, _, rfl⟩
  | true =>
    rw [hr] at cR
    obtain ⟨hne, hp⟩ := Tm.right_ne_nil hr
    rw [len_bytes] at hp
    have hg := getD_bytes s 0 hp
    have hel := Tm.element_iff hne
    rw [hg] at hel
    have HR := Lib.hid cR
    have i1 : (0 : Int) < (s.size : Int) := by omega
    clear cR hr hg hne
    rw [Bool.true_and]
    by_cases c1 : s[0] = 103
    · rw [hel.2 (.inl c1)]
      have g1 : ((s[0].toNat : Int) == 103) = true := u8_yes (n := 103) (by omega) c1
      clear hel c1
      go_enter Try.func57, Try.ntmps57
      go_wp2_with fail
      refine (HR.out _).mono ?_
      rintro e' w' ⟨rfl, md, rfl⟩
      go_wp2
      go_ret
      exact ⟨rfl, _, rfl⟩
    have g1 : ((s[0].toNat : Int) == 103) = false := u8_no (n := 103) (by omega) c1
    by_cases c2 : s[0] = 101
    · rw [hel.2 (.inr c2)]
      have g2 : ((s[0].toNat : Int) == 101) = true := u8_yes (n := 101) (by omega) c2
      clear hel c1 c2
      go_enter Try.func57, Try.ntmps57
      go_wp2_with fail
      refine (HR.out _).mono ?_
      rintro e' w' ⟨rfl, md, rfl⟩
      go_wp2
      go_ret
      exact ⟨rfl, _, rfl⟩
    · have hf : Tm.element s.data.toList = false := by
        cases h : Tm.element s.data.toList with
        | false => rfl
        | true => exact absurd (hel.1 h) (fun h => h.elim c1 c2)
      rw [hf]
      have g2 : ((s[0].toNat : Int) == 101) = false := u8_no (n := 101) (by omega) c2
      clear hel c1 c2 hf
      go_enter Try.func57, Try.ntmps57
      go_wp2_with fail
      refine (HR.out _).mono ?_
      rintro e' w' ⟨rfl, md, rfl⟩
      go_wp2
      go_ret
      exact ⟨rfl, _, rfl⟩

set_option maxRecDepth 100000 in
set_option maxHeartbeats 1000000 in
theorem Rmade_calls (s : ByteArray) (hs : s.size ≤ 1000000) (w : World) :
    Calls Try.prog 60 #[.string s] w (Drew w (.tuple #[.string ⟨(Tm.madeT s.data.toList).1.toArray⟩, .int .i64 (Tm.madeT s.data.toList).2])) := by
  have cR := fun W => RRight_calls s hs W
  obtain ⟨r, hr⟩ : ∃ r, Tm.madeT s.data.toList = r := ⟨_, rfl⟩
  rw [hr]
  unfold Tm.madeT at hr
  rw [len_bytes] at hr
  by_cases h1 : 20000 < s.size
  · rw [if_pos h1] at hr
    subst hr
    have i1 : (20000 : Int) < (s.size : Int) := by omega
    clear cR
    go_enter Try.func60, Try.ntmps60
    go_wp2
    go_ret2
    exact ⟨rfl, 0, rfl⟩
  rw [if_neg h1] at hr
  have i1 : (s.size : Int) ≤ 20000 := by omega
  cases hrr : Tm.right s.data.toList with
  | false =>
    rw [hrr] at cR hr
    rw [if_neg (by simp)] at hr
    subst hr
    have HR := Lib.hid cR
    clear cR hrr
    go_enter Try.func60, Try.ntmps60
    go_wp2_with fail
    refine (HR.out _).mono ?_
    rintro e' w' ⟨rfl, md, rfl⟩
    go_wp2
    go_ret2
    exact ⟨rfl, _, rfl⟩
  | true =>
    rw [hrr] at cR hr
    rw [if_pos rfl] at hr
    subst hr
    have HR := Lib.hid cR
    clear cR hrr
    go_enter Try.func60, Try.ntmps60
    go_wp2_with fail
    refine (HR.out _).mono ?_
    rintro e' w' ⟨rfl, md, rfl⟩
    go_wp2
    go_ret2
    exact ⟨by first | rfl | (rw [← of_bytes s]; rfl) | simp, _, rfl⟩

def keyT (a : List UInt8) : List UInt8 × Nat := if (Tm.right a && Tm.element a) = true then Tm.madeT (107 :: a) else ([], 1)

set_option maxRecDepth 100000 in
set_option maxHeartbeats 1000000 in
theorem RKey_calls (s : ByteArray) (hs : s.size ≤ 100000) (w : World) :
    Calls Try.prog 17 #[.string s] w (Drew w (.tuple #[.string ⟨(keyT s.data.toList).1.toArray⟩, .int .i64 (keyT s.data.toList).2])) := by
  have cE := fun W => Relement_calls s (by omega) W
  unfold keyT
  cases he : (Tm.right s.data.toList && Tm.element s.data.toList) with
  | false =>
    rw [he] at cE
    have HE := Lib.hid cE
    clear cE he
    rw [if_neg (by simp)]
    go_enter Try.func17, Try.ntmps17
    go_wp2_with fail
    refine (HE.out _).mono ?_
    rintro e' w' ⟨rfl, md, rfl⟩
    go_wp2
    go_ret2
    exact ⟨rfl, _, rfl⟩
  | true =>
    rw [he] at cE
    have HE := Lib.hid cE
    rw [if_pos rfl]
    have hcat : (⟨#[107]⟩ ++ s : ByteArray) = ⟨(107 :: s.data.toList).toArray⟩ := by
      conv => lhs; rw [of_bytes s]
      exact ByteArray.mk_append_mk [107] s.data.toList
    have cM := fun W => Rmade_calls ⟨(107 :: s.data.toList).toArray⟩ (by rw [size_list]; simp; omega) W
    have em : (⟨(107 :: s.data.toList).toArray⟩ : ByteArray).data.toList = 107 :: s.data.toList := by simp
    rw [em, ← hcat] at cM
    have HM := Lib.hid cM
    generalize Tm.madeT (107 :: s.data.toList) = r at *
    have i1 : (s.size : Int) ≤ 100000 := by omega
    clear cE he cM em hcat
    go_enter Try.func17, Try.ntmps17
    go_wp2_with fail
    refine (HE.out _).mono ?_
    rintro e' w' ⟨rfl, md, rfl⟩
    go_wp2_with fail
    refine (HM.out _).mono ?_
    rintro e' w' ⟨rfl, md2, rfl⟩
    go_wp2
    go_ret2
    exact ⟨rfl, _, rfl⟩

/-- What the document's Of makes of parts. -/
def ofT (hd : List UInt8) (ps : List (List UInt8)) : List UInt8 × Nat := if ps.any (fun p => !Tm.right p) = true then ([], 1) else Tm.madeT (hd ++ ps.flatten)

def Joins (hd : List UInt8) (ps : List (List UInt8)) (w : World) (K : Nat) (v6 v7 : Value) (wr : World) : Prop :=
  ∃ i : Nat, K + i = ps.length ∧ v7 = .int .i64 i ∧ v6 = .string ⟨(hd ++ (ps.take i).flatten).toArray⟩ ∧ (∀ p ∈ ps.take i, Tm.right p = true) ∧ ∃ m, wr = w.drewN m

set_option maxRecDepth 100000 in
set_option maxHeartbeats 4000000 in
theorem ROfm_calls (hd : List UInt8) (ps : List (List UInt8)) (g cap : Nat) (w : World) (hT : Texts w g ps) (hh : hd.length ≤ 5) (hn : ps.length ≤ 5) (hp : ∀ p ∈ ps, p.length ≤ 10000) :
    Calls Try.prog 19 #[.string ⟨hd.toArray⟩, .slice (some ⟨g, 0, none⟩) ps.length cap] w (Drew w (.tuple #[.string ⟨(ofT hd ps).1.toArray⟩, .int .i64 (ofT hd ps).2])) := by
  have HT := Lib.hid hT
  have HP := Lib.hid hp
  have fl : ∀ i, (ps.take i).flatten.length ≤ 50000 := by
    intro i
    have h : ∀ (qs : List (List UInt8)), (∀ q ∈ qs, q.length ≤ 10000) → qs.flatten.length ≤ qs.length * 10000 := by
      intro qs
      induction qs with
      | nil => intro _; simp
      | cons q qs ih =>
        intro hq
        have h1 := hq q (by simp)
        have h2 := ih (fun r hr => hq r (by simp [hr]))
        simp only [List.flatten_cons, List.length_append, List.length_cons]
        omega
    have := h (ps.take i) (fun q hq => hp q (List.mem_of_mem_take hq))
    have h2 : (ps.take i).length ≤ 5 := by simp; omega
    omega
  have HFl := Lib.hid fl
  clear hT hp fl
  go_enter Try.func19, Try.ntmps19
  go_wp2
  go_loopg [6, 7] ps.length (fun K v6 v7 wr => Joins hd ps w K v6 v7 wr)
  case atStart => exact ⟨0, by omega, rfl, by simp, by simp, 0, rfl⟩
  case round =>
    obtain ⟨i, hK, rfl, rfl, hall, m, rfl⟩ := hrel
    have HA := Lib.hid hall
    by_cases hi : i < ps.length
    · obtain ⟨p, hpi⟩ : ∃ p, ps[i]? = some p := ⟨_, List.getElem?_eq_getElem hi⟩
      have hpm : p ∈ ps := List.mem_of_getElem? hpi
      have hcell := HT.out i p hpi
      have hpl := HP.out p hpm
      have cR := fun W => RRight_calls ⟨p.toArray⟩ (by rw [size_list]; omega) W
      have ep : (⟨p.toArray⟩ : ByteArray).data.toList = p := by simp
      rw [ep] at cR
      have htk : ps.take (i + 1) = ps.take i ++ [p] := by rw [List.take_add_one, hpi]; rfl
      have j1 : (i : Int) < (ps.length : Int) := by omega
      have j2 : (0 : Int) ≤ (i : Int) := by omega
      have hfl := HFl.out i
      cases hr : Tm.right p with
      | false =>
        rw [hr] at cR
        have HR := Lib.hid cR
        have HF : Hid (ofT hd ps = ([], 1)) := by
          show _ = _
          unfold ofT
          rw [if_pos (List.any_eq_true.2 ⟨p, hpm, by rw [hr]; rfl⟩)]
        clear cR hr htk hpm hpi hall ep
        go_wp2_with fail
        refine (HR.out _).mono ?_
        rintro e' w' ⟨rfl, md, rfl⟩
        go_wp2
        go_ret2
        exact ⟨by rw [HF.out]; rfl, _, rfl⟩
      | true =>
        rw [hr] at cR
        have HR := Lib.hid cR
        have HX := Lib.hid (And.intro htk hr)
        obtain ⟨y, hy⟩ : ∃ y, hd ++ (ps.take i).flatten = y := ⟨_, rfl⟩
        have hyl : y.length ≤ 50005 := by rw [← hy, List.length_append]; omega
        have HY := Lib.hid hy
        rw [hy]
        have hcat : (⟨y.toArray⟩ ++ ⟨p.toArray⟩ : ByteArray) = ⟨(y ++ p).toArray⟩ := ByteArray.mk_append_mk y p
        have HCt := Lib.hid hcat
        have z1 : (y.length : Int) + (p.length : Int) ≤ 100000 := by omega
        have z2 : y.length + p.length ≤ 100000 := by omega
        clear cR hr htk hpm hpi hall ep hy hcat
        go_wp2_with fail
        refine (HR.out _).mono ?_
        rintro e' w' ⟨rfl, md, rfl⟩
        go_wp2
        go_roundg (gk - 1)
        case measure => omega
        case rel =>
          refine ⟨i + 1, by omega, rfl, ?_, ?_, _, rfl⟩
          · rw [HX.out.1, List.flatten_append, ← List.append_assoc, HY.out]
            simp only [List.flatten_cons, List.flatten_nil, List.append_nil]
            rw [← HCt.out]
          · rw [HX.out.1]
            intro q hq
            rcases List.mem_append.1 hq with hq | hq
            · exact HA.out q hq
            · rw [List.mem_singleton.1 hq]; exact HX.out.2
    · obtain rfl : i = ps.length := by omega
      rw [List.take_length] at hall ⊢
      have j1 : ¬ ((ps.length : Int) < (ps.length : Int)) := by omega
      have hfl := HFl.out ps.length
      rw [List.take_length] at hfl
      have hF : ofT hd ps = Tm.madeT (hd ++ ps.flatten) := by
        unfold ofT
        rw [if_neg]
        intro h
        obtain ⟨p, h1, h2⟩ := List.any_eq_true.1 h
        rw [hall p h1] at h2
        cases h2
      have cM := fun W => Rmade_calls ⟨(hd ++ ps.flatten).toArray⟩ (by rw [size_list, List.length_append]; omega) W
      have em : (⟨(hd ++ ps.flatten).toArray⟩ : ByteArray).data.toList = hd ++ ps.flatten := by simp
      rw [em, ← hF] at cM
      generalize ofT hd ps = r at *
      generalize hd ++ ps.flatten = y at *
      have HM := Lib.hid cM
      clear cM em hF hall HA
      go_wp2_with fail
      refine (HM.out _).mono ?_
      rintro e' w' ⟨rfl, md, rfl⟩
      go_wp2
      go_ret2
      exact ⟨rfl, _, rfl⟩

end Go.Proofs.Ytccdpimmmicgaaa
