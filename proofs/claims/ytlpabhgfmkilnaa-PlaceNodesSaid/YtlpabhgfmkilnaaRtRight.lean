/- The document's Right, deep, full, place. -/
import Derived.Test.YtlpabhgfmkilnaaRtPart
namespace Go.Proofs.Ytlpabhgfmkilnaa.L13
open Go.ChangeShapes Go.WideShapes Go.ChangeAt Go.RowKit Go.Deep
open Go.Proofs.Ytlpabhgfmkilnaa.L5 (One)

theorem ints_nodup {l : List Nat} : (l.map (fun p : Nat => (p : Int))).Nodup ↔ l.Nodup := by
  unfold List.Nodup
  rw [List.pairwise_map]
  constructor
  · exact fun h => h.imp (fun h e => h (by rw [e]))
  · exact fun h => h.imp (fun h e => h (by omega))
theorem right_iff (L : List UInt8) : ((digitsL L).Nodup ∧ L.length < 100 ∧ endI L.length (raw 201 L) = (L.length : Int) ∧ 0 < L.length) ↔ (readT L).isSome = true := by
  constructor
  · rintro ⟨h1, h2, h3, h4⟩
    cases hr : raw 201 L with
    | none => rw [hr] at h3; simp only [endI] at h3; omega
    | some v =>
      obtain ⟨t, y⟩ := v
      rw [hr] at h3
      simp only [endI] at h3
      obtain ⟨e, lo⟩ := raw_sound _ _ _ _ hr
      have hy : y = [] := List.eq_nil_of_length_eq_zero (by omega)
      subst hy
      rw [List.append_nil] at e
      subst e
      rw [digits_text lo] at h1
      rw [readT_text ⟨lo, ints_nodup.1 h1⟩]
      rfl
  · intro h
    obtain ⟨t, ht⟩ := Option.isSome_iff_exists.1 h
    obtain ⟨rfl, o⟩ := readT_some ht
    have hl := o.len
    have := t.text_len
    have := t.procs_pos
    have hr := raw_full t 201 [] (by omega) o.small
    rw [List.append_nil] at hr
    refine ⟨by rw [digits_text o.small]; exact ints_nodup.2 o.once, by omega, by rw [hr]; simp [endI], by omega⟩
theorem own_cap13 {W : World} {B : Nat} {e : TypeId} {size n : Nat} {v : Value} {xs : List Value} (h : W.ownsRow B e size v n xs) : ∀ A m c, v = .slice A m c → m ≤ c := by
  rintro A m c rfl
  rcases h.2 with ⟨e, _⟩ | ⟨g, cap, cur, e, _, _, h1, _⟩
  · cases e; exact Nat.le_refl _
  · cases e; exact h1
def RgRel (w W1 : World) (ds : List Int) (k : Nat) (v4 : Value) (wr : World) : Prop := ∃ i : Nat, k + i = ds.length ∧ v4 = .int .i64 i ∧ (ds.take i).Nodup ∧ Below w.heap.size w wr ∧ Below W1.heap.size W1 wr
theorem nodup_next {ds : List Int} {i : Nat} {x : Int} (h : ds[i]? = some x) : (ds.take (i + 1)).Nodup ↔ (ds.take i).Nodup ∧ x ∉ ds.take i := by
  rw [L10.take_next ds h, List.nodup_append]
  constructor
  · rintro ⟨h1, _, h3⟩
    exact ⟨h1, fun hm => h3 x hm x (by simp) rfl⟩
  · rintro ⟨h1, h2⟩
    exact ⟨h1, by simp, fun a ha b hb e => by rw [List.mem_singleton] at hb; subst hb; subst e; exact h2 ha⟩
theorem take_ints {w : World} {ad : Addr} {n c : Nat} {ds : List Int} (h : IntsA w (.slice (some ad) n c) ds) {i c' : Nat} (hi : i ≤ ds.length) : IntsA w (.slice (some ad) i c') (ds.take i) := by
  obtain ⟨A, c2, e, hr⟩ := h.reads
  cases e
  refine ⟨⟨some ad, c', by rw [List.length_take, Nat.min_eq_left hi], fun j x hx => ?_⟩, fun x hx => h.fit x (List.mem_of_mem_take hx), by have := h.few; rw [List.length_take]; omega⟩
  rw [List.getElem?_take] at hx
  split at hx
  · exact hr j x hx
  · cases hx
set_option maxRecDepth 100000 in
set_option maxHeartbeats 8000000 in
theorem rright_calls (L : List UInt8) (hL : L.length ≤ 200) (w : World) : Calls Try.prog 22 #[.string ⟨L.toArray⟩] w (One w (.bool (readT L).isSome)) := by
  have hD := digits_calls L hL w
  have hsz : (⟨L.toArray⟩ : ByteArray).size = L.length := rfl
  have hI := L10.ints_own10 (W := w) (B := 0) (v := .slice none 0 0) (xs := []) (World.ownsRow_nil _ _ _ _) (by intro x hx; cases hx) (by simp)
  have HIt : Hid (∀ (V : World) (v : Value) (B : Nat), V.ownsRow B 3 1 v (digitsL L).length ((digitsL L).map (Value.int .i64)) → IntsA V v (digitsL L)) := fun V v B h => L10.ints_own10 h (digits_fits L) (by have := digits_len L; omega)
  have hE := Lib.hid (fun V => end_calls L hL V 201 0 (by omega) (by omega))
  rw [show L.drop 0 = L from rfl] at hE
  have HR := Lib.hid (right_iff L)
  have hdl := digits_len L
  obtain ⟨r, hr⟩ : ∃ r, (readT L).isSome = r := ⟨_, rfl⟩
  rw [hr] at HR ⊢
  clear hI hr
  generalize digitsL L = ds at *
  generalize raw 201 L = rw0 at *
  go_enter Try.func22, Try.ntmps22
  go_wp2_with fail
  refine hD.mono ?_
  rintro e w1 ⟨v1, rfl, o1, b1⟩
  have hI := HIt.out _ _ _ o1
  have hcap := own_cap13 o1
  obtain ⟨A, c, rfl⟩ := L5.own_slice o1
  have hcl := hcap _ _ _ rfl
  clear hcap
  have hI2 := ints_at hI
  have HI := Lib.hid hI
  have HI2 := Lib.hid hI2
  have HSt : Hid (RgRel w w1 ds ds.length (.int .i64 0) w1) := ⟨0, by omega, rfl, by simp, b1, Below.refl _ _⟩
  clear o1 b1 hI hI2 hD HIt
  go_wp2
  go_loopg [4] ds.length (fun k v4 wr => RgRel w w1 ds k v4 wr)
  case atStart => exact HSt.out
  case round =>
    clear HSt
    obtain ⟨i, hk, rfl, hnd, hB, hB1⟩ := hrel
    by_cases hil : i < ds.length
    · obtain ⟨x, hx⟩ : ∃ x, ds[i]? = some x := ⟨_, List.getElem?_eq_getElem hil⟩
      obtain ⟨_, ad, rfl, hc⟩ := HI2.out i x hx
      have c0 := hc wr hB1
      have HH := Lib.hid (fun V (hV : Below w1.heap.size w1 V) => L10.rhas_calls (.slice (some ad) i c) (ds.take i) x V ((take_ints HI.out (by omega)).below hV))
      have j1 : (i : Int) < (ds.length : Int) := by omega
      have j2 : (0 : Int) ≤ (i : Int) := by omega
      have j3 : i ≤ c := by omega
      have j4 : (i : Int) ≤ (c : Int) := by omega
      have hgk := Lib.hid (show gk - 1 < gk by omega)
      have hnx := nodup_next hx
      have hH := HH.out wr.drew hB1.drew
      cases hm : (ds.take i).contains x with
      | true =>
        rw [hm] at hH
        have hrf : r = false := by
          cases r with
          | false => rfl
          | true =>
            have h1 := (HR.out.2 rfl).1
            have h2 : (ds.take (i + 1)).Nodup := h1.sublist (List.take_sublist _ _)
            exact absurd (List.contains_iff_mem.1 hm) (hnx.1 h2).2
        subst hrf
        have HB := Lib.hid hB.drew
        clear hk hnd hB hB1 hx hc hnx hm HH HI HI2 HR hE
        go_wp2
        go_region_held3 (fun V => V.cell? (ad.add i) = some (.int .i64 x))
          ((first | exact c0 | assumption | go_keep))
          (first
            | (go_at_call 26; refine hH.mono ?_; rintro e w2 ⟨rfl, rfl⟩))
        go_wp2
        go_ret
        exact ⟨rfl, HB.out⟩
      | false =>
        rw [hm] at hH
        have hnot : x ∉ ds.take i := fun h => by rw [List.contains_iff_mem.2 h] at hm; cases hm
        have HN : Hid (RgRel w w1 ds (gk - 1) (.int .i64 ((i + 1 : Nat) : Int)) wr.drew) := ⟨i + 1, by omega, rfl, hnx.2 ⟨hnd, hnot⟩, hB.drew, hB1.drew⟩
        clear hk hnd hB hB1 hx hc hnx hm HH HI HI2 HR hE hnot
        go_wp2
        go_region_held3 (fun V => V.cell? (ad.add i) = some (.int .i64 x))
          ((first | exact c0 | assumption | go_keep))
          (first
            | (go_at_call 26; refine hH.mono ?_; rintro e w2 ⟨rfl, rfl⟩))
        go_wp2
        go_roundg (gk - 1)
        case measure => exact hgk.out
        case rel => exact HN.out
    · have hie : i = ds.length := by omega
      rw [hie, List.take_length] at hnd
      have k1 : ¬ (i : Int) < (ds.length : Int) := by omega
      have HB := Lib.hid hB
      clear hk hil hB hB1 HI HI2 hie
      by_cases h100 : L.length < 100
      · have q1 : (L.length : Int) < 100 := by omega
        have hE1 := hE.out wr
        by_cases hend : endI L.length rw0 = (L.length : Int)
        · rw [hend] at hE1
          by_cases h0 : 0 < L.length
          · have hrt : r = true := HR.out.1 ⟨hnd, h100, hend, h0⟩
            subst hrt
            have q2 := Lib.hid (decide_eq_true h0)
            clear HR hE hend hnd h0 h100
            go_wp2_with (go_at_call 33; refine hE1.mono ?_; rintro e w2 ⟨rfl, rfl⟩)
            go_ret
            refine ⟨?_, HB.out⟩
            show Ending.returned (Value.bool (decide (0 < L.length))) = _
            rw [q2.out]
          · have hrf : r = false := by
              cases r with
              | false => rfl
              | true => exact absurd (HR.out.2 rfl).2.2.2 h0
            subst hrf
            have q2 := Lib.hid (decide_eq_false h0)
            clear HR hE hend hnd h0 h100
            go_wp2_with (go_at_call 33; refine hE1.mono ?_; rintro e w2 ⟨rfl, rfl⟩)
            go_ret
            refine ⟨?_, HB.out⟩
            show Ending.returned (Value.bool (decide (0 < L.length))) = _
            rw [q2.out]
        · have hrf : r = false := by
            cases r with
            | false => rfl
            | true => exact absurd (HR.out.2 rfl).2.2.1 hend
          subst hrf
          have q2 : (endI L.length rw0 == (L.length : Int)) = false := by rw [beq_eq_false_iff_ne]; exact hend
          clear HR hE hend hnd h100
          generalize endI L.length rw0 = eI at *
          go_wp2_with (go_at_call 33; refine hE1.mono ?_; rintro e w2 ⟨rfl, rfl⟩)
          go_ret
          exact ⟨rfl, HB.out⟩
      · have hrf : r = false := by
          cases r with
          | false => rfl
          | true => exact absurd (HR.out.2 rfl).2.1 h100
        subst hrf
        have q1 : ¬ (L.length : Int) < 100 := by omega
        clear HR hE hnd h100
        go_wp2
        go_ret
        exact ⟨rfl, HB.out⟩
end Go.Proofs.Ytlpabhgfmkilnaa.L13
