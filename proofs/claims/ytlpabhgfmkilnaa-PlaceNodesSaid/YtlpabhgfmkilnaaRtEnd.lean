/- The document's own trees, on texts: where a tree ends, both trees in one, the digits of a text. -/
import Derived.Test.YtlpabhgfmkilnaaTrLv
import Derived.Lib.Builder
namespace Go.Proofs.Ytlpabhgfmkilnaa.L13
open Go.ChangeShapes Go.WideShapes Go.ChangeAt Go.RowKit Go.Deep
open Go.Proofs.Ytlpabhgfmkilnaa.L5 (One)

/-- All its processes are 1 to 8. -/
def Tr.low (t : Tr) : Prop := ∀ p ∈ t.procs, 1 ≤ p ∧ p ≤ 8
theorem Tr.low.left {l r : Tr} (h : (Tr.node l r).low) : l.low := fun p hp => h p (by simp [Tr.procs, hp])
theorem Tr.low.right {l r : Tr} (h : (Tr.node l r).low) : r.low := fun p hp => h p (by simp [Tr.procs, hp])
/-- How a text is read, whoever stands in it twice. -/
def raw : Nat → List UInt8 → Option (Tr × List UInt8)
  | 0, _ => none
  | _ + 1, [] => none
  | f + 1, b :: x =>
    if 49 ≤ b.toNat ∧ b.toNat ≤ 56 then some (.leaf (b.toNat - 48), x)
    else if b ≠ 40 then none
    else match raw f x with
      | none => none
      | some (l, y) => match raw f y with
        | none => none
        | some (_, []) => none
        | some (r, c :: z) => if c = 41 then some (.node l r, z) else none
theorem raw_sound : ∀ (f : Nat) (x : List UInt8) (t : Tr) (y : List UInt8), raw f x = some (t, y) → x = t.text ++ y ∧ t.low := by
  intro f
  induction f with
  | zero => intro x t y h; simp [raw] at h
  | succ f ih =>
    intro x t y h
    cases x with
    | nil => simp [raw] at h
    | cons b x =>
      rw [raw] at h
      split at h
      · rename_i hb
        cases h
        refine ⟨?_, ?_⟩
        · have : 48 + (b.toNat - 48) = b.toNat := by omega
          simp [Tr.text, this]
        · intro p hp
          simp only [Tr.procs, List.mem_singleton] at hp
          omega
      · split at h
        · cases h
        · rename_i hb
          have hb' : b = 40 := by simpa using hb
          split at h
          · cases h
          · rename_i l y1 h1
            split at h
            · cases h
            · cases h
            · rename_i r c z h2
              split at h
              · rename_i hc
                cases h
                obtain ⟨e1, e2⟩ := ih _ _ _ h1
                obtain ⟨g1, g2⟩ := ih _ _ _ h2
                refine ⟨?_, ?_⟩
                · rw [e1, g1, hb', hc]; simp [Tr.text]
                · intro p hp
                  rcases List.mem_append.1 hp with hp | hp
                  · exact e2 p hp
                  · exact g2 p hp
              · cases h
theorem raw_full : ∀ (t : Tr) (f : Nat) (y : List UInt8), t.text.length ≤ f → t.low → raw f (t.text ++ y) = some (t, y) := by
  intro t
  induction t with
  | leaf p =>
    intro f y hf ho
    obtain ⟨f, rfl⟩ : ∃ g, f = g + 1 := ⟨f - 1, by simp [Tr.text] at hf; omega⟩
    have h18 := ho p (by simp [Tr.procs])
    have hb := digit_byte h18.1 h18.2
    simp only [Tr.text, List.cons_append, List.nil_append, raw, hb]
    have e : 48 + p - 48 = p := by omega
    rw [e, if_pos ⟨by omega, by omega⟩]
  | node l r hl hr =>
    intro f y hf ho
    simp only [Tr.text, List.length_cons, List.length_append, List.length_nil] at hf
    obtain ⟨f, rfl⟩ : ∃ g, f = g + 1 := ⟨f - 1, by omega⟩
    have e1 := hl f (r.text ++ 41 :: y) (by omega) ho.left
    have e2 := hr f (41 :: y) (by omega) ho.right
    have e3 : Tr.text (.node l r) ++ y = 40 :: (l.text ++ (r.text ++ 41 :: y)) := by simp [Tr.text]
    rw [e3, raw, if_neg (fun h => absurd h.1 (by decide)), if_neg (by decide), e1]
    simp only [e2]
    simp
/-- Where it ends, by what is behind it. -/
def endI (n : Nat) : Option (Tr × List UInt8) → Int
  | none => -1
  | some (_, y) => (n : Int) - (y.length : Int)
theorem end_drop {L : List UInt8} {m : Nat} (h : m ≤ L.length) {t : Tr} : endI L.length (some (t, L.drop m)) = (m : Int) := by
  unfold endI
  simp only [List.length_drop]
  omega
theorem rest_drop {f n : Nat} {L : List UInt8} {t : Tr} {y : List UInt8} (h : raw f (L.drop n) = some (t, y)) : ∃ m, m ≤ L.length ∧ y = L.drop m := by
  have e := (raw_sound _ _ _ _ h).1
  by_cases hn : n ≤ L.length
  · have hl := congrArg List.length e
    simp only [List.length_drop, List.length_append] at hl
    refine ⟨n + t.text.length, by omega, ?_⟩
    rw [← List.drop_drop, e, List.drop_left]
  · rw [List.drop_eq_nil_of_le (by omega)] at e
    have hl := congrArg List.length e
    simp only [List.length_append, List.length_nil] at hl
    exact ⟨L.length, Nat.le_refl _, by rw [List.drop_length]; exact List.eq_nil_of_length_eq_zero (by omega)⟩
theorem rest_less {f n m : Nat} {L : List UInt8} {t : Tr} (h : raw f (L.drop n) = some (t, L.drop m)) (hn : n ≤ L.length) (hm : m ≤ L.length) : n < m := by
  have e := (raw_sound _ _ _ _ h).1
  have hl := congrArg List.length e
  have := t.text_len
  have := t.procs_pos
  simp only [List.length_drop, List.length_append] at hl
  omega
theorem raw_open (f : Nat) (x : List UInt8) : raw (f + 1) (40 :: x) = match raw f x with
      | none => none
      | some (l, y) => match raw f y with
        | none => none
        | some (_, []) => none
        | some (r, c :: z) => if c = 41 then some (.node l r, z) else none := by
  rw [raw, if_neg (fun h => absurd h.1 (by decide)), if_neg (by decide)]
set_option maxHeartbeats 4000000 in
theorem end_calls (L : List UInt8) (hL : L.length ≤ 200) (w : World) : ∀ (f n : Nat), L.length - n < f → n ≤ L.length → Calls Try.prog 33 #[.string ⟨L.toArray⟩, .int .i64 n] w fun e w' => e = .returned (.int .i64 (endI L.length (raw f (L.drop n)))) ∧ w' = w := by
  intro f
  induction f with
  | zero => intro n h; omega
  | succ f ih =>
    intro n hf hn
    have hsz : (⟨L.toArray⟩ : ByteArray).size = L.length := rfl
    by_cases hlt : n < L.length
    · obtain ⟨b, hb⟩ : ∃ b, L[n]? = some b := ⟨_, List.getElem?_eq_getElem hlt⟩
      have hd : L.drop n = b :: L.drop (n + 1) := by rw [List.drop_eq_getElem_cons hlt, (List.getElem?_eq_some_iff.1 hb).2]
      have hbx : (⟨L.toArray⟩ : ByteArray)[n]'(by rw [hsz]; exact hlt) = b := by
        show L[n] = b
        exact (List.getElem?_eq_some_iff.1 hb).2
      have k1 : (n : Int) < (L.length : Int) := by omega
      have k2 : (0 : Int) ≤ (n : Int) := by omega
      rw [hd]
      by_cases hdg : 49 ≤ b.toNat ∧ b.toNat ≤ 56
      · rw [raw, if_pos hdg, end_drop (by omega)]
        clear ih hd
        go_enter Try.func33, Try.ntmps33
        go_wp2
        go_ret
        exact ⟨by simp, rfl⟩
      · by_cases h40 : b = 40
        · subst h40
          rw [raw_open]
          have h1 := ih (n + 1) (by omega) (by omega)
          rw [show ((n + 1 : Nat) : Int) = (n : Int) + 1 by omega] at h1
          rw [show (40 : UInt8).toNat = 40 from rfl] at hdg
          cases hr1 : raw f (L.drop (n + 1)) with
          | none =>
            rw [hr1] at h1
            rw [show endI L.length none = -1 from rfl] at h1
            show Calls Try.prog 33 #[.string ⟨L.toArray⟩, .int .i64 n] w fun e w' => e = .returned (.int .i64 (-1)) ∧ w' = w
            clear ih hd hr1 hb hdg
            go_enter Try.func33, Try.ntmps33
            go_wp2_with (go_at_call 33; refine h1.mono ?_; rintro e w1 ⟨rfl, rfl⟩)
            go_ret
            exact ⟨rfl, rfl⟩
          | some v =>
            obtain ⟨l, y⟩ := v
            obtain ⟨m, hm, hy⟩ := rest_drop hr1
            subst hy
            rw [hr1, end_drop hm] at h1
            have h2 := ih m (by have := rest_less hr1 (by omega) hm; omega) hm
            have km : (0 : Int) ≤ (m : Int) := by omega
            have km' : ¬ (m : Int) < 0 := by omega
            dsimp only
            cases hr2 : raw f (L.drop m) with
            | none =>
              rw [hr2] at h2
              rw [show endI L.length none = -1 from rfl] at h2
              show Calls Try.prog 33 #[.string ⟨L.toArray⟩, .int .i64 n] w fun e w' => e = .returned (.int .i64 (-1)) ∧ w' = w
              clear ih hd hr1 hr2 hb hdg
              go_enter Try.func33, Try.ntmps33
              go_wp2_with fail
              refine h1.mono ?_
              rintro e w1 ⟨rfl, rfl⟩
              go_wp2_with fail
              refine h2.mono ?_
              rintro e w2 ⟨rfl, rfl⟩
              go_wp2
              go_ret
              exact ⟨rfl, rfl⟩
            | some v =>
              obtain ⟨r, z⟩ := v
              obtain ⟨m2, hm2, hz⟩ := rest_drop hr2
              subst hz
              rw [hr2, end_drop hm2] at h2
              have kn : (0 : Int) ≤ (m2 : Int) := by omega
              have kn' : ¬ (m2 : Int) < 0 := by omega
              by_cases hlt2 : m2 < L.length
              · obtain ⟨c, hc⟩ : ∃ c, L[m2]? = some c := ⟨_, List.getElem?_eq_getElem hlt2⟩
                have hd2 : L.drop m2 = c :: L.drop (m2 + 1) := by rw [List.drop_eq_getElem_cons hlt2, (List.getElem?_eq_some_iff.1 hc).2]
                have hcx : (⟨L.toArray⟩ : ByteArray)[m2]'(by rw [hsz]; exact hlt2) = c := by
                  show L[m2] = c
                  exact (List.getElem?_eq_some_iff.1 hc).2
                have kl : (m2 : Int) < (L.length : Int) := by omega
                rw [hd2]
                by_cases h41 : c = 41
                · subst h41
                  show Calls Try.prog 33 #[.string ⟨L.toArray⟩, .int .i64 n] w fun e w' => e = .returned (.int .i64 (endI L.length (some (Tr.node l r, L.drop (m2 + 1))))) ∧ w' = w
                  rw [end_drop (by omega)]
                  clear ih hd hr1 hr2 hb hdg hd2 hc
                  go_enter Try.func33, Try.ntmps33
                  go_wp2_with fail
                  refine h1.mono ?_
                  rintro e w1 ⟨rfl, rfl⟩
                  go_wp2_with fail
                  refine h2.mono ?_
                  rintro e w2 ⟨rfl, rfl⟩
                  go_wp2
                  go_ret
                  exact ⟨by simp, rfl⟩
                · show Calls Try.prog 33 #[.string ⟨L.toArray⟩, .int .i64 n] w fun e w' => e = .returned (.int .i64 (endI L.length (if c = 41 then some (Tr.node l r, L.drop (m2 + 1)) else none))) ∧ w' = w
                  rw [if_neg h41, show endI L.length none = -1 from rfl]
                  have g41 : ((c.toNat : Int) == 41) = false := u8_no (n := 41) (by omega) h41
                  have g41' : ((c.toNat : Int) != 41) = true := by rw [bne, g41]; rfl
                  have g41'' : ¬ (c.toNat : Int) = 41 := by simpa using g41
                  clear ih hd hr1 hr2 hb hdg hd2 hc h41
                  go_enter Try.func33, Try.ntmps33
                  go_wp2_with fail
                  refine h1.mono ?_
                  rintro e w1 ⟨rfl, rfl⟩
                  go_wp2_with fail
                  refine h2.mono ?_
                  rintro e w2 ⟨rfl, rfl⟩
                  go_wp2
                  go_ret
                  exact ⟨rfl, rfl⟩
              · have hd2 : L.drop m2 = [] := List.drop_eq_nil_of_le (by omega)
                rw [hd2]
                show Calls Try.prog 33 #[.string ⟨L.toArray⟩, .int .i64 n] w fun e w' => e = .returned (.int .i64 (-1)) ∧ w' = w
                have kl : (L.length : Int) ≤ (m2 : Int) := by omega
                clear ih hd hr1 hr2 hb hdg hd2
                go_enter Try.func33, Try.ntmps33
                go_wp2_with fail
                refine h1.mono ?_
                rintro e w1 ⟨rfl, rfl⟩
                go_wp2_with fail
                refine h2.mono ?_
                rintro e w2 ⟨rfl, rfl⟩
                go_wp2
                go_ret
                exact ⟨rfl, rfl⟩
        · rw [raw, if_neg hdg, if_pos h40, show endI L.length none = -1 from rfl]
          have g40 : ((b.toNat : Int) == 40) = false := u8_no (n := 40) (by omega) h40
          by_cases hlo : b.toNat < 49
          · have k3 : ¬ (49 : Int) ≤ (b.toNat : Int) := by omega
            clear ih hd hdg h40 hlo
            go_enter Try.func33, Try.ntmps33
            go_wp2
            go_ret
            exact ⟨rfl, rfl⟩
          · have k3 : (49 : Int) ≤ (b.toNat : Int) := by omega
            have k4 : ¬ (b.toNat : Int) ≤ 56 := by omega
            clear ih hd hdg h40 hlo
            go_enter Try.func33, Try.ntmps33
            go_wp2
            go_ret
            exact ⟨rfl, rfl⟩
    · have hd : L.drop n = [] := List.drop_eq_nil_of_le (by omega)
      rw [hd, show raw (f + 1) [] = none from rfl, show endI L.length none = -1 from rfl]
      have k1 : (L.length : Int) ≤ (n : Int) := by omega
      clear hd ih
      go_enter Try.func33, Try.ntmps33
      go_wp2
      go_ret
      exact ⟨rfl, rfl⟩
end Go.Proofs.Ytlpabhgfmkilnaa.L13
