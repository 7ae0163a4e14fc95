/- Contract of (*row).makes: it tells whether a right term can be made of the row. -/
import Derived.Test.YtloheongiceliaaRowG
section
namespace Go.Proofs.Ytloheongiceliaa
open Go.ChangeShapes Go.WideShapes Go.ChangeAt Go.RowKit

theorem StandI.mark {W' : World} {sm n : Nat} {K : List UInt8 → Prop} {F : List UInt8 → Option Value} (hF : ∀ k, (F k = none ∧ ¬ K k) ∨ (F k = some (.int .i64 1) ∧ ¬ K k ∧ Tm.Mk K k) ∨ (F k = some (.int .i64 2) ∧ K k)) {t : List UInt8} (hn : ¬ K t) (hm : Tm.Mk K t)
    (h : MapAt W' sm n (setAt F t (.int .i64 1))) : StandI W' sm n K := by
  refine ⟨_, h, fun k => ?_⟩
  by_cases hk : k = t
  · subst hk
    rw [setAt_same]
    exact .inr (.inl ⟨rfl, hn, hm⟩)
  · rw [setAt_other _ _ hk]
    exact hF k
/-- Behind a store into the map of standings. -/
theorem RowI.marked {W W' : World} {T : Nat → Nat} {r sm pm n n' N : Nat} {K : List UInt8 → Prop} (h : RowI W T r sm pm n N K) (hg : W.grownBy W' (some sm)) (hs : StandI W' sm n' K) : RowI W' T r sm pm n' N K := by
  obtain ⟨l1, l2, l3⟩ := h.lt
  obtain ⟨es, clock, hm⟩ := h.map
  have key : ∀ k, k < W.heap.size → (∃ cur e fr, W.heap[k]? = some (.cells cur e fr)) → W'.heap[k]? = W.heap[k]? := fun k hk ⟨cur, e, fr, hc⟩ => hg.block k hk (fun e1 => by
    cases e1
    rw [hm] at hc
    cases hc)
  refine ⟨(key r l1 ⟨_, _, _, h.block⟩).trans h.block, h.tags, h.ne, hs, h.pow.keep (hg.block pm l3 (fun e => h.ne (by cases e; rfl))) (fun k _ hk ⟨cur, e, hc⟩ => key k hk ⟨cur, e, _, hc⟩), h.right, fun k hk => h.fresh k (Nat.le_trans hg.size hk)⟩

theorem list_data (a : List UInt8) : (⟨a.toArray⟩ : ByteArray).data.toList = a := by simp

set_option maxRecDepth 100000 in
set_option maxHeartbeats 8000000 in
theorem makes_calls {T : Nat → Nat} {r sm pm N : Nat} {K : List UInt8 → Prop} (hN : N ≤ 1000000000) (m : Nat) : ∀ t : List UInt8, t.length ≤ m → Tm.right t = true → CanMake T r sm pm N K t := by
  induction m with
  | zero =>
    intro t hm hr
    have := (Tm.right_ne_nil hr).2
    omega
  | succ m ih =>
    intro t hm hr W n hI hroom
    obtain ⟨o1, o2, o3, o4, o5, o6⟩ := Tm.ofL_ok hr
    have htl := (Tm.right_ne_nil hr).2
    have hbeg := Tm.right_begin hr
    have hfl : (Tm.ofL t).flatten.length + 1 ≤ t.length := by rw [o1, List.length_drop]; omega
    have hps : ∀ p ∈ Tm.ofL t, CanMake T r sm pm N K p := fun p hp => ih p (by have := (o2 p hp).2.2; omega) ((Tm.right_iff p).2 (o2 p hp).1)
    obtain ⟨F, hF, hF2⟩ := hI.stand
    have hlook := hF.look Try.underlying142 (zero_standing W) (k := t) o6
    have hcr := hI.cells.1
    have hlen : (Tm.ofL t).length ≤ 32 := by rw [o3]; exact (Tm.begin_le _).2
    have HI := Lib.hid hI
    have fin : ∀ (b : Bool) (W' : World), (b = true ↔ Tm.Mk K t) → RowI W' T r sm pm (n + t.length) N K → W.grownBy W' (some sm) → MakesOut W T r sm pm n N K t (.returned (.bool b)) W' := fun b W' h1 h2 h3 => ⟨b, rfl, h1, h2, h3⟩
    have HFin := Lib.hid fin
    generalize hQ : MakesOut W T r sm pm n N K t = Q at *
    rcases hF2 t with ⟨f1, f2⟩ | ⟨f1, f2, f3⟩ | ⟨f1, f2⟩
    rotate_left
    · rw [f1] at hlook
      simp only [Option.getD_some] at hlook
      have hyes : Hid (Tm.Mk K t) := f3
      clear hps ih hF hF2 o1 o2 o3 o4 o5 fin f1 f2 f3 hI hr hQ
      go_enter Try.func73, Try.ntmps73
      go_wp2
      exact HFin.out true W (by simp [hyes.out]) (HI.out.more (by omega)) (grown_refl _ _)
    · rw [f1] at hlook
      simp only [Option.getD_some] at hlook
      have hyes : Hid (Tm.Mk K t) := .known f2
      clear hps ih hF hF2 o1 o2 o3 o4 o5 fin f1 f2 hI hr hQ
      go_enter Try.func73, Try.ntmps73
      go_wp2
      exact HFin.out true W (by simp [hyes.out]) (HI.out.more (by omega)) (grown_refl _ _)
    · rw [f1] at hlook
      simp only [Option.getD_none] at hlook
      obtain ⟨c, t', rfl⟩ : ∃ c t', t = c :: t' := by
        cases t with
        | nil => simp at htl
        | cons c t' => exact ⟨c, t', rfl⟩
      have hkinds := Tm.right_kinds hr
      simp only [List.getD_cons_zero] at hkinds
      have hi0 : (0 : Int) < ((⟨(c :: t').toArray⟩ : ByteArray).size : Int) := by rw [size_list, List.length_cons]; omega
      have mark : ∀ (w1 : World) (n1 : Nat), RowI w1 T r sm pm n1 N K → n1 < roomK → Tm.Mk K (c :: t') → W.grownBy w1 (some sm) → n1 + 1 ≤ n + (c :: t').length → ∃ w2, (Instr.mapUpdate 142 (.map (some sm)) (.string ⟨(c :: t').toArray⟩) (.int .i64 1)).run Try.prog w1 = .ok () w2 ∧ RowI w2 T r sm pm (n + (c :: t').length) N K ∧ W.grownBy w2 (some sm) := by
        intro w1 n1 h1 h2 h3 h4 h5
        obtain ⟨F', hF', hF2'⟩ := h1.stand
        obtain ⟨w2, k1, k2, k3⟩ := hF'.set Try.underlying142 (by unfold roomK at h2; unfold maxLen; omega) o6 (.int .i64 1)
        exact ⟨w2, k1, (h1.marked k3 (StandI.mark hF2' f2 h3 k2)).more h5, grown_trans h4 k3⟩
      have HMark := Lib.hid mark
      have HPs := Lib.hid hps
      have HR := Lib.hid hr
      have HNK := Lib.hid f2
      rcases hkinds with rfl | rfl | rfl | rfl | rfl | rfl | hkk
      · have hyes : Hid (Tm.Mk K (103 :: t')) := .free hr (by simp)
        clear hps ih hF hF2 o1 o2 o3 o4 o5 fin f1 f2 hI hr hQ mark HMark HPs
        go_enter Try.func73, Try.ntmps73
        go_wp2
        exact HFin.out true W (by simp [hyes.out]) (HI.out.more (by omega)) (grown_refl _ _)
      · have hyes : Hid (Tm.Mk K (117 :: t')) := .free hr (by simp)
        clear hps ih hF hF2 o1 o2 o3 o4 o5 fin f1 f2 hI hr hQ mark HMark HPs
        go_enter Try.func73, Try.ntmps73
        go_wp2
        exact HFin.out true W (by simp [hyes.out]) (HI.out.more (by omega)) (grown_refl _ _)
      · have hyes : Hid (Tm.Mk K (116 :: t')) := .free hr (by simp)
        clear hps ih hF hF2 o1 o2 o3 o4 o5 fin f1 f2 hI hr hQ mark HMark HPs
        go_enter Try.func73, Try.ntmps73
        go_wp2
        exact HFin.out true W (by simp [hyes.out]) (HI.out.more (by omega)) (grown_refl _ _)
      · have hno : Hid (¬ Tm.Mk K (110 :: t')) := Tm.mk_not f2 (by simp)
        clear hps ih hF hF2 o1 o2 o3 o4 o5 fin f1 f2 hI hr hQ mark HMark HPs
        go_enter Try.func73, Try.ntmps73
        go_wp2
        exact HFin.out false W (by simp [hno.out]) (HI.out.more (by omega)) (grown_refl _ _)
      · have hno : Hid (¬ Tm.Mk K (105 :: t')) := Tm.mk_not f2 (by simp)
        clear hps ih hF hF2 o1 o2 o3 o4 o5 fin f1 f2 hI hr hQ mark HMark HPs
        go_enter Try.func73, Try.ntmps73
        go_wp2
        exact HFin.out false W (by simp [hno.out]) (HI.out.more (by omega)) (grown_refl _ _)
      · have HOf := Lib.hid (Of_right ⟨(101 :: t').toArray⟩ (by simpa using hr) W)
        clear hps ih hF hF2 o1 o2 o3 o4 o5 fin f1 f2 hI hr hQ mark
        go_enter Try.func73, Try.ntmps73
        go_wp2_with fail
        refine HOf.out.mono ?_
        rintro e1 w1 ⟨v1, rfl, hrow1, _, b1⟩
        have hI1 := HI.out.below b1
        have hg1 := grown_none b1 (some sm)
        have HCall := Lib.hid (makesPower_calls (101 :: t') HR.out rfl HNK.out HPs.out v1 w1 _ n hrow1 hI1 (by omega) hN)
        clear hrow1 b1 HPs
        go_wp2_with fail
        refine HCall.out.mono ?_
        rintro e2 w2 ⟨b, rfl, hb, hI2, hg2⟩
        have hg3 := grown_trans hg1 hg2
        cases b with
        | true =>
          obtain ⟨w3, hrun, hI3, hg4⟩ := HMark.out w2 _ hI2 (by unfold roomK at *; omega) (hb.1 rfl) hg3 (by omega)
          have hcr2 := hI2.cells.1
          have HE := Lib.hid (And.intro hI3 hg4)
          have hyes := Lib.hid ((hb.1 rfl))
          clear hI3 hg4 hI2 hI1 hg2 hg3 hb HMark
          go_wp2
          exact HFin.out true w3 (by simp [hyes.out]) HE.out.1 HE.out.2
        | false =>
          have hno : Hid (¬ Tm.Mk K (101 :: t')) := fun h => by have := hb.2 h; cases this
          have HE := Lib.hid (And.intro (hI2.more (n' := n + (101 :: t').length) (by omega)) hg3)
          clear hI2 hI1 hg2 hg3 hb HMark
          go_wp2
          exact HFin.out false w2 (by simp [hno.out]) HE.out.1 HE.out.2
      · rcases hkk with rfl | rfl | rfl | rfl | rfl
        · have HOf := Lib.hid (Of_right ⟨(107 :: t').toArray⟩ (by simpa using hr) W)
          have HMp := Lib.hid (Tm.mk_parts hr f2 (by simp))
          clear hps ih hF hF2 o1 o2 o3 o4 o5 fin f1 f2 hI hr hQ mark
          go_enter Try.func73, Try.ntmps73
          go_wp2_with fail
          refine HOf.out.mono ?_
          rintro e1 w1 ⟨v1, rfl, hrow1, _, b1⟩
          have hI1 := HI.out.below b1
          have hg1 := grown_none b1 (some sm)
          have HCall := Lib.hid (makesAll_calls (Tm.ofL (107 :: t')) HPs.out v1 w1 _ n hrow1 hI1 (by omega) hlen)
          clear hrow1 b1 HPs
          go_wp2_with fail
          refine HCall.out.mono ?_
          rintro e2 w2 ⟨b, rfl, hb, hI2, hg2⟩
          have hg3 := grown_trans hg1 hg2
          cases b with
          | true =>
            obtain ⟨w3, hrun, hI3, hg4⟩ := HMark.out w2 _ hI2 (by unfold roomK at *; omega) (HMp.out.2 (hb.1 rfl)) hg3 (by omega)
            have hcr2 := hI2.cells.1
            have HE := Lib.hid (And.intro hI3 hg4)
            have hyes := Lib.hid ((HMp.out.2 (hb.1 rfl)))
            clear hI3 hg4 hI2 hI1 hg2 hg3 hb HMark
            go_wp2
            exact HFin.out true w3 (by simp [hyes.out]) HE.out.1 HE.out.2
          | false =>
            have hno : Hid (¬ Tm.Mk K (107 :: t')) := fun h => by have := hb.2 (HMp.out.1 h); cases this
            have HE := Lib.hid (And.intro (hI2.more (n' := n + (107 :: t').length) (by omega)) hg3)
            clear hI2 hI1 hg2 hg3 hb HMark
            go_wp2
            exact HFin.out false w2 (by simp [hno.out]) HE.out.1 HE.out.2
        · have HOf := Lib.hid (Of_right ⟨(104 :: t').toArray⟩ (by simpa using hr) W)
          have HMp := Lib.hid (Tm.mk_parts hr f2 (by simp))
          clear hps ih hF hF2 o1 o2 o3 o4 o5 fin f1 f2 hI hr hQ mark
          go_enter Try.func73, Try.ntmps73
          go_wp2_with fail
          refine HOf.out.mono ?_
          rintro e1 w1 ⟨v1, rfl, hrow1, _, b1⟩
          have hI1 := HI.out.below b1
          have hg1 := grown_none b1 (some sm)
          have HCall := Lib.hid (makesAll_calls (Tm.ofL (104 :: t')) HPs.out v1 w1 _ n hrow1 hI1 (by omega) hlen)
          clear hrow1 b1 HPs
          go_wp2_with fail
          refine HCall.out.mono ?_
          rintro e2 w2 ⟨b, rfl, hb, hI2, hg2⟩
          have hg3 := grown_trans hg1 hg2
          cases b with
          | true =>
            obtain ⟨w3, hrun, hI3, hg4⟩ := HMark.out w2 _ hI2 (by unfold roomK at *; omega) (HMp.out.2 (hb.1 rfl)) hg3 (by omega)
            have hcr2 := hI2.cells.1
            have HE := Lib.hid (And.intro hI3 hg4)
            have hyes := Lib.hid ((HMp.out.2 (hb.1 rfl)))
            clear hI3 hg4 hI2 hI1 hg2 hg3 hb HMark
            go_wp2
            exact HFin.out true w3 (by simp [hyes.out]) HE.out.1 HE.out.2
          | false =>
            have hno : Hid (¬ Tm.Mk K (104 :: t')) := fun h => by have := hb.2 (HMp.out.1 h); cases this
            have HE := Lib.hid (And.intro (hI2.more (n' := n + (104 :: t').length) (by omega)) hg3)
            clear hI2 hI1 hg2 hg3 hb HMark
            go_wp2
            exact HFin.out false w2 (by simp [hno.out]) HE.out.1 HE.out.2
        · have HOf := Lib.hid (Of_right ⟨(112 :: t').toArray⟩ (by simpa using hr) W)
          have HMp := Lib.hid (Tm.mk_parts hr f2 (by simp))
          clear hps ih hF hF2 o1 o2 o3 o4 o5 fin f1 f2 hI hr hQ mark
          go_enter Try.func73, Try.ntmps73
          go_wp2_with fail
          refine HOf.out.mono ?_
          rintro e1 w1 ⟨v1, rfl, hrow1, _, b1⟩
          have hI1 := HI.out.below b1
          have hg1 := grown_none b1 (some sm)
          have HCall := Lib.hid (makesAll_calls (Tm.ofL (112 :: t')) HPs.out v1 w1 _ n hrow1 hI1 (by omega) hlen)
          clear hrow1 b1 HPs
          go_wp2_with fail
          refine HCall.out.mono ?_
          rintro e2 w2 ⟨b, rfl, hb, hI2, hg2⟩
          have hg3 := grown_trans hg1 hg2
          cases b with
          | true =>
            obtain ⟨w3, hrun, hI3, hg4⟩ := HMark.out w2 _ hI2 (by unfold roomK at *; omega) (HMp.out.2 (hb.1 rfl)) hg3 (by omega)
            have hcr2 := hI2.cells.1
            have HE := Lib.hid (And.intro hI3 hg4)
            have hyes := Lib.hid ((HMp.out.2 (hb.1 rfl)))
            clear hI3 hg4 hI2 hI1 hg2 hg3 hb HMark
            go_wp2
            exact HFin.out true w3 (by simp [hyes.out]) HE.out.1 HE.out.2
          | false =>
            have hno : Hid (¬ Tm.Mk K (112 :: t')) := fun h => by have := hb.2 (HMp.out.1 h); cases this
            have HE := Lib.hid (And.intro (hI2.more (n' := n + (112 :: t').length) (by omega)) hg3)
            clear hI2 hI1 hg2 hg3 hb HMark
            go_wp2
            exact HFin.out false w2 (by simp [hno.out]) HE.out.1 HE.out.2
        · have HOf := Lib.hid (Of_right ⟨(115 :: t').toArray⟩ (by simpa using hr) W)
          have HMp := Lib.hid (Tm.mk_parts hr f2 (by simp))
          clear hps ih hF hF2 o1 o2 o3 o4 o5 fin f1 f2 hI hr hQ mark
          go_enter Try.func73, Try.ntmps73
          go_wp2_with fail
          refine HOf.out.mono ?_
          rintro e1 w1 ⟨v1, rfl, hrow1, _, b1⟩
          have hI1 := HI.out.below b1
          have hg1 := grown_none b1 (some sm)
          have HCall := Lib.hid (makesAll_calls (Tm.ofL (115 :: t')) HPs.out v1 w1 _ n hrow1 hI1 (by omega) hlen)
          clear hrow1 b1 HPs
          go_wp2_with fail
          refine HCall.out.mono ?_
          rintro e2 w2 ⟨b, rfl, hb, hI2, hg2⟩
          have hg3 := grown_trans hg1 hg2
          cases b with
          | true =>
            obtain ⟨w3, hrun, hI3, hg4⟩ := HMark.out w2 _ hI2 (by unfold roomK at *; omega) (HMp.out.2 (hb.1 rfl)) hg3 (by omega)
            have hcr2 := hI2.cells.1
            have HE := Lib.hid (And.intro hI3 hg4)
            have hyes := Lib.hid ((HMp.out.2 (hb.1 rfl)))
            clear hI3 hg4 hI2 hI1 hg2 hg3 hb HMark
            go_wp2
            exact HFin.out true w3 (by simp [hyes.out]) HE.out.1 HE.out.2
          | false =>
            have hno : Hid (¬ Tm.Mk K (115 :: t')) := fun h => by have := hb.2 (HMp.out.1 h); cases this
            have HE := Lib.hid (And.intro (hI2.more (n' := n + (115 :: t').length) (by omega)) hg3)
            clear hI2 hI1 hg2 hg3 hb HMark
            go_wp2
            exact HFin.out false w2 (by simp [hno.out]) HE.out.1 HE.out.2
        · have HOf := Lib.hid (Of_right ⟨(120 :: t').toArray⟩ (by simpa using hr) W)
          have HMp := Lib.hid (Tm.mk_parts hr f2 (by simp))
          clear hps ih hF hF2 o1 o2 o3 o4 o5 fin f1 f2 hI hr hQ mark
          go_enter Try.func73, Try.ntmps73
          go_wp2_with fail
          refine HOf.out.mono ?_
          rintro e1 w1 ⟨v1, rfl, hrow1, _, b1⟩
          have hI1 := HI.out.below b1
          have hg1 := grown_none b1 (some sm)
          have HCall := Lib.hid (makesAll_calls (Tm.ofL (120 :: t')) HPs.out v1 w1 _ n hrow1 hI1 (by omega) hlen)
          clear hrow1 b1 HPs
          go_wp2_with fail
          refine HCall.out.mono ?_
          rintro e2 w2 ⟨b, rfl, hb, hI2, hg2⟩
          have hg3 := grown_trans hg1 hg2
          cases b with
          | true =>
            obtain ⟨w3, hrun, hI3, hg4⟩ := HMark.out w2 _ hI2 (by unfold roomK at *; omega) (HMp.out.2 (hb.1 rfl)) hg3 (by omega)
            have hcr2 := hI2.cells.1
            have HE := Lib.hid (And.intro hI3 hg4)
            have hyes := Lib.hid ((HMp.out.2 (hb.1 rfl)))
            clear hI3 hg4 hI2 hI1 hg2 hg3 hb HMark
            go_wp2
            exact HFin.out true w3 (by simp [hyes.out]) HE.out.1 HE.out.2
          | false =>
            have hno : Hid (¬ Tm.Mk K (120 :: t')) := fun h => by have := hb.2 (HMp.out.1 h); cases this
            have HE := Lib.hid (And.intro (hI2.more (n' := n + (120 :: t').length) (by omega)) hg3)
            clear hI2 hI1 hg2 hg3 hb HMark
            go_wp2
            exact HFin.out false w2 (by simp [hno.out]) HE.out.1 HE.out.2

end Go.Proofs.Ytloheongiceliaa
end
