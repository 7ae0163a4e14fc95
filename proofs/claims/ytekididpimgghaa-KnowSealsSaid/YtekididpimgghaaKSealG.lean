/- The law KnowSeals, once Close holds in general: for all numbers it returns true. The statement KnowSeals: for every input the law returns true, and its arguments read as they did. -/
import Derived.Test.YtekididpimgghaaGathA
import Derived.Test.YtekididpimgghaaKShowG
import Derived.Test.YtekididpimgghaaHelpG3
import Derived.Test.YtekididpimgghaaGathD
section
namespace Go.Proofs.Ytekididpimgghaa.L3
open Go.ChangeShapes Go.WideShapes Go.ChangeAt Go.RowKit

def num0 : List UInt8 := 117 :: Tm.be8 0
def sealT (i : Nat) : List UInt8 := 115 :: (Tm.nm i ++ (num0 ++ Tm.nm (i + 1)))
def knS (n : Nat) : List (List UInt8) := (List.range n).map sealT
theorem knS_succ (n : Nat) : knS (n + 1) = knS n ++ [sealT n] := by simp [knS, List.range_succ]
theorem knS_len (n : Nat) : (knS n).length = n := by simp [knS]
theorem nm_good (i : Nat) : Tm.Good 41 600 (Tm.nm i) := (Tm.good_name i).mono (by omega) (by omega)
theorem num_good : Tm.Good 41 600 num0 := (Tm.good_number 0).mono (by omega) (by omega)
theorem seal_of (i : Nat) : Tm.ofL (sealT i) = [Tm.nm i, num0, Tm.nm (i + 1)] := Tm.ofL_three (nm_good i).1 num_good.1 (nm_good (i + 1)).1
theorem seal_right (i : Nat) : Tm.right (sealT i) = true := by
  have hp := Tm.put_fine (hd := [115]) (ps := [Tm.nm i, num0, Tm.nm (i + 1)]) (by simp) (by simp) (by
    intro p hp
    simp at hp
    rcases hp with h | h | h
    · rw [h]; exact nm_good i
    · rw [h]; exact num_good
    · rw [h]; exact nm_good (i + 1))
  have hq : Tm.put [115] [Tm.nm i, num0, Tm.nm (i + 1)] = (sealT i, 0) := by rw [hp]; simp [sealT]
  have h := (Tm.good_seal3 (k := 41) hq (nm_good i).2.1 num_good.2.1 (nm_good (i + 1)).2.1)
  have h2 : Tm.Good (41 + 1) 20000 (sealT i) := by first | exact h.2.2 | exact h.2 | exact h.2.2.2
  exact (Tm.right_iff _).2 h2.1
theorem seal_len (i : Nat) : (sealT i).length = 28 := by simp [sealT, num0, Tm.nm_len, Tm.be8_length]

/-- What is made of a row of seals and one name. -/
theorem seals_made {n k : Nat} (hn : n ≤ 8) (hk : k ≤ n) {K : List UInt8 → Prop} (h1 : ∀ x ∈ knS n ++ [Tm.nm k], Tm.right x = true → K x)
    (h2 : ∀ S : List UInt8 → Prop, Tm.Closed S → (∀ x ∈ knS n ++ [Tm.nm k], Tm.right x = true → S x) → ∀ x, K x → S x) (h3 : Tm.Closed K) : ∀ i, i ≤ n → (Tm.Mk K (Tm.nm i) ↔ k ≤ i) := by
  have hseal : ∀ i, i < n → K (sealT i) := fun i hi => h1 _ (List.mem_append_left _ (List.mem_map.2 ⟨i, List.mem_range.2 hi, rfl⟩)) (seal_right i)
  have hup : ∀ d, k + d ≤ n → K (Tm.nm (k + d)) := by
    intro d
    induction d with
    | zero => intro _; exact h1 _ (by simp) (Tm.nm_right k)
    | succ d ih =>
      intro hd
      have h4 := ih (by omega)
      exact h3.opens (sealT (k + d)) (Tm.nm (k + d)) (Tm.nm (k + d + 1)) (hseal (k + d) (by omega)) rfl (by rw [seal_of]; rfl) (by rw [seal_of]; rfl) (.known h4)
  let S : List UInt8 → Prop := fun t => (∃ i, i < n ∧ t = sealT i) ∨ t = num0 ∨ ∃ j, k ≤ j ∧ j ≤ n ∧ t = Tm.nm j
  have nmS : ∀ i, i ≤ n → S (Tm.nm i) → k ≤ i := by
    rintro i hi (⟨j, _, e⟩ | e | ⟨j, h4, h5, e⟩)
    · simp [sealT, Tm.nm] at e
    · simp [num0, Tm.nm] at e
    · have := Tm.nm_inj (by omega) (by omega) e
      omega
  have hS : Tm.Closed S := by
    constructor
    · rintro t (⟨i, _, rfl⟩ | rfl | ⟨j, _, _, rfl⟩) h4 <;> simp [sealT, num0, Tm.nm] at h4
    · rintro t p (⟨i, _, rfl⟩ | rfl | ⟨j, _, _, rfl⟩) h4 <;> simp [sealT, num0, Tm.nm] at h4
    · rintro t p (⟨i, _, rfl⟩ | rfl | ⟨j, _, _, rfl⟩) h4 h5
      · rw [seal_of] at h5
        simp at h5
        exact .inr (.inl h5.symm)
      · simp [num0] at h4
      · simp [Tm.nm] at h4
    · rintro t key p (⟨i, hi, rfl⟩ | rfl | ⟨j, _, _, rfl⟩) h4 h5 h6 h7
      · rw [seal_of] at h5 h6
        simp at h5 h6
        subst h5 h6
        have h8 : S (Tm.nm i) := Classical.byContradiction (fun h9 => nm_not h9 h7)
        have := nmS i (by omega) h8
        exact .inr (.inr ⟨i + 1, by omega, by omega, rfl⟩)
      · simp [num0] at h4
      · simp [Tm.nm] at h4
  have hKS : ∀ x, K x → S x := h2 S hS (fun x hx _ => by
    rcases List.mem_append.1 hx with hx | hx
    · obtain ⟨i, hi, rfl⟩ := List.mem_map.1 hx
      exact .inl ⟨i, List.mem_range.1 hi, rfl⟩
    · simp at hx
      exact .inr (.inr ⟨k, Nat.le_refl _, hk, hx⟩))
  intro i hi
  constructor
  · intro hm
    exact nmS i hi (hKS _ (Classical.byContradiction (fun h9 => nm_not h9 hm)))
  · intro hki
    have := hup (i - k) (by omega)
    rw [show k + (i - k) = i by omega] at this
    exact .known this

theorem name_small (k : Nat) (hk : k < 100) (W : World) : Calls Try.prog 16 #[.int .u64 (k : Int)] W (One W (.string ⟨(Tm.nm k).toArray⟩)) := Name_calls k (by omega) W
theorem rowBelow {w w' : World} {B : Nat} {e : TypeId} {size k : Nat} {v : Value} {xs : List Value} (h : w.ownsRow B e size v k xs) (hb : Below w.heap.size w w') : w'.ownsRow B e size v k xs :=
  row_same h (fun g e1 => hb.block g (h.lt g e1).2)
def Sealing (V : World) (n : Nat) (k : Nat) (v7 v8 : Value) (wr : World) : Prop :=
  ∃ i : Nat, k + i = n ∧ v8 = .int .i64 i ∧ wr.ownsRow V.heap.size 28 1 v7 (knS i).length (strs (knS i)) ∧ Below V.heap.size V wr
def Asking (V : World) (n : Nat) (k : Nat) (v13 : Value) (wr : World) : Prop :=
  ∃ i : Nat, k + i = n + 1 ∧ v13 = .int .i64 i ∧ Below V.heap.size V wr

set_option maxRecDepth 100000 in
set_option maxHeartbeats 40000000 in
theorem seals_all (HCl : CloseHolds) (a0 a1 : Int) (w : World) (r0 : isInt a0) (r1 : isInt a1) :
    Calls Try.prog 4 #[.int .i64 a0, .int .i64 a1] w (One w (.bool true)) := by
  obtain ⟨i0, hi, hz0, hz1, hz2⟩ := info_parts info_term
  have HS := Lib.hid shown_calls
  have HC := Lib.hid HCl
  have hp8 := Tm.pickN_lt a0 8 (by omega)
  have cP0 := fun W => pick_calls a0 8 r0.1 r0.2 (by omega) (by omega) W
  obtain ⟨p, hp⟩ : ∃ p, Tm.pickN a0 8 = p := ⟨_, rfl⟩
  rw [hp] at hp8 cP0
  have cP0' : ∀ W : World, Calls Try.prog 17 #[.int .i64 a0, .int .i64 8] W fun e w' => e = .returned (.int .i64 p) ∧ W = w' := cP0
  obtain ⟨n, hn⟩ : ∃ n, 1 + p = n := ⟨_, rfl⟩
  have hw : IntKind.i64.wrap (1 + (p : Int)) = (n : Int) := by rw [IntKind.wrap_i64]; omega
  have hk := Tm.pickN_lt a1 (n + 1) (by omega)
  have cP1 := fun W => pick_calls a1 (n + 1) r1.1 r1.2 (by omega) (by omega) W
  obtain ⟨kk, hke⟩ : ∃ kk, Tm.pickN a1 (n + 1) = kk := ⟨_, rfl⟩
  rw [hke] at hk cP1
  have cP1' : ∀ W : World, Calls Try.prog 17 #[.int .i64 a1, .int .i64 ((n : Int) + 1)] W fun e w' => e = .returned (.int .i64 kk) ∧ W = w' := fun W => by
    have h := cP1 W
    have e : (((n + 1 : Nat)) : Int) = (n : Int) + 1 := by omega
    rw [e] at h
    exact h
  have hw2 : IntKind.i64.wrap ((n : Int) + 1) = (n : Int) + 1 := by rw [IntKind.wrap_i64]; omega
  have H0 := Lib.hid cP0'
  have H1 := Lib.hid cP1'
  have hn8 : n ≤ 8 := by omega
  have hkn : kk ≤ n := by omega
  have HNum : Hid (∀ W : World, Calls Try.prog 25 #[.int .u64 0] W (One W (.string ⟨num0.toArray⟩))) := fun W => Number_calls 0 (by omega) W
  clear cP0 cP0' cP1 cP1' hp hke hn hp8 r0 r1 HCl hk
  go_enter Try.func4, Try.ntmps4
  go_wp2_with fail
  refine (HS.out _).mono ?_
  rintro e w0 ⟨rfl, B⟩
  go_wp2_with fail
  refine (H0.out _).mono ?_
  rintro e w' ⟨rfl, rfl⟩
  have HB := Lib.hid B
  clear B HS H0
  go_wp2
  clear hw
  go_loopg [7, 8] n (fun k v7 v8 wr => Sealing w0 n k v7 v8 wr)
  case atStart => exact ⟨0, by omega, rfl, World.ownsRow_nil _ _ _ _, Below.refl _ _⟩
  case round =>
    obtain ⟨i, hk, rfl, hrow, hbel⟩ := hrel
    have HK := Lib.hid hk
    have HBel := Lib.hid hbel
    by_cases hin : i < n
    · have HN1 := Lib.hid (fun W => name_small i (by omega) W)
      have HN2 : Hid (∀ W : World, Calls Try.prog 16 #[.int .u64 ((i : Int) + 1)] W (One W (.string ⟨(Tm.nm (i + 1)).toArray⟩))) := fun W => by
        have h := name_small (i + 1) (by omega) W
        have e : (((i + 1 : Nat)) : Int) = (i : Int) + 1 := by omega
        rw [e] at h
        exact h
      have HSl : Hid (∀ W : World, Calls Try.prog 22 #[.string ⟨(Tm.nm i).toArray⟩, .string ⟨num0.toArray⟩, .string ⟨(Tm.nm (i + 1)).toArray⟩] W (One W (.tuple #[.string ⟨(sealT i).toArray⟩, .int .i64 0]))) := fun W => three_fine (nm_good i) num_good (nm_good (i + 1)) W
      have j1 : (i : Int) < (n : Int) := by omega
      have k1 : IntKind.u64.wrap (i : Int) = (i : Int) := by simp [IntKind.wrap, IntKind.bits, IntKind.signed]; omega
      have k2 : IntKind.i64.wrap ((i : Int) + 1) = (i : Int) + 1 := by rw [IntKind.wrap_i64]; omega
      have k3 : IntKind.u64.wrap ((i : Int) + 1) = (i : Int) + 1 := by simp [IntKind.wrap, IntKind.bits, IntKind.signed]; omega
      have hgk : gk - 1 < gk := by omega
      have HRow := Lib.hid hrow
      have HSn := Lib.hid (knS_succ i)
      have hlen := knS_len i
      have hl8 : (knS i).length ≤ 8 := by omega
      clear hk hrow hbel hlen
      generalize hnm : Tm.nm i = x1 at *
      generalize hnm2 : Tm.nm (i + 1) = x2 at *
      generalize hst : sealT i = st at *
      clear hnm hnm2 hst
      go_wp2_with fail
      refine (HN1.out _).mono ?_
      rintro e w2 ⟨rfl, b2⟩
      go_wp2_with fail
      refine (HNum.out _).mono ?_
      rintro e w3 ⟨rfl, b3⟩
      go_wp2_with fail
      refine (HN2.out _).mono ?_
      rintro e w4 ⟨rfl, b4⟩
      go_wp2_with fail
      refine (HSl.out _).mono ?_
      rintro e w5 ⟨rfl, b5⟩
      have b25 := ((b2.trans (b3.mono b2.size)).trans (b4.mono (Nat.le_trans b2.size b3.size))).trans (b5.mono (Nat.le_trans (Nat.le_trans b2.size b3.size) b4.size))
      have hrow5 := rowBelow HRow.out b25
      have HB5 := Lib.hid (HBel.out.trans (b25.mono HBel.out.size))
      have hs5 : w0.heap.size ≤ w5.heap.size := HB5.out.size
      have hRel : Hid (∀ (v2 : Value) (w6 : World), w6.ownsRow w0.heap.size 28 1 v2 ((knS i).length + 1) (strs (knS i) ++ [.string ⟨st.toArray⟩]) → w5.grownBy w6 u7.ownBlock → Sealing w0 n (gk - 1) v2 (.int .i64 ((i + 1 : Nat) : Int)) w6) := by
        intro v2 w6 k3 k4
        refine ⟨i + 1, by have := HK.out; omega, rfl, ?_, HB5.out.grown k4 HB5.out.size (fun j hj => (hrow5.lt j hj).1)⟩
        rw [HSn.out]
        simpa [strs] using k3
      clear b2 b3 b4 b5 b25 HRow HBel HN1 HN2 HSl HSn
      generalize knS i = kn at *
      go_wp2_with (at_builtin; refine wpList_append_own _ rfl _ _ 25 rfl w0.heap.size 28 i0 (.string ⟨#[]⟩) 1 16 Try.underlying25 hi hz0 hz1 hz2 rfl (by decide) _ _ _ rfl (hrow5.alloc _) ⟨w5.heap.size, 0, none⟩ 1 1 [.string ⟨st.toArray⟩] rfl rfl (cell_one_new _ _ _) (by simp [Value.oneCell']) (by unfold maxLen; omega) (by omega) (by simp; omega) ?_; intro v2 w6 hown' hgrow _)
      go_roundg (gk - 1)
      case measure => exact hgk
      case rel => exact hRel.out v2 w6 hown' (grown_trans (World.grownBy_alloc w5 _ u7.ownBlock) hgrow)
    · obtain rfl : i = n := by omega
      have j1 : ¬ ((i : Int) < (i : Int)) := by omega
      have HNk := Lib.hid (fun W => name_small kk (by omega) W)
      have k1 : IntKind.u64.wrap (kk : Int) = (kk : Int) := by simp [IntKind.wrap, IntKind.bits, IntKind.signed]; omega
      have hl8 : (knS i).length ≤ 8 := by rw [knS_len]; omega
      have HRow := Lib.hid hrow
      clear hk hrow hbel
      go_wp2_with fail
      refine (H1.out _).mono ?_
      rintro e w' ⟨rfl, rfl⟩
      go_wp2_with fail
      refine (HNk.out _).mono ?_
      rintro e w2 ⟨rfl, b2⟩
      have hrow2 := rowBelow HRow.out b2
      have HB2 := Lib.hid (HBel.out.trans (b2.mono HBel.out.size))
      have hs2 : w0.heap.size ≤ w2.heap.size := HB2.out.size
      obtain ⟨kn, hkn2⟩ : ∃ kn, knS i = kn := ⟨_, rfl⟩
      rw [hkn2] at hrow2 hl8
      have HKn := Lib.hid hkn2
      clear b2 HRow HBel HNk hkn2
      go_wp2_with (at_builtin; refine wpList_append_own _ rfl _ _ 25 rfl w0.heap.size 28 i0 (.string ⟨#[]⟩) 1 16 Try.underlying25 hi hz0 hz1 hz2 rfl (by decide) _ _ _ rfl (hrow2.alloc _) ⟨w2.heap.size, 0, none⟩ 1 1 [.string ⟨(Tm.nm kk).toArray⟩] rfl rfl (cell_one_new _ _ _) (by simp [Value.oneCell']) (by unfold maxLen; omega) (by omega) (by simp; omega) ?_; intro v3 w3 hown3 hgrow3 _)
      have hg23 : w2.grownBy w3 u7.ownBlock := grown_trans (World.grownBy_alloc w2 _ u7.ownBlock) hgrow3
      have HB3 : Hid (Below w0.heap.size w0 w3) := HB2.out.grown hg23 HB2.out.size (fun j hj => (hrow2.lt j hj).1)
      have hR3 : Reads w3 v3 (kn ++ [Tm.nm kk]) := by
        have e : (kn ++ [Tm.nm kk]).length = kn.length + 1 := by simp
        have e2 : strs (kn ++ [Tm.nm kk]) = strs kn ++ [.string ⟨(Tm.nm kk).toArray⟩] := by simp [strs]
        have h3 : w3.ownsRow w0.heap.size 28 1 v3 (kn ++ [Tm.nm kk]).length (strs (kn ++ [Tm.nm kk])) := by rw [e, e2]; exact hown3
        exact reads_terms h3
      have hflat : (kn ++ [Tm.nm kk]).flatten.length ≤ 200000 := by
        have h1 := flat_le (b := 28) (l := kn ++ [Tm.nm kk]) (fun x hx => by
          rw [← HKn.out] at hx
          rcases List.mem_append.1 hx with hx | hx
          · obtain ⟨j, _, rfl⟩ := List.mem_map.1 hx
            rw [seal_len]; omega
          · simp at hx; rw [hx, Tm.nm_len]; omega)
        have h2 : (kn ++ [Tm.nm kk]).length ≤ 9 := by simp; omega
        omega
      have HCc := Lib.hid (HC.out (kn ++ [Tm.nm kk]) v3 w3 hR3 (by simp; omega) hflat)
      clear hown3 hgrow3 hg23 hR3 hrow2 HB2 HC
      go_wp2_with fail
      refine HCc.out.mono ?_
      rintro e w4 ⟨v4, xs, rfl, hR4, hl4, c1, c2, c3, c4, b4⟩
      have hmade := seals_made (n := i) (k := kk) hn8 hkn (K := fun x => x ∈ xs) (by rw [HKn.out]; exact c2) (by rw [HKn.out]; exact c3) c4
      have HMade := Lib.hid hmade
      have hri := rightIn_all c1
      have HDv := Lib.hid (fun (j : Nat) (W : World) (hR : Reads W v4 xs) => (Derives_calls xs (Tm.nm j) v4 W hR (by omega) (fun x hx => by have := (Tm.ofL_ok (c1 x hx)).2.2.2.2.2; omega) (by rw [Tm.nm_len]; omega)))
      have HRi := Lib.hid hri
      have HR4 := Lib.hid hR4
      have HB4 := Lib.hid (HB.out.trans ((HB3.out.trans (b4.mono HB3.out.size)).mono HB.out.size))
      clear hR4 c1 c2 c3 c4 b4 hmade hri HCc HB3 HKn HB
      go_wp2
      go_loopg [13] (i + 1) (fun k v13 wr => Asking w4 i k v13 wr)
      case atStart => exact ⟨0, by omega, rfl, Below.refl _ _⟩
      case round =>
        obtain ⟨j, hj, rfl, hbel⟩ := hrel
        have HJ := Lib.hid hj
        by_cases hji : j ≤ i
        · have HN := Lib.hid (fun W => name_small j (by omega) W)
          have l1 : (j : Int) ≤ (i : Int) := by omega
          have l2 : IntKind.u64.wrap (j : Int) = (j : Int) := by simp [IntKind.wrap, IntKind.bits, IntKind.signed]; omega
          have hgk : gk - 1 < gk := by omega
          have HBe := Lib.hid hbel
          obtain ⟨d, hd⟩ : ∃ d : Bool, decide (kk ≤ j) = d := ⟨_, rfl⟩
          have hd2 : d = true ↔ kk ≤ j := by rw [← hd]; simp
          have hdI : decide ((kk : Int) ≤ (j : Int)) = d := by rw [← hd]; simp
          have HOne : Hid (∀ (W : World), Reads W v4 xs → Calls Try.prog 27 #[v4, .string ⟨(Tm.nm j).toArray⟩] W (One W (.bool d))) := fun W hR => by
            refine (HDv.out j W hR).mono ?_
            rintro e w' ⟨b, rfl, hb, h3⟩
            rw [HRi.out] at hb
            have : b = d := by
              apply Bool.eq_iff_iff.2
              rw [hb, hd2, ← HMade.out j hji]
              exact ⟨fun q => q.2, fun q => ⟨Tm.nm_right j, q⟩⟩
            subst this
            exact ⟨rfl, h3⟩
          have qd : (d != d) = false := by simp
          clear hj hbel hd2
          go_wp2_with fail
          refine (HN.out _).mono ?_
          rintro e w5 ⟨rfl, b5⟩
          have HB5 := Lib.hid (HBe.out.trans (b5.mono HBe.out.size))
          have HR5 := Lib.hid (HR4.out.below HB5.out)
          clear b5 HBe HN
          go_wp2_with fail
          refine (HOne.out _ HR5.out).mono ?_
          rintro e w6 ⟨rfl, b6⟩
          have HB6 := Lib.hid (HB5.out.trans (b6.mono HB5.out.size))
          clear b6 HB5 HR5 HOne
          go_wp2
          go_roundg (gk - 1)
          case measure => exact hgk
          case rel => exact ⟨j + 1, by have := HJ.out; omega, rfl, HB6.out⟩
        · obtain rfl : j = i + 1 := by have := HJ.out; omega
          have l1 : ¬ (((i + 1 : Nat) : Int) ≤ (i : Int)) := by omega
          have l1' : ¬ ((i : Int) + 1 ≤ (i : Int)) := by omega
          have HB6 := Lib.hid (HB4.out.trans (hbel.mono HB4.out.size))
          clear hbel hj HJ
          go_wp2
          go_ret
          exact ⟨rfl, HB6.out⟩

end Go.Proofs.Ytekididpimgghaa.L3
end

section
namespace Go.Proofs.Ytekididpimgghaa
open Go.ChangeShapes Go.WideShapes Go.ChangeAt Go.RowKit

set_option maxRecDepth 100000 in
theorem seals_lifted (os : Os) (started : os.Started) (H : Type) (enc : TypeId × Value → H) :
    ReturnsInHanded {} Try.checked os 4 .any (Rows.knowSealsSpec.pre6 enc Try.prog Try.f4 Rows.knowSealsRow.domain false) (Rows.knowSealsSpec.post enc Try.prog Try.f4 false true false false) := by
  refine returnsInHanded_of_change (C := Try.checked) own started (by kernel_rfl) Try.func4
    (ChangeSpec.witness6 (enc := enc) (C := Try.checked) false ⟨#[], #[.int .i64 0, .int .i64 0], []⟩ 8 (by kernel_rfl) (by kernel_rfl) (by kernel_rfl) (by kernel_rfl)) ?_
  intro W base args ds gs before hval0 hW hcnd _
  have hval : ∀ (j : Nat) t v, Try.f4.params[j]? = some t → args[j]? = some v → Value.okWide Try.prog W .any base t v := hval0
  have hW' := hW
  obtain ⟨p, q, hA0, hV, rfl, hfz, hnd⟩ := hW
  have hA : DataW.TrodAll enc Try.prog W 0 (fun _ => true) true Try.f4.params.toList args.toList ds p := hA0
  rw [Try.params4] at hA hval
  obtain ⟨v0, vs0, d0, ds0, p0, q0, hargs, rfl, rfl, h0, r0⟩ := trodAll_cons hA
  obtain ⟨v1, vs1, d1, ds1, p1, q1, rfl, rfl, rfl, h1, r1⟩ := trodAll_cons r0
  obtain ⟨rfl, rfl, rfl⟩ := trodAll_nil r1
  obtain rfl : args = #[v0, v1] := by cases args; simp_all
  obtain ⟨rfl, rfl⟩ := trodVars_none hV
  obtain ⟨a0, rfl, rfl, rfl, w0⟩ := open_int Try.underlying3 (hval 0 3 v0 rfl rfl) h0
  obtain ⟨a1, rfl, rfl, rfl, w1⟩ := open_int Try.underlying3 (hval 1 3 v1 rfl rfl) h1
  clear hA0 hval0
  simp only [List.append_nil] at hW'
  refine (L3.seals_all Close_holds a0 a1 W (i64_of_wf w0) (i64_of_wf w1)).mono fun e W' ⟨he, hg⟩ => ?_
  subst he
  exact ⟨_, rfl, L3.post_law_at (pv := []) hW' (trodAll_cons_mk (shut_bool Try.underlying4 _) trodAll_mk0) (trodAll_cons_mk (shut_int Try.underlying3 w0) (trodAll_cons_mk (shut_int Try.underlying3 w1) trodAll_mk0)) rfl (by simp) hg⟩

theorem seals_over : Rows.knowSealsRow.holds Try.pinned (OpenSpec.ofChange Rows.knowSealsSpec) :=
  OpenClaim.holds_of_wide 4 Try.f4 rfl rfl rfl rfl rfl rfl rfl ⟨rfl, rfl, rfl, rfl, rfl⟩ rfl rfl rfl rfl rfl (by kernel_rfl) Try.func4 (by kernel_rfl)
    (of_decide_eq_true (by kernel_rfl)) (by unfold Func.isWrapper; first | (rw [if_pos (by decide +kernel)]; kernel_rfl) | (rw [if_neg (by decide +kernel)]; exact ⟨rfl, rfl⟩))
    (fun os started H enc _ => seals_lifted os started H enc)

theorem seals_proved : Rows.KnowSealsSaid := seals_over

end Go.Proofs.Ytekididpimgghaa
end
