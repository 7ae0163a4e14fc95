/- The laws' made: a tree, by raw numbers. -/
import Derived.Test.YtlpabhgfmkilnaaGreatDoorPlLaw
import Derived.Test.YtlpabhgfmkilnaaGreatDoorTrTopM
import Derived.Test.YtlpabhgfmkilnaaGreatDoorTrTopJ
namespace Go.Proofs.YtlpabhgfmkilnaaGreatDoor.L14
open Go.ChangeShapes Go.WideShapes Go.ChangeAt Go.RowKit Go.Deep
open Go.Proofs.YtlpabhgfmkilnaaGreatDoor.L13
open Go.Proofs.YtlpabhgfmkilnaaGreatDoor.L5 (One)

/-- A text of a tree, or an error. -/
def FineX (r : List UInt8 × Int) : Prop := (∃ u : Tr, u.ok ∧ r = (u.text, 0)) ∨ (∃ y, r = (y, 1)) ∨ ∃ y, r = (y, 8)
theorem join_fine {t : Tr} (h : t.ok) (p : Int) : FineX (joinX t.text p) := by
  unfold joinX
  rw [readT_text h]
  dsimp only
  split
  · rename_i hc
    exact .inl ⟨_, h.put (by omega) hc.2.2, rfl⟩
  · exact .inr (.inl ⟨_, rfl⟩)
theorem leave_fine {t : Tr} (h : t.ok) (p : Int) : FineX (leaveX t.text p) := by
  unfold leaveX
  rw [readT_text h]
  dsimp only
  unfold outX
  split
  · rename_i l r u hu
    split
    · obtain ⟨u', e, hp⟩ := Tr.out_some (h.other p.toNat)
      rw [e] at hu
      cases hu
      exact .inl ⟨_, h.out hp, rfl⟩
    · exact .inr (.inr ⟨_, rfl⟩)
  · exact .inr (.inr ⟨_, rfl⟩)
theorem shared_none {a b : Tr} (oa : a.ok) (ob : b.ok) (h : ¬ 0 < (sharedL a b).length) : ∀ p ∈ a.procs, p ∉ b.procs := by
  intro p hp hq
  have h0 : sharedL a b = [] := List.eq_nil_of_length_eq_zero (by omega)
  have e1 := oa.contains (p : Int)
  have e2 := ob.contains (p : Int)
  rw [Int.toNat_natCast] at e1 e2
  have := oa.small p hp
  rw [decide_eq_true (And.intro (by omega) hp), List.contains_iff_mem] at e1
  rw [decide_eq_true (And.intro (by omega) hq)] at e2
  have : (p : Int) ∈ sharedL a b := List.mem_filter.2 ⟨e1, e2⟩
  rw [h0] at this
  cases this
theorem merge_ok {a b : Tr} (oa : a.ok) (ob : b.ok) (h : ∀ p ∈ a.procs, p ∉ b.procs) : (a.merge b).ok := by
  unfold Tr.merge
  split
  · exact oa.node ob h
  · exact ob.node oa (fun p hp hq => h p hq hp)
theorem merge_fine {t u : Tr} (h : t.ok) (g : u.ok) : FineX (mergeX t.text u.text) := by
  unfold mergeX
  rw [readT_text h, readT_text g]
  dsimp only
  split
  · exact .inr (.inl ⟨_, rfl⟩)
  · rename_i hn
    exact .inl ⟨_, merge_ok h g (shared_none h g hn), rfl⟩
/-- A tree's text. -/
def MadeOut (w : World) (e : Ending) (w' : World) : Prop := ∃ t : Tr, t.ok ∧ e = .returned (.string ⟨t.text.toArray⟩) ∧ Below w.heap.size w w'
def MadeRel (w : World) (n k : Nat) (v3 v4 : Value) (wr : World) : Prop := ∃ (i : Nat) (t : Tr), k + i = n ∧ i ≤ 40 ∧ v4 = .int .i64 i ∧ t.ok ∧ v3 = .string ⟨t.text.toArray⟩ ∧ Below w.heap.size w wr
theorem leaf_is {p : Int} (h1 : 1 ≤ p) (h8 : p ≤ 8) : ∃ u : Tr, u.ok ∧ leafX p = (u.text, 0) := ⟨.leaf p.toNat, Tr.ok.leaf (by omega) (by omega), by unfold leafX; rw [if_pos ⟨h1, h8⟩]⟩
theorem ints_at {w : World} {A : Option Addr} {c : Nat} {xs : List Int} (h : IntsA w (.slice A xs.length c) xs) : ∀ (j : Nat) (x : Int), xs[j]? = some x → (-9223372036854775808 ≤ x ∧ x ≤ 9223372036854775807) ∧ ∃ ad : Addr, A = some ad ∧ ∀ V, Below w.heap.size w V → V.cell? (ad.add j) = some (.int .i64 x) := fun j x hx => by
  obtain ⟨A', c', e, hr⟩ := h.reads
  cases e
  obtain ⟨ad, e, h1, h2⟩ := hr j x hx
  exact ⟨h.fit x (List.mem_of_getElem? hx), ad, e, fun V hb => (hb.cell (p := ad.add j) (by rw [addr_block]; exact h1)).trans h2⟩
theorem fine_two {r : List UInt8 × Int} (h : FineX r) : (r.2 = 0 ∧ ∃ u : Tr, u.ok ∧ r.1 = u.text) ∨ (r.2 == 0) = false := by
  rcases h with ⟨u, hu, rfl⟩ | ⟨y, rfl⟩ | ⟨y, rfl⟩
  · exact .inl ⟨rfl, u, hu, rfl⟩
  · exact .inr rfl
  · exact .inr rfl
set_option maxRecDepth 100000 in
set_option maxHeartbeats 8000000 in
theorem made_calls (v : Value) (xs : List Int) (w : World) (hI : IntsA w v xs) : Calls Tryz.prog 6 #[v] w (MadeOut w) := by
  obtain ⟨A, c, rfl, _⟩ := id hI.reads
  have HI := Lib.hid (ints_at hI)
  have hfew := hI.few
  unfold maxLen at hfew
  clear hI
  have HSt : Hid (MadeRel w xs.length xs.length (.string ⟨#[49]⟩) (.int .i64 0) w) := ⟨0, .leaf 1, by omega, by omega, rfl, Tr.ok.leaf (by omega) (by omega), rfl, Below.refl _ _⟩
  go_enter Tryz.func6, Tryz.ntmps6
  go_wp2
  go_loopg [3, 4] xs.length (fun k v3 v4 wr => MadeRel w xs.length k v3 v4 wr)
  case atStart => exact HSt.out
  case round =>
    clear HSt
    obtain ⟨i, t, hk, h40, rfl, ho, rfl, hb⟩ := hrel
    by_cases hlt : i < xs.length
    · by_cases hi40 : i < 40
      · obtain ⟨x, hx⟩ : ∃ x, xs[i]? = some x := ⟨_, List.getElem?_eq_getElem hlt⟩
        obtain ⟨hxi, ad, rfl, hc⟩ := HI.out i x hx
        have j1 : (i : Int) < (xs.length : Int) := by omega
        have j2 : (0 : Int) ≤ (i : Int) := by omega
        have j3 : (i : Int) < 40 := by omega
        obtain ⟨d, hd, hq3⟩ : ∃ d, wrap64 (x.tdiv 3) = d ∧ (-9223372036854775808 ≤ d ∧ d ≤ 9223372036854775807) := ⟨_, rfl, by unfold wrap64; omega⟩
        have HP1 := Lib.hid (fun V => pick_calls d 8 hq3 (by omega) V)
        have HP2 := Lib.hid (fun V => pick_calls x 3 hxi (by omega) V)
        obtain ⟨hq1, hq2⟩ := pickI_bounds d (show (1 : Int) ≤ 8 by omega)
        have c0 := hc wr hb
        clear hx hlt hi40 hxi hq3
        obtain ⟨u, ou, hux⟩ := leaf_is (p := 1 + pickI d 8) (by omega) (by omega)
        have HL := Lib.hid (fun V => leaf_top (1 + pickI d 8) V)
        have HJ := Lib.hid (fun V => join_top t.text (1 + pickI d 8) V)
        have HV := Lib.hid (fun V => leave_top t.text (1 + pickI d 8) V)
        have HM := Lib.hid (fun V => merge_top t.text u.text V)
        rw [hux] at HL
        have FJ := Lib.hid (fine_two (join_fine ho (1 + pickI d 8)))
        have FV := Lib.hid (fine_two (leave_fine ho (1 + pickI d 8)))
        have FM := Lib.hid (fine_two (merge_fine ho ou))
        clear hux ou
        obtain ⟨⟨yj, zj⟩, hj⟩ : ∃ r, joinX t.text (1 + pickI d 8) = r := ⟨_, rfl⟩
        obtain ⟨⟨yv, zv⟩, hv⟩ : ∃ r, leaveX t.text (1 + pickI d 8) = r := ⟨_, rfl⟩
        obtain ⟨⟨ym, zm⟩, hm⟩ : ∃ r, mergeX t.text u.text = r := ⟨_, rfl⟩
        rw [hj] at HJ FJ
        rw [hv] at HV FV
        rw [hm] at HM FM
        clear hj hv hm
        have HYes : Hid (∀ (V : World) (s : Tr), s.ok → Below w.heap.size w V → MadeRel w xs.length (gk - 1) (.string ⟨s.text.toArray⟩) (.int .i64 ((i + 1 : Nat) : Int)) V) := fun V s hs hV => ⟨i + 1, s, by omega, by omega, rfl, hs, rfl, hV⟩
        have HYes0 : Hid (∀ (V : World), Below w.heap.size w V → MadeRel w xs.length (gk - 1) (.string ⟨t.text.toArray⟩) (.int .i64 ((i + 1 : Nat) : Int)) V) := fun V hV => HYes.out V t ho hV
        have HC := Lib.hid hc
        have hgk := Lib.hid (show gk - 1 < gk by omega)
        have HB := Lib.hid hb
        clear hk h40 ho hb hc
        generalize pickI d 8 = q at *
        generalize pickI x 3 = k3 at *
        generalize t.text = tx at *
        generalize u.text = ux at *
        unfold Str2 at HL HJ HV HM
        dsimp only at HL HJ HV HM FJ FV FM
        go_wp2_with fail
        refine (HP1.out _).mono ?_
        rintro e w1 ⟨rfl, rfl⟩
        go_wp2_with fail
        refine (HL.out _).mono ?_
        rintro e w2 ⟨rfl, b2⟩
        have B2 := Lib.hid (HB.out.trans (b2.mono HB.out.size))
        clear b2
        go_wp2_with fail
        refine (HJ.out _).mono ?_
        rintro e w3 ⟨rfl, b3⟩
        have B3 := Lib.hid (B2.out.trans (b3.mono B2.out.size))
        have c3 := HC.out w3 B3.out
        clear b3
        go_wp2_with fail
        refine (HP2.out _).mono ?_
        rintro e w4 ⟨rfl, rfl⟩
        by_cases k1 : k3 = 1
        · subst k1
          go_wp2_with fail
          refine (HV.out _).mono ?_
          rintro e w5 ⟨rfl, b5⟩
          have B5 := Lib.hid (B3.out.trans (b5.mono B3.out.size))
          have c5 := HC.out w5 B5.out
          clear b5
          go_wp2_with fail
          refine (HP2.out _).mono ?_
          rintro e w6 ⟨rfl, rfl⟩
          have HBE := B5
          have hcase := FV.out
          rcases hcase with ⟨e0, s, hs, ey⟩ | e0
          · have HE := Lib.hid (HYes.out _ s hs HBE.out)
            rw [← ey] at HE
            subst e0
            clear ey
            go_wp2
            go_roundg (gk - 1)
            case measure => exact hgk.out
            case rel => exact HE.out
          · have HE := Lib.hid (HYes0.out _ HBE.out)
            go_wp2
            go_roundg (gk - 1)
            case measure => exact hgk.out
            case rel => exact HE.out
        · have k1' : (k3 == 1) = false := by rw [beq_eq_false_iff_ne]; exact k1
          clear k1
          go_wp2_with fail
          refine (HP2.out _).mono ?_
          rintro e w5 ⟨rfl, rfl⟩
          by_cases k2 : k3 = 2
          · subst k2
            go_wp2_with fail
            refine (HM.out _).mono ?_
            rintro e w6 ⟨rfl, b6⟩
            have B6 := Lib.hid (B3.out.trans (b6.mono B3.out.size))
            clear b6
            have HBE := B6
            have hcase := FM.out
            rcases hcase with ⟨e0, s, hs, ey⟩ | e0
            · have HE := Lib.hid (HYes.out _ s hs HBE.out)
              rw [← ey] at HE
              subst e0
              clear ey
              go_wp2
              go_roundg (gk - 1)
              case measure => exact hgk.out
              case rel => exact HE.out
            · have HE := Lib.hid (HYes0.out _ HBE.out)
              go_wp2
              go_roundg (gk - 1)
              case measure => exact hgk.out
              case rel => exact HE.out
          · have k2' : (k3 == 2) = false := by rw [beq_eq_false_iff_ne]; exact k2
            clear k2
            have HBE := B3
            have hcase := FJ.out
            rcases hcase with ⟨e0, s, hs, ey⟩ | e0
            · have HE := Lib.hid (HYes.out _ s hs HBE.out)
              rw [← ey] at HE
              subst e0
              clear ey
              go_wp2
              go_roundg (gk - 1)
              case measure => exact hgk.out
              case rel => exact HE.out
            · have HE := Lib.hid (HYes0.out _ HBE.out)
              go_wp2
              go_roundg (gk - 1)
              case measure => exact hgk.out
              case rel => exact HE.out
      · have HE : Hid (MadeOut w (.returned (.string ⟨t.text.toArray⟩)) wr) := ⟨t, ho, rfl, hb⟩
        have j1 : (i : Int) < (xs.length : Int) := by omega
        have j3 : ¬ (i : Int) < 40 := by omega
        clear hk h40 ho hb hlt hi40
        generalize t.text = tx at *
        go_wp2
        go_ret
        exact HE.out
    · have HE : Hid (MadeOut w (.returned (.string ⟨t.text.toArray⟩)) wr) := ⟨t, ho, rfl, hb⟩
      have j1 : ¬ (i : Int) < (xs.length : Int) := by omega
      clear hk h40 ho hb hlt
      generalize t.text = tx at *
      go_wp2
      go_ret
      exact HE.out
set_option maxRecDepth 100000 in
/-- A row of numbers that a law is handed: how it lies, and that it has the room that it says. -/
theorem open_irow14 {H : Type} {enc : TypeId × Value → H} {W : World} {base : Nat} {v : Value} {d : DataW H} {ps : List MemPlace} (hval : Value.okWide Tryz.prog W .any base 22 v) (h : DataW.Trod enc Tryz.prog W 0 (fun _ => true) true 22 v d ps) :
    ∃ zs, IntsA W v zs ∧ ∀ A n c, v = .slice A n c → n ≤ c ∨ n = 0 := by
  obtain ⟨zs, hI⟩ := L10.open_irow hval h
  refine ⟨zs, hI, fun A n c e => ?_⟩
  subst e
  obtain ⟨fuel, hf⟩ := h
  rcases open_ints Tryz.underlying22 Tryz.underlying3 (by kernel_rfl) hf with ⟨h0, _⟩ | ⟨a, len, cap, ss, hcs, h1, hl, hm, hsl, _⟩
  · cases h0
    exact .inr rfl
  · cases hcs
    exact .inl (by omega)
end Go.Proofs.YtlpabhgfmkilnaaGreatDoor.L14
