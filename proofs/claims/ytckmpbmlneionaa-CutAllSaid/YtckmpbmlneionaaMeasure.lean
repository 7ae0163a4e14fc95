/- Contract of list.measure: how many bytes a row's term has, or what is wrong. -/
import Derived.Test.YtckmpbmlneionaaListPure
namespace Go.Proofs.Ytckmpbmlneionaa
open Go.ChangeShapes Go.WideShapes Go.ChangeAt Go.RowKit

/-- A row of texts, none of them longer than texts are. -/
structure RowA (w : World) (v : Value) (zs : List (List UInt8)) : Prop where
  reads : ReadsA (fun _ => False) w v zs
  short : ∀ z ∈ zs, z.length ≤ maxLen
  few : zs.length ≤ maxLen
theorem RowA.below {w w' : World} {v : Value} {zs : List (List UInt8)} (h : RowA w v zs) (hb : Below w.heap.size w w') : RowA w' v zs := ⟨h.reads.spare (.of_below hb), h.short, h.few⟩

def Measuring (w : World) (zs : List (List UInt8)) (k : Nat) (v4 v5 v16 : Value) (wr : World) : Prop :=
  ∃ i, k + i = zs.length ∧ v16 = .int .i64 i ∧ v4 = .int .i64 ((Tm.rowL (zs.take i)).length : Nat) ∧ v5 = .int .i64 (Tm.deepR (zs.take i) : Nat) ∧ Tm.wrongIn (zs.take i) = false ∧ (Tm.rowL (zs.take i)).length ≤ 9 + i * 20001 ∧ Below w.heap.size w wr

def MeasOut (w : World) (r : Nat × Nat) (e : Ending) (w' : World) : Prop := e = .returned (.tuple #[.int .i64 (r.1 : Nat), .int .i64 (r.2 : Nat)]) ∧ Below w.heap.size w w'

set_option maxRecDepth 100000 in
set_option maxHeartbeats 4000000 in
theorem measure_calls (zs : List (List UInt8)) (v : Value) (w : World) (h : RowA w v zs) : Calls Try.prog 68 #[v] w (MeasOut w (Tm.measureL zs)) := by
  obtain ⟨⟨A, c, rfl, hcells⟩, hshort, hfew⟩ := h
  have HNum : Hid (∀ V : World, Calls Try.prog 35 #[.int .u64 0] V (One V (.string ⟨(117 :: Tm.be8 0).toArray⟩))) := fun V => Number_calls 0 (by decide) V
  have HC := Lib.hid hcells
  have HSh := Lib.hid hshort
  obtain ⟨r, hr⟩ : ∃ r, Tm.measureL zs = r := ⟨_, rfl⟩
  rw [hr]
  unfold Tm.measureL at hr
  unfold maxLen at hfew
  clear hcells hshort
  by_cases hl : 150 < zs.length
  · rw [if_pos (.inl hl)] at hr
    subst hr
    have j1 : (150 : Int) < (zs.length : Int) := by omega
    go_enter Try.func68, Try.ntmps68
    go_wp2
    go_ret2
    exact ⟨rfl, Below.refl _ _⟩
  · have j1 : ¬ ((150 : Int) < (zs.length : Int)) := by omega
    have HR := Lib.hid hr
    clear hr
    go_enter Try.func68, Try.ntmps68
    go_wp2_with fail
    refine (HNum.out _).mono ?_
    rintro e w1 ⟨rfl, b1⟩
    have hsz : (⟨(117 :: Tm.be8 0).toArray⟩ : ByteArray).size = 9 := rfl
    have HB1 := Lib.hid b1
    clear b1
    go_wp2
    go_loopg [4, 5, 16] zs.length (fun k v4 v5 v16 wr => Measuring w zs k v4 v5 v16 wr)
    case atStart => exact ⟨0, by omega, rfl, rfl, rfl, rfl, by simp [Tm.rowL_len_nil], HB1.out⟩
    case round =>
      obtain ⟨i, hk, rfl, rfl, rfl, hw, hb, hB⟩ := hrel
      have hdl := Tm.deepR_le (zs.take i)
      rw [List.length_take] at hdl
      have HB := Lib.hid hB
      have HW := Lib.hid hw
      have HK := Lib.hid hk
      by_cases hil : i < zs.length
      · obtain ⟨z, hz⟩ : ∃ z, zs[i]? = some z := ⟨_, List.getElem?_eq_getElem hil⟩
        obtain ⟨ad, rfl, a1, _, a3⟩ := HC.out i z hz
        have hcell : wr.cell? (ad.add i) = some (.string ⟨z.toArray⟩) := (hB.cell (p := ad.add i) (by rw [addr_block]; exact a1)).trans a3
        have hzl : Hid (z.length ≤ maxLen) := HSh.out z (List.mem_of_getElem? hz)
        have HD : Hid (∀ V : World, Calls Try.prog 81 #[.string ⟨z.toArray⟩] V (One V (.int .i64 (Tm.depthOf z)))) := fun V => Depth_calls ⟨z.toArray⟩ (by rw [size_list]; exact hzl.out) V
        have e := List.take_add_one (l := zs) (i := i)
        rw [hz, Option.toList_some] at e
        have HE := Lib.hid e
        have hzs : (⟨z.toArray⟩ : ByteArray).size = z.length := size_list z
        have hdz := Tm.depthOf_le z
        have j2 : (i : Int) < (zs.length : Int) := by omega
        have j3 : (0 : Int) ≤ (i : Int) := by omega
        have hgk : gk - 1 < gk := by omega
        obtain ⟨rl, hrl⟩ : ∃ rl, (Tm.rowL (zs.take i)).length = rl := ⟨_, rfl⟩
        obtain ⟨dr, hdr⟩ : ∃ dr, Tm.deepR (zs.take i) = dr := ⟨_, rfl⟩
        rw [hrl] at hb ⊢
        rw [hdr] at hdl ⊢
        have HRl := Lib.hid (And.intro hrl hdr)
        clear hB hw hk hz a1 a3 e hrl hdr
        go_wp2_with fail
        refine (HD.out _).mono ?_
        rintro e w3 ⟨rfl, b3⟩
        have hB3 := Lib.hid (HB.out.trans (b3.mono HB.out.size))
        obtain ⟨dz, hdd⟩ : ∃ dz, Tm.depthOf z = dz := ⟨_, rfl⟩
        rw [hdd] at hdz ⊢
        have HDz := Lib.hid hdd
        clear b3 hdd
        by_cases h0 : dz = 0
        · subst h0
          have hfin : Hid (MeasOut w r (.returned (.tuple #[.int .i64 0, .int .i64 1])) w3) := by
            have hwz : Tm.wrongIn zs = true := by
              have h1 : Tm.wrongIn (zs.take (i + 1)) = true := by rw [HE.out, Tm.wrongIn_snoc, HDz.out]; simp
              unfold Tm.wrongIn at h1 ⊢
              rw [List.any_eq_true] at h1 ⊢
              obtain ⟨x, hx, hx2⟩ := h1
              exact ⟨x, List.mem_of_mem_take hx, hx2⟩
            have := HR.out
            rw [if_pos (.inr hwz)] at this
            rw [← this]
            exact ⟨rfl, hB3.out⟩
          go_wp2
          go_ret2
          exact hfin.out
        · have hne : ((dz : Int) == 0) = false := by rw [beq_eq_false_iff_ne]; omega
          have hz20 : z.length ≤ 20000 := Tm.depthOf_short (by rw [HDz.out]; exact h0)
          have hRel : Hid (Measuring w zs (gk - 1) (.int .i64 ((rl + (1 + z.length) : Nat) : Int)) (.int .i64 ((max dr (dz + i + 1) : Nat) : Int)) (.int .i64 ((i + 1 : Nat) : Int)) w3) := by
            obtain ⟨k1, k2⟩ := HRl.out
            refine ⟨i + 1, by have := HK.out; omega, rfl, ?_, ?_, ?_, ?_, hB3.out⟩
            · rw [HE.out, Tm.rowL_len_snoc, k1]
            · rw [HE.out, Tm.deepR_snoc, k2, HDz.out, List.length_take, show min i zs.length = i by omega]
            · rw [HE.out, Tm.wrongIn_snoc, HW.out, HDz.out]; simp; exact h0
            · rw [HE.out, Tm.rowL_len_snoc, k1, Nat.add_mul]; omega
          go_wp2
          go_roundg (gk - 1)
          case measure => exact hgk
          case rel =>
            have := hRel.out
            rw [show ((max dr (dz + i + 1) : Nat) : Int) = max (dr : Int) ((dz : Int) + i + 1) by omega, show ((rl + (1 + z.length) : Nat) : Int) = (rl : Int) + (1 + z.length) by omega] at this
            exact this
      · obtain rfl : i = zs.length := by omega
        have j2 : ¬ ((zs.length : Int) < (zs.length : Int)) := by omega
        rw [List.take_length] at hb hdl hw ⊢
        have hr := HR.out
        rw [if_neg (by rw [hw]; simp; omega)] at hr
        clear hB hw hk
        obtain ⟨rl, hrl⟩ : ∃ rl, (Tm.rowL zs).length = rl := ⟨_, rfl⟩
        obtain ⟨dr, hdr⟩ : ∃ dr, Tm.deepR zs = dr := ⟨_, rfl⟩
        rw [hrl] at hb hr ⊢
        rw [hdr] at hdl hr ⊢
        clear hrl hdr HR
        by_cases h1 : 20000 < rl
        · rw [if_pos h1] at hr
          subst hr
          have j3 : (20000 : Int) < (rl : Int) := by omega
          go_wp2
          go_ret2
          exact ⟨rfl, HB.out⟩
        · rw [if_neg h1] at hr
          have j3 : ¬ ((20000 : Int) < (rl : Int)) := by omega
          by_cases h2 : 400 < dr
          · rw [if_pos h2] at hr
            subst hr
            have j4 : (400 : Int) < (dr : Int) := by omega
            go_wp2
            go_ret2
            exact ⟨rfl, HB.out⟩
          · rw [if_neg h2] at hr
            subst hr
            have j4 : ¬ ((400 : Int) < (dr : Int)) := by omega
            go_wp2
            go_ret2
            exact ⟨rfl, HB.out⟩

end Go.Proofs.Ytckmpbmlneionaa
