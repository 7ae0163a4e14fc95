/- Contract of the document's own All (gemotref2): all terms that stand in a right one, by bytes, each once. -/
import Derived.Test.YtanfhnpnpdecnaaRPut
import Derived.Test.YtanfhnpnpdecnaaRef2b
namespace Go.Proofs.Ytanfhnpnpdecnaa
open Go.ChangeShapes Go.WideShapes Go.ChangeAt Go.RowKit

def AllOut (w : World) (t : List UInt8) (e : Ending) (w' : World) : Prop :=
  ∃ v ys, e = .returned v ∧ Reads w' v ys ∧ ys.Pairwise Tm.strict ∧ (∀ x, x ∈ ys ↔ Tm.Sub t x) ∧ ys.length ≤ t.length ∧ Below w.heap.size w w'

def Gathering (t : List UInt8) (ps : List (List UInt8)) (w : World) (K : Nat) (v3 v5 : Value) (wr : World) : Prop :=
  ∃ (i : Nat) (out : List (List UInt8)), K + i = ps.length ∧ v5 = .int .i64 i ∧ Reads wr v3 out ∧ out.Pairwise Tm.strict ∧ (∀ x, x ∈ out ↔ x = t ∨ ∃ p ∈ ps.take i, Tm.Sub p x) ∧ out.length ≤ 1 + (ps.take i).flatten.length ∧ Below w.heap.size w wr
def Merging (out0 ks : List (List UInt8)) (V : World) (K : Nat) (v3 v7 : Value) (wr : World) : Prop :=
  ∃ (j : Nat) (out : List (List UInt8)), K + j = ks.length ∧ v7 = .int .i64 j ∧ Reads wr v3 out ∧ out.Pairwise Tm.strict ∧ (∀ x, x ∈ out ↔ x ∈ out0 ∨ x ∈ ks.take j) ∧ out.length ≤ out0.length + j ∧ Below V.heap.size V wr

theorem sub_iff {t : List UInt8} (x : List UInt8) : Tm.Sub t x ↔ x = t ∨ ∃ p ∈ Tm.ofL t, Tm.Sub p x := by
  constructor
  · intro h
    cases h with
    | self _ => exact .inl rfl
    | part hp hx => exact .inr ⟨_, hp, hx⟩
  · rintro (rfl | ⟨p, hp, hx⟩)
    · exact .self _
    · exact .part hp hx
theorem take_flat_le (ps : List (List UInt8)) (i : Nat) : (ps.take i).flatten.length ≤ ps.flatten.length := by
  have h := congrArg (fun l : List (List UInt8) => l.flatten.length) (List.take_append_drop i ps)
  simp only [List.flatten_append, List.length_append] at h
  omega

set_option maxRecDepth 100000 in
set_option maxHeartbeats 8000000 in
theorem RAll_right (n : Nat) : ∀ (t : List UInt8), t.length ≤ n → Tm.right t = true → ∀ w, Calls Try.prog 20 #[.string ⟨t.toArray⟩] w (AllOut w t) := by
  induction n with
  | zero =>
    intro t hn hr
    have := (Tm.right_ne_nil hr).2
    omega
  | succ n ih =>
    intro t hn hr w
    have et : (⟨t.toArray⟩ : ByteArray).data.toList = t := by simp
    obtain ⟨o1, o2, o3, o4, o5, o6⟩ := Tm.ofL_ok hr
    have hb0 := Tm.right_begin hr
    have htl := (Tm.right_ne_nil hr).2
    have cK := fun W => RKind_calls ⟨t.toArray⟩ (by rw [size_list]; omega) W
    have cO := fun W => ROf_calls ⟨t.toArray⟩ (by rw [size_list]; omega) W
    rw [et] at cK cO
    unfold Tm.partsOfT at cO
    rw [if_pos hr] at cO
    have hk0 : ((Tm.kindOf t).toNat : Int) ≠ 0 := by
      have hkk : Tm.kindOf t = t.getD 0 0 := by unfold Tm.kindOf; rw [if_pos hr]
      rw [hkk]
      intro h
      have h0 : t.getD 0 0 = 0 := by apply UInt8.toNat_inj.1; simpa using h
      obtain ⟨_, hh0⟩ := Tm.head_of_right hr
      have hne := (Tm.right_ne_nil hr).1
      apply hh0
      unfold Tm.headOf
      rw [if_neg hne, h0]
      rfl
    have hk1 : (((Tm.kindOf t).toNat : Int) == 0) = false := by rw [beq_eq_false_iff_ne]; exact hk0
    have hfl : (Tm.ofL t).flatten.length + 1 ≤ t.length := by rw [o1, List.length_drop]; omega
    have HS := Lib.hid (fun x => sub_iff (t := t) x)
    have HI : Hid (∀ p ∈ Tm.ofL t, ∀ W, Calls Try.prog 20 #[.string ⟨p.toArray⟩] W (AllOut W p)) := fun p hp W => ih p (by have := (o2 p hp).2.2; omega) ((Tm.right_iff p).2 (o2 p hp).1) W
    have hps : (Tm.ofL t).length ≤ 32 := by rw [o3]; exact (Tm.begin_le _).2
    generalize Tm.kindOf t = c at *
    generalize Tm.ofL t = ps at *
    have HK := Lib.hid cK
    have HO := Lib.hid cO
    clear ih cK cO o1 o2 o3 o4 o5 hr et hb0 hk0
    go_enter Try.func20, Try.ntmps20
    go_wp2_with fail
    refine (HK.out _).mono ?_
    rintro e' w' ⟨rfl, md, rfl⟩
    go_wp2_with fail
    refine (HO.out _).mono ?_
    rintro e' w2 ⟨v4, rfl, hrow, b2⟩
    have B1 : Below w.heap.size w ((w.drewN md).alloc (.cells #[.string ⟨t.toArray⟩] 9)) := (below_drewN (Below.refl w.heap.size w) md).alloc (Nat.le_refl _) _
    have B2 : Below w.heap.size w w2 := B1.trans (b2.mono B1.size)
    have hlit : Reads w2 (.slice (some ⟨w.heap.size, 0, none⟩) 1 1) [t] := by
      refine Reads.below (w := (w.drewN md).alloc (.cells #[.string ⟨t.toArray⟩] 9)) ?_ b2
      refine ⟨some ⟨w.heap.size, 0, none⟩, 1, rfl, fun j x hx => ⟨w.heap.size, rfl, by simp, ?_⟩⟩
      exact text_cells (xs := [t]) (heap_alloc_new (w.drewN md) _) j x hx
    obtain ⟨A4, c4, rfl, hA4⟩ := reads_of_row hrow
    have HA4 := Lib.hid hA4
    have HG : Hid (Gathering t ps w ps.length (.slice (some ⟨w.heap.size, 0, none⟩) 1 1) (.int .i64 0) w2) :=
      ⟨0, [t], by omega, rfl, hlit, List.pairwise_singleton _ _, by simp, by simp, B2⟩
    have hsz2 := B2.size
    have HB2 := Lib.hid B2
    clear hrow b2 B1 hlit hA4 B2
    go_wp2
    go_loopg [3, 5] ps.length (fun K v3 v5 wr => Below w2.heap.size w2 wr ∧ Gathering t ps w K v3 v5 wr)
    case atStart => exact ⟨Below.refl _ _, HG.out⟩
    case round =>
      clear HG
      obtain ⟨hb2, i, out, hK, rfl, hR, hst, hmem, hlen, hbel⟩ := hrel
      have HR := Lib.hid hR
      have HM := Lib.hid (And.intro hst (And.intro hmem hlen))
      clear hst hmem
      by_cases hil : i < ps.length
      · obtain ⟨p, hp⟩ : ∃ p, ps[i]? = some p := ⟨_, List.getElem?_eq_getElem hil⟩
        obtain ⟨g4, rfl, hg4, hc4⟩ := HA4.out i p hp
        have hcell : wr.cell? ⟨g4, i, none⟩ = some (.string ⟨p.toArray⟩) := (hb2.cell (p := ⟨g4, i, none⟩) hg4).trans hc4
        have j1 : (i : Int) < (ps.length : Int) := by omega
        have j2 : (0 : Int) ≤ (i : Int) := by omega
        have cI := fun W => HI.out p (List.mem_of_getElem? hp) W
        have HC := Lib.hid cI
        have htk : Hid (ps.take (i + 1) = ps.take i ++ [p]) := by show _ = _; rw [List.take_add_one, hp]; rfl
        have hfi := take_flat_le ps (i + 1)
        have hpl : p.length + (ps.take i).flatten.length = (ps.take (i + 1)).flatten.length := by rw [htk.out]; simp; omega
        clear cI hp hc4 hR
        go_wp2_with fail
        refine (HC.out _).mono ?_
        rintro e' w3 ⟨v6, ks, rfl, hRk, hsk, hmk, hlk, b3⟩
        obtain ⟨A3, c3, hv3, _⟩ := HR.out
        obtain ⟨A6, c6, rfl, hA6⟩ := hRk
        have B3 : Below w.heap.size w w3 := hbel.trans (b3.mono hbel.size)
        have B32 : Below w2.heap.size w2 w3 := hb2.trans (b3.mono hb2.size)
        have HA6 := Lib.hid hA6
        have HMk := Lib.hid hmk
        have HG2 : Hid (Merging out ks w3 ks.length u3 (.int .i64 0) w3) := ⟨0, out, by omega, rfl, HR.out.below b3, HM.out.1, by simp, by omega, Below.refl _ _⟩
        have hsz3 := B3.size
        clear hA6 hmk hsk b3 hbel hb2 hcell hv3
        go_wp2
        go_loopg [3, 7] ks.length (fun K v3 v7 wr => Merging out ks w3 K v3 v7 wr)
        case atStart => exact HG2.out
        case round =>
          clear HG2
          obtain ⟨j, out2, hK2, rfl, hR2, hst2, hmem2, hlen2, hbel2⟩ := hrel
          by_cases hjl : j < ks.length
          · obtain ⟨x, hx⟩ : ∃ x, ks[j]? = some x := ⟨_, List.getElem?_eq_getElem hjl⟩
            obtain ⟨g6, rfl, hg6, hc6⟩ := HA6.out j x hx
            have hcell6 : wr.cell? ⟨g6, j, none⟩ = some (.string ⟨x.toArray⟩) := (hbel2.cell (p := ⟨g6, j, none⟩) hg6).trans hc6
            have l1 : (j : Int) < (ks.length : Int) := by omega
            have l2 : (0 : Int) ≤ (j : Int) := by omega
            have cP := RPut_calls out2 u3 x wr hR2 (by omega) hst2
            have HP := Lib.hid cP
            have htk2 : Hid (ks.take (j + 1) = ks.take j ++ [x]) := by show _ = _; rw [List.take_add_one, hx]; rfl
            have HM2 := Lib.hid hmem2
            clear cP hx hc6 hR2 hst2 hmem2
            go_wp2_with fail
            refine HP.out.mono ?_
            rintro e' w4 ⟨v', ys, rfl, hRy, hsy, hmy, hly, b4⟩
            have B4 : Below w3.heap.size w3 w4 := hbel2.trans (b4.mono hbel2.size)
            have HMy := Lib.hid hmy
            clear hmy b4 hbel2 hcell6
            go_wp2
            go_roundg (gk - 1)
            case measure => omega
            case rel =>
              refine ⟨j + 1, ys, by omega, rfl, hRy, hsy, ?_, by omega, B4⟩
              intro z
              rw [HMy.out z, HM2.out z, htk2.out]
              simp only [List.mem_append, List.mem_singleton]
              constructor
              · rintro ((h | h) | h)
                · exact .inl h
                · exact .inr (.inl h)
                · exact .inr (.inr h)
              · rintro (h | h | h)
                · exact .inl (.inl h)
                · exact .inl (.inr h)
                · exact .inr h
          · obtain rfl : j = ks.length := by omega
            have l1 : ¬ ((ks.length : Int) < (ks.length : Int)) := by omega
            rw [List.take_length] at hmem2
            have HM2 := Lib.hid hmem2
            clear hmem2
            go_wp2
            go_roundg (ps.length - (i + 1))
            case measure => omega
            case rel =>
              refine ⟨B32.trans (hbel2.mono B32.size), i + 1, out2, by omega, rfl, hR2, hst2, ?_, by omega, B3.trans (hbel2.mono B3.size)⟩
              intro z
              rw [HM2.out z, HM.out.2.1 z, HMk.out z, htk.out]
              simp only [List.mem_append, List.mem_singleton]
              constructor
              · rintro ((h | ⟨q, hq, hz⟩) | h)
                · exact .inl h
                · exact .inr ⟨q, .inl hq, hz⟩
                · exact .inr ⟨p, .inr rfl, h⟩
              · rintro (h | ⟨q, hq | rfl, hz⟩)
                · exact .inl (.inl h)
                · exact .inl (.inr ⟨q, hq, hz⟩)
                · exact .inr hz
      · obtain rfl : i = ps.length := by omega
        have j1 : ¬ ((ps.length : Int) < (ps.length : Int)) := by omega
        clear hR
        go_wp2
        go_ret
        refine ⟨_, out, rfl, HR.out, HM.out.1, ?_, ?_, hbel⟩
        · intro x
          rw [HM.out.2.1 x, List.take_length]
          exact (HS.out x).symm
        · have := HM.out.2.2
          rw [List.take_length] at this
          omega

end Go.Proofs.Ytanfhnpnpdecnaa
