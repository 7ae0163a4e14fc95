/- The document's At and Beside. -/
import Derived.Test.YtlpabhgfmkilnaaPlLaw
import Derived.Test.YtlpabhgfmkilnaaRtRight
import Derived.Test.YtlpabhgfmkilnaaRtMems
import Derived.Test.YtlpabhgfmkilnaaRtPart
namespace Go.Proofs.Ytlpabhgfmkilnaa.L14
open Go.ChangeShapes Go.WideShapes Go.ChangeAt Go.RowKit Go.Deep
open Go.Proofs.Ytlpabhgfmkilnaa.L13
open Go.Proofs.Ytlpabhgfmkilnaa.L5 (One)

theorem ok_low {t : Tr} (h : t.ok) : t.low := h.small
theorem at_take {t : Tr} {node : List UInt8} {i : Nat} {b : UInt8} {u : Tr} (hu : t.at (node.take i) = some u) (hb : node[i]? = some b) : t.at (node.take (i + 1)) = u.at [b] := by
  rw [List.take_add_one, hb, Tr.at_append, hu]
  rfl
theorem at_cut {t : Tr} {node : List UInt8} {i : Nat} {b : UInt8} {u : Tr} (hu : t.at (node.take i) = some u) (hb : node[i]? = some b) (hn : u.at [b] = none) : t.at node = none := by
  have e : node = node.take (i + 1) ++ node.drop (i + 1) := (List.take_append_drop _ _).symm
  rw [e, Tr.at_append, at_take hu hb, hn]
  rfl
def AtRel (w : World) (t : Tr) (node : List UInt8) (k : Nat) (v0 v6 : Value) (wr : World) : Prop := ∃ (i : Nat) (u : Tr), k + i = node.length ∧ v6 = .int .i64 i ∧ v0 = .string ⟨u.text.toArray⟩ ∧ t.at (node.take i) = some u ∧ u.ok ∧ Below w.heap.size w wr
set_option maxRecDepth 100000 in
set_option maxHeartbeats 8000000 in
theorem rat_calls (x node : List UInt8) (hx : x.length ≤ 90) (hn : node.length ≤ 90) (w : World) : Calls Try.prog 6 #[.string ⟨x.toArray⟩, .string ⟨node.toArray⟩] w (Str2 w (atX x node)) := by
  have hR := rright_calls x (by omega) w
  unfold atX
  cases hr : readT x with
  | none =>
    rw [hr, show Option.isSome (none : Option Tr) = false from rfl] at hR
    clear hr
    dsimp only
    go_enter Try.func6, Try.ntmps6
    go_wp2_with (go_at_call 22; refine hR.mono ?_; rintro e w1 ⟨rfl, b1⟩; have HB := Lib.hid b1; clear b1)
    go_ret2
    exact ⟨rfl, HB.out⟩
  | some t =>
    rw [hr, show Option.isSome (some t) = true from rfl] at hR
    obtain ⟨rfl, ho⟩ := readT_some hr
    have HSt : Hid (∀ V, Below w.heap.size w V → AtRel w t node node.length (.string ⟨t.text.toArray⟩) (.int .i64 0) V) := fun V hV => ⟨0, t, by omega, rfl, rfl, by rw [List.take_zero, Tr.at_nil], ho, hV⟩
    clear hr ho hx
    dsimp only
    obtain ⟨r, hr⟩ : ∃ r, t.at node = r := ⟨_, rfl⟩
    rw [hr]
    have Hr := Lib.hid hr
    clear hr
    obtain ⟨tx, htx⟩ : ∃ tx, t.text = tx := ⟨_, rfl⟩
    rw [htx] at HSt hR ⊢
    clear htx
    have hsz : (⟨node.toArray⟩ : ByteArray).size = node.length := rfl
    go_enter Try.func6, Try.ntmps6
    go_wp2_with (go_at_call 22; refine hR.mono ?_; rintro e w1 ⟨rfl, b1⟩; have HS1 := Lib.hid (HSt.out w1 b1); clear b1)
    clear HSt hR
    go_loopg [0, 6] node.length (fun k v0 v6 wr => AtRel w t node k v0 v6 wr)
    case atStart => exact HS1.out
    case round =>
      clear HS1
      obtain ⟨i, u, hk, rfl, rfl, hu, hou, hb⟩ := hrel
      have HBr := Lib.hid hb
      by_cases hil : i < node.length
      · obtain ⟨b, hb1⟩ : ∃ b, node[i]? = some b := ⟨_, List.getElem?_eq_getElem hil⟩
        have hbx : (⟨node.toArray⟩ : ByteArray)[i]'(by rw [hsz]; exact hil) = b := by
          show node[i] = b
          exact (List.getElem?_eq_some_iff.1 hb1).2
        have j1 : (i : Int) < (node.length : Int) := by omega
        have j2 : (0 : Int) ≤ (i : Int) := by omega
        obtain ⟨g1, hg1⟩ : ∃ g1, gk - 1 = g1 := ⟨_, rfl⟩
        have hgk := Lib.hid (show g1 < gk by omega)
        have hnx := at_take hu hb1
        cases u with
        | leaf p =>
          have hnone : r = none := by rw [← Hr.out]; exact at_cut hu hb1 rfl
          have hl1 : (⟨(Tr.leaf p).text.toArray⟩ : ByteArray).size = 1 := rfl
          subst hnone
          clear hu hou hb hb1 hk hg1 hnx Hr
          generalize (Tr.leaf p).text = lx at *
          go_wp2
          go_ret2
          exact ⟨rfl, HBr.out⟩
        | node l q =>
          have hl22 := hou.len
          have hlen2 : (Tr.node l q).text.length = l.text.length + q.text.length + 2 := by simp [Tr.text]; omega
          have hPt := parts_calls (ok_low hou) (by omega) wr
          have hszu : (⟨(Tr.node l q).text.toArray⟩ : ByteArray).size = (Tr.node l q).text.length := rfl
          have hl1 : (((Tr.node l q).text.length : Int) == 1) = false := by rw [beq_eq_false_iff_ne]; omega
          have HStep : ∀ (v : Tr), t.at (node.take (i + 1)) = some v → v.ok → Hid (∀ V, Below w.heap.size w V → AtRel w t node g1 (.string ⟨v.text.toArray⟩) (.int .i64 ((i + 1 : Nat) : Int)) V) := fun v h1 h2 V hV => ⟨i + 1, v, by omega, rfl, rfl, h1, h2, hV⟩
          by_cases h108 : b = 108
          · have HR := HStep l (by rw [hnx]; simp [Tr.at, h108, Tr.at_nil]) hou.left
            subst h108
            clear hu hou hb hb1 hk hg1 hnx hlen2 hl22 HStep
            generalize (Tr.node l q).text = ux at *
            go_wp2_with (go_at_call 23; refine hPt.mono ?_; rintro e w2 ⟨rfl, b2⟩; have HB2 := Lib.hid (HBr.out.trans (b2.mono HBr.out.size)); clear b2)
            go_roundg g1
            case measure => exact hgk.out
            case rel => exact HR.out _ HB2.out
          · by_cases h114 : b = 114
            · have HR := HStep q (by rw [hnx]; simp [Tr.at, h114, Tr.at_nil]) hou.right
              subst h114
              clear hu hou hb hb1 hk hg1 hnx hlen2 hl22 HStep h108
              generalize (Tr.node l q).text = ux at *
              go_wp2_with (go_at_call 23; refine hPt.mono ?_; rintro e w2 ⟨rfl, b2⟩; have HB2 := Lib.hid (HBr.out.trans (b2.mono HBr.out.size)); clear b2)
              go_roundg g1
              case measure => exact hgk.out
              case rel => exact HR.out _ HB2.out
            · have hnone : r = none := by rw [← Hr.out]; exact at_cut hu hb1 (by simp [Tr.at, h108, h114])
              have c1 : ((b.toNat : Int) == 108) = false := by rw [beq_eq_false_iff_ne]; exact fun e => h108 (UInt8.toNat_inj.1 (by simpa using (by omega : b.toNat = 108)))
              have c2 : ((b.toNat : Int) == 114) = false := by rw [beq_eq_false_iff_ne]; exact fun e => h114 (UInt8.toNat_inj.1 (by simpa using (by omega : b.toNat = 114)))
              have c3 : ((b.toNat : Int) != 108) = true := by rw [bne, c1]; rfl
              have c4 : ((b.toNat : Int) != 114) = true := by rw [bne, c2]; rfl
              subst hnone
              clear hu hou hb hb1 hk hg1 hnx Hr hlen2 hl22 HStep h108 h114 hPt
              generalize (Tr.node l q).text = ux at *
              go_wp2
              go_ret2
              exact ⟨rfl, HBr.out⟩
      · have hie : i = node.length := by omega
        rw [hie, List.take_length] at hu
        have hsome : r = some u := by rw [← Hr.out]; exact hu
        have j1 : ¬ (i : Int) < (node.length : Int) := by omega
        subst hsome
        clear hu hou hb hk Hr hil hie
        go_wp2
        go_ret2
        exact ⟨rfl, HBr.out⟩
set_option maxHeartbeats 4000000 in
theorem rbeside_calls (x : List UInt8) (hl : x.length ≤ 1000) (w : World) : Calls Try.prog 13 #[.string ⟨x.toArray⟩] w (One w (.string ⟨(besideL x).toArray⟩)) := by
  by_cases h : x = []
  · subst h
    rw [besideL_nil]
    go_enter Try.func13, Try.ntmps13
    go_wp2
    go_ret
    exact ⟨rfl, Below.refl _ _⟩
  · obtain ⟨y, b, e, e2⟩ := besideL_ne h
    rw [e2]
    have hlen : x.length = y.length + 1 := by rw [e]; simp
    have s1 : (⟨x.toArray⟩ : ByteArray).extract 0 y.length = ⟨y.toArray⟩ := by rw [slice_list14, e]; simp
    have hsz : (⟨x.toArray⟩ : ByteArray).size = x.length := rfl
    have hx : (x == []) = false := by rw [beq_eq_false_iff_ne]; exact h
    have hcat := cat_bytes14
    have hty : turn b = if b = 108 then 114 else 108 := rfl
    obtain ⟨m, hm⟩ : ∃ m, y.length = m := ⟨_, rfl⟩
    have n1 : (x.length : Int) - 1 = (m : Int) := by omega
    have n2 : (m : Int) ≤ (x.length : Int) := by omega
    have n3 : m ≤ x.length := by omega
    have n4 : (0 : Int) ≤ (m : Int) := by omega
    have n5 : (m : Int) < (x.length : Int) := by omega
    have n6 : m < x.length := by omega
    have hbx : (⟨x.toArray⟩ : ByteArray)[m]'(by rw [hsz]; exact n6) = b := by
      show x[m] = b
      have : x[m]? = some b := by rw [e, ← hm]; simp
      exact (List.getElem?_eq_some_iff.1 this).2
    rw [hm] at s1
    have hml : y.length ≤ 1000 := by omega
    clear e e2 h hlen hm
    by_cases hb : b = 108
    · subst hb
      rw [hty, if_pos rfl]
      go_enter Try.func13, Try.ntmps13
      go_wp2
      go_ret
      exact ⟨by simp, Below.refl _ _⟩
    · have c1 : ((b.toNat : Int) == 108) = false := by rw [beq_eq_false_iff_ne]; exact fun e => hb (UInt8.toNat_inj.1 (by simpa using (by omega : b.toNat = 108)))
      rw [hty, if_neg hb]
      go_enter Try.func13, Try.ntmps13
      go_wp2
      go_ret
      exact ⟨by simp, Below.refl _ _⟩
end Go.Proofs.Ytlpabhgfmkilnaa.L14
