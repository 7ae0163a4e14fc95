/- The document's put, out, Leaf, Join, Leave, Members, Depth. -/
import Derived.Test.YtembihlkildodaaDoorRtDeep
import Derived.Test.YtembihlkildodaaDoorTrRb
namespace Go.Proofs.YtembihlkildodaaDoor.L13
open Go.ChangeShapes Go.WideShapes Go.ChangeAt Go.RowKit Go.Deep
open Go.Proofs.YtembihlkildodaaDoor.L5 (One)

theorem node_text (l r : Tr) : (Tr.node l r).text = 40 :: (l.text ++ (r.text ++ [41])) := rfl
set_option maxRecDepth 100000 in
set_option maxHeartbeats 8000000 in
theorem rput_calls (p : Nat) (hp : 1 ≤ p ∧ p ≤ 8) : ∀ (t : Tr), t.ok → ∀ w : World, Calls Tryd.prog 39 #[.string ⟨t.text.toArray⟩, .int .i64 (t.best : Int), .int .i64 p] w (One w (.string ⟨(t.put p).text.toArray⟩)) := by
  intro t
  induction t with
  | leaf q =>
    intro o w
    have hF := rfull_calls o w
    rw [show (Tr.leaf q).full = true from rfl] at hF
    have HL := Lib.hid (fun V => rleaf_calls p hp V)
    have hcat := cat_bytes
    have l1 := o.len
    have l2 := (Tr.ok.leaf hp.1 hp.2).len
    rw [show (Tr.leaf q).put p = .node (.leaf q) (.leaf p) from rfl, node_text]
    clear o hp
    generalize (Tr.leaf q).best = d at *
    generalize (Tr.leaf q).text = x at *
    generalize (Tr.leaf p).text = y at *
    go_enter Tryd.func39, Tryd.ntmps39
    go_wp2_with fail
    refine hF.mono ?_
    rintro e w1 ⟨rfl, b1⟩
    have B1 := Lib.hid b1
    clear b1 hF
    go_wp2_with fail
    refine (HL.out _).mono ?_
    rintro e w2 ⟨rfl, rfl⟩
    go_wp2
    go_ret
    exact ⟨by simp, B1.out⟩
  | node l r hl hr =>
    intro o w
    have hF := rfull_calls o w
    have l1 := o.left.len
    have l2 := o.right.len
    have hcat := cat_bytes
    by_cases hf : (Tr.node l r).full = true
    · rw [hf] at hF
      have HL := Lib.hid (fun V => rleaf_calls p hp V)
      have l3 := o.len
      have l4 := (Tr.ok.leaf hp.1 hp.2).len
      rw [Tr.put, if_pos hf, node_text (.node l r) (.leaf p)]
      clear o hp hl hr hf l1 l2
      generalize (Tr.node l r).best = d at *
      generalize (Tr.node l r).text = x at *
      generalize (Tr.leaf p).text = y at *
      go_enter Tryd.func39, Tryd.ntmps39
      go_wp2_with fail
      refine hF.mono ?_
      rintro e w1 ⟨rfl, b1⟩
      have B1 := Lib.hid b1
      clear b1 hF
      go_wp2_with fail
      refine (HL.out _).mono ?_
      rintro e w2 ⟨rfl, rfl⟩
      go_wp2
      go_ret
      exact ⟨by simp, B1.out⟩
    · rw [show (Tr.node l r).full = false by simpa using hf] at hF
      have hb : (Tr.node l r).best = min l.best r.best := by rw [Tr.best, if_neg hf]
      have HP := Lib.hid (fun V => o.parts V)
      have HPl := Lib.hid (fun V => rplace_calls r o.right V)
      rw [hb]
      by_cases hle : r.best ≤ l.best
      · have hm : min l.best r.best = r.best := by omega
        rw [hm]
        have HR := Lib.hid (fun V => hr o.right V)
        have l5 : (r.put p).text.length ≤ 1000 := o.right.put_len p
        rw [Tr.put, if_neg hf, if_pos hle, node_text l (r.put p)]
        clear o hp hl hr hf hb hle hm
        generalize (Tr.node l r).text = x at *
        generalize (r.put p).text = z at *
        generalize l.text = lx at *
        generalize r.text = rx at *
        generalize r.best = d at *
        go_enter Tryd.func39, Tryd.ntmps39
        go_wp2_with fail
        refine hF.mono ?_
        rintro e w1 ⟨rfl, b1⟩
        have B1 := Lib.hid b1
        clear b1 hF
        go_wp2_with fail
        refine (HP.out _).mono ?_
        rintro e w2 ⟨rfl, b2⟩
        have B2 := Lib.hid (B1.out.trans (b2.mono B1.out.size))
        clear b2
        go_wp2_with fail
        refine (HPl.out _).mono ?_
        rintro e w3 ⟨rfl, b3⟩
        have B3 := Lib.hid (B2.out.trans (b3.mono B2.out.size))
        clear b3
        go_wp2_with fail
        refine (HR.out _).mono ?_
        rintro e w4 ⟨rfl, b4⟩
        have B4 := Lib.hid (B3.out.trans (b4.mono B3.out.size))
        clear b4
        go_wp2
        go_ret
        exact ⟨by simp, B4.out⟩
      · have hm : min l.best r.best = l.best := by omega
        rw [hm]
        have HR := Lib.hid (fun V => hl o.left V)
        have l5 : (l.put p).text.length ≤ 1000 := o.left.put_len p
        have hne : ((r.best : Int) == (l.best : Int)) = false := by rw [beq_eq_false_iff_ne]; omega
        rw [Tr.put, if_neg hf, if_neg hle, node_text (l.put p) r]
        clear o hp hl hr hf hb hle hm
        generalize (Tr.node l r).text = x at *
        generalize (l.put p).text = z at *
        generalize l.text = lx at *
        generalize r.text = rx at *
        generalize l.best = d at *
        generalize r.best = d2 at *
        go_enter Tryd.func39, Tryd.ntmps39
        go_wp2_with fail
        refine hF.mono ?_
        rintro e w1 ⟨rfl, b1⟩
        have B1 := Lib.hid b1
        clear b1 hF
        go_wp2_with fail
        refine (HP.out _).mono ?_
        rintro e w2 ⟨rfl, b2⟩
        have B2 := Lib.hid (B1.out.trans (b2.mono B1.out.size))
        clear b2
        go_wp2_with fail
        refine (HPl.out _).mono ?_
        rintro e w3 ⟨rfl, b3⟩
        have B3 := Lib.hid (B2.out.trans (b3.mono B2.out.size))
        clear b3
        go_wp2_with fail
        refine (HR.out _).mono ?_
        rintro e w4 ⟨rfl, b4⟩
        have B4 := Lib.hid (B3.out.trans (b4.mono B3.out.size))
        clear b4
        go_wp2
        go_ret
        exact ⟨by simp, B4.out⟩
end Go.Proofs.YtembihlkildodaaDoor.L13
