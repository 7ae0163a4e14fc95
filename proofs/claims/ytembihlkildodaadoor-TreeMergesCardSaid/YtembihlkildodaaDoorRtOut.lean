/- The document's out. -/
import Derived.Test.YtembihlkildodaaDoorRtPut
namespace Go.Proofs.YtembihlkildodaaDoor.L13
open Go.ChangeShapes Go.WideShapes Go.ChangeAt Go.RowKit Go.Deep
open Go.Proofs.YtembihlkildodaaDoor.L5 (One)

def outT (r : Option Tr) : List UInt8 := match r with | none => [] | some u => u.text
theorem text_cons (t : Tr) : ∃ b x, t.text = b :: x := by cases t <;> exact ⟨_, _, rfl⟩
theorem out_len {t : Tr} (o : t.ok) (p : Nat) : (outT (t.out p)).length ≤ 22 := by
  unfold outT
  have := t.out_procs p
  cases h : t.out p with
  | none => simp
  | some u =>
    rw [h] at this
    exact (o.out this).len
set_option maxRecDepth 100000 in
set_option maxHeartbeats 8000000 in
theorem rout_calls (p : Nat) (hp : 1 ≤ p ∧ p ≤ 8) : ∀ (t : Tr), t.ok → ∀ w : World, Calls Tryd.prog 43 #[.string ⟨t.text.toArray⟩, .int .i64 p] w (One w (.string ⟨(outT (t.out p)).toArray⟩)) := by
  intro t
  induction t with
  | leaf q =>
    intro o w
    have h1 : ((Tr.leaf q).text.length : Int) = 1 := rfl
    have HL := Lib.hid (fun V => rleaf_calls p hp V)
    by_cases e : q = p
    · subst e
      rw [show outT ((Tr.leaf q).out q) = [] by simp [Tr.out, outT]]
      clear o hp
      generalize (Tr.leaf q).text = x at *
      go_enter Tryd.func43, Tryd.ntmps43
      go_wp2_with fail
      refine (HL.out _).mono ?_
      rintro e w2 ⟨rfl, rfl⟩
      go_wp2
      go_ret
      exact ⟨by simp, Below.refl _ _⟩
    · rw [show outT ((Tr.leaf q).out p) = (Tr.leaf q).text by simp [Tr.out, outT, e]]
      have hne : ¬ (Tr.leaf q).text = (Tr.leaf p).text := fun g => by
        have := text_inj o (Tr.ok.leaf hp.1 hp.2) g
        injection this with h
        exact e h
      clear o hp e
      generalize (Tr.leaf q).text = x at *
      generalize (Tr.leaf p).text = y at *
      have hne' : (x == y) = false := by rw [beq_eq_false_iff_ne]; exact hne
      go_enter Tryd.func43, Tryd.ntmps43
      go_wp2_with fail
      refine (HL.out _).mono ?_
      rintro e w2 ⟨rfl, rfl⟩
      go_wp2
      go_ret
      exact ⟨by simp, Below.refl _ _⟩
  | node l r hl hr =>
    intro o w
    have h1 := node_len l r
    have hP := o.parts w
    have HL := Lib.hid (fun V => hl o.left V)
    have HR := Lib.hid (fun V => hr o.right V)
    have ll := out_len o.left p
    have lr := out_len o.right p
    have hcat := cat_bytes
    rw [show (Tr.node l r).out p = both (l.out p) (r.out p) from rfl]
    clear hl hr o hp
    generalize (Tr.node l r).text = x at *
    generalize l.text = lx at *
    generalize r.text = rx at *
    generalize l.out p = ol at *
    generalize r.out p = or1 at *
    cases ol with
    | none =>
      rw [show both none or1 = or1 from rfl]
      rw [show outT none = [] from rfl] at HL
      clear ll
      generalize outT or1 = y at *
      go_enter Tryd.func43, Tryd.ntmps43
      go_wp2_with fail
      refine hP.mono ?_
      rintro e w1 ⟨rfl, b1⟩
      have B1 := Lib.hid b1
      clear b1 hP
      go_wp2_with fail
      refine (HL.out _).mono ?_
      rintro e w2 ⟨rfl, b2⟩
      have B2 := Lib.hid (B1.out.trans (b2.mono B1.out.size))
      clear b2
      go_wp2_with fail
      refine (HR.out _).mono ?_
      rintro e w3 ⟨rfl, b3⟩
      have B3 := Lib.hid (B2.out.trans (b3.mono B2.out.size))
      clear b3 HL HR
      go_wp2
      go_ret
      exact ⟨by simp, B3.out⟩
    | some a =>
      obtain ⟨b0, x0, hx⟩ := text_cons a
      rw [show outT (some a) = a.text from rfl, hx] at ll HL
      rw [List.length_cons] at ll
      have ll' : x0.length ≤ 21 := by omega
      cases or1 with
      | none =>
        rw [show both (some a) none = some a from rfl, show outT (some a) = a.text from rfl, hx]
        rw [show outT none = [] from rfl] at lr HR
        clear hx
        go_enter Tryd.func43, Tryd.ntmps43
        go_wp2_with fail
        refine hP.mono ?_
        rintro e w1 ⟨rfl, b1⟩
        have B1 := Lib.hid b1
        clear b1 hP
        go_wp2_with fail
        refine (HL.out _).mono ?_
        rintro e w2 ⟨rfl, b2⟩
        have B2 := Lib.hid (B1.out.trans (b2.mono B1.out.size))
        clear b2
        go_wp2_with fail
        refine (HR.out _).mono ?_
        rintro e w3 ⟨rfl, b3⟩
        have B3 := Lib.hid (B2.out.trans (b3.mono B2.out.size))
        clear b3 HL HR
        go_wp2
        go_ret
        exact ⟨by simp, B3.out⟩
      | some b =>
        obtain ⟨b1, x1, hx1⟩ := text_cons b
        rw [show outT (some b) = b.text from rfl, hx1] at lr HR
        rw [List.length_cons] at lr
        have lr' : x1.length ≤ 21 := by omega
        rw [show both (some a) (some b) = some (.node a b) from rfl, show outT (some (.node a b)) = 40 :: (a.text ++ (b.text ++ [41])) from rfl, hx, hx1]
        clear hx hx1
        go_enter Tryd.func43, Tryd.ntmps43
        go_wp2_with fail
        refine hP.mono ?_
        rintro e w1 ⟨rfl, b1⟩
        have B1 := Lib.hid b1
        clear b1 hP
        go_wp2_with fail
        refine (HL.out _).mono ?_
        rintro e w2 ⟨rfl, b2⟩
        have B2 := Lib.hid (B1.out.trans (b2.mono B1.out.size))
        clear b2
        go_wp2_with fail
        refine (HR.out _).mono ?_
        rintro e w3 ⟨rfl, b3⟩
        have B3 := Lib.hid (B2.out.trans (b3.mono B2.out.size))
        clear b3 HL HR
        go_wp2
        go_ret
        exact ⟨by simp, B3.out⟩
end Go.Proofs.YtembihlkildodaaDoor.L13
