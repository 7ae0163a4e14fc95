/- The document's deep, full, place, put and out. -/
import Derived.Test.YtembihlkildodaaDoorRtRight
namespace Go.Proofs.YtembihlkildodaaDoor.L13
open Go.ChangeShapes Go.WideShapes Go.ChangeAt Go.RowKit Go.Deep
open Go.Proofs.YtembihlkildodaaDoor.L5 (One)

theorem node_len (l r : Tr) : (((Tr.node l r).text.length : Int) == 1) = false := by
  rw [beq_eq_false_iff_ne]
  simp only [Tr.text, List.length_cons, List.length_append]
  omega
theorem Tr.ok.parts {l r : Tr} (h : (Tr.node l r).ok) (w : World) : Calls Tryd.prog 66 #[.string ⟨(Tr.node l r).text.toArray⟩] w fun e w' => e = .returned (.tuple #[.string ⟨l.text.toArray⟩, .string ⟨r.text.toArray⟩]) ∧ Below w.heap.size w w' := parts_calls h.small (by have := h.len; omega) w
set_option maxHeartbeats 4000000 in
theorem rdeep_calls : ∀ (t : Tr), t.ok → ∀ w : World, Calls Tryd.prog 47 #[.string ⟨t.text.toArray⟩] w (One w (.int .i64 (t.deep : Int))) := by
  intro t
  induction t with
  | leaf p =>
    intro o w
    have h1 : ((Tr.leaf p).text.length : Int) = 1 := rfl
    rw [show ((Tr.leaf p).deep : Int) = 0 from rfl]
    generalize (Tr.leaf p).text = x at *
    go_enter Tryd.func47, Tryd.ntmps47
    go_wp2
    go_ret
    exact ⟨rfl, Below.refl _ _⟩
  | node l r hl hr =>
    intro o w
    have h1 := node_len l r
    have hP := o.parts w
    have HL := Lib.hid (fun V => hl o.left V)
    have HR := Lib.hid (fun V => hr o.right V)
    have hd : (1 : Int) + max (l.deep : Int) (r.deep : Int) = ((Tr.node l r).deep : Int) := by simp only [Tr.deep]; omega
    have hd7 := o.deep8
    have hl7 := o.left.deep8
    have hr7 := o.right.deep8
    clear hl hr o
    generalize (Tr.node l r).text = x at *
    generalize (Tr.node l r).deep = d at *
    generalize l.text = lx at *
    generalize r.text = rx at *
    generalize l.deep = ld at *
    generalize r.deep = rd at *
    go_enter Tryd.func47, Tryd.ntmps47
    go_wp2_with fail
    refine hP.mono ?_
    rintro e w1 ⟨rfl, b1⟩
    have B1 := Lib.hid b1
    clear b1 hP
    go_wp2_with fail
    refine (HL.out _).mono ?_
    rintro e w2 ⟨rfl, b2⟩
    have B2 := Lib.hid (B1.out.trans (b2.mono B1.out.size))
    clear b2
    go_wp2_with fail
    refine (HR.out _).mono ?_
    rintro e w3 ⟨rfl, b3⟩
    have B3 := Lib.hid (B2.out.trans (b3.mono B2.out.size))
    clear b3
    go_wp2
    go_ret
    exact ⟨rfl, B3.out⟩
set_option maxHeartbeats 4000000 in
theorem rfull_calls {t : Tr} (o : t.ok) (w : World) : Calls Tryd.prog 65 #[.string ⟨t.text.toArray⟩] w (One w (.bool t.full)) := by
  have hD := digits_calls t.text (by have := o.len; omega) w
  rw [digits_text o.small] at hD
  have HP := Lib.hid (fun V => rdeep_calls t o V)
  have hd7 := o.deep8
  have hil : t.ints.length = t.procs.length := by simp [Tr.ints]
  have hf : (((t.ints.length : Int) == wrap64 ((2 : Int) ^ t.deep))) = t.full := by
    have hw : wrap64 ((2 : Int) ^ t.deep) = ((2 ^ t.deep : Nat) : Int) := by
      generalize t.deep = d at *
      have : d = 0 ∨ d = 1 ∨ d = 2 ∨ d = 3 ∨ d = 4 ∨ d = 5 ∨ d = 6 ∨ d = 7 := by omega
      rcases this with h | h | h | h | h | h | h | h <;> subst h <;> simp [wrap64]
    rw [hw, hil, Bool.eq_iff_iff, beq_iff_eq, t.full_iff]
    omega
  have HF := Lib.hid hf
  have h8 : t.ints.length ≤ 8 := by rw [hil]; exact o.few
  clear hf hil o
  generalize t.text = x at *
  generalize t.deep = d at *
  generalize t.ints = ds at *
  generalize t.full = fu at *
  go_enter Tryd.func65, Tryd.ntmps65
  go_wp2_with fail
  refine hD.mono ?_
  rintro e w1 ⟨v1, rfl, o1, b1⟩
  obtain ⟨A1, c1, rfl⟩ := L5.own_slice o1
  have B1 := Lib.hid b1
  clear b1 o1 hD
  go_wp2_with fail
  refine (HP.out _).mono ?_
  rintro e w2 ⟨rfl, b2⟩
  have B2 := Lib.hid (B1.out.trans (b2.mono B1.out.size))
  clear b2
  go_wp2
  go_ret
  refine ⟨?_, B2.out⟩
  show Ending.returned (Value.bool ((ds.length : Int) == wrap64 ((2 : Int) ^ d))) = _
  rw [HF.out]
set_option maxHeartbeats 4000000 in
theorem rplace_calls : ∀ (t : Tr), t.ok → ∀ w : World, Calls Tryd.prog 40 #[.string ⟨t.text.toArray⟩] w (One w (.int .i64 (t.best : Int))) := by
  intro t
  induction t with
  | leaf p =>
    intro o w
    have hF := rfull_calls o w
    have HD := Lib.hid (fun V => rdeep_calls _ o V)
    rw [show (Tr.leaf p).full = true from rfl] at hF
    rw [show ((Tr.leaf p).deep : Int) = 0 from rfl] at HD
    rw [show ((Tr.leaf p).best : Int) = 0 from rfl]
    generalize (Tr.leaf p).text = x at *
    go_enter Tryd.func40, Tryd.ntmps40
    go_wp2_with fail
    refine hF.mono ?_
    rintro e w1 ⟨rfl, b1⟩
    have B1 := Lib.hid b1
    clear b1 hF
    go_wp2_with fail
    refine (HD.out _).mono ?_
    rintro e w2 ⟨rfl, b2⟩
    have B2 := Lib.hid (B1.out.trans (b2.mono B1.out.size))
    clear b2
    go_wp2
    go_ret
    exact ⟨rfl, B2.out⟩
  | node l r hl hr =>
    intro o w
    have hF := rfull_calls o w
    by_cases hf : (Tr.node l r).full = true
    · have HD := Lib.hid (fun V => rdeep_calls _ o V)
      rw [hf] at hF
      rw [Tr.best_full hf]
      clear hl hr o hf
      generalize (Tr.node l r).text = x at *
      generalize (Tr.node l r).deep = d at *
      go_enter Tryd.func40, Tryd.ntmps40
      go_wp2_with fail
      refine hF.mono ?_
      rintro e w1 ⟨rfl, b1⟩
      have B1 := Lib.hid b1
      clear b1 hF
      go_wp2_with fail
      refine (HD.out _).mono ?_
      rintro e w2 ⟨rfl, b2⟩
      have B2 := Lib.hid (B1.out.trans (b2.mono B1.out.size))
      clear b2
      go_wp2
      go_ret
      exact ⟨rfl, B2.out⟩
    · rw [show (Tr.node l r).full = false by simpa using hf] at hF
      have hb : (Tr.node l r).best = min l.best r.best := by rw [Tr.best, if_neg hf]
      rw [hb]
      have HP := Lib.hid (fun V => o.parts V)
      have HL := Lib.hid (fun V => hl o.left V)
      have HR := Lib.hid (fun V => hr o.right V)
      have hm : min (l.best : Int) (r.best : Int) = ((min l.best r.best : Nat) : Int) := by omega
      clear hl hr o hf hb
      generalize (Tr.node l r).text = x at *
      generalize min l.best r.best = mb at *
      generalize l.text = lx at *
      generalize r.text = rx at *
      generalize l.best = lb at *
      generalize r.best = rb at *
      go_enter Tryd.func40, Tryd.ntmps40
      go_wp2_with fail
      refine hF.mono ?_
      rintro e w1 ⟨rfl, b1⟩
      have B1 := Lib.hid b1
      clear b1 hF
      go_wp2_with fail
      refine (HP.out _).mono ?_
      rintro e w2 ⟨rfl, b2⟩
      have B2 := Lib.hid (B1.out.trans (b2.mono B1.out.size))
      clear b2
      go_wp2_with fail
      refine (HL.out _).mono ?_
      rintro e w3 ⟨rfl, b3⟩
      have B3 := Lib.hid (B2.out.trans (b3.mono B2.out.size))
      clear b3
      go_wp2_with fail
      refine (HR.out _).mono ?_
      rintro e w4 ⟨rfl, b4⟩
      have B4 := Lib.hid (B3.out.trans (b4.mono B3.out.size))
      clear b4
      go_wp2
      go_ret
      exact ⟨rfl, B4.out⟩
end Go.Proofs.YtembihlkildodaaDoor.L13
