/- Contracts of Leaf, Right, Members, Depth, Join and Leave. -/
import Derived.Test.YtlpabhgfmkilnaaTrLeave
import Derived.Test.YtlpabhgfmkilnaaTrFact
namespace Go.Proofs.Ytlpabhgfmkilnaa.L13
open Go.ChangeShapes Go.WideShapes Go.ChangeAt Go.RowKit Go.Deep
open Go.Proofs.Ytlpabhgfmkilnaa.L5 (One)

/-- A text and an error number. -/
def Str2 (w : World) (r : List UInt8 × Int) (e : Ending) (w' : World) : Prop := e = .returned (.tuple #[.string ⟨r.1.toArray⟩, .int .i64 r.2]) ∧ Below w.heap.size w w'
def leafX (p : Int) : List UInt8 × Int := if 1 ≤ p ∧ p ≤ 8 then ((Tr.leaf p.toNat).text, 0) else ([], 1)
def joinX (x : List UInt8) (p : Int) : List UInt8 × Int :=
  match readT x with
  | none => ([], 1)
  | some t => if 1 ≤ p ∧ p ≤ 8 ∧ p.toNat ∉ t.procs then ((t.put p.toNat).text, 0) else ([], 1)
def outX (t : Tr) (p : Int) : List UInt8 × Int :=
  match t, t.out p.toNat with
  | .node _ _, some u => if 1 ≤ p ∧ p.toNat ∈ t.procs then (u.text, 0) else ([], 8)
  | _, _ => ([], 8)
def leaveX (x : List UInt8) (p : Int) : List UInt8 × Int :=
  match readT x with
  | none => ([], 1)
  | some t => outX t p
theorem mems_mem (t : Tr) (p : Int) : t.mems.contains p = decide (1 ≤ p ∧ p.toNat ∈ t.procs) ∨ ¬ t.ok := by
  by_cases h : t.ok
  · refine .inl ?_
    rw [Bool.eq_iff_iff, List.contains_iff_mem, decide_eq_true_iff]
    unfold Tr.mems Tr.ints
    rw [L10.sortL_mem, List.mem_map]
    constructor
    · rintro ⟨q, hq, rfl⟩
      have := h.small q hq
      exact ⟨by omega, by simpa using hq⟩
    · rintro ⟨h1, hq⟩
      exact ⟨p.toNat, hq, by omega⟩
  · exact .inr h
theorem Tr.ok.contains {t : Tr} (h : t.ok) (p : Int) : t.mems.contains p = decide (1 ≤ p ∧ p.toNat ∈ t.procs) := (mems_mem t p).resolve_right (fun n => n h)
theorem mems_len (t : Tr) : t.mems.length = t.procs.length := by unfold Tr.mems; rw [L10.sortL_length]; simp [Tr.ints]
theorem Tr.ok.fits {t : Tr} (h : t.ok) : L10.Fits t.mems := fun x hx => by
  unfold Tr.mems Tr.ints at hx
  rw [L10.sortL_mem, List.mem_map] at hx
  obtain ⟨q, hq, rfl⟩ := hx
  have := h.small q hq
  omega
theorem Tr.ok.ints {t : Tr} (h : t.ok) {w : World} {v : Value} {B : Nat} (ho : w.ownsRow B 3 1 v t.mems.length (t.mems.map (Value.int .i64))) : IntsA w v t.mems :=
  L10.ints_own10 ho h.fits (by rw [mems_len]; have := h.few; omega)

theorem ReadOut.val {w w' : World} {r : Option Tr} {e : Ending} (h : ReadOut w r e w') : ∃ v, e = .returned (.pointer v) ∧ (v = none ↔ r = none) := by
  cases r with
  | none => exact ⟨none, h.2.2 rfl, by simp⟩
  | some t => obtain ⟨a, F, e, _⟩ := h.2.1 t rfl; exact ⟨_, e, by simp⟩
set_option maxHeartbeats 1000000 in
theorem right_top (x : List UInt8) (w : World) : Calls Try.prog 20 #[.string ⟨x.toArray⟩] w (One w (.bool (readT x).isSome)) := by
  have hR := read_calls x w
  cases hr : readT x with
  | none =>
    rw [hr] at hR
    rw [show Option.isSome (none : Option Tr) = false from rfl]
    clear hr
    go_enter Try.func20, Try.ntmps20
    go_wp2_with (go_at_call 29; refine hR.mono ?_; rintro e w1 ⟨hb, _, hn⟩; obtain rfl := hn rfl; have HB := Lib.hid hb; clear hb hn)
    go_ret
    exact ⟨rfl, HB.out⟩
  | some t =>
    rw [hr] at hR
    rw [show Option.isSome (some t) = true from rfl]
    clear hr
    go_enter Try.func20, Try.ntmps20
    go_wp2_with (go_at_call 29; refine hR.mono ?_; rintro e w1 ⟨hb, hs, _⟩; obtain ⟨a, F, rfl, _⟩ := hs _ rfl; have HB := Lib.hid hb; clear hb hs)
    go_ret
    exact ⟨rfl, HB.out⟩
def memsX (x : List UInt8) : List Int := match readT x with | none => [] | some t => t.mems
set_option maxHeartbeats 1000000 in
theorem members_top (x : List UInt8) (w : World) : Calls Try.prog 36 #[.string ⟨x.toArray⟩] w (L10.IntsOut w (memsX x)) := by
  have hR := read_calls x w
  unfold memsX
  cases hr : readT x with
  | none =>
    rw [hr] at hR
    clear hr
    dsimp only
    go_enter Try.func36, Try.ntmps36
    go_wp2_with (go_at_call 29; refine hR.mono ?_; rintro e w1 ⟨hb, _, hn⟩; obtain rfl := hn rfl; have HB := Lib.hid hb; clear hb hn)
    go_ret
    exact ⟨_, rfl, World.ownsRow_nil _ _ _ _, HB.out⟩
  | some t =>
    rw [hr] at hR
    have ho := (readT_some hr).2
    have HM := Lib.hid (fun (V : World) a F (h : TreeAt V t a F) => members_calls h (by have := ho.few; omega))
    clear hr ho
    dsimp only
    go_enter Try.func36, Try.ntmps36
    go_wp2_with (first
      | (go_at_call 29; refine hR.mono ?_; rintro e w1 ⟨hb, hs, _⟩; obtain ⟨a, F, rfl, ht, _⟩ := hs _ rfl; have HB := Lib.hid hb; have hM := HM.out _ _ _ ht; clear hb hs ht)
      | (go_at_call 44; refine hM.mono ?_; rintro e w2 ⟨v, rfl, ho, b2⟩; obtain ⟨A, c, rfl⟩ := L5.own_slice ho; have HO := Lib.hid (And.intro ho b2); clear ho b2))
    go_ret
    exact ⟨_, rfl, L10.own_base HO.out.1 HB.out.size, HB.out.trans (HO.out.2.mono HB.out.size)⟩
def deepX (x : List UInt8) : Int := match readT x with | none => -1 | some t => t.deep
end Go.Proofs.Ytlpabhgfmkilnaa.L13
