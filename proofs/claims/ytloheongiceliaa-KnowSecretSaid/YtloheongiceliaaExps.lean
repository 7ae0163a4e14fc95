/- Contract of exponentsOf: the exponents of an element, one behind the other, in a row with room for thirty-two. -/
import Derived.Test.YtloheongiceliaaOf
namespace Go.Proofs.Ytloheongiceliaa
open Go.ChangeShapes Go.WideShapes Go.ChangeAt Go.RowKit

namespace Tm
def exps : Nat → List UInt8 → List (List UInt8)
  | 0, _ => []
  | n + 1, r => r.take (read r).1 :: exps n (r.drop (read r).1)
theorem exps_length (n : Nat) (r : List UInt8) : (exps n r).length = n := by
  induction n generalizing r with
  | zero => rfl
  | succ n ih => simp [exps, ih]
end Tm

def strs (xs : List (List UInt8)) : List Value := xs.map fun x => Value.string ⟨x.toArray⟩
theorem strs_length (xs : List (List UInt8)) : (strs xs).length = xs.length := by simp [strs]

theorem info_term : (Try.prog.info? 24).map (fun i => (i.zero, i.size, i.bytes)) = some (some (.string ⟨#[]⟩), 1, 16) := by kernel_rfl

/-- A row of texts that the call itself made, with room for thirty-two. -/
def Row32 (B g : Nat) (xs : List (List UInt8)) (w : World) : Prop :=
  w.ownsRow B 24 1 (.slice (some ⟨g, 0, none⟩) xs.length 32) xs.length (strs xs)

theorem ownsRow_below {w w' : World} {base : Nat} {e : TypeId} {size n : Nat} {v : Value} {xs : List Value} (h : w.ownsRow base e size v n xs) (hb : Below w.heap.size w w') : w'.ownsRow base e size v n xs := by
  refine ⟨h.1, ?_⟩
  rcases h.2 with h0 | ⟨g, cap, cur, h1, h2, h3, h4⟩
  · exact .inl h0
  · exact .inr ⟨g, cap, cur, h1, h2, (hb.block g (Array.getElem?_eq_some_iff.1 h3).1).trans h3, h4⟩

def Listing (w : World) (g c : Nat) (r0 : List UInt8) (k : Nat) (v3 v4 v17 : Value) (wr : World) : Prop :=
  ∃ (i : Nat) (acc : List (List UInt8)) (r : ByteArray), k + i = c ∧ v17 = .int .i64 i ∧ v3 = .string r ∧ r.size ≤ maxLen ∧ v4 = .slice (some ⟨g, 0, none⟩) acc.length 32 ∧ acc.length = i ∧
    Row32 w.heap.size g acc wr ∧ Below w.heap.size w wr ∧ acc ++ Tm.exps (c - i) r.data.toList = Tm.exps c r0

def RowOut (w : World) (xs : List (List UInt8)) (e : Ending) (w' : World) : Prop :=
  ∃ g, e = .returned (.slice (some ⟨g, 0, none⟩) xs.length 32) ∧ Row32 w.heap.size g xs w' ∧ Below w.heap.size w w'

set_option maxHeartbeats 400000 in
theorem exponentsOf_gen (s : ByteArray) (h1 : 0 < s.size) (h0 : s[0] = 103) (w : World) :
    Calls Try.prog 44 #[.string s] w fun e w' => e = .returned (.slice none 0 0) ∧ w = w' := by
  have i1 : (0 : Int) < (s.size : Int) := by omega
  have g1 : ((s[0].toNat : Int) == 103) = true := u8_yes (n := 103) (by omega) h0
  clear h0
  go_enter Try.func44, Try.ntmps44
  go_wp2
  go_ret
  exact ⟨rfl, rfl⟩

set_option maxRecDepth 100000 in
set_option maxHeartbeats 1000000 in
theorem exponentsOf_pow (s : ByteArray) (hs : s.size ≤ maxLen) (h2 : 2 ≤ s.size) (h0 : ¬ s[0] = 103) (hc : s[1].toNat ≤ 32) (w : World) :
    Calls Try.prog 44 #[.string s] w (RowOut w (Tm.exps s[1].toNat (s.data.toList.drop 2))) := by
  obtain ⟨i0, hi, hz0, hz1, hz2⟩ := info_parts info_term
  obtain ⟨w1, hmk, hown0, hg0⟩ := run_make_own (P := Try.prog) (w := w) w.heap.size 38 24 i0 (.string ⟨#[]⟩) 1 Try.underlying38 hi hz0 hz1 .i64 .i64 32 (by rw [hz2]; omega) (by unfold maxLen; omega) (Nat.le_refl _)
  have hmk' : (Instr.makeSlice 38 (.int .i64 0) (.int .i64 32)).run Try.prog w = .ok (.slice (some ⟨w.heap.size, 0, none⟩) 0 32) w1 := hmk
  clear hmk
  have i1 : (0 : Int) < (s.size : Int) := by omega
  have i2 : (1 : Int) < (s.size : Int) := by omega
  have i3 : (2 : Int) ≤ (s.size : Int) := by omega
  have i4 : 1 < s.size := by omega
  have i5 : 0 < s.size := by omega
  have g1 : ((s[0].toNat : Int) == 103) = false := u8_no (n := 103) (by omega) h0
  clear h0
  have hex := extract_drop s 2
  have hes : (s.extract 2 s.size).size ≤ maxLen := by
    have : (s.extract 2 s.size).size = s.size - 2 := by simp
    omega
  obtain ⟨c, hcc⟩ : ∃ c, s[1].toNat = c := ⟨_, rfl⟩
  rw [hcc] at hc ⊢
  have HI : Hid (Listing w w.heap.size c (s.data.toList.drop 2) c (.string (s.extract 2 s.size)) (.slice (some ⟨w.heap.size, 0, none⟩) 0 32) (.int .i64 0) w1) :=
    ⟨0, [], s.extract 2 s.size, by omega, rfl, rfl, hes, rfl, rfl, hown0, (Below.refl _ _).grown hg0 (Nat.le_refl _) (by simp), by rw [hex]; rfl⟩
  clear hex hes hown0 hg0
  unfold maxLen at hs
  go_enter Try.func44, Try.ntmps44
  go_wp2
  clear hmk'
  go_loopg [3, 4, 17] c (fun k v3 v4 v17 wr => Listing w w.heap.size c (s.data.toList.drop 2) k v3 v4 v17 wr)
  case atStart => exact HI.out
  case round =>
    clear HI
    obtain ⟨i, acc, r, hk, rfl, rfl, hrs, rfl, rfl, hrow, hbel, heq⟩ := hrel
    have cR := read_calls r hrs
    have hb := Tm.read_bounds r.data.toList
    rw [len_bytes] at hb
    by_cases hlt : acc.length < c
    · have hstep : Tm.exps (c - acc.length) r.data.toList = r.data.toList.take (Tm.read r.data.toList).1 :: Tm.exps (c - (acc.length + 1)) (r.data.toList.drop (Tm.read r.data.toList).1) := by
        rw [show c - acc.length = (c - (acc.length + 1)) + 1 from by omega]
        rfl
      have HE : Hid (acc ++ r.data.toList.take (Tm.read r.data.toList).1 :: Tm.exps (c - (acc.length + 1)) (r.data.toList.drop (Tm.read r.data.toList).1) = Tm.exps c (s.data.toList.drop 2)) := by
        show _ = _
        rw [← hstep]; exact heq
      clear heq hstep
      generalize Tm.read r.data.toList = x at *
      obtain ⟨n, d, er⟩ := x
      simp only at hb
      have HC := Lib.hid cR
      have HR := Lib.hid hrow
      have HS := Lib.hid hrs
      clear cR hrow hrs
      have j1 : (acc.length : Int) < (c : Int) := by omega
      have j2 : (0 : Int) ≤ (n : Int) := by omega
      have j3 : (n : Int) ≤ (r.size : Int) := by omega
      have hsz := hbel.size
      have E1 := Lib.hid (extract_take r n)
      have hacc : acc.length < 32 := by omega
      go_wp2_with (first
        | (go_at_call 66
           refine (HC.out _).mono ?_
           rintro e' w2 ⟨rfl, hbw⟩
           have X2 : Hid (Row32 w.heap.size w.heap.size acc w2 ∧ Below w.heap.size w w2) := ⟨ownsRow_below HR.out hbw, hbel.trans (hbw.mono hsz)⟩
           clear hbw)
        | (at_builtin
           refine wpList_append_fits _ rfl _ _ 38 rfl w.heap.size 24 i0 1 Try.underlying38 hi hz1 w.heap.size acc.length 32 (strs acc) rfl (World.ownsRow.alloc (w := w2) X2.out.1 _) ⟨w2.heap.size, 0, none⟩ 1 1 [.string (r.extract 0 n)] rfl rfl (cell_one_new _ _ _) (fun x hx => by simp at hx; subst hx; rfl) (by omega) ?_
           intro w3 hown3 hgrow3
           have X3 : Hid (w3.ownsRow w.heap.size 24 1 (.slice (some ⟨w.heap.size, 0, none⟩) (acc.length + 1) 32) (acc.length + 1) (strs acc ++ [.string (r.extract 0 n)]) ∧ Below w.heap.size w w3) := ⟨hown3, Below.grown (X2.out.2.alloc X2.out.2.size _) hgrow3 (by have := X2.out.2.size; simp; omega) (fun j hj => by cases hj; exact Nat.le_refl _)⟩
           clear hown3 hgrow3))
      go_roundg (c - (acc.length + 1))
      case measure => omega
      case rel =>
        refine ⟨acc.length + 1, acc ++ [r.data.toList.take n], r.extract n r.size, by omega, rfl, rfl, ?_, ?_, by simp, ?_, X3.out.2, ?_⟩
        · have := HS.out
          have h9 : (r.extract n r.size).size = r.size - n := by simp
          omega
        · simp
        · have h9 := X3.out.1
          unfold Row32
          rw [List.length_append, List.length_singleton]
          have e9 : strs (acc ++ [r.data.toList.take n]) = strs acc ++ [.string (r.extract 0 n)] := by
            rw [E1.out]; simp [strs]
          rw [e9]
          exact h9
        · rw [extract_drop, List.append_assoc]
          exact HE.out
    · have hi2 : acc.length = c := by omega
      have HF : Hid (acc = Tm.exps c (s.data.toList.drop 2)) := by
        show _ = _
        rw [hi2] at heq
        rw [← heq]
        simp [Tm.exps]
      have HR := Lib.hid hrow
      clear heq cR hrow hb hi2
      have j1 : ¬ ((acc.length : Int) < (c : Int)) := by omega
      go_wp2
      all_goals first
        | omega
        | (go_ret
           refine ⟨w.heap.size, ?_, ?_, hbel⟩
           · rw [← HF.out]; rfl
           · rw [← HF.out]; exact HR.out)

end Go.Proofs.Ytloheongiceliaa
