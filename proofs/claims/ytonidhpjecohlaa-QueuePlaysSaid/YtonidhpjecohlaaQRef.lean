/- Contracts of the document's own queue: New, Push, Pop, Either. -/
import Derived.Test.YtonidhpjecohlaaTail
import Derived.Test.YtonidhpjecohlaaQActs
namespace Go.Proofs.Ytonidhpjecohlaa.L6
open Go.ChangeShapes Go.WideShapes Go.ChangeAt Go.RowKit L5

structure RAt (W : World) (h room B : Nat) (v : Value) (xs : List ByteArray) : Prop where
  own : W.heap[h]? = some (.cells #[.int .i64 room, v] 48 (0, 0))
  tail : Tail W B 9 v (strV xs)
/-- One queue of the document's is turned; all else is as it was. -/
structure Moved (w : World) (h : Nat) (row : Option Nat) (w' : World) : Prop where
  os : w'.os = w.os
  tape : w'.tape = w.tape
  output : w'.output = w.output
  size : w.heap.size ≤ w'.heap.size
  block : ∀ k, k < w.heap.size → k ≠ h → some k ≠ row → w'.heap[k]? = w.heap[k]?
theorem RAt.lt {W : World} {h room B : Nat} {v : Value} {xs : List ByteArray} (r : RAt W h room B v xs) : h < W.heap.size := (Array.getElem?_eq_some_iff.1 r.own).1
theorem RAt.cell0 {W : World} {h room B : Nat} {v : Value} {xs : List ByteArray} (r : RAt W h room B v xs) : W.cell? ⟨h, 0, none⟩ = some (.int .i64 room) := cell_of_row W h 0 _ _ _ r.own
theorem RAt.cell1 {W : World} {h room B : Nat} {v : Value} {xs : List ByteArray} (r : RAt W h room B v xs) : W.cell? ⟨h, 1, none⟩ = some v := cell_of_row W h 1 _ _ _ r.own
theorem RAt.free {W : World} {h room B : Nat} {v : Value} {xs : List ByteArray} (r : RAt W h room B v xs) (j : Nat) : W.frozen? ⟨h, j, none⟩ = false := frozen_of_row W h j _ _ r.own
theorem RAt.same {W W' : World} {h room B : Nat} {v : Value} {xs : List ByteArray} (r : RAt W h room B v xs) (hh : W'.heap[h]? = W.heap[h]?) (ht : ∀ q, v.ownBlock = some q → W'.heap[q]? = W.heap[q]?) : RAt W' h room B v xs := ⟨hh.trans r.own, r.tail.same ht⟩
theorem RAt.below {W W' : World} {h room B : Nat} {v : Value} {xs : List ByteArray} (r : RAt W h room B v xs) (hb : Below W.heap.size W W') : RAt W' h room B v xs := ⟨(hb.block _ r.lt).trans r.own, r.tail.below hb⟩
theorem RAt.apart {W : World} {h room B : Nat} {v : Value} {xs : List ByteArray} (r : RAt W h room B v xs) : v.ownBlock ≠ some h := fun e => by
  obtain ⟨cur, hc⟩ := r.tail.kind h e
  rw [r.own] at hc
  cases hc

def RNewOut (w : World) (B : Nat) (room : Int) (e : Ending) (w' : World) : Prop :=
  (¬ (1 ≤ room ∧ room ≤ 1000) → e = .returned (.tuple #[.pointer none, .int .i64 1]) ∧ w = w') ∧
  (∀ n : Nat, room = n → 1 ≤ n → n ≤ 1000 → e = .returned (.tuple #[.pointer (some ⟨w.heap.size, 0, none⟩), .int .i64 0]) ∧ RAt w' w.heap.size n B (.slice none 0 0) [] ∧ Below w.heap.size w w' ∧ w'.heap.size = w.heap.size + 1)
set_option maxRecDepth 100000 in
set_option maxHeartbeats 1000000 in
theorem RNew_calls (B : Nat) (room : Int) (w : World) : Calls Try.prog 9 #[.int .i64 room] w (RNewOut w B room) := by
  by_cases h : 1 ≤ room ∧ room ≤ 1000
  · obtain ⟨n, rfl⟩ : ∃ n : Nat, room = n := ⟨room.toNat, by omega⟩
    have h1 : ¬ ((n : Int) < 1) := by omega
    have h2 : ¬ ((1000 : Int) < (n : Int)) := by omega
    have hfin : Hid (RNewOut w B n (.returned (.tuple #[.pointer (some ⟨w.heap.size, 0, none⟩), .int .i64 0])) (w.alloc (.cells #[.int .i64 n, .slice none 0 0] 48))) :=
      ⟨fun hn => absurd h hn, fun m e _ _ => by
        obtain rfl : n = m := by omega
        exact ⟨rfl, ⟨heap_alloc_new w _, Tail.nil _ _ _⟩, (Below.refl _ w).alloc (Nat.le_refl _) _, by simp⟩⟩
    clear h
    go_enter Try.func9, Try.ntmps9
    go_wp2
    go_ret2
    exact hfin.out
  · have hfin : Hid (RNewOut w B room (.returned (.tuple #[.pointer none, .int .i64 1])) w) := ⟨fun _ => ⟨rfl, rfl⟩, fun n e h1 h2 => absurd ⟨by omega, by omega⟩ h⟩
    by_cases h1 : room < 1
    · clear h
      go_enter Try.func9, Try.ntmps9
      go_wp2
      go_ret2
      exact hfin.out
    · have h2 : 1000 < room := by omega
      clear h
      go_enter Try.func9, Try.ntmps9
      go_wp2
      go_ret2
      exact hfin.out

def RTurned (w : World) (h room B : Nat) (row : Option Nat) (l' : List ByteArray) (v : Value) (e : Ending) (w' : World) : Prop :=
  e = .returned v ∧ ∃ v', RAt w' h room B v' l' ∧ Moved w h row w' ∧ (v'.ownBlock = row ∨ ∀ q, v'.ownBlock = some q → w.heap.size ≤ q)

set_option maxRecDepth 100000 in
set_option maxHeartbeats 1000000 in
theorem RPush_full {w : World} {h room B : Nat} {v : Value} {xs : List ByteArray} (r : RAt w h room B v xs) (hl : xs.length = room) (hr : room ≤ 1000) (x : ByteArray) :
    Calls Try.prog 12 #[.pointer (some ⟨h, 0, none⟩), .string x] w fun e w' => e = .returned (.int .i64 5) ∧ ∃ m, w' = w.drewN m := by
  subst hl
  have c0 := r.cell0
  have c1 := r.cell1
  obtain ⟨A, c, rfl⟩ := r.tail.slice
  rw [strV_length] at c1
  clear r
  go_enter Try.func12, Try.ntmps12
  go_wp2
  go_quiet (fail)
  go_wp2
  go_ret
  exact ⟨rfl, _, rfl⟩

set_option maxRecDepth 100000 in
set_option maxHeartbeats 1000000 in
theorem RPush_room {w : World} {h room B : Nat} {v : Value} {xs : List ByteArray} (r : RAt w h room B v xs) (hB : B ≤ w.heap.size) (hl : xs.length < room) (hr : room ≤ 1000) (x : ByteArray) :
    Calls Try.prog 12 #[.pointer (some ⟨h, 0, none⟩), .string x] w (RTurned w h room B v.ownBlock (xs ++ [x]) (.int .i64 0)) := by
  obtain ⟨is, hsi, hs0, hs1, hs2⟩ := info_parts info_string
  have c0 := r.cell0
  have c1 := r.cell1
  have f1 := r.free 1
  have hlt := r.lt
  have hne : ((xs.length : Int) == (room : Int)) = false := by simp; omega
  obtain ⟨A, c, rfl⟩ := r.tail.slice
  have htail := r.tail
  have hfin : Hid (∀ V : World, Below w.heap.size w V → ∀ v' w', Tail w' B 9 v' (strV xs ++ [.string x]) → V.grownBy w' (Value.slice A (strV xs).length c).ownBlock → (v'.ownBlock = (Value.slice A (strV xs).length c).ownBlock ∨ ∀ q, v'.ownBlock = some q → V.heap.size ≤ q) →
      w'.cell? ⟨h, 1, none⟩ = some (.slice A (strV xs).length c) ∧ w'.frozen? ⟨h, 1, none⟩ = false ∧ RTurned w h room B (Value.slice A (strV xs).length c).ownBlock (xs ++ [x]) (.int .i64 0) (.returned (.int .i64 0)) (w'.setCell ⟨h, 1, none⟩ v')) := fun V hV v' w' ht hg hb => by
    have hh : w'.heap[h]? = w.heap[h]? := (hg.block h (Nat.lt_of_lt_of_le hlt hV.size) (fun e => r.apart e.symm)).trans (hV.block h hlt)
    have hown := hh.trans r.own
    have hset := heap_setCell_same w' h 1 _ _ v' hown
    have hk := World.keptBut_setCell (may := fun p => p.block = h) w' ⟨h, 1, none⟩ v' rfl
    have hother : ∀ q, q < w'.heap.size → q ≠ h → (w'.setCell ⟨h, 1, none⟩ v').heap[q]? = w'.heap[q]? := fun q hq hne => hk.block hq (fun p hp e => hne (by rw [← e, hp]))
    refine ⟨cell_of_row w' h 1 _ _ _ hown, frozen_of_row w' h 1 _ _ hown, rfl, v', ⟨hset, ?_⟩, ⟨?_, ?_, ?_, ?_, ?_⟩, ?_⟩
    · have e1 : strV xs ++ [Value.string x] = strV (xs ++ [x]) := by simp [strV]
      rw [e1] at ht
      refine ht.same (fun q hq => hother q (ht.lt q hq).2 (fun e => ?_))
      obtain ⟨cur, hc⟩ := ht.kind q hq
      rw [e, hown] at hc
      cases hc
    · exact hk.1.trans (hg.os.trans hV.os)
    · exact hg.tape.trans hV.tape
    · exact hk.2.1.trans (hg.output.trans hV.output)
    · have h1 := hg.size
      have h2 := hV.size
      have h3 := hk.size
      omega
    · intro k hk1 hk2 hk3
      have h1 := hg.size
      have h2 := hV.size
      exact (hother k (by omega) hk2).trans ((hg.block k (by omega) hk3).trans (hV.block k hk1))
    · rcases hb with hb | hb
      · exact .inl hb
      · exact .inr fun q hq => Nat.le_trans hV.size (hb q hq)
  have HT : Hid (∀ V : World, Below w.heap.size w V → Tail V B 9 (.slice A (strV xs).length c) (strV xs) ∧ V.cell? ⟨h, 1, none⟩ = some (.slice A (strV xs).length c)) := fun V hV =>
    ⟨htail.below hV, (hV.cell (p := ⟨h, 1, none⟩) hlt).trans c1⟩
  have m1 : Hid ((strV xs).length + 1 ≤ maxLen ∧ ((strV xs).length + 1) * 16 ≤ 140737488355328) := by rw [strV_length]; exact ⟨by unfold maxLen; omega, by omega⟩
  have HBs := Lib.hid hB
  clear r hl hr hB htail
  rw [strV_length] at c1
  rw [strV_length] at hfin HT m1
  go_enter Try.func12, Try.ntmps12
  go_wp2
  go_quiet (fail)
  obtain ⟨V, hV⟩ : ∃ V, (w.drewN nq).alloc (.cells #[.string x] 9) = V := ⟨_, rfl⟩
  have HV : Hid (Below w.heap.size w V) := by show Below _ _ _; rw [← hV]; exact (below_drewN (Below.refl _ w) nq).alloc (Nat.le_refl _) _
  have HV2 : Hid (V.cell? ⟨w.heap.size, 0, none⟩ = some (.string x)) := by show _ = _; rw [← hV]; exact cell_one_new (w.drewN nq) (.string x) 9 0 _ rfl
  have HF : Hid (∀ v' w', Tail w' B 9 v' (strV xs ++ [.string x]) → V.grownBy w' (Value.slice A xs.length c).ownBlock → (v'.ownBlock = (Value.slice A xs.length c).ownBlock ∨ ∀ q, v'.ownBlock = some q → V.heap.size ≤ q) →
      w'.cell? ⟨h, 1, none⟩ = some (.slice A xs.length c) ∧ w'.frozen? ⟨h, 1, none⟩ = false ∧ Hid (RTurned w h room B (Value.slice A (strV xs).length c).ownBlock (xs ++ [x]) (.int .i64 0) (.returned (.int .i64 0)) (w'.setCell ⟨h, 1, none⟩ v'))) := fun v' w' q1 q2 q3 => by
    obtain ⟨r1, r2, r3⟩ := hfin.out V HV.out v' w' q1 q2 q3
    refine ⟨r1, r2, ?_⟩
    show RTurned _ _ _ _ _ _ _ _ _
    rw [strV_length]
    exact r3
  have HT2 : Hid (Tail V B 9 (.slice A xs.length c) (strV xs)) := (HT.out V HV.out).1
  have HBV : Hid (B ≤ V.heap.size) := Nat.le_trans HBs.out HV.out.size
  have m2 : Hid ((strV xs).length + 1 ≤ maxLen ∧ ((strV xs).length + 1) * 16 ≤ 140737488355328) := by rw [strV_length]; exact m1
  clear hfin HT
  go_wp2_with (at_builtin; (refine wpList_append_tail (by rfl) (.tmp 19) (.tmp 21) 46 rfl B 9 is (.string ⟨#[]⟩) 16 Try.underlying46 hsi hs0 hs1 hs2 rfl (.slice A xs.length c) (strV xs) (by simp [Act.eval]) HT2.out ⟨w.heap.size, 0, none⟩ 1 (.string x) (by simp [Act.eval]) HV2.out rfl m2.out.1 m2.out.2 HBV.out ?_; intro v' w' ht hg hb; obtain ⟨A', c', rfl⟩ := ht.slice; obtain ⟨d1, d2, d3⟩ := HF.out _ w' ht hg hb; clear ht hg hb))
  go_ret
  have d4 := d3.out
  simp only [List.length_append, List.length_cons, List.length_nil, Nat.zero_add] at d4
  exact d4

set_option maxRecDepth 100000 in
set_option maxHeartbeats 1000000 in
theorem RPop_none {w : World} {h room B : Nat} {v : Value} (r : RAt w h room B v []) :
    Calls Try.prog 14 #[.pointer (some ⟨h, 0, none⟩)] w fun e w' => e = .returned (.tuple #[.string ⟨#[]⟩, .bool false]) ∧ w = w' := by
  have c1 := r.cell1
  obtain ⟨A, c, rfl⟩ := r.tail.slice
  rw [strV_length] at c1
  simp only [List.length_nil] at c1
  clear r
  go_enter Try.func14, Try.ntmps14
  go_wp2
  go_ret2
  exact ⟨rfl, rfl⟩

set_option maxRecDepth 100000 in
set_option maxHeartbeats 1000000 in
theorem RPop_some {w : World} {h room B : Nat} {v : Value} {y : ByteArray} {xs : List ByteArray} (r : RAt w h room B v (y :: xs)) (hl : xs.length ≤ 1000) :
    Calls Try.prog 14 #[.pointer (some ⟨h, 0, none⟩)] w (RTurned w h room B v.ownBlock xs (.tuple #[.string y, .bool true])) := by
  have c1 := r.cell1
  have f1 := r.free 1
  have hlt := r.lt
  obtain ⟨g, off, cap, rfl⟩ : ∃ g off cap, v = .slice (some ⟨g, off, none⟩) ((strV xs).length + 1) cap := by
    rcases r.tail.lies with ⟨_, h0⟩ | ⟨g, off, cap, cur, rfl, _⟩
    · cases h0
    · exact ⟨g, off, cap, rfl⟩
  have htail : Tail w B 9 (.slice (some ⟨g, off, none⟩) ((strV xs).length + 1) cap) (.string y :: strV xs) := r.tail
  obtain ⟨k1, k2, k3, k4⟩ := htail.rest
  have hc : w.cell? ⟨g, off, none⟩ = some (.string y) := by
    obtain ⟨ad, n, c', e1, _, _, _, e4⟩ := htail.cellAt (j := 0) rfl
    cases e1
    exact e4
  have hfin : Hid (∀ v', Tail w B 9 v' (strV xs) → v'.ownBlock = some g → RTurned w h room B (some g) xs (.tuple #[.string y, .bool true]) (.returned (.tuple #[.string y, .bool true])) (w.setCell ⟨h, 1, none⟩ v')) := fun v' ht hb => by
    have hset := heap_setCell_same w h 1 _ _ v' r.own
    have hk := World.keptBut_setCell (may := fun p => p.block = h) w ⟨h, 1, none⟩ v' rfl
    have hother : ∀ q, q < w.heap.size → q ≠ h → (w.setCell ⟨h, 1, none⟩ v').heap[q]? = w.heap[q]? := fun q hq hne => hk.block hq (fun p hp e => hne (by rw [← e, hp]))
    refine ⟨rfl, v', ⟨hset, ht.same (fun q hq => hother q (ht.lt q hq).2 (fun e => ?_))⟩, ⟨hk.1, rfl, hk.2.1, hk.size, fun k hk1 hk2 _ => hother k hk1 hk2⟩, .inl hb⟩
    obtain ⟨cur, hc⟩ := ht.kind q hq
    rw [e, r.own] at hc
    cases hc
  rw [strV_length] at c1 k3 k1
  unfold maxLen at k4
  clear r htail
  have hx : Hid (xs.length ≤ 1000) := hl
  by_cases hcap : cap = 1
  · subst hcap
    obtain ⟨k5, k6⟩ := k2 rfl
    obtain rfl : xs = [] := by simpa [strV] using k6
    have HF := Lib.hid (hfin.out _ k5 rfl)
    clear k1 k2 k3 k5 k6 hfin
    go_enter Try.func14, Try.ntmps14
    go_wp2
    go_ret2
    exact HF.out
  · have HF := Lib.hid (hfin.out _ k1 rfl)
    have j1 : (1 : Int) ≤ (xs.length : Int) + 1 := by omega
    have j2 : (xs.length : Int) + 1 ≤ (cap : Int) := by omega
    have j3 : ¬ cap = 1 := hcap
    clear k1 k2 k3 hfin hl
    go_enter Try.func14, Try.ntmps14
    go_wp2
    go_ret2
    exact HF.out

end Go.Proofs.Ytonidhpjecohlaa.L6
