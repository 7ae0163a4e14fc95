/- Contracts of net.New, Many, lies, lay, Send, Double. -/
import Derived.Test.YtildapcdkipakaaNtRow
import Derived.Deep.AppendLies
import Derived.Deep.RegionLaw
namespace Go.Proofs.Ytildapcdkipakaa.L8
open Go.ChangeShapes Go.WideShapes Go.ChangeAt Go.RowKit Go.Deep

/-- All that lay there, but for these blocks, is as it was. -/
structure Only (F : Nat → Prop) (w w' : World) : Prop where
  os : w'.os = w.os
  tape : w'.tape = w.tape
  output : w'.output = w.output
  size : w.heap.size ≤ w'.heap.size
  block : ∀ k, k < w.heap.size → ¬ F k → w'.heap[k]? = w.heap[k]?
theorem Only.refl (F : Nat → Prop) (w : World) : Only F w w := ⟨rfl, rfl, rfl, Nat.le_refl _, fun _ _ _ => rfl⟩
theorem Only.trans {F : Nat → Prop} {a b c : World} (h : Only F a b) (k : Only F b c) : Only F a c :=
  ⟨k.os.trans h.os, k.tape.trans h.tape, k.output.trans h.output, Nat.le_trans h.size k.size, fun q hq hr => (k.block q (Nat.lt_of_lt_of_le hq h.size) hr).trans (h.block q hq hr)⟩
theorem Only.onto {F G : Nat → Prop} {a b c : World} (h : Only F a b) (k : Only G b c) (hg : ∀ q, G q → F q ∨ a.heap.size ≤ q) : Only F a c :=
  ⟨k.os.trans h.os, k.tape.trans h.tape, k.output.trans h.output, Nat.le_trans h.size k.size, fun q hq hn => (k.block q (Nat.lt_of_lt_of_le hq h.size) (fun e => (hg q e).elim hn (fun e => by omega))).trans (h.block q hq hn)⟩
theorem Only.of_below {F : Nat → Prop} {a b : World} (h : Below a.heap.size a b) : Only F a b := ⟨h.os, h.tape, h.output, h.size, fun k hk _ => h.block k hk⟩
theorem Only.of_grown {F : Nat → Prop} {a b : World} {r : Option Nat} (h : a.grownBy b r) (hr : ∀ k, r = some k → F k) : Only F a b := ⟨h.os, h.tape, h.output, h.size, fun k hk hn => h.block k hk (fun e => hn (hr k e.symm))⟩
theorem Only.below {F : Nat → Prop} {a b c : World} {B : Nat} (h : Below B a b) (k : Only F b c) (hB : B ≤ b.heap.size) (hF : ∀ q, F q → B ≤ q) : Below B a c :=
  ⟨k.os.trans h.os, k.tape.trans h.tape, k.output.trans h.output, Nat.le_trans h.size k.size, fun q hq => (k.block q (Nat.lt_of_lt_of_le hq hB) (fun hf => by have := hF q hf; omega)).trans (h.block q hq)⟩
theorem Only.setCell {F : Nat → Prop} {a b : World} (h : Only F a b) {p : Addr} (hp : F p.block ∨ a.heap.size ≤ p.block) (u : Value) : Only F a (b.setCell p u) :=
  ⟨h.os, h.tape, h.output, by simpa using h.size, fun k hk hn => by
    rw [RowKit.Below.heap_setCell _ _ _ _ (fun e => by subst e; rcases hp with hp | hp; exact hn hp; omega)]
    exact h.block k hk hn⟩
theorem blk_setj {W : World} {b j : Nat} {t : TypeId} {cs : Array Value} (h : W.heap[b]? = some (.cells cs t (0, 0))) (v : Value) : (W.setCell ⟨b, j, none⟩ v).heap[b]? = some (.cells (cs.setIfInBounds j v) t (0, 0)) := by
  obtain ⟨hlt, hk⟩ := Array.getElem?_eq_some_iff.1 h
  show (W.heap.modify b _)[b]? = _
  rw [Array.getElem?_eq_getElem (by rw [Array.size_modify]; exact hlt), Array.getElem_modify_self, hk]
  rfl
theorem pair_set0 (a b v : Value) : (#[a, b] : Array Value).setIfInBounds 0 v = #[v, b] := rfl
theorem info_parts8 {P : Program} {t : TypeId} {z : Option Value} {s b : Nat} (h : (P.info? t).map (fun i => (i.zero, i.size, i.bytes)) = some (z, s, b)) : ∃ i, P.info? t = some i ∧ i.zero = z ∧ i.size = s ∧ i.bytes = b := by
  cases hi : P.info? t with
  | none => rw [hi] at h; simp at h
  | some i => rw [hi] at h; simp at h; exact ⟨i, rfl, h.1, h.2.1, h.2.2⟩
theorem info_dg : (Try.prog.info? 36).map (fun i => (i.zero, i.size, i.bytes)) = some (some (.agg #[.int .i64 0, .int .i64 0, .string ⟨#[]⟩]), 3, 32) := by kernel_rfl

set_option maxHeartbeats 400000 in
theorem isProcess_calls (p : Int) (w : World) : Calls Try.prog 33 #[.int .i64 p] w fun e w' => e = .returned (.bool (decide (1 ≤ p ∧ p ≤ 8))) ∧ w = w' := by
  by_cases h1 : 1 ≤ p
  · by_cases h2 : p ≤ 8
    · rw [decide_eq_true (And.intro h1 h2)]
      go_enter Try.func33, Try.ntmps33
      go_wp2
      go_ret
      exact ⟨rfl, rfl⟩
    · rw [decide_eq_false (fun h => h2 h.2)]
      go_enter Try.func33, Try.ntmps33
      go_wp2
      go_ret
      exact ⟨rfl, rfl⟩
  · rw [decide_eq_false (fun h => h1 h.1)]
    go_enter Try.func33, Try.ntmps33
    go_wp2
    go_ret
    exact ⟨rfl, rfl⟩

def NewOut (w : World) (e : Ending) (w' : World) : Prop := e = .returned (.pointer (some ⟨w.heap.size + 1, 0, none⟩)) ∧ NtAt w' w.heap.size (w.heap.size + 1) [] (.slice none 0 0) w.heap.size 0 [] ∧ Below w.heap.size w w'
set_option maxHeartbeats 400000 in
theorem New_calls (w : World) : Calls Try.prog 8 #[] w (NewOut w) := by
  have hfin : Hid (NewOut w (.returned (.pointer (some ⟨w.heap.size + 1, 0, none⟩))) ((w.alloc (.map #[] 0)).alloc (.cells #[.slice none 0 0, .map (some w.heap.size)] 76))) := by
    have b1 : Below w.heap.size w ((w.alloc (.map #[] 0)).alloc (.cells #[.slice none 0 0, .map (some w.heap.size)] 76)) := ((Below.refl _ w).alloc (Nat.le_refl _) _).alloc (by simp) _
    refine ⟨rfl, ⟨?_, ⟨by omega, by omega⟩, ⟨rfl, .inl ⟨rfl, rfl⟩⟩, (MapH.made w).same (Below.heap_alloc _ _ _ (by simp))⟩, b1⟩
    have := heap_alloc_new (w.alloc (.map #[] 0)) (.cells #[.slice none 0 0, .map (some w.heap.size)] 76)
    rw [World.size_alloc] at this
    exact this
  have hmm := @run_makeMap Try.prog
  go_enter Try.func8, Try.ntmps8
  go_wp2
  go_ret
  exact hfin.out

section
variable {w : World} {B h : Nat} {l : List Dg} {v : Value} {b n : Nat} {hs : List Bytes}
set_option maxHeartbeats 400000 in
theorem Many_calls (a : NtAt w B h l v b n hs) : Calls Try.prog 18 #[.pointer (some ⟨h, 0, none⟩)] w fun e w' => e = .returned (.int .i64 l.length) ∧ w = w' := by
  obtain ⟨c0, c1, c2⟩ := a.cells
  obtain ⟨A, c, rfl⟩ := L5.own_slice a.row
  clear a
  go_enter Try.func18, Try.ntmps18
  go_wp2
  go_ret
  exact ⟨rfl, rfl⟩
set_option maxHeartbeats 1000000 in
theorem lies_calls (a : NtAt w B h l v b n hs) (i : Int) : Calls Try.prog 30 #[.pointer (some ⟨h, 0, none⟩), .int .i64 i] w fun e w' => e = .returned (.bool (decide (0 ≤ i ∧ i < l.length))) ∧ w = w' := by
  have HM := Lib.hid (Many_calls a)
  clear a
  by_cases h1 : 0 ≤ i
  · by_cases h2 : i < l.length
    · rw [decide_eq_true (And.intro h1 h2)]
      go_enter Try.func30, Try.ntmps30
      go_wp2_with (go_at_call 18; refine HM.out.mono ?_; rintro e w' ⟨rfl, rfl⟩)
      go_ret
      exact ⟨rfl, rfl⟩
    · rw [decide_eq_false (fun h => h2 h.2)]
      have hd : decide (i < (l.length : Int)) = false := decide_eq_false h2
      go_enter Try.func30, Try.ntmps30
      go_wp2_with (go_at_call 18; refine HM.out.mono ?_; rintro e w' ⟨rfl, rfl⟩)
      go_ret
      exact ⟨rfl, rfl⟩
  · rw [decide_eq_false (fun h => h1 h.1)]
    go_enter Try.func30, Try.ntmps30
    go_wp2
    go_ret
    exact ⟨rfl, rfl⟩
/-- The net was changed. -/
def Ntd (w : World) (B h : Nat) (v : Value) (b : Nat) (l' : List Dg) (n' : Nat) (hs' : List Bytes) (w' : World) : Prop :=
  ∃ v', NtAt w' B h l' v' b n' hs' ∧ Only (NtIn h v b) w w' ∧ ∀ q, NtIn h v' b q → NtIn h v b q ∨ w.heap.size ≤ q
def layC (l : List Dg) : Nat := if 400 ≤ l.length then 5 else 0
def layL (l : List Dg) (d : Dg) : List Dg := if 400 ≤ l.length then l else l ++ [d]
def LayOut (w : World) (B h : Nat) (l : List Dg) (v : Value) (b n : Nat) (hs : List Bytes) (d : Dg) (e : Ending) (w' : World) : Prop :=
  e = .returned (.int .i64 (layC l)) ∧ Ntd w B h v b (layL l d) n hs w'
set_option maxRecDepth 100000 in
set_option maxHeartbeats 4000000 in
theorem lay_calls (a : NtAt w B h l v b n hs) (hB : B ≤ w.heap.size) (d : Dg) (hl : l.length ≤ 1000000) : Calls Try.prog 32 #[.pointer (some ⟨h, 0, none⟩), d.val] w (LayOut w B h l v b n hs d) := by
  obtain ⟨i0, hi, hz0, hz1, hz2⟩ := info_parts8 info_dg
  obtain ⟨src, dst, fr⟩ := d
  have bA : Below w.heap.size w (w.alloc (.cells #[.int .i64 src, .int .i64 dst, .string ⟨fr.toArray⟩] 36)) := (Below.refl _ w).alloc (Nat.le_refl _) _
  have hnew := heap_alloc_new w (.cells #[.int .i64 src, .int .i64 dst, .string ⟨fr.toArray⟩] 36)
  have hsz : (w.alloc (.cells #[.int .i64 src, .int .i64 dst, .string ⟨fr.toArray⟩] 36)).heap.size = w.heap.size + 1 := by simp
  unfold Dg.val
  by_cases hf : 400 ≤ l.length
  · have j1 : (400 : Int) ≤ (l.length : Int) := by omega
    have a1 := a.below bA
    have HM := Lib.hid (Many_calls a1)
    have HF : Hid (LayOut w B h l v b n hs ⟨src, dst, fr⟩ (.returned (.int .i64 5)) (w.alloc (.cells #[.int .i64 src, .int .i64 dst, .string ⟨fr.toArray⟩] 36))) := by
      refine ⟨by unfold layC; rw [if_pos hf]; rfl, v, ?_, Only.of_below bA, fun q hq => .inl hq⟩
      unfold layL
      rw [if_pos hf]
      exact a1
    clear a a1 bA hf hnew hsz
    go_enter Try.func32, Try.ntmps32
    go_wp2_with fail
    refine HM.out.mono ?_
    rintro e w' ⟨rfl, rfl⟩
    go_wp2
    go_ret
    exact HF.out
  · have j1 : ¬ (400 : Int) ≤ (l.length : Int) := by omega
    obtain ⟨W1, hW1⟩ : ∃ W1, w.alloc (.cells #[.int .i64 src, .int .i64 dst, .string ⟨fr.toArray⟩] 36) = W1 := ⟨_, rfl⟩
    rw [hW1] at bA hnew hsz
    have a1 := a.below bA
    have HA1 := Lib.hid a1
    have HM := Lib.hid (Many_calls a1)
    obtain ⟨m0, m1, mf⟩ := a1.cells
    have hhl := a1.lt
    have x0 : W1.cell? ⟨w.heap.size, 0, none⟩ = some (.int .i64 src) := by simp only [World.cell?]; rw [hnew]; rfl
    have x1 : W1.cell? ⟨w.heap.size, 1, none⟩ = some (.int .i64 dst) := by simp only [World.cell?]; rw [hnew]; rfl
    have x2 : W1.cell? ⟨w.heap.size, 2, none⟩ = some (.string ⟨fr.toArray⟩) := by simp only [World.cell?]; rw [hnew]; rfl
    have HB1 := Lib.hid bA
    have HSz := Lib.hid hsz
    have hW1s : w.heap.size < W1.heap.size := by omega
    have bB : Below W1.heap.size W1 (W1.alloc (.cells #[.int .i64 src, .int .i64 dst, .string ⟨fr.toArray⟩] 36)) := (Below.refl _ W1).alloc (Nat.le_refl _) _
    have m0' := (bB.cell (p := ⟨h, 0, none⟩) hhl).trans m0
    have y0 := (bB.cell (p := ⟨w.heap.size, 0, none⟩) hW1s).trans x0
    have y1 := (bB.cell (p := ⟨w.heap.size, 1, none⟩) hW1s).trans x1
    have y2 := (bB.cell (p := ⟨w.heap.size, 2, none⟩) hW1s).trans x2
    have HR : Hid ((W1.drew.alloc (.cells #[.int .i64 src, .int .i64 dst, .string ⟨fr.toArray⟩] 36)).ownsRow B 36 3 v l.length (flat l)) := L5.own_below a1.row ((Below.refl _ W1).drew.alloc (Nat.le_refl _) _)
    have HNews : Hid (∀ (j : Nat) (u : Value), (Dg.cells ⟨src, dst, fr⟩)[j]? = some u → (W1.drew.alloc (.cells #[.int .i64 src, .int .i64 dst, .string ⟨fr.toArray⟩] 36)).cell? ((⟨W1.heap.size, 0, none⟩ : Addr).add j) = some u) :=
      World.news_of_block (cs := #[.int .i64 src, .int .i64 dst, .string ⟨fr.toArray⟩]) (t := 36) (fr := (0, 0)) (heap_alloc_new W1.drew _)
    have hzA : (W1.drew.alloc (.cells #[.int .i64 src, .int .i64 dst, .string ⟨fr.toArray⟩] 36)).heap.size = W1.heap.size + 1 := by rw [World.size_alloc]; rfl
    have hBA : B ≤ (W1.drew.alloc (.cells #[.int .i64 src, .int .i64 dst, .string ⟨fr.toArray⟩] 36)).heap.size := by omega
    have HEnd : Hid (∀ g cc w6, w6.ownsRow B 36 3 (.slice (some ⟨g, 0, none⟩) (l.length + 1) cc) (l.length + 1) (flat l ++ Dg.cells ⟨src, dst, fr⟩) → (W1.drew.alloc (.cells #[.int .i64 src, .int .i64 dst, .string ⟨fr.toArray⟩] 36)).grownBy w6 v.ownBlock → (v.ownBlock = some g ∨ g = W1.heap.size + 1) →
        w6.cell? ⟨h, 0, none⟩ = some v ∧ w6.frozen? ⟨h, 0, none⟩ = false ∧ LayOut w B h l v b n hs ⟨src, dst, fr⟩ (.returned (.int .i64 0)) (w6.setCell ⟨h, 0, none⟩ (.slice (some ⟨g, 0, none⟩) (l.length + 1) cc))) := fun g cc w6 k1 k2 k3 => by
      obtain ⟨p1, p2, p3⟩ := HA1.out.apart
      have bC : W1.grownBy (W1.drew.alloc (.cells #[.int .i64 src, .int .i64 dst, .string ⟨fr.toArray⟩] 36)) v.ownBlock := L5.grow_trans (w := W1.drew) ⟨rfl, rfl, rfl, Nat.le_refl _, fun _ _ _ => rfl⟩ (World.grownBy_alloc W1.drew (.cells #[.int .i64 src, .int .i64 dst, .string ⟨fr.toArray⟩] 36) _)
      have k4 := L5.grow_trans bC k2
      have o6 : w6.heap[h]? = some (.cells #[v, .map (some b)] 76 (0, 0)) := (k4.block h HA1.out.lt (fun e => p2 e.symm)).trans HA1.out.own
      have hv6 : (Value.slice (some ⟨g, 0, none⟩) (l.length + 1) cc).ownBlock ≠ some h := fun e => by
        rcases k1.2 with ⟨e3, _⟩ | ⟨g', cap, cur, e3, _, e4, _⟩
        · cases e3
        · cases e3
          cases e
          rw [o6] at e4
          simp at e4
      have mp := HA1.out.map.same (k4.block b HA1.out.map.lt (fun e => p3 e.symm))
      have oW : Only (NtIn h v b) w w6 := (Only.of_below HB1.out).onto (Only.of_grown k4 (fun k e => e)) (fun q e => .inl (.inr (.inr e)))
      refine ⟨by simp only [World.cell?]; rw [o6]; rfl, by simp only [World.frozen?]; rw [o6]; simp, by unfold layC; rw [if_neg hf]; rfl, .slice (some ⟨g, 0, none⟩) (l.length + 1) cc, ?_, oW.setCell (.inl (.inl rfl)) _, ?_⟩
      · unfold layL
        rw [if_neg hf]
        refine ⟨?_, HA1.out.base, ?_, mp.same (Below.heap_setCell _ _ _ _ (by show b ≠ h; exact fun e => p1 e.symm))⟩
        · have := blk_setj (j := 0) o6 (.slice (some ⟨g, 0, none⟩) (l.length + 1) cc)
          rw [pair_set0] at this
          exact this
        · rw [List.length_append, flat_append, flat_one]
          exact L5.own_same k1 (fun q e => Below.heap_setCell _ _ _ _ (by show q ≠ h; intro e'; exact hv6 (by rw [e, e'])))
      · intro q hq
        rcases hq with e | e | e
        · exact .inl (.inl e)
        · exact .inl (.inr (.inl e))
        · rcases k3 with k3 | k3
          · exact .inl (.inr (.inr (by rw [k3]; exact e)))
          · right
            cases e
            have := HSz.out
            show w.heap.size ≤ g
            omega
    have hll : l.length ≤ 1000000 := hl
    clear a a1 bA bB hnew hsz hf hl
    go_enter Try.func32, Try.ntmps32
    go_wp2_with fail
    refine HM.out.mono ?_
    rintro e w' ⟨rfl, rfl⟩
    clear HM
    go_wp2
    go_region_law (first
      | (refine step_append_lies _ rfl (.tmp 12) (.tmp 14) 47 rfl B 36 i0 (.agg #[.int .i64 0, .int .i64 0, .string ⟨#[]⟩]) 3 32 Try.underlying47 hi hz0 hz1 hz2 rfl (by decide) v l.length (flat l) (by simp [Act.eval]) HR.out ⟨W1.heap.size, 0, none⟩ 1 1 (Dg.cells ⟨src, dst, fr⟩) (by simp [Act.eval]) rfl HNews.out (by simp [Dg.cells, Value.oneCell']) (by decide) (by unfold maxLen; omega) (by omega) hBA (W1.heap.size + 1) hzA ?_
         intro gg cc w6 k1 k2 k3 k4
         obtain ⟨j4, jf, jr⟩ := HEnd.out gg cc w6 k1 k2 k3
         have HJ := Lib.hid jr
         clear k1 k2 k3 k4 jr))
    all_goals
      clear HEnd HNews HR
      go_wp2
      go_ret
      exact HJ.out
end
end Go.Proofs.Ytildapcdkipakaa.L8
