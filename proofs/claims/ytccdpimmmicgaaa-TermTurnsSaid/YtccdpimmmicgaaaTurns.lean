/- The law TermTurns: for all steps and turns it returns true. -/
import Derived.Test.YtccdpimmmicgaaaHelp
import Derived.Test.YtccdpimmmicgaaaOrder
import Derived.Test.YtccdpimmmicgaaaPow
namespace Go.Proofs.Ytccdpimmmicgaaa
open Go.ChangeShapes Go.WideShapes Go.ChangeAt Go.RowKit

namespace Tm
/-- An element that was raised by these, in any order. -/
def Acc (xs : List (List UInt8)) (a : List UInt8) : Prop :=
  right a = true ∧ element a = true ∧ (ofL a).Perm xs ∧ chain [] (ofL a) ∧ ((xs = [] ∧ a = [103]) ∨ (xs ≠ [] ∧ a = 101 :: UInt8.ofNat xs.length :: (ofL a).flatten))
theorem acc_gen : Acc [] [103] := by
  have hr : right [103] = true := (right_iff _).2 good_gen.1
  have ho : ofL [103] = [] := by unfold ofL; rw [show begin_ [103] = (1, 0) from by simp [begin_, headOf]]; rfl
  refine ⟨hr, rfl, ?_, ?_, .inl ⟨rfl, rfl⟩⟩
  · rw [ho]
  · rw [ho]; trivial
theorem ins_flat (xs : List (List UInt8)) (i : Nat) (b : List UInt8) : (ins xs i b).flatten.length = xs.flatten.length + b.length := by
  unfold ins
  have h := congrArg (fun l : List (List UInt8) => l.flatten.length) (List.take_append_drop i xs)
  simp only [List.flatten_append, List.length_append] at h
  simp only [List.flatten_append, List.flatten_cons, List.length_append]
  omega
theorem acc_step {xs : List (List UInt8)} {a b l : List UInt8} (h : Acc xs a) (hb : right b = true) (hf : PowFact a b l) : Acc (xs ++ [b]) l ∧ l ≠ a ∧ (xs ≠ [] → l.length = a.length + b.length) := by
  obtain ⟨h1, h2, h3, h4, h5⟩ := h
  obtain ⟨i, f1, f2, f3, f4, f5⟩ := hf
  have hbl := (right_ne_nil hb).2
  have hlen : (ofL a).length = xs.length := h3.length_eq
  have hl : l.length = 2 + ((ofL a).flatten.length + b.length) := by
    rw [f5]; simp only [List.length_cons]; rw [ins_flat]; omega
  have hstep : xs ≠ [] → l.length = a.length + b.length := by
    intro hx
    rcases h5 with ⟨h5, _⟩ | ⟨_, h5⟩
    · exact absurd h5 hx
    · have := congrArg List.length h5
      simp only [List.length_cons] at this
      omega
  refine ⟨⟨f4, by rw [f5]; rfl, ?_, f3, .inr ⟨by simp, ?_⟩⟩, ?_, hstep⟩
  · rw [f2]; exact (ins_perm _ _ _).trans (h3.append_right [b])
  · rw [f2]
    have : (xs ++ [b]).length = (ofL a).length + 1 := by simp [hlen]
    rw [this]
    exact f5
  · intro e
    by_cases hx : xs = []
    · rcases h5 with ⟨_, h5⟩ | ⟨h5, _⟩
      · rw [e, h5] at hl; simp at hl; omega
      · exact h5 hx
    · have := hstep hx
      rw [e] at this
      omega
theorem acc_unique {xs ys : List (List UInt8)} {a b : List UInt8} (h : Acc xs a) (k : Acc ys b) (hp : xs.Perm ys) (hx : xs ≠ []) : a = b := by
  obtain ⟨_, _, h3, h4, h5⟩ := h
  obtain ⟨_, _, k3, k4, k5⟩ := k
  have e := chain_unique h4 k4 (h3.trans (hp.trans k3.symm))
  have hl := hp.length_eq
  have hy : ys ≠ [] := fun e => by rw [e] at hl; simp at hl; exact hx hl
  rcases h5 with ⟨h5, _⟩ | ⟨_, h5⟩
  · exact absurd h5 hx
  rcases k5 with ⟨k5, _⟩ | ⟨_, k5⟩
  · exact absurd k5 hy
  rw [h5, k5, e, hl]
theorem acc_depth {xs : List (List UInt8)} {a : List UInt8} (h : Acc xs a) (hx : xs ≠ []) : 2 ≤ depthOf a ∧ depthOf a ≤ 400 := by
  obtain ⟨h1, _, h3, _⟩ := h
  obtain ⟨_, o2, _, _, o5, _⟩ := ofL_ok h1
  refine ⟨?_, depthOf_le a⟩
  have hne : ofL a ≠ [] := fun e => by
    have := h3.length_eq
    rw [e] at this
    exact hx (List.length_eq_zero_iff.1 this.symm)
  obtain ⟨y, ys, hy⟩ := List.exists_cons_of_ne_nil hne
  have hm : y ∈ ofL a := by rw [hy]; simp
  have := (o2 y hm).2.1
  have := (o2 y hm).1
  omega

/-- The terms at these places, one behind the other. -/
def sel (ts : List (List UInt8)) (f : Nat → Nat) (i : Nat) : List (List UInt8) := (List.range i).map fun j => ts.getD (f j) []
theorem sel_succ (ts : List (List UInt8)) (f : Nat → Nat) (i : Nat) : sel ts f (i + 1) = sel ts f i ++ [ts.getD (f i) []] := by
  simp [sel, List.range_succ]
theorem sel_length (ts : List (List UInt8)) (f : Nat → Nat) (i : Nat) : (sel ts f i).length = i := by simp [sel]
theorem sel_id (ts : List (List UInt8)) : sel ts (fun j => j) ts.length = ts := by
  apply List.ext_getElem
  · simp [sel]
  · intro j h1 h2
    simp [sel, List.getD]
    rw [List.getElem?_eq_getElem h2]; rfl
theorem sel_rev (ts : List (List UInt8)) : sel ts (fun j => ts.length - 1 - j) ts.length = ts.reverse := by
  apply List.ext_getElem
  · simp [sel]
  · intro j h1 h2
    have hj : j < ts.length := by simpa [sel] using h1
    simp only [sel, List.getElem_map, List.getElem_range, List.getD, List.getElem_reverse]
    rw [List.getElem?_eq_getElem (by omega)]
    rfl
theorem sel_rot (ts : List (List UInt8)) (p : Nat) (hp : p < ts.length) : sel ts (fun j => (j + p) % ts.length) ts.length = ts.drop p ++ ts.take p := by
  apply List.ext_getElem
  · simp [sel]; omega
  · intro j h1 h2
    have hj : j < ts.length := by simpa [sel] using h1
    simp only [sel, List.getElem_map, List.getElem_range, List.getD]
    by_cases h : j < ts.length - p
    · rw [List.getElem_append_left (by simpa using h), List.getElem_drop]
      have e : (j + p) % ts.length = p + j := by rw [Nat.mod_eq_of_lt (by omega)]; omega
      rw [e, List.getElem?_eq_getElem (by omega)]
      rfl
    · rw [List.getElem_append_right (by simpa using h), List.getElem_take]
      have e : (j + p) % ts.length = j - (ts.length - p) := by
        rw [Nat.mod_eq_sub_mod (by omega), Nat.mod_eq_of_lt (by omega)]; omega
      rw [e, List.getElem?_eq_getElem (by omega)]
      simp
theorem sel_mem {ts : List (List UInt8)} {f : Nat → Nat} {i : Nat} (hf : ∀ j, j < i → f j < ts.length) {x : List UInt8} (hx : x ∈ sel ts f i) : x ∈ ts := by
  simp only [sel, List.mem_map, List.mem_range] at hx
  obtain ⟨j, hj, rfl⟩ := hx
  have := hf j hj
  simp only [List.getD, List.getElem?_eq_getElem this, Option.getD_some]
  exact List.getElem_mem _
end Tm

def PowFine (W : World) (a b : List UInt8) (e : Ending) (w' : World) : Prop := ∃ l, e = .returned (.tuple #[.string ⟨l.toArray⟩, .int .i64 0]) ∧ Tm.PowFact a b l ∧ Below W.heap.size W w'

theorem fine_put {W : World} {a b : List UInt8} {i : Nat} (ra : Tm.right a = true) (rb : Tm.right b = true) (hel : Tm.element a = true) (hf : Found (Tm.expsOf a) b i) (hn : (Tm.expsOf a).length < 30) (hg : ∀ x ∈ Tm.expsOf a, Tm.Good 41 600 x) (hb : Tm.Good 41 600 b) {e : Ending} {w' : World}
    (hp : Pair2 W (Tm.put [101, UInt8.ofNat ((Tm.expsOf a).length + 1)] (Tm.ins (Tm.expsOf a) i b)) e w') : PowFine W a b e w' := by
  obtain ⟨he, hbel⟩ := hp
  have hall : ∀ p ∈ Tm.ins (Tm.expsOf a) i b, Tm.Good 41 600 p := by
    intro p hp
    simp only [Tm.ins, List.mem_append, List.mem_cons] at hp
    rcases hp with hp | rfl | hp
    · exact hg p (List.mem_of_mem_take hp)
    · exact hb
    · exact hg p (List.mem_of_mem_drop hp)
  have hfl := Tm.flat_le (ts := Tm.ins (Tm.expsOf a) i b) (fun t ht => (hall t ht).2.2)
  rw [Tm.ins_length _ _ _ hf.1] at hfl
  have hm : Tm.maxDepth (Tm.ins (Tm.expsOf a) i b) ≤ 41 := Tm.maxDepth_bound (fun p hp => (hall p hp).2.1)
  have hok := Tm.put_ok (hd := [101, UInt8.ofNat ((Tm.expsOf a).length + 1)]) (ps := Tm.ins (Tm.expsOf a) i b) (fun p hp => (hall p hp).1) (by unfold Tm.total; simp only [List.length_cons, List.length_nil]; omega) (by omega)
  rw [hok] at he
  exact ⟨_, he, Tm.pow_fact ra hel rb hf (by omega) hok, hbel⟩

theorem pow_fine {xs : List (List UInt8)} {a b : List UInt8} (hA : Tm.Acc xs a) (hn : xs.length < 30) (hg : ∀ x ∈ xs, Tm.Good 41 600 x) (hb : Tm.Good 41 600 b) (W : World) :
    Calls Try.prog 14 #[.string ⟨a.toArray⟩, .string ⟨b.toArray⟩] W (PowFine W a b) := by
  obtain ⟨ra, hel, hperm, _⟩ := hA
  have rb : Tm.right b = true := (Tm.right_iff b).2 hb.1
  have ea : (⟨a.toArray⟩ : ByteArray).data.toList = a := by simp
  have eb : (⟨b.toArray⟩ : ByteArray).data.toList = b := by simp
  have za : (⟨a.toArray⟩ : ByteArray).size ≤ maxLen := by rw [size_list]; have := (Tm.ofL_ok ra).2.2.2.2.2; unfold maxLen; omega
  have zb : (⟨b.toArray⟩ : ByteArray).size ≤ maxLen := by rw [size_list]; have := (Tm.ofL_ok rb).2.2.2.2.2; unfold maxLen; omega
  have ho := Tm.ofL_exps ra hel
  rw [ho] at hperm
  have hlen := hperm.length_eq
  have hg' : ∀ x ∈ Tm.expsOf a, Tm.Good 41 600 x := fun x hx => hg x (hperm.mem_iff.1 hx)
  by_cases h0 : a.getD 0 0 = 103
  · refine (Power_gen ⟨a.toArray⟩ ⟨b.toArray⟩ za zb W (by rw [ea]; exact hel) (by rw [ea]; exact ra) (by rw [eb]; exact rb) (by rw [ea]; exact h0)).mono ?_
    rintro e w' ⟨i, hf, hp⟩
    rw [ea, eb] at hp hf
    exact fine_put ra rb hel hf (by omega) hg' hb hp
  · refine (Power_pow ⟨a.toArray⟩ ⟨b.toArray⟩ za zb W (by rw [ea]; exact hel) (by rw [ea]; exact ra) (by rw [eb]; exact rb) (by rw [ea]; exact h0) (by rw [ea]; omega)).mono ?_
    rintro e w' ⟨i, hf, hp⟩
    rw [ea, eb] at hp hf
    exact fine_put ra rb hel hf (by omega) hg' hb hp

def Turning (ts : List (List UInt8)) (p : Nat) (V : World) (k : Nat) (v8 v9 v10 v11 : Value) (wr : World) : Prop :=
  ∃ (i : Nat) (a b c : List UInt8), k + i = ts.length ∧ v11 = .int .i64 i ∧ v8 = .string ⟨a.toArray⟩ ∧ v9 = .string ⟨b.toArray⟩ ∧ v10 = .string ⟨c.toArray⟩ ∧
    Tm.Acc (Tm.sel ts (fun j => j) i) a ∧ Tm.Acc (Tm.sel ts (fun j => (j + p) % ts.length) i) b ∧ Tm.Acc (Tm.sel ts (fun j => ts.length - 1 - j) i) c ∧ Below V.heap.size V wr

set_option maxRecDepth 100000 in
set_option maxHeartbeats 40000000 in
theorem turns_all (A : Option Addr) (n c : Nat) (by_ : Int) (w : World) (hS : Steps w A n) (hnc : n ≤ maxLen) (rb : isInt by_) :
    Calls Try.prog 5 #[.slice A n c, .int .i64 by_] w (One w (.bool true)) := by
  have HS := Lib.hid shown_calls
  have HSt := Lib.hid hS
  have HNC := Lib.hid hnc
  have HR := Lib.hid rb
  clear hS hnc rb
  go_enter Try.func5, Try.ntmps5
  go_wp2_with fail
  refine (HS.out _).mono ?_
  rintro e' w0 ⟨rfl, B0⟩
  have HM := Lib.hid (made_calls A n c w0 (steps_below HSt.out B0) HNC.out)
  go_wp2_with fail
  refine HM.out.mono ?_
  rintro e' w1 ⟨g, cap, ts, rfl, hrow, hlen, hgood, hb1⟩
  have B := B0.trans (hb1.mono B0.size)
  have h42 : ts.length ≤ 42 := by omega
  have h22 : 2 ≤ ts.length := by omega
  have HG := Lib.hid hgood
  have HT := Lib.hid (texts_of_row hrow)
  have hgl : g < w1.heap.size := lt_of_row hrow
  clear hrow hgood hlen hb1 HM HSt HNC HS B0
  by_cases h12 : 12 < ts.length
  · have d1 : decide ((12 : Int) < (ts.length : Int)) = true := by simp; omega
    have i1 : (12 : Int) < (ts.length : Int) := by omega
    go_wp2
    go_ret
    exact ⟨rfl, B⟩
  · have d1 : decide ((12 : Int) < (ts.length : Int)) = false := by simp; omega
    have i1 : (ts.length : Int) ≤ 12 := by omega
    go_wp2_with fail
    refine (Gen_calls _).mono ?_
    rintro e' w2 ⟨rfl, b2⟩
    go_wp2_with fail
    refine (Gen_calls _).mono ?_
    rintro e' w3 ⟨rfl, b3⟩
    go_wp2_with fail
    refine (Gen_calls _).mono ?_
    rintro e' w4 ⟨rfl, b4⟩
    have b24 := b2.trans (b3.mono b2.size)
    replace b24 := b24.trans (b4.mono b24.size)
    replace B := B.trans (b24.mono B.size)
    have HT4 := Lib.hid (HT.out.below b24 hgl)
    have hgl4 : g < w4.heap.size := Nat.lt_of_lt_of_le hgl b24.size
    have BB := Lib.hid B
    clear b2 b3 b4 b24 B HT hgl
    have hpl := Tm.pickN_lt by_ ts.length (by omega)
    have cP := fun W => pick_calls by_ ts.length HR.out.1 HR.out.2 (by omega) (by omega) W
    obtain ⟨p, hp⟩ : ∃ p, Tm.pickN by_ ts.length = p := ⟨_, rfl⟩
    rw [hp] at cP hpl
    have HP := Lib.hid cP
    clear cP hp
    go_wp2
    go_loopg [8, 9, 10, 11] ts.length (fun k v8 v9 v10 v11 wr => Turning ts p w4 k v8 v9 v10 v11 wr)
    case atStart => exact ⟨0, [103], [103], [103], by omega, rfl, rfl, rfl, rfl, Tm.acc_gen, Tm.acc_gen, Tm.acc_gen, Below.refl _ _⟩
    case round =>
      obtain ⟨i, a, b, d, hk, rfl, rfl, rfl, rfl, aA, aB, aC, hbel⟩ := hrel
      by_cases hi : i < ts.length
      · obtain ⟨q, hq⟩ : ∃ q, (i + p) % ts.length = q := ⟨_, rfl⟩
        have hql : q < ts.length := by rw [← hq]; exact Nat.mod_lt _ (by omega)
        obtain ⟨r, hr⟩ : ∃ r, ts.length - 1 - i = r := ⟨_, rfl⟩
        have hrl : r < ts.length := by omega
        obtain ⟨x, hx⟩ : ∃ x, ts[i]? = some x := ⟨_, List.getElem?_eq_getElem hi⟩
        obtain ⟨y, hy⟩ : ∃ y, ts[q]? = some y := ⟨_, List.getElem?_eq_getElem hql⟩
        obtain ⟨z, hz⟩ : ∃ z, ts[r]? = some z := ⟨_, List.getElem?_eq_getElem hrl⟩
        have gx := HG.out x (List.mem_of_getElem? hx)
        have gy := HG.out y (List.mem_of_getElem? hy)
        have gz := HG.out z (List.mem_of_getElem? hz)
        have mem : ∀ (f : Nat → Nat), (∀ j, j < i → f j < ts.length) → ∀ u ∈ Tm.sel ts f i, Tm.Good 41 600 u := fun f hf u hu => HG.out u (Tm.sel_mem hf hu)
        have cA := fun W => pow_fine aA (by rw [Tm.sel_length]; omega) (mem _ (fun j hj => by omega)) gx W
        have cB := fun W => pow_fine aB (by rw [Tm.sel_length]; omega) (mem _ (fun j hj => Nat.mod_lt _ (by omega))) gy W
        have cC := fun W => pow_fine aC (by rw [Tm.sel_length]; omega) (mem _ (fun j hj => by omega)) gz W
        have HA := Lib.hid cA
        have HB := Lib.hid cB
        have HC := Lib.hid cC
        have HAcc := Lib.hid (And.intro aA (And.intro aB aC))
        have HX := Lib.hid (And.intro hx (And.intro hy (And.intro hz (And.intro hq hr))))
        have HGs := Lib.hid (And.intro gx (And.intro gy gz))
        have tx : wr.cell? ⟨g, i, none⟩ = some (.string ⟨x.toArray⟩) := (HT4.out.below hbel hgl4) i x hx
        have hqI : ((i : Int) + (p : Int)) % (ts.length : Int) = (q : Int) := by rw [← hq]; simp
        have hrI : (ts.length : Int) - 1 - (i : Int) = (r : Int) := by omega
        have j1 : (i : Int) < (ts.length : Int) := by omega
        have j2 : (0 : Int) ≤ (i : Int) := by omega
        have j3 : (q : Int) < (ts.length : Int) := by omega
        have j4 : (0 : Int) ≤ (q : Int) := by omega
        have j5 : (r : Int) < (ts.length : Int) := by omega
        have j6 : (0 : Int) ≤ (r : Int) := by omega
        have j7 : (0 : Int) ≤ (p : Int) := by omega
        have j8 : (p : Int) < (ts.length : Int) := Int.ofNat_lt.2 hpl
        have j10 : ¬ ((ts.length : Int) = 0) := by omega
        have j9 : ((ts.length : Int) == 0) = false := by rw [beq_eq_false_iff_ne]; exact j10
        clear cA cB cC aA aB aC hx hy hz hq hr gx gy gz mem
        go_wp2_with fail
        refine (HA.out _).mono ?_
        rintro e' w5 ⟨la, rfl, fA, b5⟩
        have B5 : Below w4.heap.size w4 w5 := hbel.trans (b5.mono hbel.size)
        have tq : w5.cell? ⟨g, q, none⟩ = some (.string ⟨y.toArray⟩) := (HT4.out.below B5 hgl4) q y HX.out.2.1
        clear b5 hbel tx
        go_wp2_with fail
        refine (HP.out _).mono ?_
        rintro e' w' ⟨rfl, rfl⟩
        go_wp2_with fail
        refine (HB.out _).mono ?_
        rintro e' w6 ⟨lb, rfl, fB, b6⟩
        have B6 : Below w4.heap.size w4 w6 := B5.trans (b6.mono B5.size)
        have tr : w6.cell? ⟨g, r, none⟩ = some (.string ⟨z.toArray⟩) := (HT4.out.below B6 hgl4) r z HX.out.2.2.1
        clear b6 tq B5
        go_wp2_with fail
        refine (HC.out _).mono ?_
        rintro e' w7 ⟨lc, rfl, fC, b7⟩
        have B7 : Below w4.heap.size w4 w7 := B6.trans (b7.mono B6.size)
        have tx : w7.cell? ⟨g, i, none⟩ = some (.string ⟨x.toArray⟩) := (HT4.out.below B7 hgl4) i x HX.out.1
        clear b7 tr B6
        obtain ⟨sA, neA, lenA⟩ := Tm.acc_step HAcc.out.1 ((Tm.right_iff _).2 HGs.out.1.1) fA
        obtain ⟨sB, _, _⟩ := Tm.acc_step HAcc.out.2.1 ((Tm.right_iff _).2 HGs.out.2.1.1) fB
        obtain ⟨sC, _, _⟩ := Tm.acc_step HAcc.out.2.2 ((Tm.right_iff _).2 HGs.out.2.2.1) fC
        have gd : ∀ {k : Nat} {u : List UInt8}, ts[k]? = some u → ts.getD k [] = u := fun h => by simp [List.getD, h]
        have eA : Tm.sel ts (fun j => j) i ++ [x] = Tm.sel ts (fun j => j) (i + 1) := by rw [Tm.sel_succ, gd HX.out.1]
        have eB : Tm.sel ts (fun j => (j + p) % ts.length) i ++ [y] = Tm.sel ts (fun j => (j + p) % ts.length) (i + 1) := by rw [Tm.sel_succ, HX.out.2.2.2.1, gd HX.out.2.1]
        have eC : Tm.sel ts (fun j => ts.length - 1 - j) i ++ [z] = Tm.sel ts (fun j => ts.length - 1 - j) (i + 1) := by rw [Tm.sel_succ, HX.out.2.2.2.2, gd HX.out.2.2.1]
        rw [eA] at sA
        rw [eB] at sB
        rw [eC] at sC
        have SS := Lib.hid (And.intro sA (And.intro sB sC))
        have q1 : (la == a) = false := by simpa using neA
        have hla : la.length ≤ 20000 := (Tm.ofL_ok sA.1).2.2.2.2.2
        have haa : a.length ≤ 20000 := (Tm.ofL_ok HAcc.out.1.1).2.2.2.2.2
        have hxx : x.length ≤ 600 := HGs.out.1.2.2
        have hlenA : 0 < i → la.length = a.length + x.length := fun h => lenA (fun e => by have := Tm.sel_length ts (fun j => j) i; rw [e] at this; simp at this; omega)
        clear fA fB fC sA sB sC eA eB eC gd neA lenA HA HB HC HAcc HGs HX hqI hrI
        by_cases hi0 : i = 0
        · subst hi0
          by_cases hl : (la.length : Int) = (a.length : Int) + (x.length : Int)
          · have q2 : ((la.length : Int) != (a.length : Int) + (x.length : Int)) = false := by simp [hl]
            have HL := Lib.hid hl
            clear hl hlenA
            go_wp2
            go_roundg (gk - 1)
            case measure => omega
            case rel => exact ⟨0 + 1, la, lb, lc, by omega, rfl, rfl, rfl, rfl, SS.out.1, SS.out.2.1, SS.out.2.2, B7⟩
          · have q2 : ((la.length : Int) != (a.length : Int) + (x.length : Int)) = true := by simp [hl]
            clear hl hlenA
            go_wp2
            go_roundg (gk - 1)
            case measure => omega
            case rel => exact ⟨0 + 1, la, lb, lc, by omega, rfl, rfl, rfl, rfl, SS.out.1, SS.out.2.1, SS.out.2.2, B7⟩
        · have hl := hlenA (by omega)
          have q2 : ((la.length : Int) != (a.length : Int) + (x.length : Int)) = false := by simp; omega
          clear hl hlenA
          go_wp2
          go_roundg (gk - 1)
          case measure => omega
          case rel => exact ⟨i + 1, la, lb, lc, by omega, rfl, rfl, rfl, rfl, SS.out.1, SS.out.2.1, SS.out.2.2, B7⟩
      · obtain rfl : i = ts.length := by omega
        have hne : Tm.sel ts (fun j => j) ts.length ≠ [] := fun e => by rw [Tm.sel_id] at e; rw [e] at h22; simp at h22
        obtain rfl : a = b := Tm.acc_unique aA aB (by rw [Tm.sel_id, Tm.sel_rot ts p hpl]; exact (List.perm_append_comm.trans (by rw [List.take_append_drop])).symm) hne
        obtain rfl : a = d := Tm.acc_unique aA aC (by rw [Tm.sel_id, Tm.sel_rev]; exact (List.reverse_perm ts).symm) hne
        have hd := Tm.acc_depth aA hne
        have hal : a.length ≤ 20000 := (Tm.ofL_ok aA.1).2.2.2.2.2
        have cD := fun W => depth_at a hal W
        obtain ⟨dd, hdd⟩ : ∃ dd, Tm.depthOf a = dd := ⟨_, rfl⟩
        rw [hdd] at cD hd
        have HD := Lib.hid cD
        have j1 : ¬ ((ts.length : Int) < (ts.length : Int)) := by omega
        have q1 : (a == a) = true := by simp
        have d2 : (2 : Int) ≤ (dd : Int) := by omega
        have d3 : (dd : Int) ≤ 400 := by omega
        clear aA aB aC hne hdd cD hd
        go_wp2_with fail
        refine (HD.out _).mono ?_
        rintro e' w5 ⟨rfl, b5⟩
        have B5 : Below w4.heap.size w4 w5 := hbel.trans (b5.mono hbel.size)
        clear b5
        go_wp2
        go_ret
        exact ⟨by simp, BB.out.trans (B5.mono BB.out.size)⟩

end Go.Proofs.Ytccdpimmmicgaaa
