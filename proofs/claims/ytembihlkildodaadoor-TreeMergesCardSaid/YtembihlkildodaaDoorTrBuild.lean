/- Contract of tree.Build. -/
import Derived.Test.YtembihlkildodaaDoorTrTopM
namespace Go.Proofs.YtembihlkildodaaDoor.L13
open Go.ChangeShapes Go.WideShapes Go.ChangeAt Go.RowKit Go.Deep
open Go.Proofs.YtembihlkildodaaDoor.L5 (One)

def joins (t : Tr) (xs : List Int) : Tr := xs.foldl (fun t p => t.put p.toNat) t
def buildT : List Int → Tr
  | [] => .leaf 0
  | x :: xs => joins (.leaf x.toNat) xs
def buildX (xs : List Int) : List UInt8 × Int := if L10.rowB xs then ((buildT xs).text, 0) else ([], 1)
theorem rise_mem : ∀ (xs : List Int) (a : Int), riseB a xs = true → (∀ x ∈ xs, a + 1 ≤ x ∧ x ≤ 8) ∧ xs.Nodup := by
  intro xs
  induction xs with
  | nil => intro a _; simp
  | cons x xs ih =>
    intro a h
    simp only [riseB, Bool.and_eq_true] at h
    have h1 := (withinB_iff _ _ _).1 h.1
    obtain ⟨h2, h3⟩ := ih x h.2
    refine ⟨fun y hy => ?_, List.nodup_cons.2 ⟨fun hx => ?_, h3⟩⟩
    · rcases List.mem_cons.1 hy with rfl | hy
      · exact h1
      · have := h2 y hy; omega
    · have := h2 x hx; omega
theorem joins_ok : ∀ (xs : List Int) (t : Tr), t.ok → (∀ x ∈ xs, 1 ≤ x ∧ x ≤ 8) → xs.Nodup → (∀ x ∈ xs, x.toNat ∉ t.procs) → (joins t xs).ok := by
  intro xs
  induction xs with
  | nil => intro t h _ _ _; exact h
  | cons x xs ih =>
    intro t h h1 hn hd
    have hx := h1 x (by simp)
    obtain ⟨n1, n2⟩ := List.nodup_cons.1 hn
    refine ih (t.put x.toNat) (h.put (by omega) (hd x (by simp))) (fun y hy => h1 y (by simp [hy])) n2 (fun y hy hm => ?_)
    rcases (t.put_mem _ _).1 hm with e | e
    · have hy1 := h1 y (by simp [hy])
      have : y = x := by omega
      exact n1 (this ▸ hy)
    · exact hd y (by simp [hy]) e
theorem joins_take {xs : List Int} {t : Tr} {i : Nat} {x : Int} (h : xs[i]? = some x) : joins t (xs.take (i + 1)) = (joins t (xs.take i)).put x.toNat := by
  rw [L10.take_next xs h]
  unfold joins
  rw [List.foldl_append]
  rfl
theorem row_ok {x : Int} {xs : List Int} (h : L10.rowB (x :: xs) = true) (i : Nat) : (joins (.leaf x.toNat) (xs.take i)).ok := by
  unfold L10.rowB at h
  rw [Bool.and_eq_true] at h
  obtain ⟨h1, h2⟩ := rise_mem _ _ h.1
  have hx := h1 x (by simp)
  obtain ⟨n1, n2⟩ := List.nodup_cons.1 h2
  refine joins_ok _ _ (Tr.ok.leaf (by omega) (by omega)) (fun y hy => ?_) (n2.sublist (List.take_sublist _ _)) (fun y hy hm => ?_)
  · have := h1 y (by simp [List.mem_of_mem_take hy]); omega
  · simp only [Tr.procs, List.mem_singleton] at hm
    have hy' := List.mem_of_mem_take hy
    have := h1 y (by simp [hy'])
    have : y = x := by omega
    exact n1 (this ▸ hy')
def BuildRel (w : World) (xs : List Int) (p a k : Nat) (v18 : Value) (wr : World) : Prop :=
  ∃ i : Nat, k + i = xs.length ∧ v18 = .int .i64 i ∧ ∃ F, TreeAt wr (joins (.leaf p) (xs.take i)) a F ∧ F.Nodup ∧ (∀ q ∈ F, w.heap.size ≤ q) ∧ Below w.heap.size w wr
set_option maxHeartbeats 4000000 in
theorem build_top (v : Value) (xs : List Int) (w : World) (hI : IntsA w v xs) (hcap : ∀ A n c, v = .slice A n c → n ≤ c) : Calls Tryd.prog 26 #[v] w (Str2 w (buildX xs)) := by
  have hRow := L10.row_calls v xs w hI
  unfold buildX
  cases hb : L10.rowB xs with
  | false =>
    rw [hb] at hRow
    rw [if_neg (by decide)]
    obtain ⟨A, c, rfl, _⟩ := id hI.reads
    clear hI hb
    go_enter Tryd.func26, Tryd.ntmps26
    go_wp2_with (go_at_call 52; refine hRow.mono ?_; rintro e w1 ⟨rfl, rfl⟩)
    go_ret2
    exact ⟨rfl, Below.refl _ _⟩
  | true =>
    rw [hb] at hRow
    rw [if_pos rfl]
    cases xs with
    | nil => simp [L10.rowB, riseB] at hb
    | cons x xs =>
      have hok := fun i => row_ok hb i
      obtain ⟨A, c, rfl, hr⟩ := id hI.reads
      obtain ⟨⟨bk, off, spot⟩, rfl, hl0, hc0⟩ := hr 0 x rfl
      have e0 : (⟨bk, off, spot⟩ : Addr).add 0 = ⟨bk, off, spot⟩ := by unfold Addr.add; rw [if_pos rfl]
      rw [e0] at hc0
      obtain rfl : spot = none := by simpa using World.cell?_spot hc0
      have hcl := hcap _ _ _ rfl
      have hfit := hI.few
      unfold maxLen at hfit
      have hxs := (rise_mem _ _ (by unfold L10.rowB at hb; rw [Bool.and_eq_true] at hb; exact hb.1)).1
      have hx := hxs x (by simp)
      obtain ⟨p, rfl⟩ : ∃ p : Nat, x = p := ⟨x.toNat, by omega⟩
      have hrest : ∀ (j : Nat) (y : Int), xs[j]? = some y → bk < w.heap.size ∧ ∀ V, Below w.heap.size w V → V.cell? ⟨bk, off + 1 + j, none⟩ = some (.int .i64 y) := fun j y hy => by
        obtain ⟨ad, e, h1, h2⟩ := hr (j + 1) y hy
        cases e
        have e2 : (⟨bk, off, none⟩ : Addr).add (j + 1) = ⟨bk, off + 1 + j, none⟩ := by unfold Addr.add; rw [if_neg (by omega)]; simp; omega
        rw [e2] at h2
        exact ⟨h1, fun V hb => (hb.cell (p := ⟨bk, off + 1 + j, none⟩) h1).trans h2⟩
      have HR := Lib.hid hrest
      have HOK := Lib.hid hok
      have HX := Lib.hid hxs
      simp only [List.length_cons] at hfit hcl ⊢
      have HT := Lib.hid (tree_leaf_new w p (by omega))
      clear hI hok hb hr hl0 hrest hxs hcap hx e0
      obtain ⟨W1, hW1⟩ : ∃ W1, w.alloc (.cells #[.int .i64 p, .pointer none, .pointer none] 60) = W1 := ⟨_, rfl⟩
      rw [hW1] at HT
      have HB1 : Hid (Below w.heap.size w W1 ∧ w.heap.size ≤ W1.heap.size) := ⟨by rw [← hW1]; exact (Below.refl _ _).alloc (Nat.le_refl _) _, by rw [← hW1]; simp⟩
      have HSt : Hid (BuildRel w xs p w.heap.size xs.length (.int .i64 0) W1) := ⟨0, by omega, rfl, [w.heap.size], HT.out, by simp, by simp, HB1.out.1⟩
      have HWr : Hid (∀ (V : World) (a : Nat) (F : List Nat), TreeAt V (buildT ((p : Int) :: xs)) a F → Calls Tryd.prog 37 #[.pointer (some ⟨a, 0, none⟩)] V fun e w' => e = .returned (.string ⟨(buildT ((p : Int) :: xs)).text.toArray⟩) ∧ Below V.heap.size V w') := fun V a F h => write_calls h (by
        have := (HOK.out xs.length).len
        rw [List.take_length] at this
        show (joins (.leaf ((p : Int)).toNat) xs).text.length ≤ 1000
        omega)
      have HEnd : Hid (∀ V, BuildRel w xs p w.heap.size 0 (.int .i64 (xs.length : Int)) V → Below w.heap.size w V ∧ ∃ F, TreeAt V (buildT ((p : Int) :: xs)) w.heap.size F) := by
        rintro V ⟨i, hi, e, F, ht, _, _, hb⟩
        have : i = xs.length := by omega
        rw [this, List.take_length] at ht
        exact ⟨hb, F, ht⟩
      obtain ⟨t0, ht0⟩ : ∃ t0, buildT ((p : Int) :: xs) = t0 := ⟨_, rfl⟩
      have HT0 := Lib.hid ht0
      rw [ht0] at HWr HEnd ⊢
      clear ht0 HT
      generalize t0.text = tx at *
      go_enter Tryd.func26, Tryd.ntmps26
      by_cases hc1 : c = 1
      · obtain rfl : xs = [] := List.eq_nil_of_length_eq_zero (by omega)
        subst hc1
        go_wp2_with (go_at_call 52; refine hRow.mono ?_; rintro e w1 ⟨rfl, rfl⟩)
        go_loopg [18] 0 (fun _ v18 wr => v18 = .int .i64 0 ∧ W1 = wr)
        case atStart => exact ⟨rfl, rfl⟩
        case round =>
          obtain ⟨rfl, rfl⟩ := hrel
          obtain ⟨hb, F, ht⟩ := HEnd.out _ HSt.out
          have hW := HWr.out _ _ _ ht
          have HB := Lib.hid hb
          clear hb ht HWr HEnd HSt
          go_wp2_with (go_at_call 37; refine hW.mono ?_; rintro e w2 ⟨rfl, b2⟩; have HB2 := Lib.hid b2; clear b2)
          go_ret2
          exact ⟨rfl, HB.out.trans (HB2.out.mono HB.out.size)⟩
      · go_wp2_with (go_at_call 52; refine hRow.mono ?_; rintro e w1 ⟨rfl, rfl⟩)
        go_loopg [18] xs.length (fun k v18 wr => BuildRel w xs p w.heap.size k v18 wr)
        case atStart => exact HSt.out
        case round =>
          clear HSt
          obtain ⟨i, hi, rfl, F, ht, hn, hF, hb⟩ := hrel
          by_cases hlt : i < xs.length
          · obtain ⟨y, hy⟩ : ∃ y, xs[i]? = some y := ⟨_, List.getElem?_eq_getElem hlt⟩
            have hy1 := HX.out y (by simp [List.mem_of_getElem? hy])
            obtain ⟨q, rfl⟩ : ∃ q : Nat, y = q := ⟨y.toNat, by omega⟩
            have c6 := (HR.out i _ hy).2 wr hb
            have hJ := join_calls w.heap.size ht hn (by have h7 := (HOK.out i).deep8; rw [Int.toNat_natCast] at h7; omega) (show 1 ≤ q ∧ q ≤ 8 by omega) hb.size hF
            have HN : Hid (∀ V F', Below w.heap.size wr V → TreeAt V ((joins (.leaf p) (xs.take i)).put q) w.heap.size F' → F'.Nodup → (∀ r ∈ F', w.heap.size ≤ r) → BuildRel w xs p w.heap.size (gk - 1) (.int .i64 ((i + 1 : Nat) : Int)) V) := fun V F' b t n f =>
              ⟨i + 1, by omega, rfl, F', by rw [joins_take hy]; exact t, n, f, hb.trans b⟩
            have hgk := Lib.hid (show gk - 1 < gk by omega)
            have j1 : (i : Int) < (xs.length : Int) := by omega
            have j2 : (0 : Int) ≤ (i : Int) := by omega
            clear hi ht hn hF hb hy hy1 HEnd HWr HR HOK HX
            go_wp2_with (go_at_call 36; refine hJ.mono ?_; rintro e w2 ⟨rfl, b2, F', t2, n2, f2⟩; have HE := Lib.hid (HN.out _ _ b2 t2 n2 f2); clear b2 t2 n2 f2)
            go_roundg (gk - 1)
            case measure => exact hgk.out
            case rel => exact HE.out
          · obtain rfl : i = xs.length := by omega
            obtain ⟨hb, F, ht⟩ := HEnd.out wr ⟨xs.length, by omega, rfl, F, ht, hn, hF, hb⟩
            have hW := HWr.out _ _ _ ht
            have HB := Lib.hid hb
            have j1 : ¬ ((xs.length : Int) < (xs.length : Int)) := by omega
            clear hi ht hn hF hb hlt HWr HEnd HR HOK HX
            go_wp2_with (go_at_call 37; refine hW.mono ?_; rintro e w2 ⟨rfl, b2⟩; have HB2 := Lib.hid b2; clear b2)
            go_ret2
            exact ⟨rfl, HB.out.trans (HB2.out.mono HB.out.size)⟩
end Go.Proofs.YtembihlkildodaaDoor.L13
