/- The document's Members. -/
import Derived.Test.YtlpabhgfmkilnaaRtTop
import Derived.Test.YtlpabhgfmkilnaaTrLow
namespace Go.Proofs.Ytlpabhgfmkilnaa.L13
open Go.ChangeShapes Go.WideShapes Go.ChangeAt Go.RowKit Go.Deep
open Go.Proofs.Ytlpabhgfmkilnaa.L5 (One)

theorem strict_unique : ∀ (xs ys : List Int), xs.Pairwise (· < ·) → ys.Pairwise (· < ·) → (∀ y, y ∈ xs ↔ y ∈ ys) → xs = ys := by
  intro xs
  induction xs with
  | nil =>
    intro ys _ _ h
    cases ys with
    | nil => rfl
    | cons y ys => exact absurd ((h y).2 (by simp)) (by simp)
  | cons x xs ih =>
    intro ys hx hy h
    cases ys with
    | nil => exact absurd ((h x).1 (by simp)) (by simp)
    | cons y ys =>
      have h1 := List.pairwise_cons.1 hx
      have h2 := List.pairwise_cons.1 hy
      have e : x = y := by
        rcases List.mem_cons.1 ((h x).1 (by simp)) with e | m1
        · exact e
        · rcases List.mem_cons.1 ((h y).2 (by simp)) with e | m2
          · exact e.symm
          · have := h1.1 y m2
            have := h2.1 x m1
            omega
      subst e
      rw [ih ys h1.2 h2.2 (fun z => ?_)]
      constructor
      · intro hz
        rcases List.mem_cons.1 ((h z).1 (by simp [hz])) with e | m
        · have := h1.1 z hz; omega
        · exact m
      · intro hz
        rcases List.mem_cons.1 ((h z).2 (by simp [hz])) with e | m
        · have := h2.1 z hz; omega
        · exact m
theorem mems_strict {t : Tr} (o : t.ok) : t.mems.Pairwise (· < ·) := by
  have h1 : t.mems.Pairwise (· ≤ ·) := L10.sortL_sorted _
  have h2 : t.mems.Nodup := (sortL_perm t.ints).nodup_iff.2 (ints_nodup.2 o.once)
  exact List.Pairwise.imp (fun h => by omega) (h1.and h2)
def MemRel (w : World) (t : Tr) (k : Nat) (v3 v4 : Value) (wr : World) : Prop :=
  ∃ (q : Nat) (ks : List Int), k + q = 9 ∧ 1 ≤ q ∧ v4 = .int .i64 q ∧ Rises (q - 1) ks ∧ ks.length ≤ q - 1 ∧ (∀ y : Nat, (y : Int) ∈ ks ↔ y ∈ t.procs ∧ y < q) ∧ wr.ownsRow w.heap.size 3 1 v3 ks.length (ks.map (Value.int .i64)) ∧ Below w.heap.size w wr
set_option maxRecDepth 100000 in
set_option maxHeartbeats 8000000 in
theorem rMembers_top (L : List UInt8) (hL : L.length ≤ 200) (w : World) : Calls Try.prog 27 #[.string ⟨L.toArray⟩] w (L10.IntsOut w (memsX L)) := by
  obtain ⟨i0, hi0, hz0, hz1, hz2⟩ := info_parts L10.info_int10
  have hR := rright_calls L hL w
  unfold memsX
  cases hr : readT L with
  | none =>
    rw [hr, show Option.isSome (none : Option Tr) = false from rfl] at hR
    clear hr
    dsimp only
    go_enter Try.func27, Try.ntmps27
    go_wp2_with (go_at_call 22; refine hR.mono ?_; rintro e w1 ⟨rfl, b1⟩; have B1 := Lib.hid b1; clear b1)
    go_ret
    exact ⟨_, rfl, World.ownsRow_nil _ _ _ _, B1.out⟩
  | some t =>
    rw [hr, show Option.isSome (some t) = true from rfl] at hR
    obtain ⟨rfl, ot⟩ := readT_some hr
    clear hr hL
    dsimp only
    have HD := Lib.hid (fun V => digits_calls t.text (by have := ot.len; omega) V)
    rw [digits_text ot.small] at HD
    have HHas : Hid (∀ (V : World) (v : Value) (B : Nat) (q : Nat), 1 ≤ q → V.ownsRow B 3 1 v t.ints.length (t.ints.map (Value.int .i64)) → Calls Try.prog 26 #[v, .int .i64 (q : Int)] V fun e w' => e = .returned (.bool (decide (q ∈ t.procs))) ∧ V = w') := fun V v B q hq h => by
      have := L10.rhas_calls v _ (q : Int) V (ot.iints h)
      rw [ot.icontains, Int.toNat_natCast] at this
      have e : decide (1 ≤ (q : Int) ∧ q ∈ t.procs) = decide (q ∈ t.procs) := by
        congr 1
        exact propext ⟨fun h => h.2, fun h => ⟨by omega, h⟩⟩
      rw [e] at this
      exact this
    have HSt : Hid (∀ V, Below w.heap.size w V → MemRel w t 8 (.slice none 0 0) (.int .i64 1) V) := fun V hV => ⟨1, [], by omega, by omega, rfl, ⟨List.Pairwise.nil, by simp⟩, by simp, fun y => ⟨fun h => (by cases h), fun h => absurd (ot.small y h.1).1 (by omega)⟩, World.ownsRow_nil _ _ _ _, hV⟩
    have HEnd : Hid (∀ (ks : List Int), Rises 8 ks → (∀ y : Nat, (y : Int) ∈ ks ↔ y ∈ t.procs ∧ y < 9) → ks = t.mems) := fun ks h1 h2 => by
      refine strict_unique _ _ h1.1 (mems_strict ot) (fun y => ?_)
      constructor
      · intro hy
        have hr := h1.2 y hy
        have e : ((y.toNat : Nat) : Int) = y := by omega
        have := ((h2 y.toNat).1 (by rw [e]; exact hy)).1
        exact List.contains_iff_mem.1 (by rw [ot.contains]; exact decide_eq_true ⟨hr.1, this⟩)
      · intro hy
        have := mem_mems ot hy
        have e : ((y.toNat : Nat) : Int) = y := by omega
        rw [← e]
        exact (h2 _).2 ⟨this.2.2, by omega⟩
    obtain ⟨tx, htx⟩ : ∃ tx, t.text = tx := ⟨_, rfl⟩
    rw [htx] at hR HD ⊢
    clear htx ot
    go_enter Try.func27, Try.ntmps27
    go_wp2_with fail
    refine hR.mono ?_
    rintro e w1 ⟨rfl, b1⟩
    have HSt2 := Lib.hid (HSt.out _ b1)
    clear b1 HSt hR
    go_wp2
    go_loopg [3, 4] 8 (fun k v3 v4 wr => MemRel w t k v3 v4 wr)
    case atStart => exact HSt2.out
    case round =>
      clear HSt2
      obtain ⟨q, ks, hk, hq0, rfl, hr, hl, hmem, ho, hB⟩ := hrel
      by_cases hq : q ≤ 8
      · have j1 : (q : Int) ≤ 8 := by omega
        have j2 : (1 : Int) ≤ (q : Int) := by omega
        obtain ⟨A4, c4, rfl⟩ := L5.own_slice ho
        have HOw := Lib.hid ho
        have HB := Lib.hid hB
        have hgk := Lib.hid (show gk - 1 < gk by omega)
        have hwr := hB.size
        have HN : Hid (q ∉ t.procs → ∀ V, Below wr.heap.size wr V → MemRel w t (gk - 1) (.slice A4 ks.length c4) (.int .i64 ((q + 1 : Nat) : Int)) V) := fun hqn V hV => ⟨q + 1, ks, by omega, by omega, rfl, ⟨hr.1, fun k h => by have := hr.2 k h; omega⟩, by omega, fun y => by
          rw [hmem y]
          exact ⟨fun h => ⟨h.1, by omega⟩, fun h => ⟨h.1, by
            have : y ≠ q := fun e => hqn (e ▸ h.1)
            omega⟩⟩, L5.own_below HOw.out hV, HB.out.trans (hV.mono hwr)⟩
        have HY : Hid (q ∈ t.procs → ∀ (v2 : Value) (V w4 : World), Below wr.heap.size wr V → w4.ownsRow w.heap.size 3 1 v2 (ks.length + 1) (ks.map (Value.int .i64) ++ [.int .i64 (q : Int)]) → (V.alloc (.cells #[.int .i64 (q : Int)] 3)).grownBy w4 (Value.slice A4 ks.length c4).ownBlock → MemRel w t (gk - 1) v2 (.int .i64 ((q + 1 : Nat) : Int)) w4) := by
          intro hqn v2 V w4 hV k1 k2
          have hg := L5.grow_trans (World.grownBy_alloc V (.cells #[.int .i64 (q : Int)] 3) _) k2
          have hBV := HB.out.trans (hV.mono hwr)
          refine ⟨q + 1, ks ++ [(q : Int)], by omega, by omega, rfl, ⟨?_, ?_⟩, by simp; omega, ?_, by simpa using k1, hBV.grown hg hBV.size (fun j e => (HOw.out.lt j e).1)⟩
          · refine List.pairwise_append.2 ⟨hr.1, by simp, fun a ha b hb => ?_⟩
            rw [List.mem_singleton] at hb
            have := hr.2 a ha
            omega
          · intro k hk'
            rcases List.mem_append.1 hk' with h | h
            · have := hr.2 k h; omega
            · rw [List.mem_singleton] at h; omega
          · intro y
            rw [List.mem_append, List.mem_singleton, hmem y]
            constructor
            · rintro (h | h)
              · exact ⟨h.1, by omega⟩
              · have : y = q := by omega
                exact ⟨this ▸ hqn, by omega⟩
            · rintro ⟨h1, h2⟩
              by_cases e : y = q
              · exact .inr (by omega)
              · exact .inl ⟨h1, by omega⟩
        have HHq := Lib.hid (fun V v B h => HHas.out V v B q hq0 h)
        clear hr hk hB ho hmem hq HHas hq0 HEnd
        by_cases hm : q ∈ t.procs
        · have hd := Lib.hid (decide_eq_true hm)
          have HY2 := Lib.hid (HY.out hm)
          clear hm HY HN
          go_wp2_with fail
          refine (HD.out _).mono ?_
          rintro e w3 ⟨v3, rfl, o3, b3⟩
          have hH := HHq.out _ _ _ o3
          rw [hd.out] at hH
          obtain ⟨A3, c3, rfl⟩ := L5.own_slice o3
          have HO3 := Lib.hid (L5.own_below HOw.out b3)
          have HY3 := Lib.hid (fun v2 w4 => HY2.out v2 w3 w4 b3)
          have hs3 := Nat.le_trans hwr b3.size
          clear o3 b3 HHq HY2 HD
          go_wp2_with fail
          refine hH.mono ?_
          rintro e w4 ⟨rfl, rfl⟩
          clear hH
          go_wp2_with (at_builtin; refine wpList_append_own_at _ rfl _ _ 49 rfl w.heap.size 3 i0 (.int .i64 0) 1 8 Try.underlying49 hi0 hz0 hz1 hz2 rfl (by decide) _ _ _ rfl (HO3.out.alloc _) ⟨w3.heap.size, 0, none⟩ 1 1 [.int .i64 (q : Int)] rfl rfl (cell_one_new _ _ _) (by simp [Value.oneCell']) (by unfold maxLen; omega) (by omega) (by simp; omega) ?_; intro v2 w5 hown' hgrow hnil hat; have hRl := Lib.hid (HY3.out v2 w5 (by simpa using hown') hgrow); clear hown' hgrow hnil hat)
          go_roundg (gk - 1)
          case measure => exact hgk.out
          case rel => exact hRl.out
        · have hd := Lib.hid (decide_eq_false hm)
          have HN2 := Lib.hid (HN.out hm)
          clear hm HY HN
          go_wp2_with fail
          refine (HD.out _).mono ?_
          rintro e w3 ⟨v3, rfl, o3, b3⟩
          have hH := HHq.out _ _ _ o3
          rw [hd.out] at hH
          obtain ⟨A3, c3, rfl⟩ := L5.own_slice o3
          have hE := Lib.hid (HN2.out _ b3)
          clear o3 b3 HHq HN2 HD
          go_wp2_with fail
          refine hH.mono ?_
          rintro e w4 ⟨rfl, rfl⟩
          go_wp2
          go_roundg (gk - 1)
          case measure => exact hgk.out
          case rel => exact hE.out
      · obtain rfl : q = 9 := by omega
        have e := HEnd.out ks hr hmem
        subst e
        have HE : Hid (L10.IntsOut w t.mems (.returned u3) wr) := ⟨_, rfl, ho, hB⟩
        clear hr hk hB ho hmem hq HHas hq0 HEnd HD
        go_wp2
        go_ret
        exact HE.out
end Go.Proofs.Ytlpabhgfmkilnaa.L13
