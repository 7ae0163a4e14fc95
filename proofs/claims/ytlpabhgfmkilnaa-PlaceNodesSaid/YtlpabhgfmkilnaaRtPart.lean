/- The document's Parts, digits, leaf, deep, full, place. -/
import Derived.Test.YtlpabhgfmkilnaaRtEnd
namespace Go.Proofs.Ytlpabhgfmkilnaa.L13
open Go.ChangeShapes Go.WideShapes Go.ChangeAt Go.RowKit Go.Deep
open Go.Proofs.Ytlpabhgfmkilnaa.L5 (One)

theorem slice_list (L : List UInt8) (a b : Nat) : (⟨L.toArray⟩ : ByteArray).extract a b = ⟨((L.drop a).take (b - a)).toArray⟩ := by rw [extract_eq]
set_option maxHeartbeats 4000000 in
theorem parts_calls {a b : Tr} (h : (Tr.node a b).low) (hl : (Tr.node a b).text.length ≤ 200) (w : World) : Calls Try.prog 23 #[.string ⟨(Tr.node a b).text.toArray⟩] w fun e w' => e = .returned (.tuple #[.string ⟨a.text.toArray⟩, .string ⟨b.text.toArray⟩]) ∧ Below w.heap.size w w' := by
  obtain ⟨L, hL⟩ : ∃ L, (Tr.node a b).text = L := ⟨_, rfl⟩
  have hLe : L = 40 :: (a.text ++ (b.text ++ [41])) := by rw [← hL]; rfl
  have hlen : L.length = a.text.length + b.text.length + 2 := by rw [hLe]; simp; omega
  rw [hL] at hl ⊢
  have hE := end_calls L hl w 201 1 (by omega) (by omega)
  have hr : raw 201 (L.drop 1) = some (a, L.drop (1 + a.text.length)) := by
    have e : L.drop 1 = a.text ++ (b.text ++ [41]) := by rw [hLe]; rfl
    rw [← List.drop_drop, e, List.drop_left]
    exact raw_full a 201 _ (by omega) h.left
  rw [hr, end_drop (by omega)] at hE
  have s1 : (⟨L.toArray⟩ : ByteArray).extract 1 (1 + a.text.length) = ⟨a.text.toArray⟩ := by
    rw [slice_list]
    have e : L.drop 1 = a.text ++ (b.text ++ [41]) := by rw [hLe]; rfl
    rw [e, show 1 + a.text.length - 1 = a.text.length by omega, List.take_left]
  have s2 : (⟨L.toArray⟩ : ByteArray).extract (1 + a.text.length) (L.length - 1) = ⟨b.text.toArray⟩ := by
    rw [slice_list]
    have e : L.drop 1 = a.text ++ (b.text ++ [41]) := by rw [hLe]; rfl
    rw [← List.drop_drop, e, List.drop_left, show L.length - 1 - (1 + a.text.length) = b.text.length by omega, List.take_left]
  obtain ⟨m, hm⟩ : ∃ m, 1 + a.text.length = m := ⟨_, rfl⟩
  obtain ⟨N, hN⟩ : ∃ N, L.length - 1 = N := ⟨_, rfl⟩
  rw [hm] at hE s1 s2
  rw [hN] at s2
  have hN' : (L.length : Int) - 1 = (N : Int) := by omega
  have hsz : (⟨L.toArray⟩ : ByteArray).size = L.length := rfl
  have j1 : (1 : Int) ≤ (m : Int) := by omega
  have j2 : (m : Int) ≤ (L.length : Int) := by omega
  have j3 : (m : Int) ≤ (N : Int) := by omega
  have j4 : (N : Int) ≤ (L.length : Int) := by omega
  have j5 : (0 : Int) ≤ (m : Int) := by omega
  have HS := Lib.hid (And.intro s1 s2)
  have m1 : 1 ≤ m := by omega
  have m2 : m ≤ L.length := by omega
  have m3 : m ≤ N := by omega
  have m4 : N ≤ L.length := by omega
  have mixed : Try.prog.follows Departure.mixedOrders = true := by kernel_rfl
  clear hLe hr h hm hN hlen hL
  go_enter Try.func23, Try.ntmps23
  go_wp2_with (go_at_call 33; refine hE.mono ?_; rintro e w1 ⟨rfl, rfl⟩)
  go_region_o
  all_goals (go_wp2; go_ret2; exact ⟨rfl, Below.drew (Below.refl _ _)⟩)
/-- The processes of a text, as they stand. -/
def digitsL : List UInt8 → List Int
  | [] => []
  | b :: x => if 49 ≤ b.toNat ∧ b.toNat ≤ 56 then ((b.toNat - 48 : Nat) : Int) :: digitsL x else digitsL x
theorem digits_append (x y : List UInt8) : digitsL (x ++ y) = digitsL x ++ digitsL y := by
  induction x with
  | nil => rfl
  | cons b x ih =>
    simp only [List.cons_append, digitsL, ih]
    split <;> rfl
theorem digits_text {t : Tr} (h : t.low) : digitsL t.text = t.ints := by
  induction t with
  | leaf p =>
    have h18 := h p (by simp [Tr.procs])
    have hb := digit_byte h18.1 h18.2
    simp only [Tr.text, digitsL, hb, Tr.ints, Tr.procs, List.map_cons, List.map_nil]
    rw [if_pos (by omega)]
    congr 2
    omega
  | node l r hl hr =>
    simp only [Tr.text, digitsL]
    rw [if_neg (by decide), digits_append, digits_append, hl h.left, hr h.right]
    simp [Tr.ints, Tr.procs, digitsL]
def DigRel (w : World) (L : List UInt8) (k : Nat) (v3 v4 : Value) (wr : World) : Prop :=
  ∃ i : Nat, k + i = L.length ∧ v4 = .int .i64 i ∧ wr.ownsRow w.heap.size 3 1 v3 (digitsL (L.take i)).length ((digitsL (L.take i)).map (Value.int .i64)) ∧ Below w.heap.size w wr
theorem digits_len (x : List UInt8) : (digitsL x).length ≤ x.length := by
  induction x with
  | nil => exact Nat.le_refl _
  | cons b x ih =>
    simp only [digitsL]
    split
    · simp only [List.length_cons]; omega
    · simp only [List.length_cons]; omega
theorem digits_take {L : List UInt8} {i : Nat} {b : UInt8} (h : L[i]? = some b) : digitsL (L.take (i + 1)) = digitsL (L.take i) ++ (if 49 ≤ b.toNat ∧ b.toNat ≤ 56 then [((b.toNat - 48 : Nat) : Int)] else []) := by
  rw [List.take_add_one, h, digits_append]
  congr 1
theorem digits_fits (x : List UInt8) : L10.Fits (digitsL x) := by
  induction x with
  | nil => intro y hy; cases hy
  | cons b x ih =>
    intro y hy
    simp only [digitsL] at hy
    have := b.toNat_lt
    split at hy
    · rcases List.mem_cons.1 hy with e | e
      · omega
      · exact ih y e
    · exact ih y hy
set_option maxRecDepth 100000 in
set_option maxHeartbeats 8000000 in
theorem digits_calls (L : List UInt8) (hL : L.length ≤ 200) (w : World) : Calls Try.prog 32 #[.string ⟨L.toArray⟩] w (L10.IntsOut w (digitsL L)) := by
  obtain ⟨i0, hi0, hz0, hz1, hz2⟩ := info_parts L10.info_int10
  have hsz : (⟨L.toArray⟩ : ByteArray).size = L.length := rfl
  have HSt : Hid (DigRel w L L.length (.slice none 0 0) (.int .i64 0) w) := ⟨0, by omega, rfl, World.ownsRow_nil _ _ _ _, Below.refl _ _⟩
  go_enter Try.func32, Try.ntmps32
  go_wp2
  go_loopg [3, 4] L.length (fun k v3 v4 wr => DigRel w L k v3 v4 wr)
  case atStart => exact HSt.out
  case round =>
    clear HSt
    obtain ⟨i, hk, rfl, ho, hB⟩ := hrel
    by_cases hil : i < L.length
    · obtain ⟨b, hb⟩ : ∃ b, L[i]? = some b := ⟨_, List.getElem?_eq_getElem hil⟩
      have hbx : (⟨L.toArray⟩ : ByteArray)[i]'(by rw [hsz]; exact hil) = b := by
        show L[i] = b
        exact (List.getElem?_eq_some_iff.1 hb).2
      have j1 : (i : Int) < (L.length : Int) := by omega
      have j2 : (0 : Int) ≤ (i : Int) := by omega
      have hgk := Lib.hid (show gk - 1 < gk by omega)
      have hdt := digits_take hb
      have hdl := digits_len (L.take i)
      rw [List.length_take] at hdl
      have hwr := hB.size
      have hb256 := b.toNat_lt
      by_cases hdg : 49 ≤ b.toNat ∧ b.toNat ≤ 56
      · rw [if_pos hdg] at hdt
        have k3 : (49 : Int) ≤ (b.toNat : Int) := by omega
        have k4 : (b.toNat : Int) ≤ 56 := by omega
        have k5 : (b.toNat : Int) - 48 = ((b.toNat - 48 : Nat) : Int) := by omega
        obtain ⟨A4, c4, rfl⟩ := L5.own_slice ho
        have HOw := Lib.hid ho
        obtain ⟨d, hd⟩ : ∃ d, b.toNat - 48 = d := ⟨_, rfl⟩
        rw [hd] at hdt k5
        have HY : Hid (∀ (v2 : Value) (w4 : World), w4.ownsRow w.heap.size 3 1 v2 ((digitsL (L.take i)).length + 1) ((digitsL (L.take i)).map (Value.int .i64) ++ [.int .i64 (d : Int)]) → (wr.alloc (.cells #[.int .i64 (d : Int)] 3)).grownBy w4 (Value.slice A4 (digitsL (L.take i)).length c4).ownBlock → DigRel w L (gk - 1) v2 (.int .i64 ((i + 1 : Nat) : Int)) w4) := by
          intro v2 w4 k1 k2
          have hg := L5.grow_trans (World.grownBy_alloc wr (.cells #[.int .i64 (d : Int)] 3) _) k2
          refine ⟨i + 1, by omega, rfl, ?_, hB.grown hg hB.size (fun j e => (HOw.out.lt j e).1)⟩
          rw [hdt]
          simpa using k1
        clear ho hB hk hdt hb hdg hd
        generalize digitsL (L.take i) = ds at *
        go_wp2_with (at_builtin; refine wpList_append_own_at _ rfl _ _ 49 rfl w.heap.size 3 i0 (.int .i64 0) 1 8 Try.underlying49 hi0 hz0 hz1 hz2 rfl (by decide) _ _ _ rfl (HOw.out.alloc _) ⟨wr.heap.size, 0, none⟩ 1 1 [.int .i64 (d : Int)] rfl rfl (cell_one_new _ _ _) (by simp [Value.oneCell']) (by unfold maxLen; omega) (by omega) (by simp; omega) ?_; intro v2 w5 hown' hgrow hnil hat; have hRl := Lib.hid (HY.out v2 w5 (by simpa using hown') hgrow); clear hown' hgrow hnil hat)
        go_roundg (gk - 1)
        case measure => exact hgk.out
        case rel => exact hRl.out
      · rw [if_neg hdg, List.append_nil] at hdt
        have HN : Hid (DigRel w L (gk - 1) u3 (.int .i64 ((i + 1 : Nat) : Int)) wr) := ⟨i + 1, by omega, rfl, by rw [hdt]; exact ho, hB⟩
        by_cases hlo : b.toNat < 49
        · have k3 : ¬ (49 : Int) ≤ (b.toNat : Int) := by omega
          clear ho hB hk hdt hb hdg hlo
          go_wp2
          go_roundg (gk - 1)
          case measure => exact hgk.out
          case rel => exact HN.out
        · have k3 : (49 : Int) ≤ (b.toNat : Int) := by omega
          have k4 : ¬ (b.toNat : Int) ≤ 56 := by omega
          clear ho hB hk hdt hb hdg hlo
          go_wp2
          go_roundg (gk - 1)
          case measure => exact hgk.out
          case rel => exact HN.out
    · have hie : i = L.length := by omega
      rw [hie, List.take_length] at ho
      have j1 : ¬ (i : Int) < (L.length : Int) := by omega
      have HE : Hid (L10.IntsOut w (digitsL L) (.returned u3) wr) := ⟨_, rfl, ho, hB⟩
      clear ho hB hk hil hie
      go_wp2
      go_ret
      exact HE.out
end Go.Proofs.Ytlpabhgfmkilnaa.L13
