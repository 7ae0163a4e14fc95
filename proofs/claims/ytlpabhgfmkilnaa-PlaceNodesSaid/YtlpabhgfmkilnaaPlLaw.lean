/- What the laws of layer 14 share: rows of texts compared, which of n things a number speaks of, the chapter's example. -/
import Derived.Test.YtlpabhgfmkilnaaPlDuty
import Derived.Test.YtlpabhgfmkilnaaPlDut
namespace Go.Proofs.Ytlpabhgfmkilnaa.L14
open Go.ChangeShapes Go.WideShapes Go.ChangeAt Go.RowKit Go.Deep
open Go.Proofs.Ytlpabhgfmkilnaa.L13
open Go.Proofs.Ytlpabhgfmkilnaa.L5 (One)

def pickI (c n : Int) : Int := (if c < 0 then -(c + 1) else c) % n
theorem pickI_bounds (c : Int) {n : Int} (h : 1 ≤ n) : 0 ≤ pickI c n ∧ pickI c n < n := ⟨Int.emod_nonneg _ (by omega), Int.emod_lt_of_pos _ (by omega)⟩
/-- A row of texts, as it lies in memory. -/
def TxA (w : World) (v : Value) (zs : List (List UInt8)) : Prop := ∃ A c, v = .slice A zs.length c ∧ ∀ j x, zs[j]? = some x → ∃ ad : Addr, A = some ad ∧ ad.block < w.heap.size ∧ w.cell? (ad.add j) = some (.string ⟨x.toArray⟩)
theorem addr_blk (ad : Addr) (i : Nat) : (ad.add i).block = ad.block := by unfold Addr.add; split <;> rfl
theorem TxA.below {w w' : World} {v : Value} {zs : List (List UInt8)} (h : TxA w v zs) (hb : Below w.heap.size w w') : TxA w' v zs := by
  obtain ⟨A, c, e, k⟩ := h
  refine ⟨A, c, e, fun j x hx => ?_⟩
  obtain ⟨ad, rfl, h1, h2⟩ := k j x hx
  exact ⟨ad, rfl, Nat.lt_of_lt_of_le h1 hb.size, (hb.cell (p := ad.add j) (by rw [addr_blk]; exact h1)).trans h2⟩
theorem TxA.of_own {w : World} {B : Nat} {e : TypeId} {v : Value} {zs : List (List UInt8)} (h : w.ownsRow B e 1 v zs.length (strV zs)) : TxA w v zs := by
  rcases h.2 with ⟨rfl, h0⟩ | ⟨g, cap, cur, rfl, h1, h2, h3⟩
  · have : zs = [] := List.length_eq_zero_iff.1 h0
    subst this
    exact ⟨none, 0, rfl, fun j x hx => by simp at hx⟩
  · refine ⟨some ⟨g, 0, none⟩, cap, rfl, fun j x hx => ⟨⟨g, 0, none⟩, rfl, (h.lt g rfl).2, ?_⟩⟩
    have hjl := (List.getElem?_eq_some_iff.1 hx).1
    have := h.cellAt j (by omega)
    have e2 : ((⟨g, 0, none⟩ : Addr).add j) = ⟨g, j, none⟩ := by
      simp [Addr.add]
      omega
    rw [e2, this]
    simp [strV, hx]
theorem TxA.new (w : World) (zs : List (List UInt8)) (e : TypeId) : TxA (w.alloc (.cells (strV zs).toArray e)) (.slice (some ⟨w.heap.size, 0, none⟩) zs.length zs.length) zs := by
  refine ⟨_, _, rfl, fun j x hx => ⟨⟨w.heap.size, 0, none⟩, rfl, by simp, ?_⟩⟩
  rw [addr_none, cell_of_row _ _ _ _ _ _ (World.alloc_heap_new w _), Nat.zero_add]
  simp [strV, hx]
/-- A beginning of a row. -/
theorem TxA.take {w : World} {A : Option Addr} {n c : Nat} {zs : List (List UInt8)} (h : TxA w (.slice A n c) zs) (k : Nat) (hk : k ≤ zs.length) (c' : Nat) : TxA w (.slice A k c') (zs.take k) := by
  obtain ⟨A', c1, e, hr⟩ := h
  cases e
  refine ⟨A, c', by rw [List.length_take, Nat.min_eq_left hk], fun j x hx => ?_⟩
  rw [List.getElem?_take] at hx
  split at hx
  · exact hr j x hx
  · cases hx
def SameGo (w : World) (n k : Nat) (v5 : Value) (wr : World) : Prop := ∃ i : Nat, k + i = n ∧ v5 = .int .i64 i ∧ ∃ m, wr = w.drewN m
set_option maxRecDepth 100000 in
set_option maxHeartbeats 1000000 in
theorem same_calls (zs : List (List UInt8)) (va vb : Value) (w : World) (ha : TxA w va zs) (hb : TxA w vb zs) (hl : zs.length ≤ 100000) : Calls Try.prog 7 #[va, vb] w fun e w' => e = .returned (.bool true) ∧ ∃ m, w' = w.drewN m := by
  obtain ⟨A, c, rfl, hka⟩ := ha
  obtain ⟨B, d, rfl, hkb⟩ := hb
  have HA := Lib.hid hka
  have HB := Lib.hid hkb
  clear hka hkb
  go_enter Try.func7, Try.ntmps7
  go_wp2
  go_loopg [5] zs.length (fun k v5 wr => SameGo w zs.length k v5 wr)
  case atStart => exact ⟨0, rfl, rfl, 0, rfl⟩
  case round =>
    obtain ⟨i, hk, rfl, m, rfl⟩ := hrel
    by_cases hlt : i < zs.length
    · obtain ⟨x, hx⟩ : ∃ x, zs[i]? = some x := ⟨_, List.getElem?_eq_getElem hlt⟩
      obtain ⟨ad, rfl, _, c1⟩ := HA.out i x hx
      obtain ⟨bd, rfl, _, c2⟩ := HB.out i x hx
      have j1 : (i : Int) < (zs.length : Int) := by omega
      have j2 : (0 : Int) ≤ (i : Int) := by omega
      clear hx
      go_wp2
      go_quiet (fail)
      go_wp2
      go_roundg (gk - 1)
      case measure => omega
      case rel => exact ⟨i + 1, by omega, rfl, _, rfl⟩
    · have j1 : ¬ ((i : Int) < (zs.length : Int)) := by omega
      go_wp2
      go_ret
      exact ⟨rfl, _, rfl⟩
/-- One call of same: what a law needs of it. -/
theorem same_once (zs : List (List UInt8)) (va vb : Value) (w : World) (ha : TxA w va zs) (hb : TxA w vb zs) (hl : zs.length ≤ 100000) : Calls Try.prog 7 #[va, vb] w (One w (.bool true)) :=
  (same_calls zs va vb w ha hb hl).mono (fun e w' h => ⟨h.1, by obtain ⟨m, rfl⟩ := h.2; exact below_drewN (Below.refl _ _) m⟩)
theorem downX_text {t : Tr} (h : t.ok) : downX t.text = t.down := by unfold downX; rw [readT_text h]
theorem upL_text {t : Tr} (h : t.ok) {p : Nat} (hp : 1 ≤ p) : upL t.text (p : Int) = t.up p := by
  unfold upL Tr.up
  rw [downX_text h]
  congr 1
  refine List.filter_congr (fun y hy => ?_)
  have ho := h.at ((t.down_mem y.1 y.2).1 hy)
  show y.2.mems.contains (p : Int) = decide (p ∈ y.2.procs)
  rw [ho.contains, Int.toNat_natCast, Bool.eq_iff_iff, decide_eq_true_iff, decide_eq_true_iff]
  exact ⟨fun h => h.2, fun h => ⟨by omega, h⟩⟩
theorem dutiesX_text {t : Tr} (h : t.ok) {p : Nat} (hp : 1 ≤ p) : dutiesX t.text (p : Int) = t.duty p := by
  unfold dutiesX dutL Tr.duty
  rw [upL_text h hp]
  congr 1
  refine List.filter_congr (fun y _ => ?_)
  unfold isDutyI isDuty
  rw [Bool.eq_iff_iff, decide_eq_true_iff, decide_eq_true_iff]
  exact ⟨fun h => ⟨h.1, by have := h.2; omega⟩, fun h => ⟨h.1, by have := h.2; omega⟩⟩
def exT : Tr := .node (.node (.leaf 1) (.leaf 2)) (.leaf 3)
theorem exT_ok : exT.ok := ⟨by unfold exT; simp [Tr.procs], by unfold exT; simp [Tr.procs]⟩
theorem path_ex : pathX [40, 40, 49, 50, 41, 51, 41] 2 = [[108, 114], [108], []] := by
  show (upL exT.text ((2 : Nat) : Int)).map (fun s => s.1) = _
  rw [upL_text exT_ok (by omega), exT_ok.up_chain (by unfold exT; simp [Tr.procs])]
  rfl
theorem co_ex : coX [40, 40, 49, 50, 41, 51, 41] 2 = [[108, 108], [114]] := by
  show coL (upL exT.text ((2 : Nat) : Int)) = _
  rw [upL_text exT_ok (by omega), exT_ok.up_chain (by unfold exT; simp [Tr.procs])]
  rfl
theorem duties_ex : dutiesX [40, 40, 49, 50, 41, 51, 41] 1 = [[108, 108], [108]] := by
  show dutiesX exT.text ((1 : Nat) : Int) = _
  rw [dutiesX_text exT_ok (by omega)]
  unfold Tr.duty
  rw [exT_ok.up_chain (by unfold exT; simp [Tr.procs])]
  rfl
/-- What same tells of a row that a call made and the one that is written there. -/
theorem same_lit (V : World) (zs : List (List UInt8)) (v : Value) (B : Nat) (ho : V.ownsRow B 9 1 v zs.length (strV zs)) (hl : zs.length ≤ 100000) :
    Calls Try.prog 7 #[v, .slice (some ⟨V.heap.size, 0, none⟩) zs.length zs.length] (V.alloc (.cells (strV zs).toArray 9)) fun e w' => e = .returned (.bool true) ∧ Below V.heap.size V w' :=
  (same_once zs v _ _ ((TxA.of_own ho).below ((Below.refl _ V).alloc (Nat.le_refl _) _)) (TxA.new V zs 9) hl).mono (fun e w' h => ⟨h.1, ((Below.refl _ V).alloc (Nat.le_refl _) _).trans (h.2.mono (by simp))⟩)
set_option maxRecDepth 100000 in
set_option maxHeartbeats 4000000 in
theorem shown_calls (w : World) : Calls Try.prog 4 #[] w (One w (.bool true)) := by
  have HP := Lib.hid (fun V => path_calls [40, 40, 49, 50, 41, 51, 41] 2 V)
  have HC := Lib.hid (fun V => co_calls [40, 40, 49, 50, 41, 51, 41] 2 V)
  have HD := Lib.hid (fun V => duties_calls [40, 40, 49, 50, 41, 51, 41] 1 V)
  rw [path_ex] at HP
  rw [co_ex] at HC
  rw [duties_ex] at HD
  go_enter Try.func4, Try.ntmps4
  go_wp2_with fail
  refine (HP.out _).mono ?_
  rintro e w1 ⟨v1, rfl, o1, b1⟩
  have hS1 := same_lit w1 _ v1 _ o1 (by simp)
  obtain ⟨A1, c1, rfl⟩ := L5.own_slice o1
  have HB1 := Lib.hid (b1)
  clear o1 b1
  simp only [strV, List.map_cons, List.map_nil, List.length_cons, List.length_nil] at hS1
  go_wp2_with fail
  refine hS1.mono ?_
  rintro e w2 ⟨rfl, b2⟩
  have HB2 := Lib.hid (HB1.out.trans (b2.mono HB1.out.size))
  clear b2 hS1
  go_wp2_with fail
  refine (HC.out _).mono ?_
  rintro e w3 ⟨v3, rfl, o3, b3⟩
  have hS3 := same_lit w3 _ v3 _ o3 (by simp)
  obtain ⟨A3, c3, rfl⟩ := L5.own_slice o3
  have HB3 := Lib.hid (HB2.out.trans (b3.mono HB2.out.size))
  clear o3 b3
  simp only [strV, List.map_cons, List.map_nil, List.length_cons, List.length_nil] at hS3
  go_wp2_with fail
  refine hS3.mono ?_
  rintro e w4 ⟨rfl, b4⟩
  have HB4 := Lib.hid (HB3.out.trans (b4.mono HB3.out.size))
  clear b4 hS3
  go_wp2_with fail
  refine (HD.out _).mono ?_
  rintro e w5 ⟨v5, rfl, o5, b5⟩
  have hS5 := same_lit w5 _ v5 _ o5 (by simp)
  obtain ⟨A5, c5, rfl⟩ := L5.own_slice o5
  have HB5 := Lib.hid (HB4.out.trans (b5.mono HB4.out.size))
  clear o5 b5
  simp only [strV, List.map_cons, List.map_nil, List.length_cons, List.length_nil] at hS5
  go_wp2_with fail
  refine hS5.mono ?_
  rintro e w6 ⟨rfl, b6⟩
  have HB6 := Lib.hid (HB5.out.trans (b6.mono HB5.out.size))
  clear b6 hS5
  go_wp2
  go_ret
  exact ⟨rfl, HB6.out⟩
end Go.Proofs.Ytlpabhgfmkilnaa.L14
