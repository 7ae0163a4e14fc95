/- Contracts of the statements' own same, has and shown; a watch in a variable. -/
import Derived.Test.YtildapcdkipakaaWtNew
import Derived.Test.YtildapcdkipakaaWtTick
import Derived.Test.YtildapcdkipakaaWtThere
namespace Go.Proofs.Ytildapcdkipakaa.L9
open Go.ChangeShapes Go.WideShapes Go.ChangeAt Go.RowKit Go.Deep

def SameGo (w : World) (a b : List Int) (k : Nat) (v5 : Value) (wr : World) : Prop := ∃ i : Nat, k + i = a.length ∧ v5 = .int .i64 i ∧ a.take i = b.take i ∧ Below w.heap.size w wr
set_option maxRecDepth 100000 in
set_option maxHeartbeats 2000000 in
theorem same_calls (a b : List Int) (va vb : Value) (w : World) (ha : IRow w va a) (hb : IRow w vb b) (hl : a.length ≤ 1000) : Calls Try.prog 25 #[va, vb] w (L5.One w (.bool (decide (a = b)))) := by
  obtain ⟨A, c, rfl, hka⟩ := ha
  obtain ⟨B, d, rfl, hkb⟩ := hb
  by_cases hlen : a.length = b.length
  · have HA : Hid (∀ (j : Nat) (x : Int), a[j]? = some x → ∃ ad : Addr, A = some ad ∧ ad.block < w.heap.size ∧ w.cell? (ad.add j) = some (.int .i64 x)) := hka
    have HB : Hid (∀ (j : Nat) (x : Int), b[j]? = some x → ∃ ad : Addr, B = some ad ∧ ad.block < w.heap.size ∧ w.cell? (ad.add j) = some (.int .i64 x)) := hkb
    have HLen := Lib.hid hlen
    rw [← hlen]
    clear hka hkb hlen
    go_enter Try.func25, Try.ntmps25
    go_wp2
    go_loopg [5] a.length (fun k v5 wr => SameGo w a b k v5 wr)
    case atStart => exact ⟨0, rfl, rfl, rfl, Below.refl _ _⟩
    case round =>
      obtain ⟨i, hk, rfl, htk, hBl⟩ := hrel
      by_cases hlt : i < a.length
      · obtain ⟨x, hx⟩ : ∃ x, a[i]? = some x := ⟨_, List.getElem?_eq_getElem hlt⟩
        obtain ⟨y, hy⟩ : ∃ y, b[i]? = some y := ⟨_, List.getElem?_eq_getElem (by have := HLen.out; omega)⟩
        obtain ⟨ad, rfl, ha1, ha2⟩ := HA.out i x hx
        obtain ⟨bd, rfl, hb1, hb2⟩ := HB.out i y hy
        have j1 : (i : Int) < (a.length : Int) := by omega
        have j2 : (0 : Int) ≤ (i : Int) := by omega
        have c1 : wr.cell? (ad.add i) = some (.int .i64 x) := (hBl.cell (p := ad.add i) (by rw [addr_block]; exact ha1)).trans ha2
        have c2 : wr.cell? (bd.add i) = some (.int .i64 y) := (hBl.cell (p := bd.add i) (by rw [addr_block]; exact hb1)).trans hb2
        have hd : Hid (Below w.heap.size w wr.drew) := hBl.drew
        by_cases hxy : x = y
        · subst hxy
          have hfin : Hid (SameGo w a b (a.length - (i + 1)) (.int .i64 ((i + 1 : Nat) : Int)) wr.drew) := ⟨i + 1, by omega, rfl, by rw [List.take_add_one, List.take_add_one, hx, hy, htk], hd.out⟩
          have hm := Lib.hid (show a.length - (i + 1) < gk by omega)
          clear ha1 ha2 hb1 hb2 hx hy htk hBl hk
          go_wp2
          go_region_held3 (fun w' => w'.cell? (ad.add i) = some (.int .i64 x) ∧ w'.cell? (bd.add i) = some (.int .i64 x)) (go_keep) (fail)
          go_wp2
          go_roundg (a.length - (i + 1))
          case measure => exact hm.out
          case rel => simpa using hfin.out
        · have e1 : (x == y) = false := by rw [beq_eq_false_iff_ne]; omega
          have e2 : ¬ x = y := by omega
          have hne : Hid (decide (a = b) = false) := by
            show decide (a = b) = false
            rw [decide_eq_false_iff_not]
            rintro rfl
            rw [hx] at hy
            cases hy
            exact hxy rfl
          clear ha1 ha2 hb1 hb2 hx hy htk hBl hk hxy
          go_wp2
          go_region_held3 (fun w' => w'.cell? (ad.add i) = some (.int .i64 x) ∧ w'.cell? (bd.add i) = some (.int .i64 y)) (go_keep) (fail)
          go_wp2
          go_ret
          exact ⟨by rw [hne.out]; rfl, hd.out⟩
      · have j1 : ¬ ((i : Int) < (a.length : Int)) := by omega
        have hfin : Hid (decide (a = b) = true) := by
          show decide (a = b) = true
          rw [decide_eq_true_iff]
          have h1 := HLen.out
          rwa [List.take_of_length_le (by omega), List.take_of_length_le (by omega)] at htk
        have HBl := Lib.hid hBl
        clear hk htk hBl
        go_wp2
        go_ret
        exact ⟨by rw [hfin.out]; rfl, HBl.out⟩
  · have e1 : ((a.length : Int) == (b.length : Int)) = false := by rw [beq_eq_false_iff_ne]; omega
    have e2 : ¬ (a.length : Int) = (b.length : Int) := by omega
    have hne : Hid (decide (a = b) = false) := by
      show decide (a = b) = false
      rw [decide_eq_false_iff_not]
      rintro rfl
      exact hlen rfl
    clear hka hkb hlen
    go_enter Try.func25, Try.ntmps25
    go_wp2
    go_ret
    exact ⟨by rw [hne.out]; rfl, Below.refl _ _⟩

/-- A new variable is stored into. -/
theorem fresh3 (W : World) (a b c : Value) : ∃ W1 u1 u2 u3 : World, W.alloc (.cells #[.int .i64 0, .int .i64 0, .slice none 0 0] 55) = W1 ∧ (W1.setCell ⟨W.heap.size, 0, none⟩ a = u1 ∧ W1.cell? ⟨W.heap.size, 0, none⟩ = some (.int .i64 0) ∧ W1.frozen? ⟨W.heap.size, 0, none⟩ = false) ∧ (u1.setCell ⟨W.heap.size, 1, none⟩ b = u2 ∧ u1.cell? ⟨W.heap.size, 1, none⟩ = some (.int .i64 0) ∧ u1.frozen? ⟨W.heap.size, 1, none⟩ = false) ∧ (u2.setCell ⟨W.heap.size, 2, none⟩ c = u3 ∧ u2.cell? ⟨W.heap.size, 2, none⟩ = some (.slice none 0 0) ∧ u2.frozen? ⟨W.heap.size, 2, none⟩ = false) ∧
    u3.heap[W.heap.size]? = some (.cells #[a, b, c] 55 (0, 0)) ∧ Below W.heap.size W u3 := by
  have hn := heap_alloc_new W (.cells #[.int .i64 0, .int .i64 0, .slice none 0 0] 55)
  have hB : Below W.heap.size W (W.alloc (.cells #[.int .i64 0, .int .i64 0, .slice none 0 0] 55)) := (Below.refl _ W).alloc (Nat.le_refl _) _
  obtain ⟨u1, u2, u3, k1, k2, k3, k4, k5, _⟩ := store3 a b c hn
  exact ⟨_, u1, u2, u3, rfl, k1, k2, k3, k4, hB.trans k5⟩
/-- A watch in a variable. -/
structure HAt (W : World) (g : Nat) (v : Value) (me lim : Int) (L : List Int) : Prop where
  blk : W.heap[g]? = some (.cells #[.int .i64 me, .int .i64 lim, v] 55 (0, 0))
  row : W.ownsRow 0 3 1 v 8 (ints L)
theorem HAt.lt {W : World} {g : Nat} {v : Value} {me lim : Int} {L : List Int} (h : HAt W g v me lim L) : g < W.heap.size := (Array.getElem?_eq_some_iff.1 h.blk).1
theorem HAt.below {W W' : World} {g : Nat} {v : Value} {me lim : Int} {L : List Int} (h : HAt W g v me lim L) (hb : Below W.heap.size W W') : HAt W' g v me lim L := ⟨(hb.block g h.lt).trans h.blk, L5.own_below h.row hb⟩
/-- A watch that was handed out is stored into a new variable. -/
theorem HAt.fresh {B : Nat} {w w1 : World} {v : Value} {me lim : Int} {L : List Int} (r : w1.ownsRow B 3 1 v 8 (ints L)) (hb : Below w.heap.size w w1) : ∃ (q c : Nat) (W1 u1 u2 u3 : World), v = .slice (some ⟨q, 0, none⟩) 8 c ∧ w1.alloc (.cells #[.int .i64 0, .int .i64 0, .slice none 0 0] 55) = W1 ∧ (W1.setCell ⟨w1.heap.size, 0, none⟩ (.int .i64 me) = u1 ∧ W1.cell? ⟨w1.heap.size, 0, none⟩ = some (.int .i64 0) ∧ W1.frozen? ⟨w1.heap.size, 0, none⟩ = false) ∧ (u1.setCell ⟨w1.heap.size, 1, none⟩ (.int .i64 lim) = u2 ∧ u1.cell? ⟨w1.heap.size, 1, none⟩ = some (.int .i64 0) ∧ u1.frozen? ⟨w1.heap.size, 1, none⟩ = false) ∧ (u2.setCell ⟨w1.heap.size, 2, none⟩ v = u3 ∧ u2.cell? ⟨w1.heap.size, 2, none⟩ = some (.slice none 0 0) ∧ u2.frozen? ⟨w1.heap.size, 2, none⟩ = false) ∧
    HAt u3 w1.heap.size v me lim L ∧ Below w.heap.size w u3 ∧ Below w1.heap.size w1 u3 := by
  obtain ⟨q, c, e, _⟩ := own_eight r
  obtain ⟨W1, u1, u2, u3, k0, k1, k2, k3, k4, k5⟩ := fresh3 w1 (.int .i64 me) (.int .i64 lim) v
  exact ⟨q, c, W1, u1, u2, u3, e, k0, k1, k2, k3, ⟨k4, L5.own_below (own_base r (Nat.zero_le _)) k5⟩, hb.trans (k5.mono hb.size), k5⟩
theorem HAt.there {W : World} {g : Nat} {v : Value} {me lim : Int} {L : List Int} (h : HAt W g v me lim L) (k : WOk me lim L) : Calls Try.prog 26 #[.agg #[.int .i64 me, .int .i64 lim, v]] W (OutRow W (thereL lim L)) := There_calls 0 me lim v L W k h.row
theorem HAt.tick {W : World} {g : Nat} {v : Value} {me lim : Int} {L : List Int} (h : HAt W g v me lim L) (k : WOk me lim L) : Calls Try.prog 22 #[.agg #[.int .i64 me, .int .i64 lim, v]] W (WOut W me lim (tickL me lim L)) := Tick_calls 0 me lim v L W k h.row
theorem HAt.hear {W : World} {g : Nat} {v : Value} {me lim : Int} {L : List Int} (h : HAt W g v me lim L) (k : WOk me lim L) (p : Int) (hp : isInt p) : Calls Try.prog 23 #[.agg #[.int .i64 me, .int .i64 lim, v], .int .i64 p] W (WOut W me lim (hearL L p)) := Hear_calls 0 me lim p v L W k.len h.row hp
end Go.Proofs.Ytildapcdkipakaa.L9
