/- Contract of the laws' sameMsg: are both messages one? -/
import Derived.Test.YtekididpimgghaaShort
import Derived.Laws.Cover1
import Derived.Deep.RegionHeld3
namespace Go.Proofs.Ytekididpimgghaa.L4
open Go.ChangeShapes Go.WideShapes Go.ChangeAt Go.RowKit

theorem msg_ext {a b : Msg} (h1 : a.kind = b.kind) (h2 : a.e1 = b.e1) (h3 : a.c1 = b.c1) (h4 : a.e2 = b.e2) (h5 : a.c2 = b.c2) (h6 : a.num = b.num) (h7 : a.mem = b.mem) (h8 : a.terms = b.terms) : a = b := by
  cases a; cases b; simp_all
def SameOut (w : World) (a b : Msg) (e : Ending) (w' : World) : Prop := ∃ r, e = .returned (.bool r) ∧ (r = true ↔ a = b) ∧ Below w.heap.size w w'

def Going {α : Type} (W1 : World) (xs ys : List α) (n k : Nat) (v : Value) (wr : World) : Prop := ∃ i : Nat, k + i = n ∧ v = .int .i64 i ∧ xs.take i = ys.take i ∧ Below W1.heap.size W1 wr

set_option maxRecDepth 100000 in
set_option maxHeartbeats 8000000 in
theorem sameMsg_calls (a b : Msg) (vm vt um ut : Value) (w : World) (ha : MsgA w a vm vt) (hb : MsgA w b um ut) : Calls Try.prog 42 #[.agg (msgCells a vm vt), .agg (msgCells b um ut)] w (SameOut w a b) := by
  obtain ⟨A5, c5, rfl⟩ : ∃ A c, vm = .slice A a.mem.length c := by obtain ⟨⟨A, c, e, k⟩, f⟩ := ha.mem; exact ⟨A, c, e⟩
  obtain ⟨A6, c6, rfl⟩ : ∃ A c, vt = .slice A a.terms.length c := by obtain ⟨⟨A, c, e, k⟩, f⟩ := ha.terms; exact ⟨A, c, e⟩
  obtain ⟨B5, d5, rfl⟩ : ∃ A c, um = .slice A b.mem.length c := by obtain ⟨⟨A, c, e, k⟩, f⟩ := hb.mem; exact ⟨A, c, e⟩
  obtain ⟨B6, d6, rfl⟩ : ∃ A c, ut = .slice A b.terms.length c := by obtain ⟨⟨A, c, e, k⟩, f⟩ := hb.terms; exact ⟨A, c, e⟩
  have hbx := boxed_new w a (.slice A5 a.mem.length c5) (.slice A6 a.terms.length c6) 57
  unfold msgCells at hbx ⊢
  obtain ⟨W0, hW0⟩ : ∃ W0, w.alloc (.cells #[.int .i64 a.kind, .int .i64 a.e1, .int .i64 a.c1, .int .i64 a.e2, .int .i64 a.c2, .int .i64 a.num, .slice A5 a.mem.length c5, .slice A6 a.terms.length c6] 57) = W0 := ⟨_, rfl⟩
  have hs0 : W0.heap.size = w.heap.size + 1 := by rw [← hW0]; simp
  have hB0 : Below w.heap.size w W0 := by rw [← hW0]; exact (Below.refl _ w).alloc (Nat.le_refl _) _
  rw [hW0] at hbx
  have hby := boxed_new W0 b (.slice B5 b.mem.length d5) (.slice B6 b.terms.length d6) 60
  unfold msgCells at hby
  obtain ⟨W1, hW1⟩ : ∃ W1, W0.alloc (.cells #[.int .i64 b.kind, .int .i64 b.e1, .int .i64 b.c1, .int .i64 b.e2, .int .i64 b.c2, .int .i64 b.num, .slice B5 b.mem.length d5, .slice B6 b.terms.length d6] 60) = W1 := ⟨_, rfl⟩
  rw [hW1, hs0] at hby
  have hB1 : Below w.heap.size w W1 := by rw [← hW1]; exact hB0.alloc (by omega) _
  obtain ⟨y0, y1, y2, y3, y4, y5, y6, y7⟩ : Boxed W1 w.heap.size a (.slice A5 a.mem.length c5) (.slice A6 a.terms.length c6) := by
    rw [← hW1]
    exact Boxed.below hbx ((Below.refl W0.heap.size W0).alloc (Nat.le_refl _) _) (by omega)
  obtain ⟨z0, z1, z2, z3, z4, z5, z6, z7⟩ := hby
  have HIa : Hid (∀ (j : Nat) (x : Int), a.mem[j]? = some x → ∃ ad : Addr, A5 = some ad ∧ ∀ V : World, Below W1.heap.size W1 V → V.cell? (ad.add j) = some (.int .i64 x)) := by
    intro j x hx
    obtain ⟨⟨A, c, e, k⟩, _⟩ := ha.mem
    cases e
    obtain ⟨ad, e2, b1, b2⟩ := k j x hx
    exact ⟨ad, e2, fun V hV => (hV.cell (p := ad.add j) (by rw [addr_block]; have := hB1.size; omega)).trans ((hB1.cell (p := ad.add j) (by rw [addr_block]; exact b1)).trans b2)⟩
  have HIb : Hid (∀ (j : Nat) (x : Int), b.mem[j]? = some x → ∃ ad : Addr, B5 = some ad ∧ ∀ V : World, Below W1.heap.size W1 V → V.cell? (ad.add j) = some (.int .i64 x)) := by
    intro j x hx
    obtain ⟨⟨A, c, e, k⟩, _⟩ := hb.mem
    cases e
    obtain ⟨ad, e2, b1, b2⟩ := k j x hx
    exact ⟨ad, e2, fun V hV => (hV.cell (p := ad.add j) (by rw [addr_block]; have := hB1.size; omega)).trans ((hB1.cell (p := ad.add j) (by rw [addr_block]; exact b1)).trans b2)⟩
  have HTa : Hid (∀ (j : Nat) (z : List UInt8), a.terms[j]? = some z → ∃ ad : Addr, A6 = some ad ∧ ∀ V : World, Below W1.heap.size W1 V → V.cell? (ad.add j) = some (.string ⟨z.toArray⟩)) := by
    intro j x hx
    obtain ⟨A, c, e, k⟩ := ha.terms.reads
    cases e
    obtain ⟨ad, e2, b1, _, b2⟩ := k j x hx
    exact ⟨ad, e2, fun V hV => (hV.cell (p := ad.add j) (by rw [addr_block]; have := hB1.size; omega)).trans ((hB1.cell (p := ad.add j) (by rw [addr_block]; exact b1)).trans b2)⟩
  have HTb : Hid (∀ (j : Nat) (z : List UInt8), b.terms[j]? = some z → ∃ ad : Addr, B6 = some ad ∧ ∀ V : World, Below W1.heap.size W1 V → V.cell? (ad.add j) = some (.string ⟨z.toArray⟩)) := by
    intro j x hx
    obtain ⟨A, c, e, k⟩ := hb.terms.reads
    cases e
    obtain ⟨ad, e2, b1, _, b2⟩ := k j x hx
    exact ⟨ad, e2, fun V hV => (hV.cell (p := ad.add j) (by rw [addr_block]; have := hB1.size; omega)).trans ((hB1.cell (p := ad.add j) (by rw [addr_block]; exact b1)).trans b2)⟩
  have f5 := ha.mem.few
  have f6 := ha.terms.few
  unfold maxLen at f5 f6
  have HB1 := Lib.hid hB1
  clear hB0 hB1 ha hb hbx
  have HSame : Hid (a.kind = b.kind → a.e1 = b.e1 → a.c1 = b.c1 → a.e2 = b.e2 → a.c2 = b.c2 → a.num = b.num → a.mem = b.mem → a.terms = b.terms → a = b) := by
    intro h1 h2 h3 h4 h5 h6 h7 h8
    exact msg_ext h1 h2 h3 h4 h5 h6 h7 h8
  obtain ⟨la, hla⟩ : ∃ la, a.mem.length = la := ⟨_, rfl⟩
  obtain ⟨lb, hlb⟩ : ∃ lb, b.mem.length = lb := ⟨_, rfl⟩
  obtain ⟨na, hna⟩ : ∃ na, a.terms.length = na := ⟨_, rfl⟩
  obtain ⟨nb, hnb⟩ : ∃ nb, b.terms.length = nb := ⟨_, rfl⟩
  rw [hla, hna] at hW0
  rw [hlb, hnb] at hW1
  rw [hla] at y6 f5
  rw [hlb] at z6
  rw [hna] at y7 f6
  rw [hnb] at z7
  rw [hla, hlb, hna, hnb]
  have HL : Hid (a.mem.length = la ∧ b.mem.length = lb ∧ a.terms.length = na ∧ b.terms.length = nb) := ⟨hla, hlb, hna, hnb⟩
  clear hla hlb hna hnb
  by_cases q1 : a.kind = b.kind
  case neg =>
    have g1 : (a.kind != b.kind) = true := by rw [bne_iff_ne]; exact q1
    clear HSame
    go_enter Try.func42, Try.ntmps42
    go_wp2
    go_ret
    exact ⟨false, rfl, ⟨(fun h => nomatch h), fun h => absurd (by rw [h]) q1⟩, HB1.out⟩
  have g1 : (a.kind != b.kind) = false := by rw [q1]; simp
  by_cases q2 : a.e1 = b.e1
  case neg =>
    have g2 : ((a.e1 == b.e1)) = false := by rw [beq_eq_false_iff_ne]; exact q2
    clear HSame q1
    go_enter Try.func42, Try.ntmps42
    go_wp2
    go_ret
    exact ⟨false, rfl, ⟨(fun h => nomatch h), fun h => absurd (by rw [h]) q2⟩, HB1.out⟩
  have g2 : ((a.e1 == b.e1)) = true := by rw [beq_iff_eq]; exact q2
  by_cases q3 : a.c1 = b.c1
  case neg =>
    have g3 : ((a.c1 == b.c1)) = false := by rw [beq_eq_false_iff_ne]; exact q3
    clear HSame q1 q2
    go_enter Try.func42, Try.ntmps42
    go_wp2
    go_ret
    exact ⟨false, rfl, ⟨(fun h => nomatch h), fun h => absurd (by rw [h]) q3⟩, HB1.out⟩
  have g3 : ((a.c1 == b.c1)) = true := by rw [beq_iff_eq]; exact q3
  by_cases q4 : a.e2 = b.e2
  case neg =>
    have g4 : ((a.e2 == b.e2)) = false := by rw [beq_eq_false_iff_ne]; exact q4
    clear HSame q1 q2 q3
    go_enter Try.func42, Try.ntmps42
    go_wp2
    go_ret
    exact ⟨false, rfl, ⟨(fun h => nomatch h), fun h => absurd (by rw [h]) q4⟩, HB1.out⟩
  have g4 : ((a.e2 == b.e2)) = true := by rw [beq_iff_eq]; exact q4
  by_cases q5 : a.c2 = b.c2
  case neg =>
    have g5 : ((a.c2 == b.c2)) = false := by rw [beq_eq_false_iff_ne]; exact q5
    clear HSame q1 q2 q3 q4
    go_enter Try.func42, Try.ntmps42
    go_wp2
    go_ret
    exact ⟨false, rfl, ⟨(fun h => nomatch h), fun h => absurd (by rw [h]) q5⟩, HB1.out⟩
  have g5 : ((a.c2 == b.c2)) = true := by rw [beq_iff_eq]; exact q5
  by_cases q6 : a.num = b.num
  case neg =>
    have g6 : (a.num != b.num) = true := by rw [bne_iff_ne]; exact q6
    clear HSame q1 q2 q3 q4 q5
    go_enter Try.func42, Try.ntmps42
    go_wp2
    go_ret
    exact ⟨false, rfl, ⟨(fun h => nomatch h), fun h => absurd (by rw [h]) q6⟩, HB1.out⟩
  have g6 : (a.num != b.num) = false := by rw [q6]; simp
  by_cases q7 : la = lb
  case neg =>
    have g7 : ((la : Int) != (lb : Int)) = true := by rw [bne_iff_ne]; omega
    clear HSame q1 q2 q3 q4 q5 q6
    go_enter Try.func42, Try.ntmps42
    go_wp2
    go_ret
    exact ⟨false, rfl, ⟨(fun h => nomatch h), fun h => absurd (by rw [← HL.out.1, ← HL.out.2.1, h]) q7⟩, HB1.out⟩
  subst q7
  by_cases q8 : na = nb
  case neg =>
    have g8 : ((na : Int) != (nb : Int)) = true := by rw [bne_iff_ne]; omega
    clear HSame q1 q2 q3 q4 q5 q6
    go_enter Try.func42, Try.ntmps42
    go_wp2
    go_ret
    exact ⟨false, rfl, ⟨(fun h => nomatch h), fun h => absurd (by rw [← HL.out.2.2.1, ← HL.out.2.2.2, h]) q8⟩, HB1.out⟩
  subst q8
  have HEq : Hid (a.mem = b.mem → a.terms = b.terms → a = b) := HSame.out q1 q2 q3 q4 q5 q6
  clear HSame q1 q2 q3 q4 q5 q6
  go_enter Try.func42, Try.ntmps42
  go_wp2
  have hs1 : W1.heap.size = w.heap.size + 2 := by rw [← hW1]; simp [hs0]
  have HY : Hid (∀ V : World, Below W1.heap.size W1 V → V.cell? ⟨w.heap.size, 6, none⟩ = some (.slice A5 la c5) ∧ V.cell? ⟨w.heap.size, 7, none⟩ = some (.slice A6 na c6) ∧ V.cell? ⟨w.heap.size + 1, 6, none⟩ = some (.slice B5 la d5) ∧ V.cell? ⟨w.heap.size + 1, 7, none⟩ = some (.slice B6 na d6)) := fun V hV =>
    ⟨(hV.cell (p := ⟨w.heap.size, 6, none⟩) (by simp; omega)).trans y6, (hV.cell (p := ⟨w.heap.size, 7, none⟩) (by simp; omega)).trans y7, (hV.cell (p := ⟨w.heap.size + 1, 6, none⟩) (by simp; omega)).trans z6, (hV.cell (p := ⟨w.heap.size + 1, 7, none⟩) (by simp; omega)).trans z7⟩
  clear hW0 hW1 g1 g2 g3 g4 g5 g6 y0 y1 y2 y3 y4 y5 z0 z1 z2 z3 z4 z5 y6 y7 z6 z7
  go_loopg [5] la (fun k v5 wr => Going W1 a.mem b.mem la k v5 wr)
  case atStart => exact ⟨0, rfl, rfl, rfl, Below.refl _ _⟩
  case round =>
    obtain ⟨i, hk, rfl, hpre, hB⟩ := hrel
    obtain ⟨y6, y7, z6, z7⟩ := HY.out wr hB
    by_cases hlt : i < la
    · obtain ⟨x, hx⟩ : ∃ x, a.mem[i]? = some x := ⟨_, List.getElem?_eq_getElem (by rw [HL.out.1]; exact hlt)⟩
      obtain ⟨y, hy⟩ : ∃ y, b.mem[i]? = some y := ⟨_, List.getElem?_eq_getElem (by rw [HL.out.2.1]; exact hlt)⟩
      obtain ⟨ad, rfl, a4'⟩ := HIa.out i x hx
      obtain ⟨bd, rfl, b4'⟩ := HIb.out i y hy
      have a4 := a4' wr hB
      have b4 := b4' wr hB
      clear a4' b4'
      have j1 : (i : Int) < (la : Int) := by omega
      have j2 : (0 : Int) ≤ (i : Int) := by omega
      have HBd : Hid (Below W1.heap.size W1 wr.drew) := ⟨hB.os, hB.tape, hB.output, hB.size, hB.block⟩
      by_cases hxy : x = y
      · have hRel : Hid (Going W1 a.mem b.mem la (la - (i + 1)) (.int .i64 ((i + 1 : Nat) : Int)) wr.drew) := ⟨i + 1, by omega, rfl, by rw [List.take_add_one, List.take_add_one, hpre, hx, hy, hxy], HBd.out⟩
        subst hxy
        have HK := Lib.hid hk
        clear hk hpre hx hy hB y7 z7
        go_wp2
        go_region_held3 (fun w' => w'.cell? ⟨w.heap.size, 6, none⟩ = some (.slice (some ad) la c5) ∧ w'.cell? ⟨w.heap.size + 1, 6, none⟩ = some (.slice (some bd) la d5) ∧ w'.cell? (ad.add i) = some (.int .i64 x) ∧ w'.cell? (bd.add i) = some (.int .i64 x)) (go_keep) (fail)
        all_goals
          go_wp2
          go_roundg (la - (i + 1))
          case measure => have := HK.out; omega
          case rel => exact hRel.out
      · have hne : (x != y) = true := by rw [bne_iff_ne]; exact hxy
        have hfin : Hid (SameOut w a b (.returned (.bool false)) wr.drew) := ⟨false, rfl, ⟨(fun h => nomatch h), fun h => by
          rw [h, hy] at hx
          exact absurd (Option.some.inj hx).symm hxy⟩, HB1.out.trans (HBd.out.mono (by omega))⟩
        clear hk hpre hx hy hB y7 z7 hxy HBd
        go_wp2
        go_region_held3 (fun w' => w'.cell? ⟨w.heap.size, 6, none⟩ = some (.slice (some ad) la c5) ∧ w'.cell? ⟨w.heap.size + 1, 6, none⟩ = some (.slice (some bd) la d5) ∧ w'.cell? (ad.add i) = some (.int .i64 x) ∧ w'.cell? (bd.add i) = some (.int .i64 y)) (go_keep) (fail)
        all_goals
          go_wp2
          go_ret
          exact hfin.out
    · have hmem : Hid (a.mem = b.mem) := by
        have h1 : a.mem.take i = a.mem := List.take_of_length_le (by rw [HL.out.1]; omega)
        have h2 : b.mem.take i = b.mem := List.take_of_length_le (by rw [HL.out.2.1]; omega)
        show a.mem = b.mem
        rw [← h1, ← h2]
        exact hpre
      have HStart : Hid (Going W1 a.terms b.terms na na (.int .i64 0) wr) := ⟨0, rfl, rfl, rfl, hB⟩
      have j1 : ¬ ((i : Int) < (la : Int)) := by omega
      clear hk hpre hB y7 z7 z6 HIa HIb
      go_wp2
      clear y6
      go_loopg [6] na (fun k v6 wr => Going W1 a.terms b.terms na k v6 wr)
      case atStart => exact HStart.out
      case round =>
        clear HStart
        obtain ⟨i, hk, rfl, hpre, hB⟩ := hrel
        obtain ⟨y6, y7, z6, z7⟩ := HY.out wr hB
        by_cases hlt : i < na
        · obtain ⟨x, hx⟩ : ∃ x, a.terms[i]? = some x := ⟨_, List.getElem?_eq_getElem (by rw [HL.out.2.2.1]; exact hlt)⟩
          obtain ⟨y, hy⟩ : ∃ y, b.terms[i]? = some y := ⟨_, List.getElem?_eq_getElem (by rw [HL.out.2.2.2]; exact hlt)⟩
          obtain ⟨ad, rfl, a4'⟩ := HTa.out i x hx
          obtain ⟨bd, rfl, b4'⟩ := HTb.out i y hy
          have a4 := a4' wr hB
          have b4 := b4' wr hB
          clear a4' b4'
          have j1 : (i : Int) < (na : Int) := by omega
          have j2 : (0 : Int) ≤ (i : Int) := by omega
          have HBd : Hid (Below W1.heap.size W1 wr.drew) := ⟨hB.os, hB.tape, hB.output, hB.size, hB.block⟩
          by_cases hxy : x = y
          · have hRel : Hid (Going W1 a.terms b.terms na (na - (i + 1)) (.int .i64 ((i + 1 : Nat) : Int)) wr.drew) := ⟨i + 1, by omega, rfl, by rw [List.take_add_one, List.take_add_one, hpre, hx, hy, hxy], HBd.out⟩
            subst hxy
            have HK := Lib.hid hk
            clear hk hpre hx hy hB y6 z6
            go_wp2
            go_region_held3 (fun w' => w'.cell? ⟨w.heap.size, 7, none⟩ = some (.slice (some ad) na c6) ∧ w'.cell? ⟨w.heap.size + 1, 7, none⟩ = some (.slice (some bd) na d6) ∧ w'.cell? (ad.add i) = some (.string ⟨x.toArray⟩) ∧ w'.cell? (bd.add i) = some (.string ⟨x.toArray⟩)) (go_keep) (fail)
            all_goals
              go_wp2
              go_roundg (na - (i + 1))
              case measure => have := HK.out; omega
              case rel => exact hRel.out
          · have hne : (x == y) = false := by rw [beq_eq_false_iff_ne]; exact hxy
            have hfin : Hid (SameOut w a b (.returned (.bool false)) wr.drew) := ⟨false, rfl, ⟨(fun h => nomatch h), fun h => by
              rw [h, hy] at hx
              exact absurd (Option.some.inj hx).symm hxy⟩, HB1.out.trans (HBd.out.mono (by omega))⟩
            clear hk hpre hx hy hB y6 z6 hxy HBd
            go_wp2
            go_region_held3 (fun w' => w'.cell? ⟨w.heap.size, 7, none⟩ = some (.slice (some ad) na c6) ∧ w'.cell? ⟨w.heap.size + 1, 7, none⟩ = some (.slice (some bd) na d6) ∧ w'.cell? (ad.add i) = some (.string ⟨x.toArray⟩) ∧ w'.cell? (bd.add i) = some (.string ⟨y.toArray⟩)) (go_keep) (fail)
            all_goals
              go_wp2
              go_ret
              exact hfin.out
        · have hterms : a.terms = b.terms := by
            have h1 : a.terms.take i = a.terms := List.take_of_length_le (by rw [HL.out.2.2.1]; omega)
            have h2 : b.terms.take i = b.terms := List.take_of_length_le (by rw [HL.out.2.2.2]; omega)
            rw [← h1, ← h2]
            exact hpre
          have hfin : Hid (SameOut w a b (.returned (.bool true)) wr) := ⟨true, rfl, ⟨fun _ => HEq.out hmem.out hterms, fun _ => rfl⟩, HB1.out.trans (hB.mono (by omega))⟩
          have j1 : ¬ ((i : Int) < (na : Int)) := by omega
          clear hk hpre hB hterms
          go_wp2
          go_ret
          exact hfin.out
end Go.Proofs.Ytekididpimgghaa.L4
