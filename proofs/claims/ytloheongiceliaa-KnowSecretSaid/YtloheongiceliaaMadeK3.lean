/- Contract of the statements' own made: a row of right terms, each at most 600 bytes and no deeper than its place allows. -/
import Derived.Test.YtloheongiceliaaMk
import Derived.Test.YtloheongiceliaaPickK3
namespace Go.Proofs.Ytloheongiceliaa.L3
open Go.ChangeShapes Go.WideShapes Go.ChangeAt Go.RowKit

def isInt (v : Int) : Prop := -9223372036854775808 ≤ v ∧ v ≤ 9223372036854775807

/-- The steps, as they lie in memory. -/
def Steps (w : World) (A : Option Addr) (n : Nat) : Prop :=
  ∀ i, i < n → ∃ (ad : Addr) (o a b c : Int), A = some ad ∧ ad.block < w.heap.size ∧ isInt o ∧ isInt a ∧ isInt b ∧ isInt c ∧
    w.cell? (ad.add (i * 4 + 0)) = some (.int .i64 o) ∧ w.cell? (ad.add (i * 4 + 1)) = some (.int .i64 a) ∧ w.cell? (ad.add (i * 4 + 2)) = some (.int .i64 b) ∧ w.cell? (ad.add (i * 4 + 3)) = some (.int .i64 c)

theorem add_more (ad : Addr) (i j : Nat) (h : 0 < j) : ad.add (i + j) = ⟨(ad.add i).block, (ad.add i).off + j, none⟩ := by
  unfold Addr.add
  rw [if_neg (by omega)]
  split
  · rename_i h0; subst h0; simp
  · simp [Nat.add_assoc]
theorem block_add (ad : Addr) (i : Nat) : (ad.add i).block = ad.block := by unfold Addr.add; split <;> rfl

def Making (w : World) (n k : Nat) (v3 v4 : Value) (wr : World) : Prop :=
  ∃ (i : Nat) (ts : List (List UInt8)), k + i = 40 ∧ i ≤ n ∧ v4 = .int .i64 i ∧ ts.length = i + 2 ∧ wr.ownsRow w.heap.size 24 1 v3 ts.length (strs ts) ∧ (∀ t ∈ ts, Tm.Good (i + 1) 600 t) ∧ Below w.heap.size w wr

/-- What stays while a step is made: the row of terms, all that lay before, the step itself. -/
def Mid (w : World) (g cap q : Nat) (ts : List (List UInt8)) (o a b c : Int) (V : World) : Prop :=
  V.ownsRow w.heap.size 24 1 (.slice (some ⟨g, 0, none⟩) ts.length cap) ts.length (strs ts) ∧ Below w.heap.size w V ∧ V.heap[q]? = some (.cells #[.int .i64 o, .int .i64 a, .int .i64 b, .int .i64 c] 71 (0, 0))
theorem Mid.next {w V V' : World} {g cap q : Nat} {ts : List (List UInt8)} {o a b c : Int} (h : Mid w g cap q ts o a b c V) (hb : Below V.heap.size V V') : Mid w g cap q ts o a b c V' :=
  ⟨ownsRow_below h.1 hb, h.2.1.trans (hb.mono h.2.1.size), (hb.block q (Array.getElem?_eq_some_iff.1 h.2.2).1).trans h.2.2⟩
theorem Mid.op {w V : World} {g cap q : Nat} {ts : List (List UInt8)} {o a b c : Int} (h : Mid w g cap q ts o a b c V) : V.cell? ⟨q, 0, none⟩ = some (.int .i64 o) := (cell_of_row V _ 0 _ _ _ h.2.2).trans rfl
theorem Mid.two {w V : World} {g cap q : Nat} {ts : List (List UInt8)} {o a b c : Int} (h : Mid w g cap q ts o a b c V) : V.cell? ⟨q, 2, none⟩ = some (.int .i64 b) := (cell_of_row V _ 2 _ _ _ h.2.2).trans rfl

theorem made_next {w V : World} {n k i : Nat} {ts : List (List UInt8)} {l : List UInt8} {v : Value} (hk : k + i = 40) (hi : i < n) (hi2 : i < 40) (hl : ts.length = i + 2) (hg : ∀ t ∈ ts, Tm.Good (i + 1) 600 t) (hgl : Tm.Good (i + 2) 600 l)
    (ho : V.ownsRow w.heap.size 24 1 v (ts.length + 1) (strs ts ++ [.string ⟨l.toArray⟩])) (hb : Below w.heap.size w V) : Making w n (k - 1) v (.int .i64 ((i : Int) + 1)) V := by
  refine ⟨i + 1, ts ++ [l], by omega, by omega, rfl, by simp; omega, ?_, ?_, hb⟩
  · have e : strs (ts ++ [l]) = strs ts ++ [.string ⟨l.toArray⟩] := by simp [strs]
    rw [e, List.length_append, List.length_singleton]
    exact ho
  · intro t ht
    rcases List.mem_append.1 ht with ht | ht
    · exact (hg t ht).mono (by omega) (Nat.le_refl _)
    · rw [List.mem_singleton.1 ht]; exact hgl

def MadeOut (w : World) (n : Nat) (e : Ending) (w' : World) : Prop :=
  ∃ (g cap : Nat) (ts : List (List UInt8)), e = .returned (.slice (some ⟨g, 0, none⟩) ts.length cap) ∧ w'.ownsRow w.heap.size 24 1 (.slice (some ⟨g, 0, none⟩) ts.length cap) ts.length (strs ts) ∧ ts.length = min n 40 + 2 ∧ (∀ t ∈ ts, Tm.Good 41 600 t) ∧ Below w.heap.size w w'

set_option maxRecDepth 100000 in
set_option maxHeartbeats 40000000 in
theorem made_calls (A : Option Addr) (n c : Nat) (w : World) (hS : Steps w A n) (hnc : n ≤ maxLen) :
    Calls Try.prog 17 #[.slice A n c] w (MadeOut w n) := by
  unfold maxLen at hnc
  obtain ⟨i0, hi, hz0, hz1, hz2⟩ := info_parts info_term
  have HSt := Lib.hid hS
  have cN1 := fun W => name_calls 1 (by omega) (by omega) W
  have HN1 := Lib.hid cN1
  clear cN1 hS
  go_enter Try.func17, Try.ntmps17
  go_wp2_with fail
  refine (Gen_calls _).mono ?_
  rintro e' w1 ⟨rfl, hb1⟩
  go_wp2_with fail
  refine (HN1.out _).mono ?_
  rintro e' w2 ⟨l1, rfl, hg1, hb2⟩
  have B2 := hb1.trans (hb2.mono hb1.size)
  clear hb1 hb2
  go_wp2
  have HI : Hid (Making w n 40 (.slice (some ⟨w2.heap.size, 0, none⟩) 2 2) (.int .i64 0) (w2.alloc (.cells #[.string ⟨#[103]⟩, .string ⟨l1.toArray⟩] 24))) := by
    refine ⟨0, [[103], l1], rfl, Nat.zero_le _, rfl, rfl, World.ownsRow_lit (base := w.heap.size) (size := 1) w2 _ 2 B2.size (by unfold maxLen; omega) rfl, ?_, B2.alloc B2.size _⟩
    intro t ht
    simp only [List.mem_cons, List.not_mem_nil, or_false] at ht
    rcases ht with rfl | rfl
    · exact Tm.good_gen.mono (by omega) (by omega)
    · exact hg1.mono (by omega) (by omega)
  clear hg1 B2
  generalize w2.alloc (.cells #[.string ⟨#[103]⟩, .string ⟨l1.toArray⟩] 24) = w3 at *
  go_loopg [3, 4] 40 (fun k v3 v4 wr => Making w n k v3 v4 wr)
  case atStart => exact HI.out
  case round =>
    clear HI
    obtain ⟨i, ts, hk, hin, rfl, hlen, hrow, hgood, hbel⟩ := hrel
    have HG := Lib.hid hgood
    have HR := Lib.hid hrow
    have hL := Lib.hid hlen
    obtain ⟨g, cap, rfl⟩ : ∃ g cap, u3 = .slice (some ⟨g, 0, none⟩) ts.length cap := by
      rcases hrow.2 with ⟨_, h⟩ | ⟨g, cap, _, h, _⟩
      · omega
      · exact ⟨g, cap, h⟩
    have hts : ts.length ≤ 42 := by omega
    have hts2 : 2 ≤ ts.length := by omega
    clear hgood hrow hlen
    by_cases h1 : i < n ∧ i < 40
    · obtain ⟨ad, o, a, b, c', hA, hadw, ro, ra, rb, rc, c0, c1, c2, c3⟩ := HSt.out i h1.1
      subst hA
      have i1 : (i : Int) < (n : Int) := by omega
      have i2 : (i : Int) < 40 := by omega
      have i3 : (0 : Int) ≤ (i : Int) := by omega
      obtain ⟨W, hW⟩ : ∃ W, wr.alloc (.cells #[.int .i64 o, .int .i64 a, .int .i64 b, .int .i64 c'] 71) = W := ⟨_, rfl⟩
      have hbW : Below wr.heap.size wr W := by rw [← hW]; exact (Below.refl _ _).alloc (Nat.le_refl _) _
      have hblk : W.heap[wr.heap.size]? = some (.cells #[.int .i64 o, .int .i64 a, .int .i64 b, .int .i64 c'] 71 (0, 0)) := by rw [← hW]; exact heap_alloc_new wr _
      have hWs : W.heap.size = wr.heap.size + 1 := by rw [← hW]; simp
      have k0 : wr.cell? (ad.add (i * 4)) = some (.int .i64 o) := (hbel.cell (p := ad.add (i * 4)) (by rw [block_add]; exact hadw)).trans c0
      have k1 : wr.cell? ⟨(ad.add (i * 4)).block, (ad.add (i * 4)).off + 1, none⟩ = some (.int .i64 a) := by
        rw [← add_more ad (i * 4) 1 (by omega)]
        exact (hbel.cell (p := ad.add (i * 4 + 1)) (by rw [block_add]; exact hadw)).trans c1
      have k2 : wr.cell? ⟨(ad.add (i * 4)).block, (ad.add (i * 4)).off + 2, none⟩ = some (.int .i64 b) := by
        rw [← add_more ad (i * 4) 2 (by omega)]
        exact (hbel.cell (p := ad.add (i * 4 + 2)) (by rw [block_add]; exact hadw)).trans c2
      have k3 : wr.cell? ⟨(ad.add (i * 4)).block, (ad.add (i * 4)).off + 3, none⟩ = some (.int .i64 c') := by
        rw [← add_more ad (i * 4) 3 (by omega)]
        exact (hbel.cell (p := ad.add (i * 4 + 3)) (by rw [block_add]; exact hadw)).trans c3
      have hTx : Texts W g ts := (texts_of_row HR.out).below hbW (lt_of_row HR.out)
      have hpl : ∀ v, Tm.pickN v ts.length < ts.length := fun v => Tm.pickN_lt v _ (by omega)
      obtain ⟨pa, hpa⟩ : ∃ p, Tm.pickN a ts.length = p := ⟨_, rfl⟩
      obtain ⟨pb, hpb⟩ : ∃ p, Tm.pickN b ts.length = p := ⟨_, rfl⟩
      obtain ⟨pc, hpc⟩ : ∃ p, Tm.pickN c' ts.length = p := ⟨_, rfl⟩
      have la := hpl a
      have lb := hpl b
      have lc := hpl c'
      rw [hpa] at la
      rw [hpb] at lb
      rw [hpc] at lc
      obtain ⟨xa, hxa⟩ : ∃ x, ts[pa]? = some x := ⟨_, List.getElem?_eq_getElem la⟩
      obtain ⟨xb, hxb⟩ : ∃ x, ts[pb]? = some x := ⟨_, List.getElem?_eq_getElem lb⟩
      obtain ⟨xc, hxc⟩ : ∃ x, ts[pc]? = some x := ⟨_, List.getElem?_eq_getElem lc⟩
      have Ga := HG.out xa (List.mem_of_getElem? hxa)
      have Gb := HG.out xb (List.mem_of_getElem? hxb)
      have Gc := HG.out xc (List.mem_of_getElem? hxc)
      have m0 : W.cell? ⟨wr.heap.size, 0, none⟩ = some (.int .i64 o) := (cell_of_row W _ 0 _ _ _ hblk).trans rfl
      have m1 : W.cell? ⟨wr.heap.size, 1, none⟩ = some (.int .i64 a) := (cell_of_row W _ 1 _ _ _ hblk).trans rfl
      have m2 : W.cell? ⟨wr.heap.size, 2, none⟩ = some (.int .i64 b) := (cell_of_row W _ 2 _ _ _ hblk).trans rfl
      have m3 : W.cell? ⟨wr.heap.size, 3, none⟩ = some (.int .i64 c') := (cell_of_row W _ 3 _ _ _ hblk).trans rfl
      have ca : W.cell? ⟨g, pa, none⟩ = some (.string ⟨xa.toArray⟩) := hTx pa xa hxa
      have cb : W.cell? ⟨g, pb, none⟩ = some (.string ⟨xb.toArray⟩) := hTx pb xb hxb
      have cc : W.cell? ⟨g, pc, none⟩ = some (.string ⟨xc.toArray⟩) := hTx pc xc hxc
      have cPa := pick_calls a ts.length ra.1 ra.2 (by omega) (by omega) W
      have cPb := pick_calls b ts.length rb.1 rb.2 (by omega) (by omega) W
      have cPc := pick_calls c' ts.length rc.1 rc.2 (by omega) (by omega) W
      rw [hpa] at cPa
      rw [hpb] at cPb
      rw [hpc] at cPc
      have HPa := Lib.hid cPa
      have HPb := Lib.hid cPb
      have HPc := Lib.hid cPc
      have HPo := Lib.hid (fun V => pick_calls o 10 ro.1 ro.2 (by omega) (by omega) V)
      have HNa := Lib.hid (fun V => name_calls a ra.1 ra.2 V)
      have HNb := Lib.hid (fun V => name_calls b rb.1 rb.2 V)
      have HW := Lib.hid hW
      have HBW := Lib.hid (And.intro hbW (And.intro hblk hWs))
      have ja : (pa : Int) < (ts.length : Int) := by omega
      have jb : (pb : Int) < (ts.length : Int) := by omega
      have jc : (pc : Int) < (ts.length : Int) := by omega
      have ja0 : (0 : Int) ≤ (pa : Int) := by omega
      have jb0 : (0 : Int) ≤ (pb : Int) := by omega
      have jc0 : (0 : Int) ≤ (pc : Int) := by omega
      have ol := Tm.pickN_lt o 10 (by omega)
      obtain ⟨op, hop⟩ : ∃ p, Tm.pickN o 10 = p := ⟨_, rfl⟩
      rw [hop] at HPo ol
      clear hTx hpl hpa hpb hpc hxa hxb hxc cPa cPb cPc c0 c1 c2 c3 hop hbW hblk hWs ro ra rb rc
      have MW : Hid (Mid w g cap wr.heap.size ts o a b c' W) := ⟨ownsRow_below HR.out HBW.out.1, hbel.trans (HBW.out.1.mono hbel.size), HBW.out.2.1⟩
      go_wp2_with fail
      refine HPa.out.mono ?_
      rintro e' w' ⟨rfl, rfl⟩
      go_wp2_with fail
      refine HPb.out.mono ?_
      rintro e' w' ⟨rfl, rfl⟩
      go_wp2_with fail
      refine HPc.out.mono ?_
      rintro e' w' ⟨rfl, rfl⟩
      go_wp2_with fail
      refine (HNa.out _).mono ?_
      rintro e' w4 ⟨la4, rfl, hg4, hb4⟩
      have Mw4 := Lib.hid (MW.out.next hb4)
      have G4 := Lib.hid hg4
      have n0 : w4.cell? ⟨wr.heap.size, 0, none⟩ = some (.int .i64 o) := Mw4.out.op
      have hl4 : (la4.length : Int) ≤ 600 := by have := hg4.2.2; omega
      clear hg4 hb4 hW m0 m1 m2 m3 ca cb cc k0 k1 k2 k3 HPa HPb HPc MW
      go_wp2_with fail
      refine (HPo.out _).mono ?_
      rintro e' w' ⟨rfl, rfl⟩
      have n2 : w4.cell? ⟨wr.heap.size, 2, none⟩ = some (.int .i64 b) := Mw4.out.two
      match op, ol with
      | 0, _ =>
        go_wp2_with (
          at_builtin
          refine wpList_append_own _ rfl _ _ 38 rfl w.heap.size 24 i0 (.string ⟨#[]⟩) 1 16 Try.underlying38 hi hz0 hz1 hz2 rfl (by decide) _ ts.length (strs ts) rfl (World.ownsRow.alloc (w := w4) Mw4.out.1 _) ⟨w4.heap.size, 0, none⟩ 1 1 [.string ⟨la4.toArray⟩] rfl rfl (cell_one_new _ _ _) (fun x hx => by simp at hx; subst hx; rfl) (by unfold maxLen; omega) (by omega) (by have := Mw4.out.2.1.size; simp; omega) ?_
          intro v9 w9 hown9 hgrow9 _
          have X9 : Hid (w9.ownsRow w.heap.size 24 1 v9 (ts.length + 1) (strs ts ++ [.string ⟨la4.toArray⟩]) ∧ Below w.heap.size w w9) := ⟨hown9, Below.grown (Mw4.out.2.1.alloc Mw4.out.2.1.size _) hgrow9 (by have := Mw4.out.2.1.size; simp; omega) (fun j hj => (Mw4.out.1.lt j hj).1)⟩
          clear hown9 hgrow9)
        go_roundg (gk - 1)
        case measure => omega
        case rel => exact made_next hk h1.1 h1.2 hL.out HG.out (G4.out.mono (by omega) (by omega)) X9.out.1 X9.out.2
      | 1, _ =>
        go_wp2_with fail
        refine (mk_power Ga Gb _).mono ?_
        rintro e' w5 ⟨l5, en, rfl, hg5, hb5⟩
        have Mw5 := Lib.hid (Mw4.out.next hb5)
        have G5 := Lib.hid hg5
        have n5 : w5.cell? ⟨wr.heap.size, 2, none⟩ = some (.int .i64 b) := Mw5.out.two
        clear hg5 hb5
        by_cases hen : en = 0
        · subst hen
          have G7 := Lib.hid (G5.out rfl)
          clear G5
          by_cases hl5 : l5.length ≤ 600
          · have hl6 : (l5.length : Int) ≤ 600 := by omega
            go_wp2_with (
              at_builtin
              refine wpList_append_own _ rfl _ _ 38 rfl w.heap.size 24 i0 (.string ⟨#[]⟩) 1 16 Try.underlying38 hi hz0 hz1 hz2 rfl (by decide) _ ts.length (strs ts) rfl (World.ownsRow.alloc (w := w5) Mw5.out.1 _) ⟨w5.heap.size, 0, none⟩ 1 1 [.string ⟨l5.toArray⟩] rfl rfl (cell_one_new _ _ _) (fun x hx => by simp at hx; subst hx; rfl) (by unfold maxLen; omega) (by omega) (by have := Mw5.out.2.1.size; simp; omega) ?_
              intro v9 w9 hown9 hgrow9 _
              have X9 : Hid (w9.ownsRow w.heap.size 24 1 v9 (ts.length + 1) (strs ts ++ [.string ⟨l5.toArray⟩]) ∧ Below w.heap.size w w9) := ⟨hown9, Below.grown (Mw5.out.2.1.alloc Mw5.out.2.1.size _) hgrow9 (by have := Mw5.out.2.1.size; simp; omega) (fun j hj => (Mw5.out.1.lt j hj).1)⟩
              clear hown9 hgrow9)
            go_roundg (gk - 1)
            case measure => omega
            case rel => exact made_next hk h1.1 h1.2 hL.out HG.out (⟨G7.out.1, G7.out.2.1, hl5⟩) X9.out.1 X9.out.2
          · have hl6 : (600 : Int) < (l5.length : Int) := by omega
            have hl7 : l5.length ≤ 20000 := G7.out.2.2
            go_wp2_with fail
            refine (HNb.out _).mono ?_
            rintro e' w6 ⟨l6, rfl, hg6, hb6⟩
            have Mw6 := Lib.hid (Mw5.out.next hb6)
            have G6 := Lib.hid hg6
            clear hg6 hb6
            go_wp2_with (
              at_builtin
              refine wpList_append_own _ rfl _ _ 38 rfl w.heap.size 24 i0 (.string ⟨#[]⟩) 1 16 Try.underlying38 hi hz0 hz1 hz2 rfl (by decide) _ ts.length (strs ts) rfl (World.ownsRow.alloc (w := w6) Mw6.out.1 _) ⟨w6.heap.size, 0, none⟩ 1 1 [.string ⟨l6.toArray⟩] rfl rfl (cell_one_new _ _ _) (fun x hx => by simp at hx; subst hx; rfl) (by unfold maxLen; omega) (by omega) (by have := Mw6.out.2.1.size; simp; omega) ?_
              intro v9 w9 hown9 hgrow9 _
              have X9 : Hid (w9.ownsRow w.heap.size 24 1 v9 (ts.length + 1) (strs ts ++ [.string ⟨l6.toArray⟩]) ∧ Below w.heap.size w w9) := ⟨hown9, Below.grown (Mw6.out.2.1.alloc Mw6.out.2.1.size _) hgrow9 (by have := Mw6.out.2.1.size; simp; omega) (fun j hj => (Mw6.out.1.lt j hj).1)⟩
              clear hown9 hgrow9)
            go_roundg (gk - 1)
            case measure => omega
            case rel => exact made_next hk h1.1 h1.2 hL.out HG.out (G6.out.mono (by omega) (by omega)) X9.out.1 X9.out.2
        · have hen2 : ((en : Int) != 0) = true := by simp; omega
          have hen3 : ((en : Int) == 0) = false := by simp; omega
          go_wp2_with fail
          refine (HNb.out _).mono ?_
          rintro e' w6 ⟨l6, rfl, hg6, hb6⟩
          have Mw6 := Lib.hid (Mw5.out.next hb6)
          have G6 := Lib.hid hg6
          clear hg6 hb6
          go_wp2_with (
            at_builtin
            refine wpList_append_own _ rfl _ _ 38 rfl w.heap.size 24 i0 (.string ⟨#[]⟩) 1 16 Try.underlying38 hi hz0 hz1 hz2 rfl (by decide) _ ts.length (strs ts) rfl (World.ownsRow.alloc (w := w6) Mw6.out.1 _) ⟨w6.heap.size, 0, none⟩ 1 1 [.string ⟨l6.toArray⟩] rfl rfl (cell_one_new _ _ _) (fun x hx => by simp at hx; subst hx; rfl) (by unfold maxLen; omega) (by omega) (by have := Mw6.out.2.1.size; simp; omega) ?_
            intro v9 w9 hown9 hgrow9 _
            have X9 : Hid (w9.ownsRow w.heap.size 24 1 v9 (ts.length + 1) (strs ts ++ [.string ⟨l6.toArray⟩]) ∧ Below w.heap.size w w9) := ⟨hown9, Below.grown (Mw6.out.2.1.alloc Mw6.out.2.1.size _) hgrow9 (by have := Mw6.out.2.1.size; simp; omega) (fun j hj => (Mw6.out.1.lt j hj).1)⟩
            clear hown9 hgrow9)
          go_roundg (gk - 1)
          case measure => omega
          case rel => exact made_next hk h1.1 h1.2 hL.out HG.out (G6.out.mono (by omega) (by omega)) X9.out.1 X9.out.2
      | 2, _ =>
        go_wp2_with fail
        refine (mk_power Ga Gb _).mono ?_
        rintro e' w5 ⟨l5, en, rfl, hg5, hb5⟩
        have Mw5 := Lib.hid (Mw4.out.next hb5)
        have G5 := Lib.hid hg5
        have n5 : w5.cell? ⟨wr.heap.size, 2, none⟩ = some (.int .i64 b) := Mw5.out.two
        clear hg5 hb5
        by_cases hen : en = 0
        · subst hen
          have G7 := Lib.hid (G5.out rfl)
          clear G5
          by_cases hl5 : l5.length ≤ 600
          · have hl6 : (l5.length : Int) ≤ 600 := by omega
            go_wp2_with (
              at_builtin
              refine wpList_append_own _ rfl _ _ 38 rfl w.heap.size 24 i0 (.string ⟨#[]⟩) 1 16 Try.underlying38 hi hz0 hz1 hz2 rfl (by decide) _ ts.length (strs ts) rfl (World.ownsRow.alloc (w := w5) Mw5.out.1 _) ⟨w5.heap.size, 0, none⟩ 1 1 [.string ⟨l5.toArray⟩] rfl rfl (cell_one_new _ _ _) (fun x hx => by simp at hx; subst hx; rfl) (by unfold maxLen; omega) (by omega) (by have := Mw5.out.2.1.size; simp; omega) ?_
              intro v9 w9 hown9 hgrow9 _
              have X9 : Hid (w9.ownsRow w.heap.size 24 1 v9 (ts.length + 1) (strs ts ++ [.string ⟨l5.toArray⟩]) ∧ Below w.heap.size w w9) := ⟨hown9, Below.grown (Mw5.out.2.1.alloc Mw5.out.2.1.size _) hgrow9 (by have := Mw5.out.2.1.size; simp; omega) (fun j hj => (Mw5.out.1.lt j hj).1)⟩
              clear hown9 hgrow9)
            go_roundg (gk - 1)
            case measure => omega
            case rel => exact made_next hk h1.1 h1.2 hL.out HG.out (⟨G7.out.1, G7.out.2.1, hl5⟩) X9.out.1 X9.out.2
          · have hl6 : (600 : Int) < (l5.length : Int) := by omega
            have hl7 : l5.length ≤ 20000 := G7.out.2.2
            go_wp2_with fail
            refine (HNb.out _).mono ?_
            rintro e' w6 ⟨l6, rfl, hg6, hb6⟩
            have Mw6 := Lib.hid (Mw5.out.next hb6)
            have G6 := Lib.hid hg6
            clear hg6 hb6
            go_wp2_with (
              at_builtin
              refine wpList_append_own _ rfl _ _ 38 rfl w.heap.size 24 i0 (.string ⟨#[]⟩) 1 16 Try.underlying38 hi hz0 hz1 hz2 rfl (by decide) _ ts.length (strs ts) rfl (World.ownsRow.alloc (w := w6) Mw6.out.1 _) ⟨w6.heap.size, 0, none⟩ 1 1 [.string ⟨l6.toArray⟩] rfl rfl (cell_one_new _ _ _) (fun x hx => by simp at hx; subst hx; rfl) (by unfold maxLen; omega) (by omega) (by have := Mw6.out.2.1.size; simp; omega) ?_
              intro v9 w9 hown9 hgrow9 _
              have X9 : Hid (w9.ownsRow w.heap.size 24 1 v9 (ts.length + 1) (strs ts ++ [.string ⟨l6.toArray⟩]) ∧ Below w.heap.size w w9) := ⟨hown9, Below.grown (Mw6.out.2.1.alloc Mw6.out.2.1.size _) hgrow9 (by have := Mw6.out.2.1.size; simp; omega) (fun j hj => (Mw6.out.1.lt j hj).1)⟩
              clear hown9 hgrow9)
            go_roundg (gk - 1)
            case measure => omega
            case rel => exact made_next hk h1.1 h1.2 hL.out HG.out (G6.out.mono (by omega) (by omega)) X9.out.1 X9.out.2
        · have hen2 : ((en : Int) != 0) = true := by simp; omega
          have hen3 : ((en : Int) == 0) = false := by simp; omega
          go_wp2_with fail
          refine (HNb.out _).mono ?_
          rintro e' w6 ⟨l6, rfl, hg6, hb6⟩
          have Mw6 := Lib.hid (Mw5.out.next hb6)
          have G6 := Lib.hid hg6
          clear hg6 hb6
          go_wp2_with (
            at_builtin
            refine wpList_append_own _ rfl _ _ 38 rfl w.heap.size 24 i0 (.string ⟨#[]⟩) 1 16 Try.underlying38 hi hz0 hz1 hz2 rfl (by decide) _ ts.length (strs ts) rfl (World.ownsRow.alloc (w := w6) Mw6.out.1 _) ⟨w6.heap.size, 0, none⟩ 1 1 [.string ⟨l6.toArray⟩] rfl rfl (cell_one_new _ _ _) (fun x hx => by simp at hx; subst hx; rfl) (by unfold maxLen; omega) (by omega) (by have := Mw6.out.2.1.size; simp; omega) ?_
            intro v9 w9 hown9 hgrow9 _
            have X9 : Hid (w9.ownsRow w.heap.size 24 1 v9 (ts.length + 1) (strs ts ++ [.string ⟨l6.toArray⟩]) ∧ Below w.heap.size w w9) := ⟨hown9, Below.grown (Mw6.out.2.1.alloc Mw6.out.2.1.size _) hgrow9 (by have := Mw6.out.2.1.size; simp; omega) (fun j hj => (Mw6.out.1.lt j hj).1)⟩
            clear hown9 hgrow9)
          go_roundg (gk - 1)
          case measure => omega
          case rel => exact made_next hk h1.1 h1.2 hL.out HG.out (G6.out.mono (by omega) (by omega)) X9.out.1 X9.out.2
      | 3, _ =>
        go_wp2_with fail
        refine (mk_power Ga Gb _).mono ?_
        rintro e' w5 ⟨l5, en, rfl, hg5, hb5⟩
        have Mw5 := Lib.hid (Mw4.out.next hb5)
        have G5 := Lib.hid hg5
        have n5 : w5.cell? ⟨wr.heap.size, 2, none⟩ = some (.int .i64 b) := Mw5.out.two
        clear hg5 hb5
        by_cases hen : en = 0
        · subst hen
          have G7 := Lib.hid (G5.out rfl)
          clear G5
          by_cases hl5 : l5.length ≤ 600
          · have hl6 : (l5.length : Int) ≤ 600 := by omega
            go_wp2_with (
              at_builtin
              refine wpList_append_own _ rfl _ _ 38 rfl w.heap.size 24 i0 (.string ⟨#[]⟩) 1 16 Try.underlying38 hi hz0 hz1 hz2 rfl (by decide) _ ts.length (strs ts) rfl (World.ownsRow.alloc (w := w5) Mw5.out.1 _) ⟨w5.heap.size, 0, none⟩ 1 1 [.string ⟨l5.toArray⟩] rfl rfl (cell_one_new _ _ _) (fun x hx => by simp at hx; subst hx; rfl) (by unfold maxLen; omega) (by omega) (by have := Mw5.out.2.1.size; simp; omega) ?_
              intro v9 w9 hown9 hgrow9 _
              have X9 : Hid (w9.ownsRow w.heap.size 24 1 v9 (ts.length + 1) (strs ts ++ [.string ⟨l5.toArray⟩]) ∧ Below w.heap.size w w9) := ⟨hown9, Below.grown (Mw5.out.2.1.alloc Mw5.out.2.1.size _) hgrow9 (by have := Mw5.out.2.1.size; simp; omega) (fun j hj => (Mw5.out.1.lt j hj).1)⟩
              clear hown9 hgrow9)
            go_roundg (gk - 1)
            case measure => omega
            case rel => exact made_next hk h1.1 h1.2 hL.out HG.out (⟨G7.out.1, G7.out.2.1, hl5⟩) X9.out.1 X9.out.2
          · have hl6 : (600 : Int) < (l5.length : Int) := by omega
            have hl7 : l5.length ≤ 20000 := G7.out.2.2
            go_wp2_with fail
            refine (HNb.out _).mono ?_
            rintro e' w6 ⟨l6, rfl, hg6, hb6⟩
            have Mw6 := Lib.hid (Mw5.out.next hb6)
            have G6 := Lib.hid hg6
            clear hg6 hb6
            go_wp2_with (
              at_builtin
              refine wpList_append_own _ rfl _ _ 38 rfl w.heap.size 24 i0 (.string ⟨#[]⟩) 1 16 Try.underlying38 hi hz0 hz1 hz2 rfl (by decide) _ ts.length (strs ts) rfl (World.ownsRow.alloc (w := w6) Mw6.out.1 _) ⟨w6.heap.size, 0, none⟩ 1 1 [.string ⟨l6.toArray⟩] rfl rfl (cell_one_new _ _ _) (fun x hx => by simp at hx; subst hx; rfl) (by unfold maxLen; omega) (by omega) (by have := Mw6.out.2.1.size; simp; omega) ?_
              intro v9 w9 hown9 hgrow9 _
              have X9 : Hid (w9.ownsRow w.heap.size 24 1 v9 (ts.length + 1) (strs ts ++ [.string ⟨l6.toArray⟩]) ∧ Below w.heap.size w w9) := ⟨hown9, Below.grown (Mw6.out.2.1.alloc Mw6.out.2.1.size _) hgrow9 (by have := Mw6.out.2.1.size; simp; omega) (fun j hj => (Mw6.out.1.lt j hj).1)⟩
              clear hown9 hgrow9)
            go_roundg (gk - 1)
            case measure => omega
            case rel => exact made_next hk h1.1 h1.2 hL.out HG.out (G6.out.mono (by omega) (by omega)) X9.out.1 X9.out.2
        · have hen2 : ((en : Int) != 0) = true := by simp; omega
          have hen3 : ((en : Int) == 0) = false := by simp; omega
          go_wp2_with fail
          refine (HNb.out _).mono ?_
          rintro e' w6 ⟨l6, rfl, hg6, hb6⟩
          have Mw6 := Lib.hid (Mw5.out.next hb6)
          have G6 := Lib.hid hg6
          clear hg6 hb6
          go_wp2_with (
            at_builtin
            refine wpList_append_own _ rfl _ _ 38 rfl w.heap.size 24 i0 (.string ⟨#[]⟩) 1 16 Try.underlying38 hi hz0 hz1 hz2 rfl (by decide) _ ts.length (strs ts) rfl (World.ownsRow.alloc (w := w6) Mw6.out.1 _) ⟨w6.heap.size, 0, none⟩ 1 1 [.string ⟨l6.toArray⟩] rfl rfl (cell_one_new _ _ _) (fun x hx => by simp at hx; subst hx; rfl) (by unfold maxLen; omega) (by omega) (by have := Mw6.out.2.1.size; simp; omega) ?_
            intro v9 w9 hown9 hgrow9 _
            have X9 : Hid (w9.ownsRow w.heap.size 24 1 v9 (ts.length + 1) (strs ts ++ [.string ⟨l6.toArray⟩]) ∧ Below w.heap.size w w9) := ⟨hown9, Below.grown (Mw6.out.2.1.alloc Mw6.out.2.1.size _) hgrow9 (by have := Mw6.out.2.1.size; simp; omega) (fun j hj => (Mw6.out.1.lt j hj).1)⟩
            clear hown9 hgrow9)
          go_roundg (gk - 1)
          case measure => omega
          case rel => exact made_next hk h1.1 h1.2 hL.out HG.out (G6.out.mono (by omega) (by omega)) X9.out.1 X9.out.2
      | 4, _ =>
        go_wp2_with fail
        refine (mk_key Ga _).mono ?_
        rintro e' w5 ⟨l5, en, rfl, hg5, hb5⟩
        have Mw5 := Lib.hid (Mw4.out.next hb5)
        have G5 := Lib.hid hg5
        have n5 : w5.cell? ⟨wr.heap.size, 2, none⟩ = some (.int .i64 b) := Mw5.out.two
        clear hg5 hb5
        by_cases hen : en = 0
        · subst hen
          have G7 := Lib.hid (G5.out rfl)
          clear G5
          by_cases hl5 : l5.length ≤ 600
          · have hl6 : (l5.length : Int) ≤ 600 := by omega
            go_wp2_with (
              at_builtin
              refine wpList_append_own _ rfl _ _ 38 rfl w.heap.size 24 i0 (.string ⟨#[]⟩) 1 16 Try.underlying38 hi hz0 hz1 hz2 rfl (by decide) _ ts.length (strs ts) rfl (World.ownsRow.alloc (w := w5) Mw5.out.1 _) ⟨w5.heap.size, 0, none⟩ 1 1 [.string ⟨l5.toArray⟩] rfl rfl (cell_one_new _ _ _) (fun x hx => by simp at hx; subst hx; rfl) (by unfold maxLen; omega) (by omega) (by have := Mw5.out.2.1.size; simp; omega) ?_
              intro v9 w9 hown9 hgrow9 _
              have X9 : Hid (w9.ownsRow w.heap.size 24 1 v9 (ts.length + 1) (strs ts ++ [.string ⟨l5.toArray⟩]) ∧ Below w.heap.size w w9) := ⟨hown9, Below.grown (Mw5.out.2.1.alloc Mw5.out.2.1.size _) hgrow9 (by have := Mw5.out.2.1.size; simp; omega) (fun j hj => (Mw5.out.1.lt j hj).1)⟩
              clear hown9 hgrow9)
            go_roundg (gk - 1)
            case measure => omega
            case rel => exact made_next hk h1.1 h1.2 hL.out HG.out (⟨G7.out.1, G7.out.2.1, hl5⟩) X9.out.1 X9.out.2
          · have hl6 : (600 : Int) < (l5.length : Int) := by omega
            have hl7 : l5.length ≤ 20000 := G7.out.2.2
            go_wp2_with fail
            refine (HNb.out _).mono ?_
            rintro e' w6 ⟨l6, rfl, hg6, hb6⟩
            have Mw6 := Lib.hid (Mw5.out.next hb6)
            have G6 := Lib.hid hg6
            clear hg6 hb6
            go_wp2_with (
              at_builtin
              refine wpList_append_own _ rfl _ _ 38 rfl w.heap.size 24 i0 (.string ⟨#[]⟩) 1 16 Try.underlying38 hi hz0 hz1 hz2 rfl (by decide) _ ts.length (strs ts) rfl (World.ownsRow.alloc (w := w6) Mw6.out.1 _) ⟨w6.heap.size, 0, none⟩ 1 1 [.string ⟨l6.toArray⟩] rfl rfl (cell_one_new _ _ _) (fun x hx => by simp at hx; subst hx; rfl) (by unfold maxLen; omega) (by omega) (by have := Mw6.out.2.1.size; simp; omega) ?_
              intro v9 w9 hown9 hgrow9 _
              have X9 : Hid (w9.ownsRow w.heap.size 24 1 v9 (ts.length + 1) (strs ts ++ [.string ⟨l6.toArray⟩]) ∧ Below w.heap.size w w9) := ⟨hown9, Below.grown (Mw6.out.2.1.alloc Mw6.out.2.1.size _) hgrow9 (by have := Mw6.out.2.1.size; simp; omega) (fun j hj => (Mw6.out.1.lt j hj).1)⟩
              clear hown9 hgrow9)
            go_roundg (gk - 1)
            case measure => omega
            case rel => exact made_next hk h1.1 h1.2 hL.out HG.out (G6.out.mono (by omega) (by omega)) X9.out.1 X9.out.2
        · have hen2 : ((en : Int) != 0) = true := by simp; omega
          have hen3 : ((en : Int) == 0) = false := by simp; omega
          go_wp2_with fail
          refine (HNb.out _).mono ?_
          rintro e' w6 ⟨l6, rfl, hg6, hb6⟩
          have Mw6 := Lib.hid (Mw5.out.next hb6)
          have G6 := Lib.hid hg6
          clear hg6 hb6
          go_wp2_with (
            at_builtin
            refine wpList_append_own _ rfl _ _ 38 rfl w.heap.size 24 i0 (.string ⟨#[]⟩) 1 16 Try.underlying38 hi hz0 hz1 hz2 rfl (by decide) _ ts.length (strs ts) rfl (World.ownsRow.alloc (w := w6) Mw6.out.1 _) ⟨w6.heap.size, 0, none⟩ 1 1 [.string ⟨l6.toArray⟩] rfl rfl (cell_one_new _ _ _) (fun x hx => by simp at hx; subst hx; rfl) (by unfold maxLen; omega) (by omega) (by have := Mw6.out.2.1.size; simp; omega) ?_
            intro v9 w9 hown9 hgrow9 _
            have X9 : Hid (w9.ownsRow w.heap.size 24 1 v9 (ts.length + 1) (strs ts ++ [.string ⟨l6.toArray⟩]) ∧ Below w.heap.size w w9) := ⟨hown9, Below.grown (Mw6.out.2.1.alloc Mw6.out.2.1.size _) hgrow9 (by have := Mw6.out.2.1.size; simp; omega) (fun j hj => (Mw6.out.1.lt j hj).1)⟩
            clear hown9 hgrow9)
          go_roundg (gk - 1)
          case measure => omega
          case rel => exact made_next hk h1.1 h1.2 hL.out HG.out (G6.out.mono (by omega) (by omega)) X9.out.1 X9.out.2
      | 5, _ =>
        go_wp2_with fail
        refine (mk_pair Ga Gb _).mono ?_
        rintro e' w5 ⟨l5, en, rfl, hg5, hb5⟩
        have Mw5 := Lib.hid (Mw4.out.next hb5)
        have G5 := Lib.hid hg5
        have n5 : w5.cell? ⟨wr.heap.size, 2, none⟩ = some (.int .i64 b) := Mw5.out.two
        clear hg5 hb5
        by_cases hen : en = 0
        · subst hen
          have G7 := Lib.hid (G5.out rfl)
          clear G5
          by_cases hl5 : l5.length ≤ 600
          · have hl6 : (l5.length : Int) ≤ 600 := by omega
            go_wp2_with (
              at_builtin
              refine wpList_append_own _ rfl _ _ 38 rfl w.heap.size 24 i0 (.string ⟨#[]⟩) 1 16 Try.underlying38 hi hz0 hz1 hz2 rfl (by decide) _ ts.length (strs ts) rfl (World.ownsRow.alloc (w := w5) Mw5.out.1 _) ⟨w5.heap.size, 0, none⟩ 1 1 [.string ⟨l5.toArray⟩] rfl rfl (cell_one_new _ _ _) (fun x hx => by simp at hx; subst hx; rfl) (by unfold maxLen; omega) (by omega) (by have := Mw5.out.2.1.size; simp; omega) ?_
              intro v9 w9 hown9 hgrow9 _
              have X9 : Hid (w9.ownsRow w.heap.size 24 1 v9 (ts.length + 1) (strs ts ++ [.string ⟨l5.toArray⟩]) ∧ Below w.heap.size w w9) := ⟨hown9, Below.grown (Mw5.out.2.1.alloc Mw5.out.2.1.size _) hgrow9 (by have := Mw5.out.2.1.size; simp; omega) (fun j hj => (Mw5.out.1.lt j hj).1)⟩
              clear hown9 hgrow9)
            go_roundg (gk - 1)
            case measure => omega
            case rel => exact made_next hk h1.1 h1.2 hL.out HG.out (⟨G7.out.1, G7.out.2.1, hl5⟩) X9.out.1 X9.out.2
          · have hl6 : (600 : Int) < (l5.length : Int) := by omega
            have hl7 : l5.length ≤ 20000 := G7.out.2.2
            go_wp2_with fail
            refine (HNb.out _).mono ?_
            rintro e' w6 ⟨l6, rfl, hg6, hb6⟩
            have Mw6 := Lib.hid (Mw5.out.next hb6)
            have G6 := Lib.hid hg6
            clear hg6 hb6
            go_wp2_with (
              at_builtin
              refine wpList_append_own _ rfl _ _ 38 rfl w.heap.size 24 i0 (.string ⟨#[]⟩) 1 16 Try.underlying38 hi hz0 hz1 hz2 rfl (by decide) _ ts.length (strs ts) rfl (World.ownsRow.alloc (w := w6) Mw6.out.1 _) ⟨w6.heap.size, 0, none⟩ 1 1 [.string ⟨l6.toArray⟩] rfl rfl (cell_one_new _ _ _) (fun x hx => by simp at hx; subst hx; rfl) (by unfold maxLen; omega) (by omega) (by have := Mw6.out.2.1.size; simp; omega) ?_
              intro v9 w9 hown9 hgrow9 _
              have X9 : Hid (w9.ownsRow w.heap.size 24 1 v9 (ts.length + 1) (strs ts ++ [.string ⟨l6.toArray⟩]) ∧ Below w.heap.size w w9) := ⟨hown9, Below.grown (Mw6.out.2.1.alloc Mw6.out.2.1.size _) hgrow9 (by have := Mw6.out.2.1.size; simp; omega) (fun j hj => (Mw6.out.1.lt j hj).1)⟩
              clear hown9 hgrow9)
            go_roundg (gk - 1)
            case measure => omega
            case rel => exact made_next hk h1.1 h1.2 hL.out HG.out (G6.out.mono (by omega) (by omega)) X9.out.1 X9.out.2
        · have hen2 : ((en : Int) != 0) = true := by simp; omega
          have hen3 : ((en : Int) == 0) = false := by simp; omega
          go_wp2_with fail
          refine (HNb.out _).mono ?_
          rintro e' w6 ⟨l6, rfl, hg6, hb6⟩
          have Mw6 := Lib.hid (Mw5.out.next hb6)
          have G6 := Lib.hid hg6
          clear hg6 hb6
          go_wp2_with (
            at_builtin
            refine wpList_append_own _ rfl _ _ 38 rfl w.heap.size 24 i0 (.string ⟨#[]⟩) 1 16 Try.underlying38 hi hz0 hz1 hz2 rfl (by decide) _ ts.length (strs ts) rfl (World.ownsRow.alloc (w := w6) Mw6.out.1 _) ⟨w6.heap.size, 0, none⟩ 1 1 [.string ⟨l6.toArray⟩] rfl rfl (cell_one_new _ _ _) (fun x hx => by simp at hx; subst hx; rfl) (by unfold maxLen; omega) (by omega) (by have := Mw6.out.2.1.size; simp; omega) ?_
            intro v9 w9 hown9 hgrow9 _
            have X9 : Hid (w9.ownsRow w.heap.size 24 1 v9 (ts.length + 1) (strs ts ++ [.string ⟨l6.toArray⟩]) ∧ Below w.heap.size w w9) := ⟨hown9, Below.grown (Mw6.out.2.1.alloc Mw6.out.2.1.size _) hgrow9 (by have := Mw6.out.2.1.size; simp; omega) (fun j hj => (Mw6.out.1.lt j hj).1)⟩
            clear hown9 hgrow9)
          go_roundg (gk - 1)
          case measure => omega
          case rel => exact made_next hk h1.1 h1.2 hL.out HG.out (G6.out.mono (by omega) (by omega)) X9.out.1 X9.out.2
      | 6, _ =>
        go_wp2_with fail
        refine (mk_pair Ga Gb _).mono ?_
        rintro e' w5 ⟨l5, en, rfl, hg5, hb5⟩
        have Mw5 := Lib.hid (Mw4.out.next hb5)
        have G5 := Lib.hid hg5
        have n5 : w5.cell? ⟨wr.heap.size, 2, none⟩ = some (.int .i64 b) := Mw5.out.two
        clear hg5 hb5
        by_cases hen : en = 0
        · subst hen
          have G7 := Lib.hid (G5.out rfl)
          clear G5
          by_cases hl5 : l5.length ≤ 600
          · have hl6 : (l5.length : Int) ≤ 600 := by omega
            go_wp2_with (
              at_builtin
              refine wpList_append_own _ rfl _ _ 38 rfl w.heap.size 24 i0 (.string ⟨#[]⟩) 1 16 Try.underlying38 hi hz0 hz1 hz2 rfl (by decide) _ ts.length (strs ts) rfl (World.ownsRow.alloc (w := w5) Mw5.out.1 _) ⟨w5.heap.size, 0, none⟩ 1 1 [.string ⟨l5.toArray⟩] rfl rfl (cell_one_new _ _ _) (fun x hx => by simp at hx; subst hx; rfl) (by unfold maxLen; omega) (by omega) (by have := Mw5.out.2.1.size; simp; omega) ?_
              intro v9 w9 hown9 hgrow9 _
              have X9 : Hid (w9.ownsRow w.heap.size 24 1 v9 (ts.length + 1) (strs ts ++ [.string ⟨l5.toArray⟩]) ∧ Below w.heap.size w w9) := ⟨hown9, Below.grown (Mw5.out.2.1.alloc Mw5.out.2.1.size _) hgrow9 (by have := Mw5.out.2.1.size; simp; omega) (fun j hj => (Mw5.out.1.lt j hj).1)⟩
              clear hown9 hgrow9)
            go_roundg (gk - 1)
            case measure => omega
            case rel => exact made_next hk h1.1 h1.2 hL.out HG.out (⟨G7.out.1, G7.out.2.1, hl5⟩) X9.out.1 X9.out.2
          · have hl6 : (600 : Int) < (l5.length : Int) := by omega
            have hl7 : l5.length ≤ 20000 := G7.out.2.2
            go_wp2_with fail
            refine (HNb.out _).mono ?_
            rintro e' w6 ⟨l6, rfl, hg6, hb6⟩
            have Mw6 := Lib.hid (Mw5.out.next hb6)
            have G6 := Lib.hid hg6
            clear hg6 hb6
            go_wp2_with (
              at_builtin
              refine wpList_append_own _ rfl _ _ 38 rfl w.heap.size 24 i0 (.string ⟨#[]⟩) 1 16 Try.underlying38 hi hz0 hz1 hz2 rfl (by decide) _ ts.length (strs ts) rfl (World.ownsRow.alloc (w := w6) Mw6.out.1 _) ⟨w6.heap.size, 0, none⟩ 1 1 [.string ⟨l6.toArray⟩] rfl rfl (cell_one_new _ _ _) (fun x hx => by simp at hx; subst hx; rfl) (by unfold maxLen; omega) (by omega) (by have := Mw6.out.2.1.size; simp; omega) ?_
              intro v9 w9 hown9 hgrow9 _
              have X9 : Hid (w9.ownsRow w.heap.size 24 1 v9 (ts.length + 1) (strs ts ++ [.string ⟨l6.toArray⟩]) ∧ Below w.heap.size w w9) := ⟨hown9, Below.grown (Mw6.out.2.1.alloc Mw6.out.2.1.size _) hgrow9 (by have := Mw6.out.2.1.size; simp; omega) (fun j hj => (Mw6.out.1.lt j hj).1)⟩
              clear hown9 hgrow9)
            go_roundg (gk - 1)
            case measure => omega
            case rel => exact made_next hk h1.1 h1.2 hL.out HG.out (G6.out.mono (by omega) (by omega)) X9.out.1 X9.out.2
        · have hen2 : ((en : Int) != 0) = true := by simp; omega
          have hen3 : ((en : Int) == 0) = false := by simp; omega
          go_wp2_with fail
          refine (HNb.out _).mono ?_
          rintro e' w6 ⟨l6, rfl, hg6, hb6⟩
          have Mw6 := Lib.hid (Mw5.out.next hb6)
          have G6 := Lib.hid hg6
          clear hg6 hb6
          go_wp2_with (
            at_builtin
            refine wpList_append_own _ rfl _ _ 38 rfl w.heap.size 24 i0 (.string ⟨#[]⟩) 1 16 Try.underlying38 hi hz0 hz1 hz2 rfl (by decide) _ ts.length (strs ts) rfl (World.ownsRow.alloc (w := w6) Mw6.out.1 _) ⟨w6.heap.size, 0, none⟩ 1 1 [.string ⟨l6.toArray⟩] rfl rfl (cell_one_new _ _ _) (fun x hx => by simp at hx; subst hx; rfl) (by unfold maxLen; omega) (by omega) (by have := Mw6.out.2.1.size; simp; omega) ?_
            intro v9 w9 hown9 hgrow9 _
            have X9 : Hid (w9.ownsRow w.heap.size 24 1 v9 (ts.length + 1) (strs ts ++ [.string ⟨l6.toArray⟩]) ∧ Below w.heap.size w w9) := ⟨hown9, Below.grown (Mw6.out.2.1.alloc Mw6.out.2.1.size _) hgrow9 (by have := Mw6.out.2.1.size; simp; omega) (fun j hj => (Mw6.out.1.lt j hj).1)⟩
            clear hown9 hgrow9)
          go_roundg (gk - 1)
          case measure => omega
          case rel => exact made_next hk h1.1 h1.2 hL.out HG.out (G6.out.mono (by omega) (by omega)) X9.out.1 X9.out.2
      | 7, _ =>
        go_wp2_with fail
        refine (mk_hash Ga _).mono ?_
        rintro e' w5 ⟨l5, en, rfl, hg5, hb5⟩
        have Mw5 := Lib.hid (Mw4.out.next hb5)
        have G5 := Lib.hid hg5
        have n5 : w5.cell? ⟨wr.heap.size, 2, none⟩ = some (.int .i64 b) := Mw5.out.two
        clear hg5 hb5
        by_cases hen : en = 0
        · subst hen
          have G7 := Lib.hid (G5.out rfl)
          clear G5
          by_cases hl5 : l5.length ≤ 600
          · have hl6 : (l5.length : Int) ≤ 600 := by omega
            go_wp2_with (
              at_builtin
              refine wpList_append_own _ rfl _ _ 38 rfl w.heap.size 24 i0 (.string ⟨#[]⟩) 1 16 Try.underlying38 hi hz0 hz1 hz2 rfl (by decide) _ ts.length (strs ts) rfl (World.ownsRow.alloc (w := w5) Mw5.out.1 _) ⟨w5.heap.size, 0, none⟩ 1 1 [.string ⟨l5.toArray⟩] rfl rfl (cell_one_new _ _ _) (fun x hx => by simp at hx; subst hx; rfl) (by unfold maxLen; omega) (by omega) (by have := Mw5.out.2.1.size; simp; omega) ?_
              intro v9 w9 hown9 hgrow9 _
              have X9 : Hid (w9.ownsRow w.heap.size 24 1 v9 (ts.length + 1) (strs ts ++ [.string ⟨l5.toArray⟩]) ∧ Below w.heap.size w w9) := ⟨hown9, Below.grown (Mw5.out.2.1.alloc Mw5.out.2.1.size _) hgrow9 (by have := Mw5.out.2.1.size; simp; omega) (fun j hj => (Mw5.out.1.lt j hj).1)⟩
              clear hown9 hgrow9)
            go_roundg (gk - 1)
            case measure => omega
            case rel => exact made_next hk h1.1 h1.2 hL.out HG.out (⟨G7.out.1, G7.out.2.1, hl5⟩) X9.out.1 X9.out.2
          · have hl6 : (600 : Int) < (l5.length : Int) := by omega
            have hl7 : l5.length ≤ 20000 := G7.out.2.2
            go_wp2_with fail
            refine (HNb.out _).mono ?_
            rintro e' w6 ⟨l6, rfl, hg6, hb6⟩
            have Mw6 := Lib.hid (Mw5.out.next hb6)
            have G6 := Lib.hid hg6
            clear hg6 hb6
            go_wp2_with (
              at_builtin
              refine wpList_append_own _ rfl _ _ 38 rfl w.heap.size 24 i0 (.string ⟨#[]⟩) 1 16 Try.underlying38 hi hz0 hz1 hz2 rfl (by decide) _ ts.length (strs ts) rfl (World.ownsRow.alloc (w := w6) Mw6.out.1 _) ⟨w6.heap.size, 0, none⟩ 1 1 [.string ⟨l6.toArray⟩] rfl rfl (cell_one_new _ _ _) (fun x hx => by simp at hx; subst hx; rfl) (by unfold maxLen; omega) (by omega) (by have := Mw6.out.2.1.size; simp; omega) ?_
              intro v9 w9 hown9 hgrow9 _
              have X9 : Hid (w9.ownsRow w.heap.size 24 1 v9 (ts.length + 1) (strs ts ++ [.string ⟨l6.toArray⟩]) ∧ Below w.heap.size w w9) := ⟨hown9, Below.grown (Mw6.out.2.1.alloc Mw6.out.2.1.size _) hgrow9 (by have := Mw6.out.2.1.size; simp; omega) (fun j hj => (Mw6.out.1.lt j hj).1)⟩
              clear hown9 hgrow9)
            go_roundg (gk - 1)
            case measure => omega
            case rel => exact made_next hk h1.1 h1.2 hL.out HG.out (G6.out.mono (by omega) (by omega)) X9.out.1 X9.out.2
        · have hen2 : ((en : Int) != 0) = true := by simp; omega
          have hen3 : ((en : Int) == 0) = false := by simp; omega
          go_wp2_with fail
          refine (HNb.out _).mono ?_
          rintro e' w6 ⟨l6, rfl, hg6, hb6⟩
          have Mw6 := Lib.hid (Mw5.out.next hb6)
          have G6 := Lib.hid hg6
          clear hg6 hb6
          go_wp2_with (
            at_builtin
            refine wpList_append_own _ rfl _ _ 38 rfl w.heap.size 24 i0 (.string ⟨#[]⟩) 1 16 Try.underlying38 hi hz0 hz1 hz2 rfl (by decide) _ ts.length (strs ts) rfl (World.ownsRow.alloc (w := w6) Mw6.out.1 _) ⟨w6.heap.size, 0, none⟩ 1 1 [.string ⟨l6.toArray⟩] rfl rfl (cell_one_new _ _ _) (fun x hx => by simp at hx; subst hx; rfl) (by unfold maxLen; omega) (by omega) (by have := Mw6.out.2.1.size; simp; omega) ?_
            intro v9 w9 hown9 hgrow9 _
            have X9 : Hid (w9.ownsRow w.heap.size 24 1 v9 (ts.length + 1) (strs ts ++ [.string ⟨l6.toArray⟩]) ∧ Below w.heap.size w w9) := ⟨hown9, Below.grown (Mw6.out.2.1.alloc Mw6.out.2.1.size _) hgrow9 (by have := Mw6.out.2.1.size; simp; omega) (fun j hj => (Mw6.out.1.lt j hj).1)⟩
            clear hown9 hgrow9)
          go_roundg (gk - 1)
          case measure => omega
          case rel => exact made_next hk h1.1 h1.2 hL.out HG.out (G6.out.mono (by omega) (by omega)) X9.out.1 X9.out.2
      | 8, _ =>
        go_wp2_with fail
        refine (mk_three Ga Gb Gc _).mono ?_
        rintro e' w5 ⟨l5, en, rfl, hg5, hb5⟩
        have Mw5 := Lib.hid (Mw4.out.next hb5)
        have G5 := Lib.hid hg5
        have n5 : w5.cell? ⟨wr.heap.size, 2, none⟩ = some (.int .i64 b) := Mw5.out.two
        clear hg5 hb5
        by_cases hen : en = 0
        · subst hen
          have G7 := Lib.hid (G5.out rfl)
          clear G5
          by_cases hl5 : l5.length ≤ 600
          · have hl6 : (l5.length : Int) ≤ 600 := by omega
            go_wp2_with (
              at_builtin
              refine wpList_append_own _ rfl _ _ 38 rfl w.heap.size 24 i0 (.string ⟨#[]⟩) 1 16 Try.underlying38 hi hz0 hz1 hz2 rfl (by decide) _ ts.length (strs ts) rfl (World.ownsRow.alloc (w := w5) Mw5.out.1 _) ⟨w5.heap.size, 0, none⟩ 1 1 [.string ⟨l5.toArray⟩] rfl rfl (cell_one_new _ _ _) (fun x hx => by simp at hx; subst hx; rfl) (by unfold maxLen; omega) (by omega) (by have := Mw5.out.2.1.size; simp; omega) ?_
              intro v9 w9 hown9 hgrow9 _
              have X9 : Hid (w9.ownsRow w.heap.size 24 1 v9 (ts.length + 1) (strs ts ++ [.string ⟨l5.toArray⟩]) ∧ Below w.heap.size w w9) := ⟨hown9, Below.grown (Mw5.out.2.1.alloc Mw5.out.2.1.size _) hgrow9 (by have := Mw5.out.2.1.size; simp; omega) (fun j hj => (Mw5.out.1.lt j hj).1)⟩
              clear hown9 hgrow9)
            go_roundg (gk - 1)
            case measure => omega
            case rel => exact made_next hk h1.1 h1.2 hL.out HG.out (⟨G7.out.1, G7.out.2.1, hl5⟩) X9.out.1 X9.out.2
          · have hl6 : (600 : Int) < (l5.length : Int) := by omega
            have hl7 : l5.length ≤ 20000 := G7.out.2.2
            go_wp2_with fail
            refine (HNb.out _).mono ?_
            rintro e' w6 ⟨l6, rfl, hg6, hb6⟩
            have Mw6 := Lib.hid (Mw5.out.next hb6)
            have G6 := Lib.hid hg6
            clear hg6 hb6
            go_wp2_with (
              at_builtin
              refine wpList_append_own _ rfl _ _ 38 rfl w.heap.size 24 i0 (.string ⟨#[]⟩) 1 16 Try.underlying38 hi hz0 hz1 hz2 rfl (by decide) _ ts.length (strs ts) rfl (World.ownsRow.alloc (w := w6) Mw6.out.1 _) ⟨w6.heap.size, 0, none⟩ 1 1 [.string ⟨l6.toArray⟩] rfl rfl (cell_one_new _ _ _) (fun x hx => by simp at hx; subst hx; rfl) (by unfold maxLen; omega) (by omega) (by have := Mw6.out.2.1.size; simp; omega) ?_
              intro v9 w9 hown9 hgrow9 _
              have X9 : Hid (w9.ownsRow w.heap.size 24 1 v9 (ts.length + 1) (strs ts ++ [.string ⟨l6.toArray⟩]) ∧ Below w.heap.size w w9) := ⟨hown9, Below.grown (Mw6.out.2.1.alloc Mw6.out.2.1.size _) hgrow9 (by have := Mw6.out.2.1.size; simp; omega) (fun j hj => (Mw6.out.1.lt j hj).1)⟩
              clear hown9 hgrow9)
            go_roundg (gk - 1)
            case measure => omega
            case rel => exact made_next hk h1.1 h1.2 hL.out HG.out (G6.out.mono (by omega) (by omega)) X9.out.1 X9.out.2
        · have hen2 : ((en : Int) != 0) = true := by simp; omega
          have hen3 : ((en : Int) == 0) = false := by simp; omega
          go_wp2_with fail
          refine (HNb.out _).mono ?_
          rintro e' w6 ⟨l6, rfl, hg6, hb6⟩
          have Mw6 := Lib.hid (Mw5.out.next hb6)
          have G6 := Lib.hid hg6
          clear hg6 hb6
          go_wp2_with (
            at_builtin
            refine wpList_append_own _ rfl _ _ 38 rfl w.heap.size 24 i0 (.string ⟨#[]⟩) 1 16 Try.underlying38 hi hz0 hz1 hz2 rfl (by decide) _ ts.length (strs ts) rfl (World.ownsRow.alloc (w := w6) Mw6.out.1 _) ⟨w6.heap.size, 0, none⟩ 1 1 [.string ⟨l6.toArray⟩] rfl rfl (cell_one_new _ _ _) (fun x hx => by simp at hx; subst hx; rfl) (by unfold maxLen; omega) (by omega) (by have := Mw6.out.2.1.size; simp; omega) ?_
            intro v9 w9 hown9 hgrow9 _
            have X9 : Hid (w9.ownsRow w.heap.size 24 1 v9 (ts.length + 1) (strs ts ++ [.string ⟨l6.toArray⟩]) ∧ Below w.heap.size w w9) := ⟨hown9, Below.grown (Mw6.out.2.1.alloc Mw6.out.2.1.size _) hgrow9 (by have := Mw6.out.2.1.size; simp; omega) (fun j hj => (Mw6.out.1.lt j hj).1)⟩
            clear hown9 hgrow9)
          go_roundg (gk - 1)
          case measure => omega
          case rel => exact made_next hk h1.1 h1.2 hL.out HG.out (G6.out.mono (by omega) (by omega)) X9.out.1 X9.out.2
      | 9, _ =>
        go_wp2_with fail
        refine (mk_sign Ga Gb _).mono ?_
        rintro e' w5 ⟨l5, en, rfl, hg5, hb5⟩
        have Mw5 := Lib.hid (Mw4.out.next hb5)
        have G5 := Lib.hid hg5
        have n5 : w5.cell? ⟨wr.heap.size, 2, none⟩ = some (.int .i64 b) := Mw5.out.two
        clear hg5 hb5
        by_cases hen : en = 0
        · subst hen
          have G7 := Lib.hid (G5.out rfl)
          clear G5
          by_cases hl5 : l5.length ≤ 600
          · have hl6 : (l5.length : Int) ≤ 600 := by omega
            go_wp2_with (
              at_builtin
              refine wpList_append_own _ rfl _ _ 38 rfl w.heap.size 24 i0 (.string ⟨#[]⟩) 1 16 Try.underlying38 hi hz0 hz1 hz2 rfl (by decide) _ ts.length (strs ts) rfl (World.ownsRow.alloc (w := w5) Mw5.out.1 _) ⟨w5.heap.size, 0, none⟩ 1 1 [.string ⟨l5.toArray⟩] rfl rfl (cell_one_new _ _ _) (fun x hx => by simp at hx; subst hx; rfl) (by unfold maxLen; omega) (by omega) (by have := Mw5.out.2.1.size; simp; omega) ?_
              intro v9 w9 hown9 hgrow9 _
              have X9 : Hid (w9.ownsRow w.heap.size 24 1 v9 (ts.length + 1) (strs ts ++ [.string ⟨l5.toArray⟩]) ∧ Below w.heap.size w w9) := ⟨hown9, Below.grown (Mw5.out.2.1.alloc Mw5.out.2.1.size _) hgrow9 (by have := Mw5.out.2.1.size; simp; omega) (fun j hj => (Mw5.out.1.lt j hj).1)⟩
              clear hown9 hgrow9)
            go_roundg (gk - 1)
            case measure => omega
            case rel => exact made_next hk h1.1 h1.2 hL.out HG.out (⟨G7.out.1, G7.out.2.1, hl5⟩) X9.out.1 X9.out.2
          · have hl6 : (600 : Int) < (l5.length : Int) := by omega
            have hl7 : l5.length ≤ 20000 := G7.out.2.2
            go_wp2_with fail
            refine (HNb.out _).mono ?_
            rintro e' w6 ⟨l6, rfl, hg6, hb6⟩
            have Mw6 := Lib.hid (Mw5.out.next hb6)
            have G6 := Lib.hid hg6
            clear hg6 hb6
            go_wp2_with (
              at_builtin
              refine wpList_append_own _ rfl _ _ 38 rfl w.heap.size 24 i0 (.string ⟨#[]⟩) 1 16 Try.underlying38 hi hz0 hz1 hz2 rfl (by decide) _ ts.length (strs ts) rfl (World.ownsRow.alloc (w := w6) Mw6.out.1 _) ⟨w6.heap.size, 0, none⟩ 1 1 [.string ⟨l6.toArray⟩] rfl rfl (cell_one_new _ _ _) (fun x hx => by simp at hx; subst hx; rfl) (by unfold maxLen; omega) (by omega) (by have := Mw6.out.2.1.size; simp; omega) ?_
              intro v9 w9 hown9 hgrow9 _
              have X9 : Hid (w9.ownsRow w.heap.size 24 1 v9 (ts.length + 1) (strs ts ++ [.string ⟨l6.toArray⟩]) ∧ Below w.heap.size w w9) := ⟨hown9, Below.grown (Mw6.out.2.1.alloc Mw6.out.2.1.size _) hgrow9 (by have := Mw6.out.2.1.size; simp; omega) (fun j hj => (Mw6.out.1.lt j hj).1)⟩
              clear hown9 hgrow9)
            go_roundg (gk - 1)
            case measure => omega
            case rel => exact made_next hk h1.1 h1.2 hL.out HG.out (G6.out.mono (by omega) (by omega)) X9.out.1 X9.out.2
        · have hen2 : ((en : Int) != 0) = true := by simp; omega
          have hen3 : ((en : Int) == 0) = false := by simp; omega
          go_wp2_with fail
          refine (HNb.out _).mono ?_
          rintro e' w6 ⟨l6, rfl, hg6, hb6⟩
          have Mw6 := Lib.hid (Mw5.out.next hb6)
          have G6 := Lib.hid hg6
          clear hg6 hb6
          go_wp2_with (
            at_builtin
            refine wpList_append_own _ rfl _ _ 38 rfl w.heap.size 24 i0 (.string ⟨#[]⟩) 1 16 Try.underlying38 hi hz0 hz1 hz2 rfl (by decide) _ ts.length (strs ts) rfl (World.ownsRow.alloc (w := w6) Mw6.out.1 _) ⟨w6.heap.size, 0, none⟩ 1 1 [.string ⟨l6.toArray⟩] rfl rfl (cell_one_new _ _ _) (fun x hx => by simp at hx; subst hx; rfl) (by unfold maxLen; omega) (by omega) (by have := Mw6.out.2.1.size; simp; omega) ?_
            intro v9 w9 hown9 hgrow9 _
            have X9 : Hid (w9.ownsRow w.heap.size 24 1 v9 (ts.length + 1) (strs ts ++ [.string ⟨l6.toArray⟩]) ∧ Below w.heap.size w w9) := ⟨hown9, Below.grown (Mw6.out.2.1.alloc Mw6.out.2.1.size _) hgrow9 (by have := Mw6.out.2.1.size; simp; omega) (fun j hj => (Mw6.out.1.lt j hj).1)⟩
            clear hown9 hgrow9)
          go_roundg (gk - 1)
          case measure => omega
          case rel => exact made_next hk h1.1 h1.2 hL.out HG.out (G6.out.mono (by omega) (by omega)) X9.out.1 X9.out.2
      | op + 10, h => omega
    · have hi40 : min n 40 = i := by omega
      have HF : Hid (ts.length = min n 40 + 2 ∧ ∀ t ∈ ts, Tm.Good 41 600 t) := ⟨by rw [hi40]; exact hL.out, fun t ht => (HG.out t ht).mono (by omega) (Nat.le_refl _)⟩
      clear hi40
      by_cases h2 : i < n
      · have i1 : (i : Int) < (n : Int) := by omega
        have i2 : ¬ ((i : Int) < 40) := by omega
        have d1 : decide ((i : Int) < (n : Int)) = true := by simpa using i1
        have d2 : decide ((i : Int) < 40) = false := by simp; omega
        go_wp2
        all_goals first
          | omega
          | (go_ret; exact ⟨g, cap, ts, rfl, HR.out, HF.out.1, HF.out.2, hbel⟩)
      · have i1 : ¬ ((i : Int) < (n : Int)) := by omega
        have d1 : decide ((i : Int) < (n : Int)) = false := by simp; omega
        go_wp2
        all_goals first
          | omega
          | (go_ret; exact ⟨g, cap, ts, rfl, HR.out, HF.out.1, HF.out.2, hbel⟩)

end Go.Proofs.Ytloheongiceliaa.L3
