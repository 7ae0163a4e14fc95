/- Contract of shortLogs. Contract of asLogs: logs, as the reference has them. Contract of asParts: parts, as the reference has them; false: they are too many, or too long. Contract of sameLogs. Contract of sameParts. -/
import Derived.Test.YtkalmfhebffklaaCtGc
import Derived.Deep.RegionHeld3
import Derived.Deep.AppendLies
import Derived.Test.YtkalmfhebffklaaLater
section
namespace Go.Proofs.Ytkalmfhebffklaa.L11
open Go.ChangeShapes Go.WideShapes Go.ChangeAt Go.RowKit Go.Deep

def ShortOut (w : World) (e : Ending) (w' : World) : Prop := ∃ b : Bool, e = .returned (.bool b) ∧ Below w.heap.size w w'
def ShortO (w : World) (n k : Nat) (v3 v4 : Value) (wr : World) : Prop := ∃ (i : Nat) (s : Int), k + i = n ∧ v4 = .int .i64 i ∧ v3 = .int .i64 s ∧ wr = w
set_option maxRecDepth 100000 in
set_option maxHeartbeats 4000000 in
theorem short_calls {v : Value} {ls : List Lg} (w : World) (h : LogsA w v ls) : Calls Try.prog 11 #[v] w (ShortOut w) := by
  obtain ⟨A, c, rfl, hf, hr⟩ := logs_read h
  have HR := Lib.hid hr
  unfold maxLen at hf
  clear h hr
  go_enter Try.func11, Try.ntmps11
  go_wp2
  go_loopg [3, 4] ls.length (fun k v3 v4 wr => ShortO w ls.length k v3 v4 wr)
  case atStart => exact ⟨0, 0, by omega, rfl, rfl, rfl⟩
  case round =>
    obtain ⟨i, s, hk, rfl, rfl, rfl⟩ := hrel
    by_cases hil : i < ls.length
    · obtain ⟨l, hx⟩ : ∃ l, ls[i]? = some l := ⟨_, List.getElem?_eq_getElem hil⟩
      obtain ⟨ad, rfl, hit, _, hc⟩ := HR.out i l hx
      obtain ⟨c0, c1⟩ := hc wr (Below.refl _ _)
      have j1 : (i : Int) < (ls.length : Int) := by omega
      have j2 : (0 : Int) ≤ (i : Int) := by omega
      have hgk := Lib.hid (show gk - 1 < gk by omega)
      have hE : Hid (∀ s', ShortO wr ls.length (gk - 1) (.int .i64 s') (.int .i64 ((i + 1 : Nat) : Int)) wr) := fun s' => ⟨i + 1, s', by omega, rfl, rfl, rfl⟩
      obtain ⟨g0, hg0⟩ : ∃ g0, gk - 1 = g0 := ⟨_, rfl⟩
      rw [hg0] at hgk hE
      obtain ⟨se, ⟨A3, c3, l3⟩⟩ := l
      simp only [It.v] at c0 c1
      have HI := Lib.hid (it_read hit)
      have HS := Lib.hid hit.short
      have f3 := Nat.le_trans hit.le hit.few
      simp only at f3
      unfold maxLen at f3
      clear hk hx hc hit hg0
      go_wp2
      go_loopg [3, 5] l3.length (fun k v3 v5 wr2 => ShortO wr l3.length k v3 v5 wr2)
      case atStart => exact ⟨0, s, by omega, rfl, rfl, rfl⟩
      case round =>
        obtain ⟨j, s2, hk, rfl, rfl, rfl⟩ := hrel
        by_cases hjl : j < l3.length
        · obtain ⟨z, hz⟩ : ∃ z, l3[j]? = some z := ⟨_, List.getElem?_eq_getElem hjl⟩
          obtain ⟨ad2, e2, hrd⟩ := HI.out j z hz
          obtain rfl : A3 = some ad2 := e2
          have a0 := hrd wr (Below.refl _ _)
          have m1 : (j : Int) < (l3.length : Int) := by omega
          have m2 : (0 : Int) ≤ (j : Int) := by omega
          have hzl := HS.out z (List.mem_of_getElem? hz)
          unfold maxLen at hzl
          have hgk2 := Lib.hid (show gk - 1 < gk by omega)
          have hK := Lib.hid hk
          clear hk hz hrd
          go_wp2
          go_roundg (gk - 1)
          case measure => exact hgk2.out
          case rel => exact ⟨j + 1, _, by have := hK.out; omega, rfl, rfl, rfl⟩
        · obtain rfl : j = l3.length := by omega
          have m1 : ¬ (l3.length : Int) < (l3.length : Int) := by omega
          have HF := Lib.hid (hE.out s2)
          clear hk hE
          go_wp2
          go_roundg g0
          case measure => exact hgk.out
          case rel => exact HF.out
    · obtain rfl : i = ls.length := by omega
      have j1 : ¬ (ls.length : Int) < (ls.length : Int) := by omega
      clear hk
      by_cases h20 : (ls.length : Int) < 20
      · by_cases h30 : s < 3000
        · go_wp2
          go_ret
          exact ⟨true, rfl, Below.refl _ _⟩
        · go_wp2
          go_ret
          exact ⟨false, rfl, Below.refl _ _⟩
      · go_wp2
        go_ret
        exact ⟨false, rfl, Below.refl _ _⟩
end Go.Proofs.Ytkalmfhebffklaa.L11
end

section
namespace Go.Proofs.Ytkalmfhebffklaa.L11
open Go.ChangeShapes Go.WideShapes Go.ChangeAt Go.RowKit Go.Deep

/-- A row of the reference's texts, of the call's own. -/
structure OwnS (w : World) (B : Nat) (x : It) : Prop where
  own : w.ownsRow B 9 1 x.v x.l.length (txt x.l)
  short : ∀ z ∈ x.l, z.length ≤ maxLen
theorem OwnS.at {w : World} {B : Nat} {x : It} (h : OwnS w B x) : ItAt w x := by
  have hf : x.l.length ≤ maxLen := by
    rcases h.own.2 with ⟨_, h0⟩ | ⟨g, cap, cur, _, _, _, h1, h2, _⟩
    · omega
    · omega
  obtain ⟨y, e1, e2, e3⟩ := ItAt.of_own h.own h.short hf
  obtain ⟨a, c, l⟩ := x
  obtain ⟨a', c', l'⟩ := y
  simp only [It.v] at e1 e2
  subst e2
  cases e1
  exact e3
theorem OwnS.grown {w w' : World} {B : Nat} {x : It} (h : OwnS w B x) {v : Value} {n : Nat} {xs : List Value} {e : TypeId} {B' size : Nat} (hr : w.ownsRow B' e size v n xs) (he : e ≠ 9) (hg : w.grownBy w' v.ownBlock) : OwnS w' B x := by
  refine ⟨h.own.kept hg ?_, h.short⟩
  rcases h.own.2 with ⟨e1, _⟩ | ⟨g, cap, cur, e1, _, h1, _⟩
  · rw [e1]; exact .inl rfl
  · right
    intro e2
    rw [e1] at e2
    rcases hr.2 with ⟨e3, _⟩ | ⟨g', cap', cur', e3, _, h3, _⟩
    · rw [e3] at e2; cases e2
    · rw [e3] at e2
      have : g = g' := by cases e2; rfl
      subst this
      rw [h1] at h3
      cases h3
      exact he rfl
theorem OwnS.below {w W : World} {B : Nat} {x : It} (h : OwnS w B x) (hb : Below w.heap.size w W) : OwnS W B x := ⟨L5.own_below h.own hb, h.short⟩
theorem info_rlog : (Try.prog.info? 89).map (fun i => (i.zero, i.size, i.bytes)) = some (some zeroLg, 2, 32) := by kernel_rfl
def AsGo (w : World) (ls : List Lg) (k : Nat) (v3 vi : Value) (wr : World) : Prop :=
  ∃ (i : Nat) (rs : List Lg), k + i = ls.length ∧ vi = .int .i64 i ∧ rs.map Lg.core = (ls.take i).map Lg.core ∧ (∀ l ∈ rs, OwnS wr w.heap.size l.it ∧ isInt l.se) ∧
    wr.ownsRow w.heap.size 89 2 v3 rs.length (flatG rs) ∧ Below w.heap.size w wr
set_option maxRecDepth 100000 in
set_option maxHeartbeats 8000000 in
theorem asLogs_calls {v : Value} {ls : List Lg} (w : World) (h : LogsA w v ls) (hl : ls.length ≤ 4000000) (hits : ∀ l ∈ ls, l.it.l.length ≤ 4000000) : Calls Try.prog 15 #[v] w (LogsOut w (ls.map Lg.core)) := by
  obtain ⟨i0, hi, hz0, hz1, hz2⟩ := info_partsC info_rlog
  obtain ⟨A, c, rfl, hf, hr⟩ := logs_read h
  have HR := Lib.hid hr
  have HIt := Lib.hid hits
  have HSt : Hid (AsGo w ls ls.length (.slice none 0 0) (.int .i64 0) w) := ⟨0, [], by omega, rfl, by simp, by simp, World.ownsRow_nil _ _ _ _, Below.refl _ _⟩
  clear h hr hf hits
  go_enter Try.func15, Try.ntmps15
  go_wp2
  go_loopg [3, 4] ls.length (fun k v3 v4 wr => AsGo w ls k v3 v4 wr)
  case atStart => exact HSt.out
  clear HSt
  case round =>
    obtain ⟨i, rs, hk, rfl, hco, hit, hrow, hB⟩ := hrel
    obtain ⟨A9, c9, rfl⟩ := L5.own_slice hrow
    have hrl : rs.length = (ls.take i).length := by have := congrArg List.length hco; simpa using this
    by_cases hil : i < ls.length
    · obtain ⟨l, hx⟩ : ∃ l, ls[i]? = some l := ⟨_, List.getElem?_eq_getElem hil⟩
      obtain ⟨ad, rfl, hitl, hse, hc⟩ := HR.out i l hx
      obtain ⟨c0, c1⟩ := hc wr hB
      have hl3 := HIt.out l (List.mem_of_getElem? hx)
      have j1 : (i : Int) < (ls.length : Int) := by omega
      have j2 : (0 : Int) ≤ (i : Int) := by omega
      have hgk := Lib.hid (show gk - 1 < gk by omega)
      have hbs := hB.size
      have hrl' : rs.length ≤ 4000000 := by rw [hrl]; simp; omega
      have hnx : (ls.take (i + 1)).map Lg.core = (ls.take i).map Lg.core ++ [l.core] := by rw [take_nextR ls hx, List.map_append]; rfl
      obtain ⟨se, ⟨A3, c3, l3⟩⟩ := l
      simp only [It.v] at c0 c1
      simp only at hl3 hse
      have HC3 : Hid (∀ V, Below wr.heap.size wr V → V.cell? (ad.add (i * 2)) = some (.int .i64 se) ∧ V.cell? ⟨(ad.add (i * 2)).block, (ad.add (i * 2)).off + 1, none⟩ = some (.slice A3 l3.length c3)) := fun V hV => hc V (hB.trans (hV.mono hbs))
      have hS0 : Below wr.heap.size wr wr.drew := (Below.refl _ _).drew
      have HTx : Hid (Calls Try.prog 28 #[.slice A3 l3.length c3] wr.drew fun e w' => ∃ (A : Option Addr) (c : Nat), e = .returned (.slice A l3.length c) ∧ OwnS w' w.heap.size ⟨A, c, l3⟩ ∧ (w'.cell? (ad.add (i * 2)) = some (.int .i64 se) ∧ w'.cell? ⟨(ad.add (i * 2)).block, (ad.add (i * 2)).off + 1, none⟩ = some (.slice A3 l3.length c3)) ∧ Below wr.heap.size wr w') := by
        have hV := hS0
        refine (texts_calls ⟨A3, c3, l3⟩ wr.drew (hitl.below (hB.trans (hV.mono hbs))) (by simp only; omega)).mono ?_
        rintro e w' ⟨⟨A, c, l⟩, rfl, rfl, h3, h4, h5⟩
        have h6 : Below wr.heap.size wr w' := hV.trans (h5.mono hV.size)
        exact ⟨A, c, rfl, ⟨h4.mono (Nat.le_trans hbs hV.size), h3.short⟩, HC3.out w' h6, h6⟩
      have HApp : Hid (∀ V (A : Option Addr) (c : Nat), Below wr.heap.size wr V → OwnS V w.heap.size ⟨A, c, l3⟩ →
          (V.alloc (.cells #[.int .i64 se, .slice A l3.length c] 89)).ownsRow w.heap.size 89 2 (.slice A9 rs.length c9) rs.length (flatG rs) ∧
          (∀ (j : Nat) (u : Value), [Value.int .i64 se, .slice A l3.length c][j]? = some u → (V.alloc (.cells #[.int .i64 se, .slice A l3.length c] 89)).cell? ((⟨V.heap.size, 0, none⟩ : Addr).add j) = some u) ∧
          w.heap.size ≤ (V.alloc (.cells #[.int .i64 se, .slice A l3.length c] 89)).heap.size ∧
          ∀ v' w6, w6.ownsRow w.heap.size 89 2 v' (rs.length + 1) (flatG rs ++ [.int .i64 se, .slice A l3.length c]) → (V.alloc (.cells #[.int .i64 se, .slice A l3.length c] 89)).grownBy w6 (Value.slice A9 rs.length c9).ownBlock →
            (w6.cell? (ad.add (i * 2)) = some (.int .i64 se) ∧ w6.cell? ⟨(ad.add (i * 2)).block, (ad.add (i * 2)).off + 1, none⟩ = some (.slice A3 l3.length c3)) ∧ AsGo w ls (gk - 1) v' (.int .i64 ((i + 1 : Nat) : Int)) w6) := by
        intro V A c hV hO
        have hr := L5.own_below hrow hV
        have hb := hB.trans (hV.mono hbs)
        have hbz := hb.size
        refine ⟨hr.alloc _, fun j u hu => ?_, Nat.le_trans hbz (by simp), fun v' w6 k1 k2 => ?_⟩
        · rw [add_zeroC]
          simp only [World.cell?]
          rw [World.alloc_heap_new V _]
          simpa using hu
        · have k3 := (World.grownBy_alloc V (.cells #[.int .i64 se, .slice A l3.length c] 89) (Value.slice A9 rs.length c9).ownBlock).trans k2
          have hb6 := hb.grown k3 hbz (fun q e => (hr.lt q e).1)
          refine ⟨hc w6 hb6, i + 1, rs ++ [⟨se, ⟨A, c, l3⟩⟩], by omega, rfl, by rw [hnx, List.map_append, hco]; rfl, fun l hl => ?_, ?_, hb6⟩
          · rcases List.mem_append.1 hl with hl | hl
            · exact ⟨((hit l hl).1.below hV).grown hr (of_decide_eq_true (by kernel_rfl)) k3, (hit l hl).2⟩
            · obtain rfl := List.mem_singleton.1 hl
              exact ⟨hO.grown hr (of_decide_eq_true (by kernel_rfl)) k3, hse⟩
          · rw [flatG_snoc, List.length_append]
            simp only [Lg.cells, It.v]
            exact k1
      clear hk hco hit hrow hB hx hc hitl hrl hnx HC3 hbs
      generalize l3.length = n3 at *
      generalize hp0 : ad.add (i * 2) = p0 at *
      go_wp2
      go_region_held3 (fun V => V.cell? p0 = some (.int .i64 se) ∧ V.cell? ⟨p0.block, p0.off + 1, none⟩ = some (.slice A3 n3 c3))
        ((first | exact ⟨c0, c1⟩ | (go_split_ands; refine ⟨?_, ?_⟩ <;> first | assumption | go_keep)))
        (first
          | (go_at_call 28; refine HTx.out.mono ?_; rintro e w5 ⟨A5, c5, rfl, hO5, ⟨g2, g3⟩, b5⟩)
          | (refine step_append_lies _ rfl (.tmp 11) (.tmp 24) 37 rfl w.heap.size 89 i0 zeroLg 2 32 Try.underlying37 hi hz0 hz1 hz2 rfl (by decide) (.slice A9 rs.length c9) rs.length (flatG rs) (by simp [Act.eval]) (HApp.out w5 A5 c5 b5 hO5).1 ⟨w5.heap.size, 0, none⟩ 1 1 [.int .i64 se, .slice A5 n3 c5] (by simp [Act.eval]) rfl (HApp.out w5 A5 c5 b5 hO5).2.1 (by simp [Value.oneCell']) (by decide) (by unfold maxLen; omega) (by omega) (HApp.out w5 A5 c5 b5 hO5).2.2.1 (w5.heap.size + 1) (by simp) ?_
             intro gg cc w6 k1 k2 k3 k4
             obtain ⟨⟨g4, g5⟩, hfin⟩ := (HApp.out w5 A5 c5 b5 hO5).2.2.2 _ w6 k1 k2))
      have HF := Lib.hid hfin
      clear hfin g4 g5 g2 g3 k1 k2 k3 k4 hO5 b5 HApp HTx
      go_wp2
      go_roundg (gk - 1)
      case measure => exact hgk.out
      case rel => exact HF.out
    · obtain rfl : i = ls.length := by omega
      have j1 : ¬ (ls.length : Int) < (ls.length : Int) := by omega
      rw [List.take_length] at hco hrl
      have HF : Hid (LogsOut w (ls.map Lg.core) (.returned (.slice A9 rs.length c9)) wr) := ⟨_, rs, rfl, hco, LogsA.of_own hrow (by unfold maxLen; omega) (fun l hl => ⟨(hit l hl).1.at, (hit l hl).2⟩), hB⟩
      clear hk hco hit hrow hB hrl
      go_wp2
      go_ret
      exact HF.out
end Go.Proofs.Ytkalmfhebffklaa.L11
end

section
namespace Go.Proofs.Ytkalmfhebffklaa.L11
open Go.ChangeShapes Go.WideShapes Go.ChangeAt Go.RowKit Go.Deep

/-- Rows that were told, or are too long. -/
def PartsTold (w : World) (cs : List Core) (e : Ending) (w' : World) : Prop :=
  (∃ (v : Value) (qs : List Pt), e = .returned (.tuple #[v, .bool true]) ∧ qs.map Pt.core = cs ∧ PartsA w' v qs ∧ Below w.heap.size w w') ∨
  (∃ v, e = .returned (.tuple #[v, .bool false]) ∧ Below w.heap.size w w')
theorem info_rpart : (Try.prog.info? 83).map (fun i => (i.zero, i.size, i.bytes)) = some (some zeroPt, 4, 48) := by kernel_rfl
def AsPGo (w : World) (ls : List Pt) (k : Nat) (v3 vi : Value) (wr : World) : Prop :=
  ∃ (i : Nat) (rs : List Pt), k + i = ls.length ∧ vi = .int .i64 i ∧ rs.map Pt.core = (ls.take i).map Pt.core ∧ (∀ l ∈ rs, OwnS wr w.heap.size l.it ∧ intsP l) ∧
    wr.ownsRow w.heap.size 83 4 v3 rs.length (flatP rs) ∧ Below w.heap.size w wr
set_option maxRecDepth 100000 in
set_option maxHeartbeats 8000000 in
theorem asParts_calls {v : Value} {ls : List Pt} (w : World) (h : PartsA w v ls) (hl : ls.length ≤ 4000000) (hits : ∀ l ∈ ls, l.it.l.length ≤ 4000000) : Calls Try.prog 12 #[v] w (PartsTold w (ls.map Pt.core)) := by
  obtain ⟨i0, hi, hz0, hz1, hz2⟩ := info_partsC info_rpart
  obtain ⟨A, c, rfl, hf, hr⟩ := parts_read h
  have HR := Lib.hid hr
  have HIt := Lib.hid hits
  have HSt : Hid (AsPGo w ls ls.length (.slice none 0 0) (.int .i64 0) w) := ⟨0, [], by omega, rfl, by simp, by simp, World.ownsRow_nil _ _ _ _, Below.refl _ _⟩
  clear h hr hf hits
  go_enter Try.func12, Try.ntmps12
  go_wp2
  go_loopg [4, 5] ls.length (fun k v4 v5 wr => AsPGo w ls k v4 v5 wr)
  case atStart => exact HSt.out
  clear HSt
  case round =>
    obtain ⟨i, rs, hk, rfl, hco, hit, hrow, hB⟩ := hrel
    obtain ⟨A9, c9, rfl⟩ := L5.own_slice hrow
    have hrl : rs.length = (ls.take i).length := by have := congrArg List.length hco; simpa using this
    by_cases hil : i < ls.length
    · obtain ⟨l, hx⟩ : ∃ l, ls[i]? = some l := ⟨_, List.getElem?_eq_getElem hil⟩
      obtain ⟨ad, rfl, hitl, hse, hc⟩ := HR.out i l hx
      obtain ⟨c0, c1, c2, c3⟩ := hc wr hB
      have hl3 := HIt.out l (List.mem_of_getElem? hx)
      have j1 : (i : Int) < (ls.length : Int) := by omega
      have j2 : (0 : Int) ≤ (i : Int) := by omega
      have hgk := Lib.hid (show gk - 1 < gk by omega)
      have hbs := hB.size
      have hrl' : rs.length ≤ 4000000 := by rw [hrl]; simp; omega
      have hnx : (ls.take (i + 1)).map Pt.core = (ls.take i).map Pt.core ++ [l.core] := by rw [take_nextR ls hx, List.map_append]; rfl
      obtain ⟨ep, co, se, ⟨A3, cc3, l3⟩⟩ := l
      simp only [It.v] at c0 c1 c2 c3
      simp only at hl3
      have hfour : ∀ V, Below wr.heap.size wr V → V.cell? (ad.add (i * 4)) = some (.int .i64 ep) ∧ V.cell? ⟨(ad.add (i * 4)).block, (ad.add (i * 4)).off + 1, none⟩ = some (.int .i64 co) ∧ V.cell? ⟨(ad.add (i * 4)).block, (ad.add (i * 4)).off + 2, none⟩ = some (.int .i64 se) ∧ V.cell? ⟨(ad.add (i * 4)).block, (ad.add (i * 4)).off + 3, none⟩ = some (.slice A3 l3.length cc3) := fun V hV => hc V (hB.trans (hV.mono hbs))
      obtain ⟨W1, hW1⟩ : ∃ W1, wr.alloc (.cells #[.int .i64 0, .slice A3 l3.length cc3] 76) = W1 := ⟨_, rfl⟩
      obtain ⟨p1, b1, s1⟩ := box_new hW1
      have HSh := Lib.hid (short_calls W1 (lg_cells1 (c := 1) (l := ⟨0, ⟨A3, cc3, l3⟩⟩) p1 (hitl.below (hB.trans (b1.mono hbs))) (isInt_small 0 (by omega))))
      have HTx : Hid (∀ V, Below wr.heap.size wr V → Calls Try.prog 28 #[.slice A3 l3.length cc3] V fun e w' => ∃ (A : Option Addr) (c : Nat), e = .returned (.slice A l3.length c) ∧ OwnS w' w.heap.size ⟨A, c, l3⟩ ∧ (w'.cell? (ad.add (i * 4)) = some (.int .i64 ep) ∧ w'.cell? ⟨(ad.add (i * 4)).block, (ad.add (i * 4)).off + 1, none⟩ = some (.int .i64 co) ∧ w'.cell? ⟨(ad.add (i * 4)).block, (ad.add (i * 4)).off + 2, none⟩ = some (.int .i64 se) ∧ w'.cell? ⟨(ad.add (i * 4)).block, (ad.add (i * 4)).off + 3, none⟩ = some (.slice A3 l3.length cc3)) ∧ Below wr.heap.size wr w') := by
        intro V hV
        refine (texts_calls ⟨A3, cc3, l3⟩ V (hitl.below (hB.trans (hV.mono hbs))) (by simp only; omega)).mono ?_
        rintro e w' ⟨⟨A, c, l⟩, rfl, rfl, h3, h4, h5⟩
        have h6 : Below wr.heap.size wr w' := hV.trans (h5.mono hV.size)
        exact ⟨A, c, rfl, ⟨h4.mono (Nat.le_trans hbs hV.size), h3.short⟩, hfour w' h6, h6⟩
      have HApp : Hid (∀ V (A : Option Addr) (c : Nat), Below wr.heap.size wr V → OwnS V w.heap.size ⟨A, c, l3⟩ →
          (V.alloc (.cells #[.int .i64 ep, .int .i64 co, .int .i64 se, .slice A l3.length c] 83)).ownsRow w.heap.size 83 4 (.slice A9 rs.length c9) rs.length (flatP rs) ∧
          (∀ (j : Nat) (u : Value), [Value.int .i64 ep, .int .i64 co, .int .i64 se, .slice A l3.length c][j]? = some u → (V.alloc (.cells #[.int .i64 ep, .int .i64 co, .int .i64 se, .slice A l3.length c] 83)).cell? ((⟨V.heap.size, 0, none⟩ : Addr).add j) = some u) ∧
          w.heap.size ≤ (V.alloc (.cells #[.int .i64 ep, .int .i64 co, .int .i64 se, .slice A l3.length c] 83)).heap.size ∧
          ∀ v' w6, w6.ownsRow w.heap.size 83 4 v' (rs.length + 1) (flatP rs ++ [.int .i64 ep, .int .i64 co, .int .i64 se, .slice A l3.length c]) → (V.alloc (.cells #[.int .i64 ep, .int .i64 co, .int .i64 se, .slice A l3.length c] 83)).grownBy w6 (Value.slice A9 rs.length c9).ownBlock →
            (w6.cell? (ad.add (i * 4)) = some (.int .i64 ep) ∧ w6.cell? ⟨(ad.add (i * 4)).block, (ad.add (i * 4)).off + 1, none⟩ = some (.int .i64 co) ∧ w6.cell? ⟨(ad.add (i * 4)).block, (ad.add (i * 4)).off + 2, none⟩ = some (.int .i64 se) ∧ w6.cell? ⟨(ad.add (i * 4)).block, (ad.add (i * 4)).off + 3, none⟩ = some (.slice A3 l3.length cc3)) ∧ AsPGo w ls (gk - 1) v' (.int .i64 ((i + 1 : Nat) : Int)) w6) := by
        intro V A c hV hO
        have hr := L5.own_below hrow hV
        have hb := hB.trans (hV.mono hbs)
        have hbz := hb.size
        refine ⟨hr.alloc _, fun j u hu => ?_, Nat.le_trans hbz (by simp), fun v' w6 k1 k2 => ?_⟩
        · rw [add_zeroC]
          simp only [World.cell?]
          rw [World.alloc_heap_new V _]
          simpa using hu
        · have k3 := (World.grownBy_alloc V (.cells #[.int .i64 ep, .int .i64 co, .int .i64 se, .slice A l3.length c] 83) (Value.slice A9 rs.length c9).ownBlock).trans k2
          have hb6 := hb.grown k3 hbz (fun q e => (hr.lt q e).1)
          refine ⟨hc w6 hb6, i + 1, rs ++ [⟨ep, co, se, ⟨A, c, l3⟩⟩], by omega, rfl, by rw [hnx, List.map_append, hco]; rfl, fun l hl => ?_, ?_, hb6⟩
          · rcases List.mem_append.1 hl with hl | hl
            · exact ⟨((hit l hl).1.below hV).grown hr (of_decide_eq_true (by kernel_rfl)) k3, (hit l hl).2⟩
            · obtain rfl := List.mem_singleton.1 hl
              exact ⟨hO.grown hr (of_decide_eq_true (by kernel_rfl)) k3, hse⟩
          · rw [flatP_snoc, List.length_append]
            simp only [Pt.cells, It.v]
            exact k1
      have HFl : Hid (∀ V, Below W1.heap.size W1 V → PartsTold w (ls.map Pt.core) (.returned (.tuple #[.slice none 0 0, .bool false])) V) := fun V hV => .inr ⟨_, rfl, hB.trans ((b1.trans (hV.mono b1.size)).mono hbs)⟩
      have HF4 := Lib.hid (fun V (hV : Below W1.heap.size W1 V) => hfour V (b1.trans (hV.mono b1.size)))
      have HTx2 := Lib.hid (fun V (hV : Below W1.heap.size W1 V) => HTx.out V (b1.trans (hV.mono b1.size)))
      clear hk hco hit hrow hB hx hc hitl hrl hnx hfour hbs hse p1 b1 s1 HTx
      generalize l3.length = n3 at *
      generalize hp0 : ad.add (i * 4) = p0 at *
      go_wp2_with fail
      refine HSh.out.mono ?_
      rintro e W2 ⟨b, rfl, b2⟩
      clear HSh
      cases b with
      | false =>
        have HF := Lib.hid (HFl.out W2 b2)
        clear b2 HFl HApp HTx2 HF4
        go_wp2
        go_ret2
        exact HF.out
      | true =>
        obtain ⟨f0, f1, f2, f3⟩ := HF4.out W2 b2
        have HTx := Lib.hid (HTx2.out W2.drew b2.drew)
        clear c0 c1 c2 c3 HF4 HTx2 HFl hW1
        go_wp2
        go_region_held3 (fun V => V.cell? p0 = some (.int .i64 ep) ∧ V.cell? ⟨p0.block, p0.off + 1, none⟩ = some (.int .i64 co) ∧ V.cell? ⟨p0.block, p0.off + 2, none⟩ = some (.int .i64 se) ∧ V.cell? ⟨p0.block, p0.off + 3, none⟩ = some (.slice A3 n3 cc3))
          ((first | exact ⟨f0, f1, f2, f3⟩ | (go_split_ands; refine ⟨?_, ?_, ?_, ?_⟩ <;> first | assumption | go_keep)))
          (first
            | (go_at_call 28; refine HTx.out.mono ?_; rintro e w5 ⟨A5, c5, rfl, hO5, ⟨g0, g1, g2, g3⟩, b5⟩)
            | (refine step_append_lies _ rfl (.tmp 21) (.tmp 39) 27 rfl w.heap.size 83 i0 zeroPt 4 48 Try.underlying27 hi hz0 hz1 hz2 rfl (by decide) (.slice A9 rs.length c9) rs.length (flatP rs) (by simp [Act.eval]) (HApp.out w5 A5 c5 b5 hO5).1 ⟨w5.heap.size, 0, none⟩ 1 1 [.int .i64 ep, .int .i64 co, .int .i64 se, .slice A5 n3 c5] (by simp [Act.eval]) rfl (HApp.out w5 A5 c5 b5 hO5).2.1 (by simp [Value.oneCell']) (by decide) (by unfold maxLen; omega) (by omega) (HApp.out w5 A5 c5 b5 hO5).2.2.1 (w5.heap.size + 1) (by simp) ?_
               intro gg cc w6 k1 k2 k3 k4
               obtain ⟨⟨g4, g5, g6, g7⟩, hfin⟩ := (HApp.out w5 A5 c5 b5 hO5).2.2.2 _ w6 k1 k2))
        have HF := Lib.hid hfin
        clear hfin g4 g5 g6 g7 g0 g1 g2 g3 k1 k2 k3 k4 hO5 b5 HApp HTx
        go_wp2
        go_roundg (gk - 1)
        case measure => exact hgk.out
        case rel => exact HF.out
    · obtain rfl : i = ls.length := by omega
      have j1 : ¬ (ls.length : Int) < (ls.length : Int) := by omega
      rw [List.take_length] at hco hrl
      have HF : Hid (∀ b : Bool, PartsTold w (ls.map Pt.core) (.returned (.tuple #[.slice A9 rs.length c9, .bool b])) wr) := fun b => by
        cases b with
        | true => exact .inl ⟨_, rs, rfl, hco, PartsA.of_own hrow (by unfold maxLen; omega) (fun l hl => ⟨(hit l hl).1.at, (hit l hl).2⟩), hB⟩
        | false => exact .inr ⟨_, rfl, hB⟩
      clear hk hco hit hrow hB hrl
      by_cases h20 : (ls.length : Int) < 20
      · have h20' : decide ((ls.length : Int) < 20) = true := decide_eq_true h20
        go_wp2
        go_ret2
        exact HF.out true
      · go_wp2
        go_ret2
        exact HF.out false
end Go.Proofs.Ytkalmfhebffklaa.L11
end

section
namespace Go.Proofs.Ytkalmfhebffklaa.L11
open Go.ChangeShapes Go.WideShapes Go.ChangeAt Go.RowKit Go.Deep

def sameLGo (w : World) (xs bs : List Lg) (k : Nat) (vi : Value) (wr : World) : Prop :=
  ∃ i : Nat, k + i = xs.length ∧ vi = .int .i64 i ∧ (xs.take i).map Lg.core = (bs.take i).map Lg.core ∧ Below w.heap.size w wr
set_option maxRecDepth 100000 in
set_option maxHeartbeats 4000000 in
theorem sameL_calls {va vb : Value} {xs bs : List Lg} (w : World) (ha : LogsA w va xs) (hb : LogsA w vb bs) : Calls Try.prog 23 #[va, vb] w (One w (.bool (decide (xs.map Lg.core = bs.map Lg.core)))) := by
  obtain ⟨A, c, rfl, hf, hr⟩ := logs_read ha
  obtain ⟨A2, c2, rfl, hf2, hr2⟩ := logs_read hb
  have HR := Lib.hid hr
  have HR2 := Lib.hid hr2
  unfold maxLen at hf hf2
  clear ha hb hr hr2
  by_cases hn : xs.length = bs.length
  · obtain ⟨r, hr⟩ : ∃ r, decide (xs.map Lg.core = bs.map Lg.core) = r := ⟨_, rfl⟩
    rw [hr]
    have HRe := Lib.hid hr
    have HN0 := Lib.hid hn
    clear hr
    rw [← hn]
    clear hn hf2
    go_enter Try.func23, Try.ntmps23
    go_wp2
    go_loopg [5] xs.length (fun k v5 wr => sameLGo w xs bs k v5 wr)
    case atStart => exact ⟨0, by omega, rfl, by simp, Below.refl _ _⟩
    case round =>
      obtain ⟨i, hk, rfl, hd, hB⟩ := hrel
      by_cases hil : i < xs.length
      · obtain ⟨x, hx⟩ : ∃ x, xs[i]? = some x := ⟨_, List.getElem?_eq_getElem hil⟩
        obtain ⟨y, hy⟩ : ∃ y, bs[i]? = some y := ⟨_, List.getElem?_eq_getElem (by rw [← HN0.out]; exact hil)⟩
        obtain ⟨ad, rfl, hit, _, hc⟩ := HR.out i x hx
        obtain ⟨ad2, rfl, hit2, _, hc2⟩ := HR2.out i y hy
        have hgk := Lib.hid (show gk - 1 < gk by omega)
        have hbs := hB.size
        have j1 : (i : Int) < (xs.length : Int) := by omega
        have j2 : (0 : Int) ≤ (i : Int) := by omega
        have HSame : Hid (x.core = y.core → ∀ X : Later wr, sameLGo w xs bs (gk - 1) (.int .i64 ((i + 1 : Nat) : Int)) X.world) := fun e X => ⟨i + 1, by omega, rfl, by rw [take_nextR xs hx, take_nextR bs hy, List.map_append, List.map_append, hd]; simp [e], hB.trans (X.kept.mono hbs)⟩
        have HDiff : Hid (x.core ≠ y.core → r = false ∧ ∀ X : Later wr, Below w.heap.size w X.world) := fun hne => ⟨by
          rw [← HRe.out]
          refine decide_eq_false (fun h => hne ?_)
          have e := congrArg (fun l => l[i]?) h
          simp only [List.getElem?_map, hx, hy, Option.map_some, Option.some.injEq] at e
          exact e, fun X => hB.trans (X.kept.mono hbs)⟩
        obtain ⟨se1, ⟨A3, q3, l3⟩⟩ := x
        obtain ⟨se2, ⟨A4, q4, l4⟩⟩ := y
        have hXB : ∀ X : Later wr, Below w.heap.size w X.world := fun X => hB.trans (X.kept.mono hbs)
        have HSmB : Hid (∀ X : Later wr, Calls Try.prog 18 #[.slice A3 l3.length q3, .slice A4 l4.length q4] X.world (One X.world (.bool (decide (l3 = l4))))) := fun X => same_calls ⟨A3, q3, l3⟩ ⟨A4, q4, l4⟩ X.world (hit.below (hXB X)) (hit2.below (hXB X))
        have a0 : ∀ X : Later wr, X.world.cell? (ad.add (i * 2)) = some (.int .i64 se1) := fun X => (hc X.world (hXB X)).1
        have a1 : ∀ X : Later wr, X.world.cell? ⟨(ad.add (i * 2)).block, (ad.add (i * 2)).off + 1, none⟩ = some (.slice A3 l3.length q3) := fun X => (hc X.world (hXB X)).2
        have b0 : ∀ X : Later wr, X.world.cell? (ad2.add (i * 2)) = some (.int .i64 se2) := fun X => (hc2 X.world (hXB X)).1
        have b1 : ∀ X : Later wr, X.world.cell? ⟨(ad2.add (i * 2)).block, (ad2.add (i * 2)).off + 1, none⟩ = some (.slice A4 l4.length q4) := fun X => (hc2 X.world (hXB X)).2
        by_cases e0 : se1 = se2
        case neg =>
          obtain ⟨rfl, hbX⟩ := HDiff.out (fun e => e0 (by simp only [Lg.core, Prod.mk.injEq] at e; exact e.1))
          have HN : Hid (∀ X : Later wr, One w (.bool false) (.returned (.bool false)) X.world) := fun X => ⟨rfl, hbX X⟩
          have ne0 : (se1 == se2) = false := by rw [beq_eq_false_iff_ne]; exact e0
          clear hk hd hx hy hB hit hit2 hc hc2 hbs hXB HSmB HSame HDiff hil hbX
          go_wp2
          refine wp_region_later (by kernel_rfl) (by kernel_rfl) ?_
          repeat
            (refine Quietly.step (fun K hK => ?_)
             go_simp
             first
               | (refine hK _ ?_)
             clear hK K)
          refine Quietly.none ?_
          rintro w5 ⟨X, rfl⟩
          have HF := Lib.hid (HN.out X)
          clear HN
          go_wp2
          go_ret
          exact HF.out
        subst e0
        by_cases el : l3 = l4
        · have HSm := HSmB.out
          rw [decide_eq_true el] at HSm
          have HSm := Lib.hid HSm
          have HN := Lib.hid (HSame.out (by simp only [Lg.core, el]))
          clear hk hd hx hy hB hit hit2 hc hc2 hbs hXB HSmB HSame HDiff hil el
          go_wp2
          refine wp_region_later (by kernel_rfl) (by kernel_rfl) ?_
          repeat
            (refine Quietly.step (fun K hK => ?_)
             go_simp
             first
               | (refine hK _ ?_)
               | (refine ⟨_, fun X => ((HSm.out X).mono (fun e w' h => ⟨h.1, ⟨w', X.kept.trans (h.2.mono X.kept.size)⟩, rfl⟩)), ?_⟩; refine hK _ ?_)
             clear hK K)
          refine Quietly.none ?_
          rintro w5 ⟨X, rfl⟩
          have HF := Lib.hid (HN.out X)
          clear HN
          go_wp2
          go_roundg (gk - 1)
          case measure => exact hgk.out
          case rel => exact HF.out
        · have HSm := HSmB.out
          rw [decide_eq_false el] at HSm
          have HSm := Lib.hid HSm
          obtain ⟨rfl, hbX⟩ := HDiff.out (fun e => el (by simp only [Lg.core, Prod.mk.injEq] at e; exact e.2))
          have HN : Hid (∀ X : Later wr, One w (.bool false) (.returned (.bool false)) X.world) := fun X => ⟨rfl, hbX X⟩
          clear hk hd hx hy hB hit hit2 hc hc2 hbs hXB HSmB HSame HDiff hil el hbX
          go_wp2
          refine wp_region_later (by kernel_rfl) (by kernel_rfl) ?_
          repeat
            (refine Quietly.step (fun K hK => ?_)
             go_simp
             first
               | (refine hK _ ?_)
               | (refine ⟨_, fun X => ((HSm.out X).mono (fun e w' h => ⟨h.1, ⟨w', X.kept.trans (h.2.mono X.kept.size)⟩, rfl⟩)), ?_⟩; refine hK _ ?_)
             clear hK K)
          refine Quietly.none ?_
          rintro w5 ⟨X, rfl⟩
          have HF := Lib.hid (HN.out X)
          clear HN
          go_wp2
          go_ret
          exact HF.out
      · have hrt : r = true := by
          rw [← HRe.out]
          refine decide_eq_true ?_
          have hi : i = xs.length := by omega
          rw [hi, List.take_length, HN0.out, List.take_length] at hd
          exact hd
        subst hrt
        have HB := Lib.hid hB
        have j1 : ¬ ((i : Int) < (xs.length : Int)) := by omega
        clear hk hd hB
        go_wp2
        go_ret
        exact ⟨rfl, HB.out⟩
  · have e : decide (xs.map Lg.core = bs.map Lg.core) = false := decide_eq_false (fun h => hn (by have := congrArg List.length h; simpa using this))
    have hn2 : ¬ (xs.length : Int) = (bs.length : Int) := by omega
    rw [e]
    clear e
    generalize xs.length = n at *
    generalize bs.length = m at *
    go_enter Try.func23, Try.ntmps23
    go_wp2
    go_ret
    exact ⟨rfl, Below.refl _ _⟩
end Go.Proofs.Ytkalmfhebffklaa.L11
end

section
namespace Go.Proofs.Ytkalmfhebffklaa.L11
open Go.ChangeShapes Go.WideShapes Go.ChangeAt Go.RowKit Go.Deep

def samePGo (w : World) (xs bs : List Pt) (k : Nat) (vi : Value) (wr : World) : Prop :=
  ∃ i : Nat, k + i = xs.length ∧ vi = .int .i64 i ∧ (xs.take i).map Pt.core = (bs.take i).map Pt.core ∧ Below w.heap.size w wr
set_option maxRecDepth 100000 in
set_option maxHeartbeats 4000000 in
theorem sameP_calls {va vb : Value} {xs bs : List Pt} (w : World) (ha : PartsA w va xs) (hb : PartsA w vb bs) : Calls Try.prog 24 #[va, vb] w (One w (.bool (decide (xs.map Pt.core = bs.map Pt.core)))) := by
  obtain ⟨A, c, rfl, hf, hr⟩ := parts_read ha
  obtain ⟨A2, c2, rfl, hf2, hr2⟩ := parts_read hb
  have HR := Lib.hid hr
  have HR2 := Lib.hid hr2
  unfold maxLen at hf hf2
  clear ha hb hr hr2
  by_cases hn : xs.length = bs.length
  · obtain ⟨r, hr⟩ : ∃ r, decide (xs.map Pt.core = bs.map Pt.core) = r := ⟨_, rfl⟩
    rw [hr]
    have HRe := Lib.hid hr
    have HN0 := Lib.hid hn
    clear hr
    rw [← hn]
    clear hn hf2
    go_enter Try.func24, Try.ntmps24
    go_wp2
    go_loopg [5] xs.length (fun k v5 wr => samePGo w xs bs k v5 wr)
    case atStart => exact ⟨0, by omega, rfl, by simp, Below.refl _ _⟩
    case round =>
      obtain ⟨i, hk, rfl, hd, hB⟩ := hrel
      by_cases hil : i < xs.length
      · obtain ⟨x, hx⟩ : ∃ x, xs[i]? = some x := ⟨_, List.getElem?_eq_getElem hil⟩
        obtain ⟨y, hy⟩ : ∃ y, bs[i]? = some y := ⟨_, List.getElem?_eq_getElem (by rw [← HN0.out]; exact hil)⟩
        obtain ⟨ad, rfl, hit, _, hc⟩ := HR.out i x hx
        obtain ⟨ad2, rfl, hit2, _, hc2⟩ := HR2.out i y hy
        have hgk := Lib.hid (show gk - 1 < gk by omega)
        have hbs := hB.size
        have j1 : (i : Int) < (xs.length : Int) := by omega
        have j2 : (0 : Int) ≤ (i : Int) := by omega
        have HSame : Hid (x.core = y.core → ∀ X : Later wr, samePGo w xs bs (gk - 1) (.int .i64 ((i + 1 : Nat) : Int)) X.world) := fun e X => ⟨i + 1, by omega, rfl, by rw [take_nextR xs hx, take_nextR bs hy, List.map_append, List.map_append, hd]; simp [e], hB.trans (X.kept.mono hbs)⟩
        have HDiff : Hid (x.core ≠ y.core → r = false ∧ ∀ X : Later wr, Below w.heap.size w X.world) := fun hne => ⟨by
          rw [← HRe.out]
          refine decide_eq_false (fun h => hne ?_)
          have e := congrArg (fun l => l[i]?) h
          simp only [List.getElem?_map, hx, hy, Option.map_some, Option.some.injEq] at e
          exact e, fun X => hB.trans (X.kept.mono hbs)⟩
        obtain ⟨ep1, co1, se1, ⟨A3, q3, l3⟩⟩ := x
        obtain ⟨ep2, co2, se2, ⟨A4, q4, l4⟩⟩ := y
        have hXB : ∀ X : Later wr, Below w.heap.size w X.world := fun X => hB.trans (X.kept.mono hbs)
        have HSmB : Hid (∀ X : Later wr, Calls Try.prog 18 #[.slice A3 l3.length q3, .slice A4 l4.length q4] X.world (One X.world (.bool (decide (l3 = l4))))) := fun X => same_calls ⟨A3, q3, l3⟩ ⟨A4, q4, l4⟩ X.world (hit.below (hXB X)) (hit2.below (hXB X))
        have a0 : ∀ X : Later wr, X.world.cell? (ad.add (i * 4)) = some (.int .i64 ep1) := fun X => (hc X.world (hXB X)).1
        have a1 : ∀ X : Later wr, X.world.cell? (⟨(ad.add (i * 4)).block, (ad.add (i * 4)).off + 1, none⟩) = some (.int .i64 co1) := fun X => (hc X.world (hXB X)).2.1
        have a2 : ∀ X : Later wr, X.world.cell? (⟨(ad.add (i * 4)).block, (ad.add (i * 4)).off + 2, none⟩) = some (.int .i64 se1) := fun X => (hc X.world (hXB X)).2.2.1
        have a3 : ∀ X : Later wr, X.world.cell? ⟨(ad.add (i * 4)).block, (ad.add (i * 4)).off + 3, none⟩ = some (.slice A3 l3.length q3) := fun X => (hc X.world (hXB X)).2.2.2
        have b0 : ∀ X : Later wr, X.world.cell? (ad2.add (i * 4)) = some (.int .i64 ep2) := fun X => (hc2 X.world (hXB X)).1
        have b1 : ∀ X : Later wr, X.world.cell? (⟨(ad2.add (i * 4)).block, (ad2.add (i * 4)).off + 1, none⟩) = some (.int .i64 co2) := fun X => (hc2 X.world (hXB X)).2.1
        have b2 : ∀ X : Later wr, X.world.cell? (⟨(ad2.add (i * 4)).block, (ad2.add (i * 4)).off + 2, none⟩) = some (.int .i64 se2) := fun X => (hc2 X.world (hXB X)).2.2.1
        have b3 : ∀ X : Later wr, X.world.cell? ⟨(ad2.add (i * 4)).block, (ad2.add (i * 4)).off + 3, none⟩ = some (.slice A4 l4.length q4) := fun X => (hc2 X.world (hXB X)).2.2.2
        by_cases e0 : ep1 = ep2
        case neg =>
          obtain ⟨rfl, hbX⟩ := HDiff.out (fun e => e0 (by simp only [Pt.core, Prod.mk.injEq] at e; exact e.1))
          have HN : Hid (∀ X : Later wr, One w (.bool false) (.returned (.bool false)) X.world) := fun X => ⟨rfl, hbX X⟩
          have ne0 : (ep1 == ep2) = false := by rw [beq_eq_false_iff_ne]; exact e0
          clear hk hd hx hy hB hit hit2 hc hc2 hbs hXB HSmB HSame HDiff hil hbX
          go_wp2
          refine wp_region_later (by kernel_rfl) (by kernel_rfl) ?_
          repeat
            (refine Quietly.step (fun K hK => ?_)
             go_simp
             first
               | (refine hK _ ?_)
             clear hK K)
          refine Quietly.none ?_
          rintro w5 ⟨X, rfl⟩
          have HF := Lib.hid (HN.out X)
          clear HN
          go_wp2
          go_ret
          exact HF.out
        subst e0
        by_cases e1 : co1 = co2
        case neg =>
          obtain ⟨rfl, hbX⟩ := HDiff.out (fun e => e1 (by simp only [Pt.core, Prod.mk.injEq] at e; exact e.2.1))
          have HN : Hid (∀ X : Later wr, One w (.bool false) (.returned (.bool false)) X.world) := fun X => ⟨rfl, hbX X⟩
          have ne1 : (co1 == co2) = false := by rw [beq_eq_false_iff_ne]; exact e1
          clear hk hd hx hy hB hit hit2 hc hc2 hbs hXB HSmB HSame HDiff hil hbX
          go_wp2
          refine wp_region_later (by kernel_rfl) (by kernel_rfl) ?_
          repeat
            (refine Quietly.step (fun K hK => ?_)
             go_simp
             first
               | (refine hK _ ?_)
             clear hK K)
          refine Quietly.none ?_
          rintro w5 ⟨X, rfl⟩
          have HF := Lib.hid (HN.out X)
          clear HN
          go_wp2
          go_ret
          exact HF.out
        subst e1
        by_cases e2 : se1 = se2
        case neg =>
          obtain ⟨rfl, hbX⟩ := HDiff.out (fun e => e2 (by simp only [Pt.core, Prod.mk.injEq] at e; exact e.2.2.1))
          have HN : Hid (∀ X : Later wr, One w (.bool false) (.returned (.bool false)) X.world) := fun X => ⟨rfl, hbX X⟩
          have ne2 : (se1 == se2) = false := by rw [beq_eq_false_iff_ne]; exact e2
          clear hk hd hx hy hB hit hit2 hc hc2 hbs hXB HSmB HSame HDiff hil hbX
          go_wp2
          refine wp_region_later (by kernel_rfl) (by kernel_rfl) ?_
          repeat
            (refine Quietly.step (fun K hK => ?_)
             go_simp
             first
               | (refine hK _ ?_)
             clear hK K)
          refine Quietly.none ?_
          rintro w5 ⟨X, rfl⟩
          have HF := Lib.hid (HN.out X)
          clear HN
          go_wp2
          go_ret
          exact HF.out
        subst e2
        by_cases el : l3 = l4
        · have HSm := HSmB.out
          rw [decide_eq_true el] at HSm
          have HSm := Lib.hid HSm
          have HN := Lib.hid (HSame.out (by simp only [Pt.core, el]))
          clear hk hd hx hy hB hit hit2 hc hc2 hbs hXB HSmB HSame HDiff hil el
          go_wp2
          refine wp_region_later (by kernel_rfl) (by kernel_rfl) ?_
          repeat
            (refine Quietly.step (fun K hK => ?_)
             go_simp
             first
               | (refine hK _ ?_)
               | (refine ⟨_, fun X => ((HSm.out X).mono (fun e w' h => ⟨h.1, ⟨w', X.kept.trans (h.2.mono X.kept.size)⟩, rfl⟩)), ?_⟩; refine hK _ ?_)
             clear hK K)
          refine Quietly.none ?_
          rintro w5 ⟨X, rfl⟩
          have HF := Lib.hid (HN.out X)
          clear HN
          go_wp2
          go_roundg (gk - 1)
          case measure => exact hgk.out
          case rel => exact HF.out
        · have HSm := HSmB.out
          rw [decide_eq_false el] at HSm
          have HSm := Lib.hid HSm
          obtain ⟨rfl, hbX⟩ := HDiff.out (fun e => el (by simp only [Pt.core, Prod.mk.injEq] at e; exact e.2.2.2))
          have HN : Hid (∀ X : Later wr, One w (.bool false) (.returned (.bool false)) X.world) := fun X => ⟨rfl, hbX X⟩
          clear hk hd hx hy hB hit hit2 hc hc2 hbs hXB HSmB HSame HDiff hil el hbX
          go_wp2
          refine wp_region_later (by kernel_rfl) (by kernel_rfl) ?_
          repeat
            (refine Quietly.step (fun K hK => ?_)
             go_simp
             first
               | (refine hK _ ?_)
               | (refine ⟨_, fun X => ((HSm.out X).mono (fun e w' h => ⟨h.1, ⟨w', X.kept.trans (h.2.mono X.kept.size)⟩, rfl⟩)), ?_⟩; refine hK _ ?_)
             clear hK K)
          refine Quietly.none ?_
          rintro w5 ⟨X, rfl⟩
          have HF := Lib.hid (HN.out X)
          clear HN
          go_wp2
          go_ret
          exact HF.out
      · have hrt : r = true := by
          rw [← HRe.out]
          refine decide_eq_true ?_
          have hi : i = xs.length := by omega
          rw [hi, List.take_length, HN0.out, List.take_length] at hd
          exact hd
        subst hrt
        have HB := Lib.hid hB
        have j1 : ¬ ((i : Int) < (xs.length : Int)) := by omega
        clear hk hd hB
        go_wp2
        go_ret
        exact ⟨rfl, HB.out⟩
  · have e : decide (xs.map Pt.core = bs.map Pt.core) = false := decide_eq_false (fun h => hn (by have := congrArg List.length h; simpa using this))
    have hn2 : ¬ (xs.length : Int) = (bs.length : Int) := by omega
    rw [e]
    clear e
    generalize xs.length = n at *
    generalize bs.length = m at *
    go_enter Try.func24, Try.ntmps24
    go_wp2
    go_ret
    exact ⟨rfl, Below.refl _ _⟩
end Go.Proofs.Ytkalmfhebffklaa.L11
end
