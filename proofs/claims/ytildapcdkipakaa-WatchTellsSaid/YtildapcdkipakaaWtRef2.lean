/- Contracts of the document's own watch: Hear and There. -/
import Derived.Test.YtildapcdkipakaaWtRef
namespace Go.Proofs.Ytildapcdkipakaa.L9
open Go.ChangeShapes Go.WideShapes Go.ChangeAt Go.RowKit Go.Deep

def hearD (now : Int) (H : List Int) (p : Int) : List Int := if 1 ≤ p ∧ p ≤ 8 then H.set (p - 1).toNat now else H
/-- Only the row of when each was heard has changed. -/
def RHeard (w : World) (B d : Nat) (vh : Value) (me lim now : Int) (H : List Int) (e : Ending) (w' : World) : Prop := e = .returned (.tuple #[]) ∧ DAt w' B d vh me lim now H ∧ w.grownBy w' vh.ownBlock
theorem DAt.drew {w : World} {B d : Nat} {vh : Value} {me lim now : Int} {H : List Int} (h : DAt w B d vh me lim now H) : DAt w.drew B d vh me lim now H := h.below (Below.refl _ _).drew
set_option maxRecDepth 100000 in
set_option maxHeartbeats 2000000 in
theorem RHear_calls {w : World} {B d : Nat} {vh : Value} {me lim now : Int} {H : List Int} (h : DAt w B d vh me lim now H) (hl : H.length = 8) (p : Int) (hp : isInt p) : Calls Try.prog 24 #[.pointer (some ⟨d, 0, none⟩), .int .i64 p] w (RHeard w B d vh me lim now (hearD now H p)) := by
  have hrow := h.row
  rw [hl] at hrow
  obtain ⟨q, c, rfl, _⟩ := own_eight hrow
  by_cases hp1 : 1 ≤ p
  · by_cases hp8 : p ≤ 8
    · obtain ⟨i, rfl⟩ : ∃ i : Nat, p = (i : Int) + 1 := ⟨(p - 1).toNat, by omega⟩
      have hi : i < 8 := by omega
      have j0 : (1 : Int) ≤ (i : Int) + 1 := by omega
      have j2 : (0 : Int) ≤ (i : Int) := by omega
      have j3 : (i : Int) < 8 := by omega
      have j4 : (i : Int) + 1 ≤ 8 := by omega
      have jw : IntKind.i64.wrap ((i : Int) + 1 - 1) = (i : Int) := by rw [IntKind.wrap_i64]; omega
      have jw2 : IntKind.i64.wrap (i : Int) = (i : Int) := by rw [IntKind.wrap_i64]; omega
      have e : hearD now H ((i : Int) + 1) = H.set i now := by
        unfold hearD
        rw [if_pos (by omega)]
        congr 1
        omega
      rw [e]
      have hc := own_cell hrow.drew hi hl
      obtain ⟨x0, x1, x2, x3, _, _⟩ := h.cells
      have g2 := hc.1
      have g3 := hc.2
      have hqd : q ≠ d := fun e => h.apart (by rw [e]; rfl)
      have HF : Hid (RHeard w B d (.slice (some ⟨q, 0, none⟩) 8 c) me lim now (H.set i now) (.returned (.tuple #[])) (w.setCell ⟨q, i, none⟩ (.int .i64 now)).drew) := by
        have hst := own_store hrow.drew i now
        refine ⟨rfl, ⟨h.low, (other_blk (W := w.drew) (fun e => hqd e.symm) _).trans h.blk, ?_⟩, ?_⟩
        · rw [List.length_set, hl]
          exact hst
        · exact ⟨rfl, rfl, rfl, by show _ ≤ (w.drew.setCell _ _).heap.size; simp [World.setCell], fun k _ hk => other_blk (W := w.drew) (fun e => hk (by rw [e]; rfl)) _⟩
      clear h hrow e hc hqd hp1 hp8 hp
      go_enter Try.func24, Try.ntmps24
      go_wp2
      go_region_law (fail)
      all_goals
        go_wp2
        refine bodyPost_end (results_none rfl _ _ _) rfl ?_
        exact HF.out
    · have e : hearD now H p = H := by unfold hearD; rw [if_neg (by omega)]
      rw [e]
      have HF : Hid (RHeard w B d (.slice (some ⟨q, 0, none⟩) 8 c) me lim now H (.returned (.tuple #[])) w) := ⟨rfl, h, rfl, rfl, rfl, Nat.le_refl _, fun _ _ _ => rfl⟩
      clear h hrow e hp
      go_enter Try.func24, Try.ntmps24
      go_wp2
      refine bodyPost_end (results_none rfl _ _ _) rfl ?_
      exact HF.out
  · have e : hearD now H p = H := by unfold hearD; rw [if_neg (by omega)]
    rw [e]
    have HF : Hid (RHeard w B d (.slice (some ⟨q, 0, none⟩) 8 c) me lim now H (.returned (.tuple #[])) w) := ⟨rfl, h, rfl, rfl, rfl, Nat.le_refl _, fun _ _ _ => rfl⟩
    clear h hrow e hp
    go_enter Try.func24, Try.ntmps24
    go_wp2
    refine bodyPost_end (results_none rfl _ _ _) rfl ?_
    exact HF.out
/-- What the document's Quiet tells of all eight. -/
def quiets (me lim now : Int) (H : List Int) : List Int := (List.range 8).map (quietD me lim now H)
theorem quiets_get (me lim now : Int) (H : List Int) {j : Nat} (hj : j < 8) : (quiets me lim now H).getD j 0 = quietD me lim now H j := by
  unfold quiets
  rw [List.getD, List.getElem?_map, List.getElem?_range hj]
  rfl
def RThereGo (w : World) (lim : Int) (L : List Int) (k : Nat) (v3 v4 : Value) (wr : World) : Prop := ∃ i : Nat, k + i = 8 ∧ v4 = .int .i64 ((i : Int) + 1) ∧ wr.ownsRow w.heap.size 3 1 v3 (thereTo lim L i).length (ints (thereTo lim L i)) ∧ Below w.heap.size w wr
set_option maxRecDepth 100000 in
set_option maxHeartbeats 4000000 in
theorem RThere_calls {w : World} {B d : Nat} {vh : Value} {me lim now : Int} {H : List Int} (h : DAt w B d vh me lim now H) (hH : HOk now H) (hl : 1 ≤ lim ∧ lim ≤ 100) : Calls Try.prog 27 #[.pointer (some ⟨d, 0, none⟩)] w (OutRow w (thereL lim (quiets me lim now H))) := by
  obtain ⟨i0, hi0, hz0, hz1, hz2⟩ := info_parts9 info_int
  have hlt := h.lt
  have HQ : Hid (∀ wr : World, Below w.heap.size w wr → ∀ j : Nat, j < 8 → ∀ V : World, Below wr.heap.size wr V → Calls Try.prog 28 #[.pointer (some ⟨d, 0, none⟩), .int .i64 ((j : Int) + 1)] V fun e w' => e = .returned (.int .i64 (quietD me lim now H j)) ∧ w'.cell? ⟨d, 1, none⟩ = some (.int .i64 lim) ∧ Below wr.heap.size wr w') := fun wr hwr j hj V hV => by
    have hV0 : Below w.heap.size w V := hwr.trans (hV.mono hwr.size)
    refine (RQuiet_calls (h.below hV0) hH hl j hj).mono ?_
    rintro e w' ⟨rfl, b⟩
    exact ⟨rfl, ((h.below hV0).below b).cells.2.1, hV.trans (b.mono hV.size)⟩
  have HD := Lib.hid (fun wr (hwr : Below w.heap.size w wr) => (h.below hwr).cells.2.1)
  generalize hLL : quiets me lim now H = L
  have HG : Hid (∀ j, j < 8 → quietD me lim now H j = L.getD j 0) := fun j hj => by rw [← hLL, quiets_get _ _ _ _ hj]
  clear h hH hLL
  go_enter Try.func27, Try.ntmps27
  go_wp2
  go_loopg [3, 4] 8 (fun k v3 v4 wr => RThereGo w lim L k v3 v4 wr)
  case atStart => exact ⟨0, rfl, rfl, World.ownsRow_nil _ _ _ _, Below.refl _ _⟩
  case round =>
    obtain ⟨i, hk, rfl, hrow, hb⟩ := hrel
    obtain ⟨a3, c3, rfl⟩ := L5.own_slice hrow
    by_cases hi : i < 8
    · have j1 : (i : Int) + 1 ≤ 8 := by omega
      have hxx := HG.out i hi
      obtain ⟨x, hx⟩ : ∃ x, L.getD i 0 = x := ⟨_, rfl⟩
      rw [hx] at hxx
      have HC : Hid (∀ V : World, Below wr.heap.size wr V → Calls Try.prog 28 #[.pointer (some ⟨d, 0, none⟩), .int .i64 ((i : Int) + 1)] V fun e w' => e = .returned (.int .i64 x) ∧ w'.cell? ⟨d, 1, none⟩ = some (.int .i64 lim) ∧ Below wr.heap.size wr w') := by
        have := HQ.out wr hb i hi
        rw [hxx] at this
        exact this
      have x1 := HD.out wr hb
      have HM := Lib.hid (show 8 - (i + 1) < gk by omega)
      have HKK := Lib.hid (show 8 - (i + 1) + (i + 1) = 8 by omega)
      have HR := Lib.hid (And.intro hrow hb)
      have hbl : Below wr.heap.size wr wr.drew := (Below.refl _ _).drew
      have hle := thereTo_len lim L i
      by_cases hxl : x ≤ lim
      · have hstep : thereTo lim L (i + 1) = thereTo lim L i ++ [(i : Int) + 1] := by
          show (if _ then _ else _) = _
          rw [if_pos (by rw [hx]; exact hxl)]
        have HS := Lib.hid hstep
        have HIn : Hid (∀ V : World, Below wr.heap.size wr V → (V.alloc (.cells #[.int .i64 ((i : Int) + 1)] 3)).ownsRow w.heap.size 3 1 (.slice a3 (thereTo lim L i).length c3) (thereTo lim L i).length (ints (thereTo lim L i)) ∧ w.heap.size ≤ V.heap.size ∧ ∀ v2 w6, w6.ownsRow w.heap.size 3 1 v2 ((thereTo lim L i).length + 1) (ints (thereTo lim L i) ++ [.int .i64 ((i : Int) + 1)]) → (V.alloc (.cells #[.int .i64 ((i : Int) + 1)] 3)).grownBy w6 (Value.slice a3 (thereTo lim L i).length c3).ownBlock → RThereGo w lim L (8 - (i + 1)) v2 (.int .i64 ((i : Int) + 1 + 1)) w6) := fun V hV => by
          have hVs := HR.out.2.size
          have hVV := HR.out.2.trans (hV.mono hVs)
          refine ⟨(L5.own_below HR.out.1 hV).alloc _, hVV.size, fun v2 w6 q1 q2 => ⟨i + 1, HKK.out, by simp, ?_, ?_⟩⟩
          · rw [HS.out, List.length_append]
            simpa [ints] using q1
          · exact (hVV.alloc hVV.size _).grown q2 (by have := hVV.size; simp; omega) (fun q e => (HR.out.1.lt q e).1)
        clear hx hxx hrow hb hstep hk
        go_wp2
        go_region_held3 (fun w' => w'.cell? ⟨d, 1, none⟩ = some (.int .i64 lim) ∧ Below wr.heap.size wr w') ((first | exact ⟨x1, hbl⟩ | (go_split_ands; refine ⟨?_, ?_⟩ <;> assumption)))
          ((go_at_call 28; refine (HC.out _ (by first | exact hbl | assumption)).mono ?_; rintro e w7 ⟨rfl, f7, b7⟩))
        obtain ⟨HO, HSz, HFin⟩ := HIn.out _ b7
        have HO := Lib.hid HO
        have HSz := Lib.hid HSz
        have HFin := Lib.hid HFin
        clear HIn b7 f7 x1 hbl
        go_wp2_with (at_builtin; refine wpList_append_own_at _ rfl _ _ 53 rfl w.heap.size 3 i0 _ 1 8 Try.underlying53 hi0 hz0 hz1 hz2 rfl (by decide) _ _ _ rfl HO.out ⟨w7.heap.size, 0, none⟩ 1 1 [.int .i64 ((i : Int) + 1)] rfl rfl (cell_one_new _ _ _) (by simp [Value.oneCell']) (by unfold maxLen; omega) (by omega) (by have := HSz.out; simp; omega) ?_; intro v2 w6 hown6 hgrow6 hnil6 hat6; have HF := Lib.hid (HFin.out v2 w6 hown6 hgrow6); clear hown6 hgrow6 hnil6 hat6)
        go_roundg (8 - (i + 1))
        case measure => exact HM.out
        case rel => simpa using HF.out
      · have hstep : thereTo lim L (i + 1) = thereTo lim L i := by
          show (if _ then _ else _) = _
          rw [if_neg (by rw [hx]; exact hxl)]
        have j4 : lim < x := by omega
        have HF : Hid (∀ V : World, Below wr.heap.size wr V → RThereGo w lim L (8 - (i + 1)) (.slice a3 (thereTo lim L i).length c3) (.int .i64 ((i : Int) + 1 + 1)) V) := fun V hV => ⟨i + 1, HKK.out, by simp, by rw [hstep]; exact L5.own_below HR.out.1 hV, HR.out.2.trans (hV.mono HR.out.2.size)⟩
        clear hx hxx hrow hb hstep hk
        go_wp2
        go_region_held3 (fun w' => w'.cell? ⟨d, 1, none⟩ = some (.int .i64 lim) ∧ Below wr.heap.size wr w') ((first | exact ⟨x1, hbl⟩ | (go_split_ands; refine ⟨?_, ?_⟩ <;> assumption)))
          ((go_at_call 28; refine (HC.out _ (by first | exact hbl | assumption)).mono ?_; rintro e w7 ⟨rfl, f7, b7⟩))
        have HF2 := Lib.hid (HF.out _ b7)
        clear b7 f7 x1 hbl HF
        go_wp2
        go_roundg (8 - (i + 1))
        case measure => exact HM.out
        case rel => simpa using HF2.out
    · have j1 : ¬ (i : Int) + 1 ≤ 8 := by omega
      obtain rfl : i = 8 := by omega
      have HF : Hid (OutRow w (thereL lim L) (.returned (.slice a3 (thereTo lim L 8).length c3)) wr) := ⟨_, rfl, hrow, hb⟩
      clear hrow hb hk
      go_wp2
      go_ret
      exact HF.out
end Go.Proofs.Ytildapcdkipakaa.L9
