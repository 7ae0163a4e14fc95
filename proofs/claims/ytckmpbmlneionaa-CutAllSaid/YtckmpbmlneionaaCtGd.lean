/- Contracts of cut.isProcess, cut.rightOld, cut.rightLogs and cut.rightParts. Contract of cut.rightParts. Contract of cut.join: numbers, and items behind them, as one row; append of a row of texts onto an own one, whatever the source. Contract of cut.Put: logs as terms. Contract of cut.Parts: parts as terms. -/
import Derived.Test.YtckmpbmlneionaaCtGc
import Derived.IntWalk
import Derived.Test.YtckmpbmlneionaaCtGb
import Derived.Test.YtckmpbmlneionaaLater
import Derived.Test.YtckmpbmlneionaaLPut
import Derived.SliceStrings
import Derived.ChangeSlices
section
namespace Go.Proofs.Ytckmpbmlneionaa.L11
open Go.ChangeShapes Go.WideShapes Go.ChangeAt Go.RowKit Go.Deep

theorem proc_calls (p : Int) (w : World) : Calls Try.prog 53 #[.int .i64 p] w fun e w' => e = .returned (.bool (decide (1 ≤ p ∧ p ≤ 8))) ∧ w = w' := by
  by_cases h1 : 1 ≤ p
  · by_cases h2 : p ≤ 8
    · rw [decide_eq_true (And.intro h1 h2)]
      have h1' : p ≥ 1 := h1
      go_enter Try.func53, Try.ntmps53
      go_wp2
      go_ret
      exact ⟨rfl, rfl⟩
    · rw [decide_eq_false (fun h => h2 h.2)]
      have h1' : p ≥ 1 := h1
      go_enter Try.func53, Try.ntmps53
      go_wp2
      go_ret
      exact ⟨rfl, rfl⟩
  · rw [decide_eq_false (fun h => h1 h.1)]
    have h1' : ¬ p ≥ 1 := h1
    go_enter Try.func53, Try.ntmps53
    go_wp2
    go_ret
    exact ⟨rfl, rfl⟩
def OldOk (e c : Int) : Prop := 0 ≤ e ∧ e ≤ 2147483647 ∧ 0 ≤ c ∧ c ≤ 8
instance (e c : Int) : Decidable (OldOk e c) := by unfold OldOk; exact inferInstance
set_option maxHeartbeats 1000000 in
theorem old_calls (e c : Int) (w : World) : Calls Try.prog 57 #[.agg #[.int .i64 e, .int .i64 c]] w (One w (.bool (decide (OldOk e c)))) := by
  have hb : Below w.heap.size w (w.alloc (.cells #[.int .i64 e, .int .i64 c] 55)) := (Below.refl _ w).alloc (Nat.le_refl _) _
  by_cases h1 : e ≥ 0
  · by_cases h2 : e ≤ 2147483647
    · by_cases h3 : c ≥ 0
      · by_cases h4 : c ≤ 8
        · rw [decide_eq_true (show OldOk e c from ⟨h1, h2, h3, h4⟩)]
          go_enter Try.func57, Try.ntmps57
          go_wp2
          go_ret
          exact ⟨rfl, hb⟩
        · rw [decide_eq_false (fun h => h4 h.2.2.2)]
          go_enter Try.func57, Try.ntmps57
          go_wp2
          go_ret
          exact ⟨rfl, hb⟩
      · rw [decide_eq_false (fun h => h3 h.2.2.1)]
        go_enter Try.func57, Try.ntmps57
        go_wp2
        go_ret
        exact ⟨rfl, hb⟩
    · rw [decide_eq_false (fun h => h2 h.2.1)]
      go_enter Try.func57, Try.ntmps57
      go_wp2
      go_ret
      exact ⟨rfl, hb⟩
  · rw [decide_eq_false (fun h => h1 h.1)]
    go_enter Try.func57, Try.ntmps57
    go_wp2
    go_ret
    exact ⟨rfl, hb⟩
/-- What is right at place i. -/
def LogOk (lc : List LCore) (i : Nat) : Prop := ∀ c, lc[i]? = some c → 1 ≤ c.1 ∧ c.1 ≤ 8 ∧ c.2 ≠ [] ∧ ∀ d, 0 < i → lc[i - 1]? = some d → d.1 < c.1
def OkLogs (lc : List LCore) : Prop := ∀ i, LogOk lc i
def RightGo (w : World) (P : Nat → Prop) (n k : Nat) (vi : Value) (wr : World) : Prop := ∃ i : Nat, k + i = n ∧ vi = .int .i64 i ∧ (∀ j, j < i → P j) ∧ Below w.heap.size w wr
def YesNo (w : World) (P : Prop) (e : Ending) (w' : World) : Prop := ∃ b : Bool, e = .returned (.bool b) ∧ (b = true ↔ P) ∧ Below w.heap.size w w'
set_option maxRecDepth 100000 in
set_option maxHeartbeats 4000000 in
theorem rightLogs_calls {v : Value} {ls : List Lg} (w : World) (h : LogsA w v ls) : Calls Try.prog 37 #[v] w (YesNo w (OkLogs (ls.map Lg.core))) := by
  obtain ⟨A, c, rfl, hf, hr⟩ := logs_read h
  have HR := Lib.hid hr
  have HPr := Lib.hid (fun p V => proc_calls p V)
  unfold maxLen at hf
  clear h hr
  go_enter Try.func37, Try.ntmps37
  go_wp2
  go_loopg [7] ls.length (fun k v7 wr => RightGo w (LogOk (ls.map Lg.core)) ls.length k v7 wr)
  case atStart => exact ⟨0, by omega, rfl, by omega, Below.refl _ _⟩
  case round =>
    obtain ⟨i, hk, rfl, hpre, hB⟩ := hrel
    by_cases hil : i < ls.length
    · obtain ⟨l, hx⟩ : ∃ l, ls[i]? = some l := ⟨_, List.getElem?_eq_getElem hil⟩
      obtain ⟨ad, rfl, hit, hse, hc⟩ := HR.out i l hx
      obtain ⟨c0, c1⟩ := hc wr hB
      have j1 : (i : Int) < (ls.length : Int) := by omega
      have j2 : (0 : Int) ≤ (i : Int) := by omega
      have hgk := Lib.hid (show gk - 1 < gk by omega)
      have hbs := hB.size
      have hcx : (ls.map Lg.core)[i]? = some l.core := by rw [List.getElem?_map, hx]; rfl
      obtain ⟨se, ⟨A3, c3, l3⟩⟩ := l
      simp only [It.v] at c0 c1 hse
      obtain ⟨W1, hW1⟩ : ∃ W1, wr.alloc (.cells #[.int .i64 se, .slice A3 l3.length c3] 76) = W1 := ⟨_, rfl⟩
      obtain ⟨p1, b1, s1⟩ := box_new hW1
      have d0 : W1.cell? ⟨wr.heap.size, 0, none⟩ = some (.int .i64 se) := box_cell p1 0
      have d1 : W1.cell? ⟨wr.heap.size, 1, none⟩ = some (.slice A3 l3.length c3) := box_cell p1 1
      have hB1 : Below w.heap.size w W1 := hB.trans (b1.mono hbs)
      have HNo : Hid (¬ LogOk (ls.map Lg.core) i → ∀ q, YesNo w (OkLogs (ls.map Lg.core)) (.returned (.bool false)) (W1.drewN q)) := fun hno q => ⟨false, rfl, ⟨(fun e => by cases e), fun h => absurd (h i) hno⟩, hB1.trans (L5.below_drewN (Below.refl _ _) q)⟩
      have HYes : Hid (LogOk (ls.map Lg.core) i → ∀ q, RightGo w (LogOk (ls.map Lg.core)) ls.length (gk - 1) (.int .i64 ((i + 1 : Nat) : Int)) (W1.drewN q)) := fun hyes q => ⟨i + 1, by omega, rfl, (fun j hj => by
        rcases Nat.lt_succ_iff_lt_or_eq.1 hj with h | h
        · exact hpre j h
        · rw [h]; exact hyes), hB1.trans (L5.below_drewN (Below.refl _ _) q)⟩
      by_cases h1 : 1 ≤ se ∧ se ≤ 8
      · have HP1 := HPr.out se
        rw [decide_eq_true h1] at HP1
        have HP1 := Lib.hid HP1
        by_cases h2 : l3.length = 0
        · have HN := Lib.hid (HNo.out (fun hl => by obtain ⟨_, _, k3, _⟩ := hl _ hcx; exact k3 (List.eq_nil_of_length_eq_zero h2)))
          rw [h2] at hW1 d1 c1
          clear hk hpre hB hil hx hit hse hc hcx p1 b1 s1 hB1 HNo HYes h1 hbs h2
          go_wp2
          refine region_stillC (by kernel_rfl) (by kernel_rfl) ?_
          repeat
            (refine Quietly.step (fun K hK => ?_)
             go_simp
             first
               | (refine hK _ ?_)
               | (refine ⟨_, fun q => ((HP1.out (W1.drewN q)).mono (fun e w' h => ⟨h.1, q, h.2.symm⟩)), ?_⟩; refine hK _ ?_)
             clear hK K)
          refine Quietly.none ?_
          rintro w5 ⟨nq, rfl⟩
          have HF := Lib.hid (HN.out nq)
          clear HN
          go_wp2
          go_ret
          exact HF.out
        · have g2 : ((l3.length : Int) == 0) = false := by rw [beq_eq_false_iff_ne]; omega
          have hl3 : l3 ≠ [] := fun e => h2 (by rw [e]; rfl)
          by_cases h3 : i = 0
          · have g3 : Hid (decide (0 < i) = false) := Lib.hid (by subst h3; rfl)
            have HN := Lib.hid (HYes.out (fun c hc => by rw [hcx] at hc; cases hc; exact ⟨h1.1, h1.2, hl3, fun d hd => absurd hd (by omega)⟩))
            clear hk hpre hB hil hx hit hse hc hcx p1 b1 s1 hB1 HNo HYes h1 hbs h2 hl3 h3
            go_wp2
            refine region_stillC (by kernel_rfl) (by kernel_rfl) ?_
            repeat
              (refine Quietly.step (fun K hK => ?_)
               go_simp
               try rw [g3.out]
               first
                 | (refine hK _ ?_)
                 | (refine ⟨_, fun q => ((HP1.out (W1.drewN q)).mono (fun e w' h => ⟨h.1, q, h.2.symm⟩)), ?_⟩; refine hK _ ?_)
               clear hK K)
            refine Quietly.none ?_
            rintro w5 ⟨nq, rfl⟩
            have HF := Lib.hid (HN.out nq)
            clear HN
            go_wp2
            go_roundg (gk - 1)
            case measure => exact hgk.out
            case rel => exact HF.out
          · obtain ⟨m, rfl⟩ : ∃ m, i = m + 1 := ⟨i - 1, by omega⟩
            obtain ⟨y, hy⟩ : ∃ y, ls[m]? = some y := ⟨_, List.getElem?_eq_getElem (by omega)⟩
            obtain ⟨ad', e', _, _, hcy⟩ := HR.out m y hy
            cases e'
            have y0 : W1.cell? (ad.add (m * 2)) = some (.int .i64 y.se) := (hcy W1 hB1).1
            have hcy' : (ls.map Lg.core)[m]? = some y.core := by rw [List.getElem?_map, hy]; rfl
            have g3 : ((m : Int) + 1 > 0) := by omega
            have g4 : (0 : Int) ≤ (m : Int) := by omega
            have g5 : (m : Int) < (ls.length : Int) := by omega
            have g6 : IntKind.i64.wrap ((m : Int) + 1 - 1) = (m : Int) := by rw [show (m : Int) + 1 - 1 = (m : Int) by omega]; exact IntWalk.i64_in _ (by omega)
            have g7 : IntKind.i64.wrap (m : Int) = (m : Int) := IntWalk.i64_in _ (by omega)
            by_cases h4 : y.se < se
            · have g8 : ¬ y.se ≥ se := by omega
              have HN := Lib.hid (HYes.out (fun c hc => by
                rw [hcx] at hc; cases hc
                refine ⟨h1.1, h1.2, hl3, fun d _ hd => ?_⟩
                rw [show m + 1 - 1 = m by omega, hcy'] at hd
                cases hd
                exact h4))
              clear hk hpre hB hil hx hit hse hc hcx p1 b1 s1 hB1 HNo HYes h1 hbs h2 hl3 hy hcy hcy' h3 h4
              go_wp2
              refine region_stillC (by kernel_rfl) (by kernel_rfl) ?_
              repeat
                (refine Quietly.step (fun K hK => ?_)
                 go_simp
                 first
                   | (refine hK _ ?_)
                   | (refine ⟨_, fun q => ((HP1.out (W1.drewN q)).mono (fun e w' h => ⟨h.1, q, h.2.symm⟩)), ?_⟩; refine hK _ ?_)
                 clear hK K)
              refine Quietly.none ?_
              rintro w5 ⟨nq, rfl⟩
              have HF := Lib.hid (HN.out nq)
              clear HN
              go_wp2
              go_roundg (gk - 1)
              case measure => exact hgk.out
              case rel => exact HF.out
            · have g8 : y.se ≥ se := by omega
              have HN := Lib.hid (HNo.out (fun hl => by
                obtain ⟨_, _, _, k4⟩ := hl _ hcx
                exact h4 (k4 y.core (by omega) (by rw [show m + 1 - 1 = m by omega]; exact hcy'))))
              clear hk hpre hB hil hx hit hse hc hcx p1 b1 s1 hB1 HNo HYes h1 hbs h2 hl3 hy hcy hcy' h3 h4
              go_wp2
              refine region_stillC (by kernel_rfl) (by kernel_rfl) ?_
              repeat
                (refine Quietly.step (fun K hK => ?_)
                 go_simp
                 first
                   | (refine hK _ ?_)
                   | (refine ⟨_, fun q => ((HP1.out (W1.drewN q)).mono (fun e w' h => ⟨h.1, q, h.2.symm⟩)), ?_⟩; refine hK _ ?_)
                 clear hK K)
              refine Quietly.none ?_
              rintro w5 ⟨nq, rfl⟩
              have HF := Lib.hid (HN.out nq)
              clear HN
              go_wp2
              go_ret
              exact HF.out
      · have HP1 := HPr.out se
        rw [decide_eq_false h1] at HP1
        have HP1 := Lib.hid HP1
        have HN := Lib.hid (HNo.out (fun hl => h1 (by obtain ⟨k1, k2, _⟩ := hl _ hcx; exact ⟨k1, k2⟩)))
        clear hk hpre hB hil hx hit hse hc hcx p1 b1 s1 hB1 HNo HYes h1 hbs
        go_wp2
        refine region_stillC (by kernel_rfl) (by kernel_rfl) ?_
        repeat
          (refine Quietly.step (fun K hK => ?_)
           go_simp
           first
             | (refine hK _ ?_)
             | (refine ⟨_, fun q => ((HP1.out (W1.drewN q)).mono (fun e w' h => ⟨h.1, q, h.2.symm⟩)), ?_⟩; refine hK _ ?_)
           clear hK K)
        refine Quietly.none ?_
        rintro w5 ⟨nq, rfl⟩
        have HF := Lib.hid (HN.out nq)
        clear HN
        go_wp2
        go_ret
        exact HF.out
    · have j1 : ¬ (i : Int) < (ls.length : Int) := by omega
      have HF : Hid (YesNo w (OkLogs (ls.map Lg.core)) (.returned (.bool true)) wr) := ⟨true, rfl, ⟨fun _ j c hc => by
        have hj : j < ls.length := by have := (List.getElem?_eq_some_iff.1 hc).1; simpa using this
        exact hpre j (by omega) c hc, fun _ => rfl⟩, hB⟩
      clear hk hpre hB hil
      go_wp2
      go_ret
      exact HF.out
end Go.Proofs.Ytckmpbmlneionaa.L11
end

section
namespace Go.Proofs.Ytckmpbmlneionaa.L11
open Go.ChangeShapes Go.WideShapes Go.ChangeAt Go.RowKit Go.Deep

def aheadC (x y : Core) : Bool := lessB x.1 x.2.1 y.1 y.2.1 || (decide (x.1 = y.1 ∧ x.2.1 = y.2.1) && decide (x.2.2.1 < y.2.2.1))
theorem ahead_core (x y : Pt) : aheadC x.core y.core = aheadP x y := rfl
/-- What is right at place i. -/
def PartOk (pc : List Core) (i : Nat) : Prop := ∀ c, pc[i]? = some c → OldOk c.1 c.2.1 ∧ (1 ≤ c.2.2.1 ∧ c.2.2.1 ≤ 8) ∧ c.2.2.2 ≠ [] ∧ ∀ d, 0 < i → pc[i - 1]? = some d → aheadC d c = true
def OkParts (pc : List Core) : Prop := ∀ i, PartOk pc i
set_option maxRecDepth 100000 in
set_option maxHeartbeats 4000000 in
theorem rightParts_calls {v : Value} {ps : List Pt} (w : World) (h : PartsA w v ps) : Calls Try.prog 40 #[v] w (YesNo w (OkParts (ps.map Pt.core))) := by
  obtain ⟨A, c, rfl, hf, hr⟩ := parts_read h
  have HR := Lib.hid hr
  have HPr := Lib.hid (fun p V => proc_calls p V)
  have HOr := Lib.hid (fun e c V => old_calls e c V)
  have HDr := Lib.hid (fun x y V => order_calls x y V)
  unfold maxLen at hf
  clear h hr
  go_enter Try.func40, Try.ntmps40
  go_wp2
  go_loopg [7] ps.length (fun k v7 wr => RightGo w (PartOk (ps.map Pt.core)) ps.length k v7 wr)
  case atStart => exact ⟨0, by omega, rfl, by omega, Below.refl _ _⟩
  case round =>
    obtain ⟨i, hk, rfl, hpre, hB⟩ := hrel
    by_cases hil : i < ps.length
    · obtain ⟨p, hx⟩ : ∃ p, ps[i]? = some p := ⟨_, List.getElem?_eq_getElem hil⟩
      obtain ⟨ad, rfl, hit, hse, hc⟩ := HR.out i p hx
      obtain ⟨c0, c1, c2, c3⟩ := hc wr hB
      have j1 : (i : Int) < (ps.length : Int) := by omega
      have j2 : (0 : Int) ≤ (i : Int) := by omega
      have hgk := Lib.hid (show gk - 1 < gk by omega)
      have hbs := hB.size
      have hcx : (ps.map Pt.core)[i]? = some p.core := by rw [List.getElem?_map, hx]; rfl
      obtain ⟨ep, co, se, ⟨A3, cc3, l3⟩⟩ := p
      simp only [It.v] at c0 c1 c2 c3
      obtain ⟨W1, hW1⟩ : ∃ W1, wr.alloc (.cells #[.int .i64 ep, .int .i64 co, .int .i64 se, .slice A3 l3.length cc3] 60) = W1 := ⟨_, rfl⟩
      obtain ⟨p1, b1, s1⟩ := box_new hW1
      have hb : ∀ X : Later W1, ∀ j, X.world.cell? ⟨wr.heap.size, j, none⟩ = W1.cell? ⟨wr.heap.size, j, none⟩ := fun X j => X.kept.cell (p := ⟨wr.heap.size, j, none⟩) (by rw [s1]; exact Nat.lt_succ_self _)
      have d0 : ∀ X : Later W1, X.world.cell? ⟨wr.heap.size, 0, none⟩ = some (.int .i64 ep) := fun X => (hb X 0).trans (box_cell p1 0)
      have d1 : ∀ X : Later W1, X.world.cell? ⟨wr.heap.size, 1, none⟩ = some (.int .i64 co) := fun X => (hb X 1).trans (box_cell p1 1)
      have d2 : ∀ X : Later W1, X.world.cell? ⟨wr.heap.size, 2, none⟩ = some (.int .i64 se) := fun X => (hb X 2).trans (box_cell p1 2)
      have d3 : ∀ X : Later W1, X.world.cell? ⟨wr.heap.size, 3, none⟩ = some (.slice A3 l3.length cc3) := fun X => (hb X 3).trans (box_cell p1 3)
      have hB1 : Below w.heap.size w W1 := hB.trans (b1.mono hbs)
      have hBX : ∀ X : Later W1, Below w.heap.size w X.world := fun X => hB1.trans (X.kept.mono hB1.size)
      have HNo : Hid (¬ PartOk (ps.map Pt.core) i → ∀ X : Later W1, YesNo w (OkParts (ps.map Pt.core)) (.returned (.bool false)) X.world) := fun hno X => ⟨false, rfl, ⟨(fun e => by cases e), fun h => absurd (h i) hno⟩, hBX X⟩
      have HYes : Hid (PartOk (ps.map Pt.core) i → ∀ X : Later W1, RightGo w (PartOk (ps.map Pt.core)) ps.length (gk - 1) (.int .i64 ((i + 1 : Nat) : Int)) X.world) := fun hyes X => ⟨i + 1, by omega, rfl, (fun j hj => by
        rcases Nat.lt_succ_iff_lt_or_eq.1 hj with h | h
        · exact hpre j h
        · rw [h]; exact hyes), hBX X⟩
      have HO1 := HOr.out ep co
      by_cases h0 : OldOk ep co
      · rw [decide_eq_true h0] at HO1
        have HO1 := Lib.hid HO1
        have HP1 := HPr.out se
        by_cases h1 : 1 ≤ se ∧ se ≤ 8
        · rw [decide_eq_true h1] at HP1
          have HP1 := Lib.hid HP1
          by_cases h2 : l3.length = 0
          · have HN := Lib.hid (HNo.out (fun hl => by obtain ⟨_, _, k3, _⟩ := hl _ hcx; exact k3 (List.eq_nil_of_length_eq_zero h2)))
            rw [h2] at hW1 c3
            have d3' : ∀ X : Later W1, X.world.cell? ⟨wr.heap.size, 3, none⟩ = some (.slice A3 0 cc3) := fun X => by rw [d3 X, h2]
            clear d3
            clear hk hpre hB hil hx hit hse hc hcx p1 b1 s1 hB1 HNo HYes hbs hb hBX h1 h0 h2
            go_wp2
            refine wp_region_later (by kernel_rfl) (by kernel_rfl) ?_
            repeat
              (refine Quietly.step (fun K hK => ?_)
               go_simp
               first
                 | (refine hK _ ?_)
                 | (refine ⟨_, fun X => ((HO1.out X.world).mono (fun e w' h => ⟨h.1, ⟨w', X.kept.trans (h.2.mono X.kept.size)⟩, rfl⟩)), ?_⟩; refine hK _ ?_)
                 | (refine ⟨_, fun X => ((HP1.out X.world).mono (fun e w' h => ⟨h.1, X, h.2.symm⟩)), ?_⟩; refine hK _ ?_)
               clear hK K)
            refine Quietly.none ?_
            rintro w5 ⟨X, rfl⟩
            have HF := Lib.hid (HN.out X)
            clear HN 
            go_wp2
            go_ret
            exact HF.out
          · have g2 : ((l3.length : Int) == 0) = false := by rw [beq_eq_false_iff_ne]; omega
            have hl3 : l3 ≠ [] := fun e => h2 (by rw [e]; rfl)
            by_cases h3 : i = 0
            · have g3 : Hid (decide (0 < i) = false) := Lib.hid (by subst h3; rfl)
              have HN := Lib.hid (HYes.out (fun c hc => by rw [hcx] at hc; cases hc; exact ⟨h0, h1, hl3, fun d hd => absurd hd (by omega)⟩))
              clear hk hpre hB hil hx hit hse hc hcx p1 b1 s1 hB1 HNo HYes hbs hb hBX h1 h0 h2 hl3 h3
              go_wp2
              refine wp_region_later (by kernel_rfl) (by kernel_rfl) ?_
              repeat
                (refine Quietly.step (fun K hK => ?_)
                 go_simp
                 try rw [g3.out]
                 first
                   | (refine hK _ ?_)
                   | (refine ⟨_, fun X => ((HO1.out X.world).mono (fun e w' h => ⟨h.1, ⟨w', X.kept.trans (h.2.mono X.kept.size)⟩, rfl⟩)), ?_⟩; refine hK _ ?_)
                   | (refine ⟨_, fun X => ((HP1.out X.world).mono (fun e w' h => ⟨h.1, X, h.2.symm⟩)), ?_⟩; refine hK _ ?_)
                 clear hK K)
              refine Quietly.none ?_
              rintro w5 ⟨X, rfl⟩
              have HF := Lib.hid (HN.out X)
              clear HN 
              go_wp2
              go_roundg (gk - 1)
              case measure => exact hgk.out
              case rel => exact HF.out
            · obtain ⟨m, rfl⟩ : ∃ m, i = m + 1 := ⟨i - 1, by omega⟩
              obtain ⟨y, hy⟩ : ∃ y, ps[m]? = some y := ⟨_, List.getElem?_eq_getElem (by omega)⟩
              obtain ⟨ad', e', hity, _, hcy⟩ := HR.out m y hy
              cases e'
              have hcy' : (ps.map Pt.core)[m]? = some y.core := by rw [List.getElem?_map, hy]; rfl
              have y0 : ∀ X : Later W1, X.world.cell? (ad.add (m * 4)) = some (.int .i64 y.ep) := fun X => (hcy _ (hBX X)).1
              have y1 : ∀ X : Later W1, X.world.cell? ⟨(ad.add (m * 4)).block, (ad.add (m * 4)).off + 1, none⟩ = some (.int .i64 y.co) := fun X => (hcy _ (hBX X)).2.1
              have y2 : ∀ X : Later W1, X.world.cell? ⟨(ad.add (m * 4)).block, (ad.add (m * 4)).off + 2, none⟩ = some (.int .i64 y.se) := fun X => (hcy _ (hBX X)).2.2.1
              have y3 : ∀ X : Later W1, X.world.cell? ⟨(ad.add (m * 4)).block, (ad.add (m * 4)).off + 3, none⟩ = some y.it.v := fun X => (hcy _ (hBX X)).2.2.2
              have g3 : ((m : Int) + 1 > 0) := by omega
              have g4 : (0 : Int) ≤ (m : Int) := by omega
              have g5 : (m : Int) < (ps.length : Int) := by omega
              have g6 : IntKind.i64.wrap ((m : Int) + 1 - 1) = (m : Int) := by rw [show (m : Int) + 1 - 1 = (m : Int) by omega]; exact IntWalk.i64_in _ (by omega)
              have g7 : IntKind.i64.wrap (m : Int) = (m : Int) := IntWalk.i64_in _ (by omega)
              have HD1 := Lib.hid (HDr.out y ⟨ep, co, se, ⟨A3, cc3, l3⟩⟩)
              have hcf := cfP_ahead y ⟨ep, co, se, ⟨A3, cc3, l3⟩⟩
              simp only [Pt.cells, It.v] at HD1
              generalize hcfr : cfP y ⟨ep, co, se, ⟨A3, cc3, l3⟩⟩ = r at *
              by_cases h4 : r < 0
              · have g8 : ¬ r ≥ 0 := by omega
                have hah := hcf.1 h4
                have HN := Lib.hid (HYes.out (fun c hc => by
                  rw [hcx] at hc; cases hc
                  refine ⟨h0, h1, hl3, fun d _ hd => ?_⟩
                  rw [show m + 1 - 1 = m by omega, hcy'] at hd
                  cases hd
                  exact hah))
                obtain ⟨ye, yc, ys, ⟨yA, ycc, yl⟩⟩ := y
                simp only [It.v] at y0 y1 y2 y3 HD1
                clear hk hpre hB hil hx hit hse hc hcx p1 b1 s1 hB1 HNo HYes hbs hb hBX h1 h0 h2 hl3 hy hcy hcy' h3 hcf hcfr hity h4 hah
                go_wp2
                refine wp_region_later (by kernel_rfl) (by kernel_rfl) ?_
                repeat
                  (refine Quietly.step (fun K hK => ?_)
                   go_simp
                   first
                     | (refine hK _ ?_)
                     | (refine ⟨_, fun X => ((HO1.out X.world).mono (fun e w' h => ⟨h.1, ⟨w', X.kept.trans (h.2.mono X.kept.size)⟩, rfl⟩)), ?_⟩; refine hK _ ?_)
                     | (refine ⟨_, fun X => ((HP1.out X.world).mono (fun e w' h => ⟨h.1, X, h.2.symm⟩)), ?_⟩; refine hK _ ?_)
                     | (refine ⟨_, fun X => ((HD1.out X.world).mono (fun e w' h => ⟨h.below.1, ⟨w', X.kept.trans (h.below.2.mono X.kept.size)⟩, rfl⟩)), ?_⟩; refine hK _ ?_)
                   clear hK K)
                refine Quietly.none ?_
                rintro w5 ⟨X, rfl⟩
                have HF := Lib.hid (HN.out X)
                clear HN 
                go_wp2
                go_roundg (gk - 1)
                case measure => exact hgk.out
                case rel => exact HF.out
              · have g8 : r ≥ 0 := by omega
                have HN := Lib.hid (HNo.out (fun hl => by
                  obtain ⟨_, _, _, k4⟩ := hl _ hcx
                  exact h4 (hcf.2 (k4 y.core (by omega) (by rw [show m + 1 - 1 = m by omega]; exact hcy')))))
                obtain ⟨ye, yc, ys, ⟨yA, ycc, yl⟩⟩ := y
                simp only [It.v] at y0 y1 y2 y3 HD1
                clear hk hpre hB hil hx hit hse hc hcx p1 b1 s1 hB1 HNo HYes hbs hb hBX h1 h0 h2 hl3 hy hcy hcy' h3 hcf hcfr hity h4
                go_wp2
                refine wp_region_later (by kernel_rfl) (by kernel_rfl) ?_
                repeat
                  (refine Quietly.step (fun K hK => ?_)
                   go_simp
                   first
                     | (refine hK _ ?_)
                     | (refine ⟨_, fun X => ((HO1.out X.world).mono (fun e w' h => ⟨h.1, ⟨w', X.kept.trans (h.2.mono X.kept.size)⟩, rfl⟩)), ?_⟩; refine hK _ ?_)
                     | (refine ⟨_, fun X => ((HP1.out X.world).mono (fun e w' h => ⟨h.1, X, h.2.symm⟩)), ?_⟩; refine hK _ ?_)
                     | (refine ⟨_, fun X => ((HD1.out X.world).mono (fun e w' h => ⟨h.below.1, ⟨w', X.kept.trans (h.below.2.mono X.kept.size)⟩, rfl⟩)), ?_⟩; refine hK _ ?_)
                   clear hK K)
                refine Quietly.none ?_
                rintro w5 ⟨X, rfl⟩
                have HF := Lib.hid (HN.out X)
                clear HN 
                go_wp2
                go_ret
                exact HF.out
        · rw [decide_eq_false h1] at HP1
          have HP1 := Lib.hid HP1
          have HN := Lib.hid (HNo.out (fun hl => h1 (by obtain ⟨_, k2, _⟩ := hl _ hcx; exact k2)))
          clear hk hpre hB hil hx hit hse hc hcx p1 b1 s1 hB1 HNo HYes hbs hb hBX h1 h0
          go_wp2
          refine wp_region_later (by kernel_rfl) (by kernel_rfl) ?_
          repeat
            (refine Quietly.step (fun K hK => ?_)
             go_simp
             first
               | (refine hK _ ?_)
               | (refine ⟨_, fun X => ((HO1.out X.world).mono (fun e w' h => ⟨h.1, ⟨w', X.kept.trans (h.2.mono X.kept.size)⟩, rfl⟩)), ?_⟩; refine hK _ ?_)
               | (refine ⟨_, fun X => ((HP1.out X.world).mono (fun e w' h => ⟨h.1, X, h.2.symm⟩)), ?_⟩; refine hK _ ?_)
             clear hK K)
          refine Quietly.none ?_
          rintro w5 ⟨X, rfl⟩
          have HF := Lib.hid (HN.out X)
          clear HN 
          go_wp2
          go_ret
          exact HF.out
      · rw [decide_eq_false h0] at HO1
        have HO1 := Lib.hid HO1
        have HN := Lib.hid (HNo.out (fun hl => h0 (by obtain ⟨k1, _⟩ := hl _ hcx; exact k1)))
        clear hk hpre hB hil hx hit hse hc hcx p1 b1 s1 hB1 HNo HYes hbs hb hBX h0
        go_wp2
        refine wp_region_later (by kernel_rfl) (by kernel_rfl) ?_
        repeat
          (refine Quietly.step (fun K hK => ?_)
           go_simp
           first
             | (refine hK _ ?_)
             | (refine ⟨_, fun X => ((HO1.out X.world).mono (fun e w' h => ⟨h.1, ⟨w', X.kept.trans (h.2.mono X.kept.size)⟩, rfl⟩)), ?_⟩; refine hK _ ?_)
           clear hK K)
        refine Quietly.none ?_
        rintro w5 ⟨X, rfl⟩
        have HF := Lib.hid (HN.out X)
        clear HN 
        go_wp2
        go_ret
        exact HF.out
    · have j1 : ¬ (i : Int) < (ps.length : Int) := by omega
      have HF : Hid (YesNo w (OkParts (ps.map Pt.core)) (.returned (.bool true)) wr) := ⟨true, rfl, ⟨fun _ j c hc => by
        have hj : j < ps.length := by have := (List.getElem?_eq_some_iff.1 hc).1; simpa using this
        exact hpre j (by omega) c hc, fun _ => rfl⟩, hB⟩
      clear hk hpre hB hil
      go_wp2
      go_ret
      exact HF.out
end Go.Proofs.Ytckmpbmlneionaa.L11
end

section
namespace Go.Proofs.Ytckmpbmlneionaa.L11
open Go.ChangeShapes Go.WideShapes Go.ChangeAt Go.RowKit Go.Deep

theorem grown_self (w : World) (row : Option Nat) : w.grownBy w row := ⟨rfl, rfl, rfl, Nat.le_refl _, fun _ _ _ => rfl⟩
/-- append of a row of texts onto a slice that the call owns, whatever the source. -/
theorem wpList_append_it {P : Program} {w : World} {ops : Array Oper} {rest : List Oper} {o : Oper} {a : Act} {Q : Exit → Act → World → Prop} (hw : Region.wanted o (yielded ops a.tmps) = true) (s x : Operand) (t : TypeId)
    (ho : o.op = .call { callee := .builtin .append, args := #[s, x], argTypes := #[t, t] })
    (base : Nat) (e : TypeId) (i : TypeInfo) (z : Value) (bytes : Nat) (ht : P.underlying t = some (.slice e)) (hi : P.info? e = some i) (hz : i.zero = some z)
    (hsize : i.size = 1) (hby : i.bytes = bytes) (hzs : z.cells.size = 1)
    (v : Value) (n : Nat) (xs : List Value) (hs : a.eval s = v) (hown : w.ownsRow base e 1 v n xs)
    (A : Option Addr) (c : Nat) (zs : List Bytes) (hx : a.eval x = .slice A zs.length c) (hsrc : ItAt w ⟨A, c, zs⟩)
    (h63 : n + zs.length ≤ maxLen) (hbytes : (n + zs.length) * bytes ≤ 140737488355328) (hbase : base ≤ w.heap.size)
    (h : ∀ v' w', w'.ownsRow base e 1 v' (n + zs.length) (xs ++ txt zs) → w.grownBy w' v.ownBlock → wpList P ops Q rest (a.put o.dst v') w') :
    wpList P ops Q (o :: rest) a w := by
  have hn := hsrc.nil
  have hc := hsrc.reads
  have hle := hsrc.le
  simp only at hn hc hle
  refine wpList_step fun K hK => ?_
  rw [if_pos hw]
  cases A with
  | none =>
    obtain rfl := hn rfl
    obtain rfl : zs = [] := List.length_eq_zero_iff.1 (by omega)
    have hrun := run_append_owned_none (P := P) (w := w) base t o.type e i 1 ht hi v n xs hown
    unfold Oper.wp execOp
    simp only [ho, resolve, invoke, builtin, Sem.run_bind, Sem.run_pure, Result.andThen_ok, List.map_toArray, List.map_cons, List.map_nil, hs, hx, List.length_nil, hrun]
    exact hK _ _ (h v w (by simpa [txt] using hown) (grown_self _ _))
  | some ad =>
    have hnews : ∀ j u, (txt zs)[j]? = some u → w.cell? (ad.add j) = some u := fun j u hu => by
      simp only [txt, List.getElem?_map, Option.map_eq_some_iff] at hu
      obtain ⟨x, hx, rfl⟩ := hu
      obtain ⟨ad', e, _, hcc⟩ := hc j x hx
      cases e
      exact hcc
    obtain ⟨v', w', hr, h2, h3, _⟩ := run_append_own (P := P) w base t o.type e i z 1 bytes ht hi hz hsize hby hzs (by decide) v n xs hown ad zs.length c (txt zs) (by simp [txt]) hnews (txt_one zs) h63 hbytes hbase
    unfold Oper.wp execOp
    simp only [ho, resolve, invoke, builtin, Sem.run_bind, Sem.run_pure, Result.andThen_ok, List.map_toArray, List.map_cons, List.map_nil, hs, hx, hr]
    exact hK _ _ (h v' w' h2 h3)
theorem OwnRowA {w : World} {B : Nat} {v : Value} {zs : List Bytes} (h : w.ownsRow B 31 1 v zs.length (txt zs)) (hs : ∀ z ∈ zs, z.length ≤ maxLen) (hf : zs.length ≤ maxLen) : RowA w v zs := by
  refine ⟨?_, hs, hf⟩
  have h' := h
  rcases h.2 with ⟨rfl, h0⟩ | ⟨g, cap, cur, rfl, _, hg, _⟩
  · obtain rfl : zs = [] := List.length_eq_zero_iff.1 h0
    exact ⟨none, 0, rfl, fun j x hx => by simp at hx⟩
  · refine ⟨_, cap, rfl, fun j x hx => ⟨_, rfl, (h'.lt g rfl).2, id, ?_⟩⟩
    exact h'.cells (g := g) rfl j _ (by simp [txt, hx])
def JoinGo (w : World) (ns : List Nat) (k : Nat) (v6 v17 : Value) (wr : World) : Prop :=
  ∃ i : Nat, k + i = ns.length ∧ v17 = .int .i64 i ∧ wr.ownsRow w.heap.size 31 1 v6 i (txt ((ns.take i).map numT)) ∧ Below w.heap.size w wr
set_option maxRecDepth 100000 in
set_option maxHeartbeats 4000000 in
theorem join_calls (x : It) (ns : List Nat) (g cq : Nat) (w : World) (hx : ItAt w x) (hl : x.l.length ≤ 4000000) (hn : ns.length ≤ 3) (hns : ∀ n ∈ ns, n < 9223372036854775808) (hg : g < w.heap.size)
    (hc : ∀ (j n : Nat), ns[j]? = some n → w.cell? ⟨g, j, none⟩ = some (.int .i64 (n : Int))) :
    Calls Try.prog 38 #[x.v, .slice (some ⟨g, 0, none⟩) ns.length cq] w (Pair2 w (Tm.putRow (ns.map numT ++ x.l))) := by
  obtain ⟨i0, hi, hz0, hz1, hz2⟩ := info_parts info_term
  obtain ⟨A, c, l⟩ := x
  simp only [It.v]
  replace hl : l.length ≤ 4000000 := hl
  obtain ⟨w1, hmk, hown0, hg0⟩ := run_make_own (P := Try.prog) (w := w) w.heap.size 30 31 i0 (.string ⟨#[]⟩) 1 Try.underlying30 hi hz0 hz1 .i64 .i64 (ns.length + l.length) (by rw [hz2]; omega) (by unfold maxLen; omega) (Nat.le_refl _)
  have hmk' : (Instr.makeSlice 30 (.int .i64 0) (.int .i64 ((ns.length : Int) + (l.length : Int)))).run Try.prog w = .ok (.slice (some ⟨w.heap.size, 0, none⟩) 0 (ns.length + l.length)) w1 := by
    rw [← hmk]
    congr 2
  have hB1 : Below w.heap.size w w1 := (Below.refl _ _).grown hg0 (Nat.le_refl _) (by simp)
  have HSt : Hid (JoinGo w ns ns.length (.slice (some ⟨w.heap.size, 0, none⟩) 0 (ns.length + l.length)) (.int .i64 0) w1) := ⟨0, by omega, rfl, by simpa [txt] using hown0, hB1⟩
  have HC := Lib.hid hc
  have HX := Lib.hid hx
  have HNs := Lib.hid hns
  have HG := Lib.hid hg
  have q1 : (0 : Int) ≤ (ns.length : Int) + (l.length : Int) := by omega
  have q2 : (ns.length : Int) + (l.length : Int) ≤ 9223372036854775807 := by omega
  clear hmk hown0 hg0 hB1 hc hx hns hg
  go_enter Try.func38, Try.ntmps38
  go_wp2
  clear hmk'
  go_loopg [6, 17] ns.length (fun k v6 v17 wr => JoinGo w ns k v6 v17 wr)
  case atStart => exact HSt.out
  clear HSt q1 q2
  case round =>
    obtain ⟨i, hk, rfl, hrow, hB⟩ := hrel
    obtain ⟨A6, c6, rfl⟩ := L5.own_slice hrow
    by_cases hil : i < ns.length
    · obtain ⟨n, hxn⟩ : ∃ n, ns[i]? = some n := ⟨_, List.getElem?_eq_getElem hil⟩
      have hn63 := HNs.out n (List.mem_of_getElem? hxn)
      have j1 : (i : Int) < (ns.length : Int) := by omega
      have j2 : (0 : Int) ≤ (i : Int) := by omega
      have c0 : wr.cell? ⟨g, i, none⟩ = some (.int .i64 (n : Int)) := (hB.cell (p := ⟨g, i, none⟩) HG.out).trans (HC.out i n hxn)
      have hgk := Lib.hid (show gk - 1 < gk by omega)
      have n1 : (0 : Int) ≤ (n : Int) := by omega
      have n2 : (n : Int) < 18446744073709551616 := by omega
      have hu : IntKind.u64.wrap (n : Int) = (n : Int) := by
        have e : ((n : Int) % 18446744073709551616) = (n : Int) := Int.emod_eq_of_lt n1 n2
        simpa [IntKind.wrap, IntKind.bits, IntKind.signed] using e
      have HNum : Hid (∀ V, Calls Try.prog 35 #[.int .u64 (n : Int)] V (One V (.string ⟨(numT n).toArray⟩))) := fun V => Number_calls n (by omega) V
      have HRw : Hid (∀ V, Below wr.heap.size wr V → (V.alloc (.cells #[.string ⟨(numT n).toArray⟩] 31)).ownsRow w.heap.size 31 1 (.slice A6 i c6) i (txt ((ns.take i).map numT)) ∧ w.heap.size ≤ V.heap.size ∧
          ∀ v' w1, w1.ownsRow w.heap.size 31 1 v' (i + 1) (txt ((ns.take i).map numT) ++ [.string ⟨(numT n).toArray⟩]) → (V.alloc (.cells #[.string ⟨(numT n).toArray⟩] 31)).grownBy w1 (Value.slice A6 i c6).ownBlock → JoinGo w ns (gk - 1) v' (.int .i64 ((i + 1 : Nat) : Int)) w1) := fun V hV => by
        have hr := L5.own_below hrow hV
        have hb := hB.trans (hV.mono hB.size)
        have hbz := hb.size
        refine ⟨hr.alloc _, hbz, fun v' w1 k1 k2 => ⟨i + 1, by omega, rfl, ?_, ?_⟩⟩
        · rw [take_nextR ns hxn, List.map_append, txt_append]; exact k1
        · exact (hb.alloc hbz _).grown k2 (Nat.le_trans hbz (by simp)) (fun q e => (hr.lt q e).1)
      clear hk hrow hB hxn
      go_wp2_with fail
      refine (HNum.out _).mono ?_
      rintro e w6 ⟨rfl, b6⟩
      obtain ⟨r1, r2, r3⟩ := HRw.out w6 b6
      have HR1 := Lib.hid r1
      have HR3 := Lib.hid r3
      clear r1 r3 b6 HRw HNum
      generalize numT n = tx at *
      go_wp2_with (at_builtin; refine wpList_append_own _ rfl _ _ 30 rfl w.heap.size 31 i0 (.string ⟨#[]⟩) 1 16 Try.underlying30 hi hz0 hz1 hz2 rfl (by decide) _ _ _ rfl HR1.out ⟨w6.heap.size, 0, none⟩ 1 1 [.string ⟨tx.toArray⟩] rfl rfl (cell_one_new _ _ _) (by simp [Value.oneCell']) (by unfold maxLen; omega) (by omega) (by simp; omega) ?_; intro v' w1 hown' hgrow _; have HJ := Lib.hid (HR3.out v' w1 hown' hgrow); clear hown' hgrow)
      go_roundg (gk - 1)
      case measure => exact hgk.out
      case rel => exact HJ.out
    · obtain rfl : i = ns.length := by omega
      have j1 : ¬ (ns.length : Int) < (ns.length : Int) := by omega
      have HX2 := Lib.hid (HX.out.below hB)
      have HR1 := Lib.hid hrow
      have hbs := hB.size
      have HFin : Hid (∀ v' w1, w1.ownsRow w.heap.size 31 1 v' (ns.length + l.length) (txt ((ns.take ns.length).map numT) ++ txt l) → wr.grownBy w1 (Value.slice A6 ns.length c6).ownBlock →
          Calls Try.prog 54 #[v'] w1 (Pair2 w (Tm.putRow (ns.map numT ++ l)))) := fun v' w1 k1 k2 => by
        have hb : Below w.heap.size w w1 := hB.grown k2 hbs (fun q e => (hrow.lt q e).1)
        rw [List.take_length, ← txt_append] at k1
        have hlen : (ns.map numT ++ l).length = ns.length + l.length := by simp
        refine (lput_calls (ns.map numT ++ l) v' w1 (OwnRowA (by rw [hlen]; exact k1) (fun z hz => ?_) (by rw [hlen]; unfold maxLen; omega))).mono (fun e w2 h => ⟨h.1, hb.trans (h.2.mono hb.size)⟩)
        rcases List.mem_append.1 hz with hz | hz
        · obtain ⟨n, _, rfl⟩ := List.mem_map.1 hz
          exact numT_short n
        · exact HX.out.short z hz
      clear hk hrow hB
      go_wp2_with (at_builtin; refine wpList_append_it (by rfl) _ _ 30 rfl w.heap.size 31 i0 (.string ⟨#[]⟩) 16 Try.underlying30 hi hz0 hz1 hz2 rfl _ _ _ rfl HR1.out A c l rfl HX2.out (by unfold maxLen; omega) (by omega) hbs ?_; intro v' w1 hown' hgrow; have HJ := Lib.hid (HFin.out v' w1 hown' hgrow); clear hown' hgrow)
      refine HJ.out.mono ?_
      rintro e w2 ⟨rfl, b2⟩
      have HF := Lib.hid b2
      clear b2
      go_wp2
      go_ret2
      exact ⟨rfl, HF.out⟩
end Go.Proofs.Ytckmpbmlneionaa.L11
end

section
namespace Go.Proofs.Ytckmpbmlneionaa.L11
open Go.ChangeShapes Go.WideShapes Go.ChangeAt Go.RowKit Go.Deep

def rowT (r : List Bytes) : Bytes := (Tm.putRow r).1
def rowE (r : List Bytes) : Nat := (Tm.putRow r).2
def rowLg (c : LCore) : List Bytes := numT c.1.toNat :: c.2
def RowsOut (w : World) (ok : Prop) (rows : List (List Bytes)) (e : Ending) (w' : World) : Prop :=
  (ok ∧ (∀ r ∈ rows, rowE r = 0) ∧ ∃ v, e = .returned (.tuple #[v, .int .i64 0]) ∧ w'.ownsRow w.heap.size 31 1 v rows.length (txt (rows.map rowT)) ∧ Below w.heap.size w w') ∨
  ((¬ ok ∨ ∃ r ∈ rows, rowE r ≠ 0) ∧ e = .returned (.tuple #[.slice none 0 0, .int .i64 1]) ∧ Below w.heap.size w w')
def PutGo (w : World) (rows : List (List Bytes)) (k : Nat) (v4 vi : Value) (wr : World) : Prop :=
  ∃ i : Nat, k + i = rows.length ∧ vi = .int .i64 i ∧ (∀ r ∈ rows.take i, rowE r = 0) ∧ wr.ownsRow w.heap.size 31 1 v4 i (txt ((rows.take i).map rowT)) ∧ Below w.heap.size w wr
theorem cells_at {W W2 : World} {cs : Array Value} {t : TypeId} (h : W.alloc (.cells cs t) = W2) : ∀ (j : Nat) (u : Value), cs[j]? = some u → W2.cell? ⟨W.heap.size, j, none⟩ = some u := fun j u hu => by
  rw [box_cell (box_new h).1, hu]
set_option maxRecDepth 100000 in
set_option maxHeartbeats 4000000 in
theorem putC_calls {v : Value} {ls : List Lg} (w : World) (h : LogsA w v ls) (hl : ls.length ≤ 4000000) (hits : ∀ l ∈ ls, l.it.l.length ≤ 4000000) :
    Calls Try.prog 13 #[v] w (RowsOut w (OkLogs (ls.map Lg.core)) ((ls.map Lg.core).map rowLg)) := by
  obtain ⟨i0, hi, hz0, hz1, hz2⟩ := info_parts info_term
  have HRight := Lib.hid (rightLogs_calls w h)
  obtain ⟨A, c, rfl, hf, hr⟩ := logs_read h
  have HR := Lib.hid hr
  have HIt := Lib.hid hits
  obtain ⟨rows, hrows⟩ : ∃ rows, (ls.map Lg.core).map rowLg = rows := ⟨_, rfl⟩
  have hlen : rows.length = ls.length := by rw [← hrows]; simp
  have HGet : Hid (∀ (i : Nat) (l : Lg), ls[i]? = some l → rows[i]? = some (rowLg l.core)) := fun i l hx => by rw [← hrows, List.getElem?_map, List.getElem?_map, hx]; rfl
  rw [hrows]
  have HLen := Lib.hid hlen
  clear hr hf h hits hrows hlen
  go_enter Try.func13, Try.ntmps13
  go_wp2_with fail
  refine HRight.out.mono ?_
  clear HRight
  rintro e w1 ⟨b, rfl, hb, b1⟩
  cases b with
  | false =>
    have HF : Hid (RowsOut w (OkLogs (ls.map Lg.core)) rows (.returned (.tuple #[.slice none 0 0, .int .i64 1])) w1) := .inr ⟨.inl (fun h => by simpa using hb.2 h), rfl, b1⟩
    clear hb b1
    go_wp2
    go_ret2
    exact HF.out
  | true =>
    have HOk := Lib.hid (hb.1 rfl)
    have HSt : Hid (PutGo w rows ls.length (.slice none 0 0) (.int .i64 0) w1) := ⟨0, by rw [HLen.out]; omega, rfl, by simp, World.ownsRow_nil _ _ _ _, b1⟩
    clear hb b1
    go_wp2
    go_loopg [4, 14] ls.length (fun k v4 v14 wr => PutGo w rows k v4 v14 wr)
    case atStart => exact HSt.out
    clear HSt
    case round =>
      obtain ⟨i, hk, rfl, hpre, hrow, hB⟩ := hrel
      rw [HLen.out] at hk
      obtain ⟨A4, c4, rfl⟩ := L5.own_slice hrow
      by_cases hil : i < ls.length
      · obtain ⟨l, hx⟩ : ∃ l, ls[i]? = some l := ⟨_, List.getElem?_eq_getElem hil⟩
        obtain ⟨ad, rfl, hit, hse, hc⟩ := HR.out i l hx
        obtain ⟨c0, c1⟩ := hc wr hB
        have hl3 := HIt.out l (List.mem_of_getElem? hx)
        have j1 : (i : Int) < (ls.length : Int) := by omega
        have j2 : (0 : Int) ≤ (i : Int) := by omega
        have hgk := Lib.hid (show gk - 1 < gk by omega)
        have hbs := hB.size
        have hcx : (ls.map Lg.core)[i]? = some l.core := by rw [List.getElem?_map, hx]; rfl
        have hrx : rows[i]? = some (rowLg l.core) := HGet.out i l hx
        have hse2 := HOk.out i l.core hcx
        obtain ⟨se, ⟨A3, c3, l3⟩⟩ := l
        obtain ⟨n, rfl⟩ : ∃ n : Nat, se = n := ⟨se.toNat, (Int.toNat_of_nonneg (by have := hse2.1; simp only [Lg.core] at this; omega)).symm⟩
        have hn8 : n ≤ 8 := by have := hse2.2.1; simp only [Lg.core] at this; omega
        simp only [It.v] at c0 c1
        simp only at hl3
        obtain ⟨W1, hW1⟩ : ∃ W1, wr.alloc (.cells #[.int .i64 n, .slice A3 l3.length c3] 76) = W1 := ⟨_, rfl⟩
        obtain ⟨W2, hW2⟩ : ∃ W2, W1.alloc (.cells #[.int .i64 n] 3) = W2 := ⟨_, rfl⟩
        obtain ⟨p1, b1, s1⟩ := box_new hW1
        obtain ⟨p2, b2, s2⟩ := box_new hW2
        have d0 : W1.cell? ⟨wr.heap.size, 0, none⟩ = some (.int .i64 n) := box_cell p1 0
        have d1 : W1.cell? ⟨wr.heap.size, 1, none⟩ = some (.slice A3 l3.length c3) := box_cell p1 1
        have bW : Below wr.heap.size wr W2 := b1.trans (b2.mono (by omega))
        have HJ := join_calls ⟨A3, c3, l3⟩ [n] W1.heap.size 1 W2 (hit.below ((hB.trans (bW.mono hbs)))) hl3 (by simp) (fun m hm => by simp at hm; omega) (by omega) (fun j m hm => cells_at hW2 j _ (by
          match j, hm with
          | 0, hm => simp at hm; subst hm; rfl
          | (j + 1), hm => simp at hm))
        simp only [It.v, List.length_cons, List.length_nil, List.map_cons, List.map_nil, List.cons_append, List.nil_append] at HJ
        have hrow1 : rowLg (Lg.core ⟨n, ⟨A3, c3, l3⟩⟩) = numT n :: l3 := rfl
        rw [hrow1] at hrx
        rw [s1] at HJ
        have HJ := Lib.hid HJ
        have HNo : Hid (rowE (numT n :: l3) ≠ 0 → ∀ V, Below W2.heap.size W2 V → RowsOut w (OkLogs (ls.map Lg.core)) rows (.returned (.tuple #[.slice none 0 0, .int .i64 1])) V) := fun hne V hV =>
          .inr ⟨.inr ⟨_, List.mem_of_getElem? hrx, hne⟩, rfl, hB.trans ((bW.trans (hV.mono bW.size)).mono hbs)⟩
        have HRw : Hid (rowE (numT n :: l3) = 0 → ∀ V, Below W2.heap.size W2 V → (V.alloc (.cells #[.string ⟨(rowT (numT n :: l3)).toArray⟩] 31)).ownsRow w.heap.size 31 1 (.slice A4 i c4) i (txt ((rows.take i).map rowT)) ∧ w.heap.size ≤ V.heap.size ∧
            ∀ v' w1, w1.ownsRow w.heap.size 31 1 v' (i + 1) (txt ((rows.take i).map rowT) ++ [.string ⟨(rowT (numT n :: l3)).toArray⟩]) → (V.alloc (.cells #[.string ⟨(rowT (numT n :: l3)).toArray⟩] 31)).grownBy w1 (Value.slice A4 i c4).ownBlock → PutGo w rows (gk - 1) v' (.int .i64 ((i + 1 : Nat) : Int)) w1) := fun he V hV => by
          have hbV := bW.trans (hV.mono bW.size)
          have hr := L5.own_below hrow hbV
          have hb := hB.trans (hbV.mono hbs)
          have hbz := hb.size
          refine ⟨hr.alloc _, hbz, fun v' w1 k1 k2 => ⟨i + 1, by rw [HLen.out]; omega, rfl, fun r hr => ?_, ?_, ?_⟩⟩
          · rw [take_nextR _ hrx] at hr
            rcases List.mem_append.1 hr with hr | hr
            · exact hpre r hr
            · simp at hr; rw [hr]; exact he
          · rw [take_nextR _ hrx, List.map_append, txt_append]; exact k1
          · exact (hb.alloc hbz _).grown k2 (Nat.le_trans hbz (by simp)) (fun q e => (hr.lt q e).1)
        clear hk hrow hB hx hcx hrx hse2 hc hit hse p1 b1 p2 b2 s2 bW hpre hrow1
        have E : Tm.putRow (numT n :: l3) = (rowT (numT n :: l3), rowE (numT n :: l3)) := rfl
        rw [E] at HJ
        clear E
        generalize rows.take i = pr at *
        by_cases he : rowE (numT n :: l3) = 0
        · have HRw2 := Lib.hid (HRw.out he)
          rw [he] at HJ
          clear HNo HRw he
          go_wp2_with fail
          refine HJ.out.mono ?_
          rintro e w6 ⟨rfl, b6⟩
          obtain ⟨r1, r2, r3⟩ := HRw2.out w6 b6
          have HR1 := Lib.hid r1
          have HR3 := Lib.hid r3
          clear r1 r3 b6 HRw2 HJ
          generalize rowT (numT n :: l3) = tx at *
          go_wp2_with (at_builtin; refine wpList_append_own _ rfl _ _ 30 rfl w.heap.size 31 i0 (.string ⟨#[]⟩) 1 16 Try.underlying30 hi hz0 hz1 hz2 rfl (by decide) _ _ _ rfl HR1.out ⟨w6.heap.size, 0, none⟩ 1 1 [.string ⟨tx.toArray⟩] rfl rfl (cell_one_new _ _ _) (by simp [Value.oneCell']) (by unfold maxLen; omega) (by omega) (by simp; omega) ?_; intro v' w1 hown' hgrow _; have HK := Lib.hid (HR3.out v' w1 hown' hgrow); clear hown' hgrow)
          go_roundg (gk - 1)
          case measure => exact hgk.out
          case rel => exact HK.out
        · have HN := Lib.hid (HNo.out he)
          have he2 : ((rowE (numT n :: l3) : Int) == 0) = false := by rw [beq_eq_false_iff_ne]; omega
          generalize rowE (numT n :: l3) = er at *
          clear HNo HRw he
          go_wp2_with fail
          refine HJ.out.mono ?_
          rintro e w6 ⟨rfl, b6⟩
          have HF := Lib.hid (HN.out w6 b6)
          clear b6 HN HJ
          go_wp2
          go_ret2
          exact HF.out
      · obtain rfl : i = ls.length := by omega
        have j1 : ¬ (ls.length : Int) < (ls.length : Int) := by omega
        have HF : Hid (RowsOut w (OkLogs (ls.map Lg.core)) rows (.returned (.tuple #[.slice A4 ls.length c4, .int .i64 0])) wr) := .inl ⟨HOk.out, fun r hr => hpre r (by rw [List.take_of_length_le (Nat.le_of_eq HLen.out)]; exact hr), _, rfl, by
          rw [List.take_of_length_le (Nat.le_of_eq HLen.out)] at hrow
          rw [HLen.out]; exact hrow, hB⟩
        clear hk hrow hB hpre
        go_wp2
        go_ret2
        exact HF.out
end Go.Proofs.Ytckmpbmlneionaa.L11
end

section
namespace Go.Proofs.Ytckmpbmlneionaa.L11
open Go.ChangeShapes Go.WideShapes Go.ChangeAt Go.RowKit Go.Deep

def rowPt (c : Core) : List Bytes := numT c.1.toNat :: numT c.2.1.toNat :: numT c.2.2.1.toNat :: c.2.2.2
set_option maxRecDepth 100000 in
set_option maxHeartbeats 4000000 in
theorem partsC_calls {v : Value} {ls : List Pt} (w : World) (h : PartsA w v ls) (hl : ls.length ≤ 4000000) (hits : ∀ l ∈ ls, l.it.l.length ≤ 4000000) :
    Calls Try.prog 16 #[v] w (RowsOut w (OkParts (ls.map Pt.core)) ((ls.map Pt.core).map rowPt)) := by
  obtain ⟨i0, hi, hz0, hz1, hz2⟩ := info_parts info_term
  have HRight := Lib.hid (rightParts_calls w h)
  obtain ⟨A, c, rfl, hf, hr⟩ := parts_read h
  have HR := Lib.hid hr
  have HIt := Lib.hid hits
  obtain ⟨rows, hrows⟩ : ∃ rows, (ls.map Pt.core).map rowPt = rows := ⟨_, rfl⟩
  have hlen : rows.length = ls.length := by rw [← hrows]; simp
  have HGet : Hid (∀ (i : Nat) (l : Pt), ls[i]? = some l → rows[i]? = some (rowPt l.core)) := fun i l hx => by rw [← hrows, List.getElem?_map, List.getElem?_map, hx]; rfl
  rw [hrows]
  have HLen := Lib.hid hlen
  clear hr hf h hits hrows hlen
  go_enter Try.func16, Try.ntmps16
  go_wp2_with fail
  refine HRight.out.mono ?_
  clear HRight
  rintro e w1 ⟨b, rfl, hb, b1⟩
  cases b with
  | false =>
    have HF : Hid (RowsOut w (OkParts (ls.map Pt.core)) rows (.returned (.tuple #[.slice none 0 0, .int .i64 1])) w1) := .inr ⟨.inl (fun h => by simpa using hb.2 h), rfl, b1⟩
    clear hb b1
    go_wp2
    go_ret2
    exact HF.out
  | true =>
    have HOk := Lib.hid (hb.1 rfl)
    have HSt : Hid (PutGo w rows ls.length (.slice none 0 0) (.int .i64 0) w1) := ⟨0, by rw [HLen.out]; omega, rfl, by simp, World.ownsRow_nil _ _ _ _, b1⟩
    clear hb b1
    go_wp2
    go_loopg [4, 14] ls.length (fun k v4 v14 wr => PutGo w rows k v4 v14 wr)
    case atStart => exact HSt.out
    clear HSt
    case round =>
      obtain ⟨i, hk, rfl, hpre, hrow, hB⟩ := hrel
      rw [HLen.out] at hk
      obtain ⟨A4, c4, rfl⟩ := L5.own_slice hrow
      by_cases hil : i < ls.length
      · obtain ⟨l, hx⟩ : ∃ l, ls[i]? = some l := ⟨_, List.getElem?_eq_getElem hil⟩
        obtain ⟨ad, rfl, hit, hse, hc⟩ := HR.out i l hx
        obtain ⟨c0, c1, c2, c3⟩ := hc wr hB
        have hl3 := HIt.out l (List.mem_of_getElem? hx)
        have j1 : (i : Int) < (ls.length : Int) := by omega
        have j2 : (0 : Int) ≤ (i : Int) := by omega
        have hgk := Lib.hid (show gk - 1 < gk by omega)
        have hbs := hB.size
        have hcx : (ls.map Pt.core)[i]? = some l.core := by rw [List.getElem?_map, hx]; rfl
        have hrx : rows[i]? = some (rowPt l.core) := HGet.out i l hx
        have hse2 := HOk.out i l.core hcx
        obtain ⟨ep, co, se, ⟨A3, cc3, l3⟩⟩ := l
        simp only [Pt.core, OldOk] at hse2
        obtain ⟨n1, rfl⟩ : ∃ n : Nat, ep = n := ⟨ep.toNat, (Int.toNat_of_nonneg (by omega)).symm⟩
        obtain ⟨n2, rfl⟩ : ∃ n : Nat, co = n := ⟨co.toNat, (Int.toNat_of_nonneg (by omega)).symm⟩
        obtain ⟨n3, rfl⟩ : ∃ n : Nat, se = n := ⟨se.toNat, (Int.toNat_of_nonneg (by omega)).symm⟩
        have hn1 : n1 ≤ 2147483647 := by omega
        have hn2 : n2 ≤ 8 := by omega
        have hn3 : n3 ≤ 8 := by omega
        simp only [It.v] at c0 c1 c2 c3
        simp only at hl3
        obtain ⟨W1, hW1⟩ : ∃ W1, wr.alloc (.cells #[.int .i64 n1, .int .i64 n2, .int .i64 n3, .slice A3 l3.length cc3] 60) = W1 := ⟨_, rfl⟩
        obtain ⟨W2, hW2⟩ : ∃ W2, W1.alloc (.cells #[.int .i64 n1, .int .i64 n2, .int .i64 n3] 3) = W2 := ⟨_, rfl⟩
        obtain ⟨p1, b1, s1⟩ := box_new hW1
        obtain ⟨p2, b2, s2⟩ := box_new hW2
        have d0 : W1.cell? ⟨wr.heap.size, 0, none⟩ = some (.int .i64 n1) := box_cell p1 0
        have d1 : W1.cell? ⟨wr.heap.size, 1, none⟩ = some (.int .i64 n2) := box_cell p1 1
        have d2 : W1.cell? ⟨wr.heap.size, 2, none⟩ = some (.int .i64 n3) := box_cell p1 2
        have d3 : W1.cell? ⟨wr.heap.size, 3, none⟩ = some (.slice A3 l3.length cc3) := box_cell p1 3
        have bW : Below wr.heap.size wr W2 := b1.trans (b2.mono (by omega))
        have HJ := join_calls ⟨A3, cc3, l3⟩ [n1, n2, n3] W1.heap.size 3 W2 (hit.below ((hB.trans (bW.mono hbs)))) hl3 (by simp) (fun m hm => by simp at hm; omega) (by omega) (fun j m hm => cells_at hW2 j _ (by
          match j, hm with
          | 0, hm => simp at hm; subst hm; rfl
          | 1, hm => simp at hm; subst hm; rfl
          | 2, hm => simp at hm; subst hm; rfl
          | (j + 3), hm => simp at hm))
        simp only [It.v, List.length_cons, List.length_nil, List.map_cons, List.map_nil, List.cons_append, List.nil_append] at HJ
        have hrow1 : rowPt (Pt.core ⟨n1, n2, n3, ⟨A3, cc3, l3⟩⟩) = numT n1 :: numT n2 :: numT n3 :: l3 := rfl
        rw [hrow1] at hrx
        rw [s1] at HJ
        have HJ := Lib.hid HJ
        have HNo : Hid (rowE (numT n1 :: numT n2 :: numT n3 :: l3) ≠ 0 → ∀ V, Below W2.heap.size W2 V → RowsOut w (OkParts (ls.map Pt.core)) rows (.returned (.tuple #[.slice none 0 0, .int .i64 1])) V) := fun hne V hV =>
          .inr ⟨.inr ⟨_, List.mem_of_getElem? hrx, hne⟩, rfl, hB.trans ((bW.trans (hV.mono bW.size)).mono hbs)⟩
        have HRw : Hid (rowE (numT n1 :: numT n2 :: numT n3 :: l3) = 0 → ∀ V, Below W2.heap.size W2 V → (V.alloc (.cells #[.string ⟨(rowT (numT n1 :: numT n2 :: numT n3 :: l3)).toArray⟩] 31)).ownsRow w.heap.size 31 1 (.slice A4 i c4) i (txt ((rows.take i).map rowT)) ∧ w.heap.size ≤ V.heap.size ∧
            ∀ v' w1, w1.ownsRow w.heap.size 31 1 v' (i + 1) (txt ((rows.take i).map rowT) ++ [.string ⟨(rowT (numT n1 :: numT n2 :: numT n3 :: l3)).toArray⟩]) → (V.alloc (.cells #[.string ⟨(rowT (numT n1 :: numT n2 :: numT n3 :: l3)).toArray⟩] 31)).grownBy w1 (Value.slice A4 i c4).ownBlock → PutGo w rows (gk - 1) v' (.int .i64 ((i + 1 : Nat) : Int)) w1) := fun he V hV => by
          have hbV := bW.trans (hV.mono bW.size)
          have hr := L5.own_below hrow hbV
          have hb := hB.trans (hbV.mono hbs)
          have hbz := hb.size
          refine ⟨hr.alloc _, hbz, fun v' w1 k1 k2 => ⟨i + 1, by rw [HLen.out]; omega, rfl, fun r hr => ?_, ?_, ?_⟩⟩
          · rw [take_nextR _ hrx] at hr
            rcases List.mem_append.1 hr with hr | hr
            · exact hpre r hr
            · simp at hr; rw [hr]; exact he
          · rw [take_nextR _ hrx, List.map_append, txt_append]; exact k1
          · exact (hb.alloc hbz _).grown k2 (Nat.le_trans hbz (by simp)) (fun q e => (hr.lt q e).1)
        clear hk hrow hB hx hcx hrx hse2 hc hit hse p1 b1 p2 b2 s2 bW hpre hrow1
        have E : Tm.putRow (numT n1 :: numT n2 :: numT n3 :: l3) = (rowT (numT n1 :: numT n2 :: numT n3 :: l3), rowE (numT n1 :: numT n2 :: numT n3 :: l3)) := rfl
        rw [E] at HJ
        clear E
        generalize rows.take i = pr at *
        by_cases he : rowE (numT n1 :: numT n2 :: numT n3 :: l3) = 0
        · have HRw2 := Lib.hid (HRw.out he)
          rw [he] at HJ
          clear HNo HRw he
          go_wp2_with fail
          refine HJ.out.mono ?_
          rintro e w6 ⟨rfl, b6⟩
          obtain ⟨r1, r2, r3⟩ := HRw2.out w6 b6
          have HR1 := Lib.hid r1
          have HR3 := Lib.hid r3
          clear r1 r3 b6 HRw2 HJ
          generalize rowT (numT n1 :: numT n2 :: numT n3 :: l3) = tx at *
          go_wp2_with (at_builtin; refine wpList_append_own _ rfl _ _ 30 rfl w.heap.size 31 i0 (.string ⟨#[]⟩) 1 16 Try.underlying30 hi hz0 hz1 hz2 rfl (by decide) _ _ _ rfl HR1.out ⟨w6.heap.size, 0, none⟩ 1 1 [.string ⟨tx.toArray⟩] rfl rfl (cell_one_new _ _ _) (by simp [Value.oneCell']) (by unfold maxLen; omega) (by omega) (by simp; omega) ?_; intro v' w1 hown' hgrow _; have HK := Lib.hid (HR3.out v' w1 hown' hgrow); clear hown' hgrow)
          go_roundg (gk - 1)
          case measure => exact hgk.out
          case rel => exact HK.out
        · have HN := Lib.hid (HNo.out he)
          have he2 : ((rowE (numT n1 :: numT n2 :: numT n3 :: l3) : Int) == 0) = false := by rw [beq_eq_false_iff_ne]; omega
          generalize rowE (numT n1 :: numT n2 :: numT n3 :: l3) = er at *
          clear HNo HRw he
          go_wp2_with fail
          refine HJ.out.mono ?_
          rintro e w6 ⟨rfl, b6⟩
          have HF := Lib.hid (HN.out w6 b6)
          clear b6 HN HJ
          go_wp2
          go_ret2
          exact HF.out
      · obtain rfl : i = ls.length := by omega
        have j1 : ¬ (ls.length : Int) < (ls.length : Int) := by omega
        have HF : Hid (RowsOut w (OkParts (ls.map Pt.core)) rows (.returned (.tuple #[.slice A4 ls.length c4, .int .i64 0])) wr) := .inl ⟨HOk.out, fun r hr => hpre r (by rw [List.take_of_length_le (Nat.le_of_eq HLen.out)]; exact hr), _, rfl, by
          rw [List.take_of_length_le (Nat.le_of_eq HLen.out)] at hrow
          rw [HLen.out]; exact hrow, hB⟩
        clear hk hrow hB hpre
        go_wp2
        go_ret2
        exact HF.out
end Go.Proofs.Ytckmpbmlneionaa.L11
end
