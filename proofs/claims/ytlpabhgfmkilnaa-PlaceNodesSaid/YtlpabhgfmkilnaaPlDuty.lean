/- Contract of place.Duties. -/
import Derived.Test.YtlpabhgfmkilnaaPlPath
namespace Go.Proofs.Ytlpabhgfmkilnaa.L14
open Go.ChangeShapes Go.WideShapes Go.ChangeAt Go.RowKit Go.Deep
open Go.Proofs.Ytlpabhgfmkilnaa.L13
open Go.Proofs.Ytlpabhgfmkilnaa.L5 (One)

attribute [local go_sem] Oper.semAt_some

def isDutyI (p : Int) (y : Nd) : Bool := decide (y.1 ≠ [] ∧ (low y.2 : Int) = p)
def dutL (p : Int) (pre : List Nd) : List (List UInt8) := (pre.filter (isDutyI p)).map (fun y => y.1)
def dutiesX (x : List UInt8) (p : Int) : List (List UInt8) := dutL p (upL x p)
theorem dutL_yes (p : Int) (pre : List Nd) (y : Nd) (h : isDutyI p y = true) : dutL p (pre ++ [y]) = dutL p pre ++ [y.1] := by simp [dutL, h]
theorem dutL_no (p : Int) (pre : List Nd) (y : Nd) (h : isDutyI p y = false) : dutL p (pre ++ [y]) = dutL p pre := by simp [dutL, h]
theorem dutL_len (p : Int) (pre : List Nd) : (dutL p pre).length ≤ pre.length := by
  unfold dutL
  rw [List.length_map]
  exact List.length_filter_le _ _
set_option maxRecDepth 100000 in
set_option maxHeartbeats 8000000 in
theorem duties_calls (x : List UInt8) (p : Int) (w : World) : Calls Try.prog 18 #[.string ⟨x.toArray⟩, .int .i64 p] w (TextsOut w (dutiesX x p)) := by
  obtain ⟨i0, hi, hz0, hz1, hz2⟩ := info_parts info_str
  have HD := Lib.hid (fun V => up_calls x p V)
  refine (callsIn_wide (n := 9)).1 ?_
  refine callsIn_of_wp_marks Try.func18 rfl trivial ?_ rfl
  simp only [Try.ntmps18, List.size_toArray, List.length_cons, List.length_nil, Nat.reduceAdd, Nat.reduceSub, Array.replicate_succ, Array.replicate_zero, List.push_toArray, List.append_toArray, List.nil_append, List.cons_append]
  gi_wp2_with (refine ⟨trivial, ?_⟩; gi_at_call 25; refine (callsIn_wide.2 (HD.out _)).mono ?_; rintro e W2 ⟨Bt, Bp, rfl, bW, h1, h2, hseq⟩)
  have hbox := World.alloc_heap_new w (.cells #[.int .i64 p] 3)
  have hN := (TBox.new w (w.alloc (.cells #[.int .i64 p] 3)) w.heap.size ((Below.refl _ w).alloc (Nat.le_refl _) _) (by simp)).kept (C := w.heap.size) (.of_below bW) (Nat.le_refl _)
  rw [World.size_alloc] at hN
  have hz : w.heap.size + 2 ≤ W2.heap.size := by have := bW.size; simp at this; omega
  simp only [World.size_alloc] at h1 h2
  have hbox2 : W2.heap[w.heap.size]? = some (.cells #[.int .i64 p] 3 (0, 0)) := (bW.block _ (by simp; omega)).trans ((heap_alloc_old _ _ (by simp)).trans hbox)
  have hup : upto (fun _ => false) (upL x p) = upL x p := upto_never _
  clear bW hbox
  refine wp_upto (gf := 34) (lb := #[.pointer (some ⟨Bt, 0, none⟩), .pointer (some ⟨Bp, 0, none⟩)]) rfl enters_up hseq (fun q => q = w.heap.size + 1) (fun q hq => by omega) (Below.refl _ _) (fun _ => rfl)
    (fun _ => false) (fun F pre W => TBox w.heap.size (w.heap.size + 1) w F (dutL p pre) W ∧ W.heap[w.heap.size]? = some (.cells #[.int .i64 p] 3 (0, 0)) ∧ ¬ F w.heap.size) (fun F pre V V' h hk => ⟨h.1.kept hk (by omega), (hk.same _ (Array.getElem?_eq_some_iff.1 h.2.1).1 (.inl (by omega))).trans h.2.1, h.2.2⟩) ⟨hN, hbox2, by omega⟩
    (fun y => { tmps := #[.string ⟨x.toArray⟩, .int .i64 p, undef, .pointer (some ⟨w.heap.size, 0, none⟩), .slice none 0 0, .pointer (some ⟨w.heap.size + 1, 0, none⟩), .string ⟨y.1.toArray⟩, .string ⟨y.2.text.toArray⟩, .string ⟨x.toArray⟩, .int .i64 p, .func (.func 34) #[] #[.pointer (some ⟨Bt, 0, none⟩), .pointer (some ⟨Bp, 0, none⟩)], .string ⟨y.1.toArray⟩, .string ⟨y.2.text.toArray⟩, undef, undef, undef, undef, undef, undef, undef, undef, undef, undef, undef, undef, undef], defers := [] }) ?assign ?body ?done
  case assign =>
    intro m l y W K hK
    unfold encN
    gi_wp2
    exact hK
  case body =>
    rintro m l pre ⟨yx, yt⟩ F W hpre ⟨hT, hbW, hFb⟩
    have hmem : (yx, yt) ∈ upL x p := by
      have := hpre.subset (by simp : (yx, yt) ∈ pre ++ [(yx, yt)])
      rwa [hup] at this
    have hyo := (upL_ok hmem).1
    have hl : (dutL p pre).length ≤ 15 := by
      have h1 := hpre.length_le
      rw [hup] at h1
      have h2 := upL_len x p
      have h3 := dutL_len p pre
      simp at h1
      omega
    obtain ⟨A, c, hc, hrow, hF, hbx⟩ := hT.cells
    have hsz := hT.below.size
    have hbl := (Array.getElem?_eq_some_iff.1 hbW).1
    have cb : W.cell? ⟨w.heap.size, 0, none⟩ = some (.int .i64 p) := by rw [cell_of_row _ _ _ _ _ _ hbW]; rfl
    have mixed : Try.prog.follows Departure.mixedOrders = true := by kernel_rfl
    have HNo : Hid (isDutyI p (yx, yt) = false → ∀ V, Below W.heap.size W V → ∃ F', Round F F' W V ∧ TBox w.heap.size (w.heap.size + 1) w F' (dutL p (pre ++ [(yx, yt)])) V ∧ V.heap[w.heap.size]? = some (.cells #[.int .i64 p] 3 (0, 0)) ∧ ¬ F' w.heap.size) := fun hf V hb =>
      ⟨F, Round.of_below hb (fun q hq => (hT.lows q hq).2), by rw [dutL_no _ _ _ hf]; exact hT.kept (C := W.heap.size) (.of_below hb) hT.below.size, (hb.block _ hbl).trans hbW, hFb⟩
    by_cases hyx : yx = []
    · subst hyx
      have HE := Lib.hid (fun V (hb : Below W.heap.size W V) => HNo.out (decide_eq_false (fun h => h.1 rfl)) V hb)
      clear hT hpre hbx hF hrow hmem hc HNo hbW
      gi_wp2
      refine wpIn_region_any (by kernel_rfl) ?_
      change wpAnyIn _ _ _ _ _ _ _ _ _ (World.drew _)
      refine wpAnyIn_ready (rs := [0]) (by kernel_rfl) (by simp) ?_
      refine AllReadyIn.cons rfl (fun K hK => ?_) ?_
      · go_simp
        refine hK _ _ ?_
        clear hK K
        refine wpAnyIn_ready (rs := [1]) (by kernel_rfl) (by simp) ?_
        refine AllReadyIn.cons rfl (fun K hK => ?_) ?_
        · go_simp
          refine hK _ _ ?_
          clear hK K
          refine wpAnyIn_ready (rs := [2]) (by kernel_rfl) (by simp) ?_
          refine AllReadyIn.cons rfl (fun K hK => ?_) ?_
          · go_simp
            refine hK _ _ ?_
            clear hK K
            refine wpAnyIn_ready (rs := [3, 5]) (by kernel_rfl) (by simp) ?_
            refine AllReadyIn.cons rfl (fun K hK => ?_) ?_
            · go_simp
              refine hK _ _ ?_
              clear hK K
              refine wpAnyIn_ready (rs := [4, 5]) (by kernel_rfl) (by simp) ?_
              refine AllReadyIn.cons rfl (fun K hK => ?_) ?_
              · go_simp
                refine ⟨trivial, hK _ _ ?_⟩
                clear hK K
                refine wpAnyIn_ready (rs := [5]) (by kernel_rfl) (by simp) ?_
                refine AllReadyIn.cons rfl (fun K hK => ?_) ?_
                · go_simp
                  refine hK _ _ ?_
                  clear hK K
                  refine wpAnyIn_ready (rs := [6]) (by kernel_rfl) (by simp) ?_
                  refine AllReadyIn.cons rfl (fun K hK => ?_) ?_
                  · go_simp
                    refine hK _ _ ?_
                    clear hK K
                    refine wpAnyIn_ready (rs := [7]) (by kernel_rfl) (by simp) ?_
                    refine AllReadyIn.cons rfl (fun K hK => ?_) ?_
                    · go_simp
                      refine hK _ _ ?_
                      clear hK K
                      refine wpAnyIn_done (by kernel_rfl) ?_ _
                      (gi_wp2; obtain ⟨F', h1, h2⟩ := HE.out _ (below_drew14 (Below.refl _ _)); exact ⟨rfl, F', h1, h2⟩)
                    exact AllReadyIn.nil
                  exact AllReadyIn.nil
                exact AllReadyIn.nil
              refine AllReadyIn.cons rfl (fun K hK => ?_) ?_
              · go_simp
                refine hK _ _ ?_
                clear hK K
                refine wpAnyIn_ready (rs := [4]) (by kernel_rfl) (by simp) ?_
                refine AllReadyIn.cons rfl (fun K hK => ?_) ?_
                · go_simp
                  refine ⟨trivial, hK _ _ ?_⟩
                  clear hK K
                  refine wpAnyIn_ready (rs := [6]) (by kernel_rfl) (by simp) ?_
                  refine AllReadyIn.cons rfl (fun K hK => ?_) ?_
                  · go_simp
                    refine hK _ _ ?_
                    clear hK K
                    refine wpAnyIn_ready (rs := [7]) (by kernel_rfl) (by simp) ?_
                    refine AllReadyIn.cons rfl (fun K hK => ?_) ?_
                    · go_simp
                      refine hK _ _ ?_
                      clear hK K
                      refine wpAnyIn_done (by kernel_rfl) ?_ _
                      (gi_wp2; obtain ⟨F', h1, h2⟩ := HE.out _ (below_drew14 (Below.refl _ _)); exact ⟨rfl, F', h1, h2⟩)
                    exact AllReadyIn.nil
                  exact AllReadyIn.nil
                exact AllReadyIn.nil
              exact AllReadyIn.nil
            refine AllReadyIn.cons rfl (fun K hK => ?_) ?_
            · go_simp
              refine hK _ _ ?_
              clear hK K
              refine wpAnyIn_ready (rs := [3]) (by kernel_rfl) (by simp) ?_
              refine AllReadyIn.cons rfl (fun K hK => ?_) ?_
              · go_simp
                refine hK _ _ ?_
                clear hK K
                refine wpAnyIn_ready (rs := [4]) (by kernel_rfl) (by simp) ?_
                refine AllReadyIn.cons rfl (fun K hK => ?_) ?_
                · go_simp
                  refine ⟨trivial, hK _ _ ?_⟩
                  clear hK K
                  refine wpAnyIn_ready (rs := [6]) (by kernel_rfl) (by simp) ?_
                  refine AllReadyIn.cons rfl (fun K hK => ?_) ?_
                  · go_simp
                    refine hK _ _ ?_
                    clear hK K
                    refine wpAnyIn_ready (rs := [7]) (by kernel_rfl) (by simp) ?_
                    refine AllReadyIn.cons rfl (fun K hK => ?_) ?_
                    · go_simp
                      refine hK _ _ ?_
                      clear hK K
                      refine wpAnyIn_done (by kernel_rfl) ?_ _
                      (gi_wp2; obtain ⟨F', h1, h2⟩ := HE.out _ (below_drew14 (Below.refl _ _)); exact ⟨rfl, F', h1, h2⟩)
                    exact AllReadyIn.nil
                  exact AllReadyIn.nil
                exact AllReadyIn.nil
              exact AllReadyIn.nil
            exact AllReadyIn.nil
          exact AllReadyIn.nil
        exact AllReadyIn.nil
      exact AllReadyIn.nil
    · have hyx' : (yx == []) = false := by rw [beq_eq_false_iff_ne]; exact hyx
      have hyx2 : (yx != []) = true := by rw [bne, hyx']; rfl
      have HL := Lib.hid (fun V => least_calls hyo V)
      have HcV := Lib.hid (fun V' (hb : Below W.heap.size W V') => (hb.cell (p := ⟨w.heap.size, 0, none⟩) hbl).trans cb)
      obtain ⟨lw, hlw⟩ : ∃ lw : Int, (low yt : Int) = lw := ⟨_, rfl⟩
      rw [hlw] at HL
      by_cases hlp : lw = p
      · subst hlp
        have hd : isDutyI lw (yx, yt) = true := decide_eq_true ⟨hyx, hlw⟩
        obtain ⟨zs, hzs⟩ : ∃ zs, dutL lw pre = zs := ⟨_, rfl⟩
        have HYes : Hid (∀ w5, Below W.heap.size W w5 → w5.cell? ⟨w.heap.size + 1, 0, none⟩ = some (.slice A zs.length c) ∧ (w5.alloc (.cells #[.string ⟨yx.toArray⟩] 9)).ownsRow w.heap.size 9 1 (.slice A zs.length c) zs.length (strV zs) ∧ w.heap.size ≤ w5.heap.size ∧
            ∀ w7 A3 c3, w7.ownsRow w.heap.size 9 1 (.slice A3 (zs.length + 1) c3) (zs.length + 1) (strV zs ++ [.string ⟨yx.toArray⟩]) → (w5.alloc (.cells #[.string ⟨yx.toArray⟩] 9)).grownBy w7 (Value.slice A zs.length c).ownBlock → ((Value.slice A3 (zs.length + 1) c3).ownBlock = (Value.slice A zs.length c).ownBlock ∨ (Value.slice A3 (zs.length + 1) c3).ownBlock = some (w5.alloc (.cells #[.string ⟨yx.toArray⟩] 9)).heap.size) →
              (w7.cell? ⟨w.heap.size + 1, 0, none⟩ = some (.slice A zs.length c) ∧ w7.frozen? ⟨w.heap.size + 1, 0, none⟩ = false) ∧ ∃ F', Round F F' W (w7.setCell ⟨w.heap.size + 1, 0, none⟩ (.slice A3 (zs.length + 1) c3)) ∧ TBox w.heap.size (w.heap.size + 1) w F' (dutL lw (pre ++ [(yx, yt)])) (w7.setCell ⟨w.heap.size + 1, 0, none⟩ (.slice A3 (zs.length + 1) c3)) ∧ (w7.setCell ⟨w.heap.size + 1, 0, none⟩ (.slice A3 (zs.length + 1) c3)).heap[w.heap.size]? = some (.cells #[.int .i64 lw] 3 (0, 0)) ∧ ¬ F' w.heap.size) := by
          intro w5 b5
          have hs5 := b5.size
          rw [hzs] at hc hrow hF hbx
          have ba : Below W.heap.size W (w5.alloc (.cells #[.string ⟨yx.toArray⟩] 9)) := b5.trans ((Below.refl _ w5).alloc hs5 _)
          refine ⟨(b5.cell (p := ⟨w.heap.size + 1, 0, none⟩) (World.block_lt_of_cell? _ _ hc)).trans hc, own_later hrow ba, by omega, fun w7 A3 c3 h1 h2 h3 => ?_⟩
          rw [hzs] at hT
          obtain ⟨k1, F', k2, k3⟩ := hT.append (y := yx) hF hrow hbx ba h1 h2 h3
          refine ⟨k1, F', k3, by rw [dutL_yes _ _ _ hd, hzs]; exact k2, (k3.same _ hbl hFb).trans hbW, fun h => ?_⟩
          rcases k3.more _ h with h | h
          · exact hFb h
          · omega
        rw [hzs] at hl
        clear hT hpre hbx hF hrow hmem hc HNo hbW hyx hlw hd hzs
        generalize yt.text = tx at *
        gi_wp2
        refine wpIn_region_any (by kernel_rfl) ?_
        change wpAnyIn _ _ _ _ _ _ _ _ _ (World.drew _)
        refine wpAnyIn_ready (rs := [0]) (by kernel_rfl) (by simp) ?_
        refine AllReadyIn.cons rfl (fun K hK => ?_) ?_
        · go_simp
          refine hK _ _ ?_
          clear hK K
          refine wpAnyIn_ready (rs := [1]) (by kernel_rfl) (by simp) ?_
          refine AllReadyIn.cons rfl (fun K hK => ?_) ?_
          · go_simp
            refine hK _ _ ?_
            clear hK K
            refine wpAnyIn_ready (rs := [2]) (by kernel_rfl) (by simp) ?_
            refine AllReadyIn.cons rfl (fun K hK => ?_) ?_
            · go_simp
              refine hK _ _ ?_
              clear hK K
              refine wpAnyIn_ready (rs := [3, 5]) (by kernel_rfl) (by simp) ?_
              refine AllReadyIn.cons rfl (fun K hK => ?_) ?_
              · go_simp
                refine hK _ _ ?_
                clear hK K
                refine wpAnyIn_ready (rs := [4, 5]) (by kernel_rfl) (by simp) ?_
                refine AllReadyIn.cons rfl (fun K hK => ?_) ?_
                · go_simp
                  gi_wp2_with (refine ⟨trivial, (fun h => nomatch h), ?_⟩; gi_at_call 28; refine (round_call (HL.out _)).mono ?_; rintro e w5 ⟨rfl, b5⟩; have hc5 := HcV.out w5 (below_drew14 b5))
                  refine wpAnyIn_ready (rs := [5]) (by kernel_rfl) (by simp) ?_
                  refine AllReadyIn.cons rfl (fun K hK => ?_) ?_
                  · go_simp
                    refine hK _ _ ?_
                    clear hK K
                    refine wpAnyIn_ready (rs := [6]) (by kernel_rfl) (by simp) ?_
                    refine AllReadyIn.cons rfl (fun K hK => ?_) ?_
                    · go_simp
                      refine hK _ _ ?_
                      clear hK K
                      refine wpAnyIn_ready (rs := [7]) (by kernel_rfl) (by simp) ?_
                      refine AllReadyIn.cons rfl (fun K hK => ?_) ?_
                      · go_simp
                        refine hK _ _ ?_
                        clear hK K
                        refine wpAnyIn_done (by kernel_rfl) ?_ _
                        (obtain ⟨c6, hrw, hs6, HF⟩ := HYes.out w5 (below_drew14 b5); gi_wp2_with (gi_at_builtin; refine wpListIn_append_own_at _ rfl _ _ 30 rfl w.heap.size 9 i0 (.string ⟨#[]⟩) 1 16 Try.underlying30 hi hz0 hz1 hz2 rfl (by decide) _ _ _ rfl hrw ⟨w5.heap.size, 0, none⟩ 1 1 [.string ⟨yx.toArray⟩] rfl rfl (cell_one_new _ _ _) (by simp [Value.oneCell']) (by unfold maxLen; omega) (by omega) (by simp; omega) ?_; intro v' w7 hown' hgrow _ hat; obtain ⟨A3, c3, rfl⟩ := L5.own_slice hown'; obtain ⟨⟨c7, f7⟩, F', h1, h2⟩ := HF w7 A3 c3 hown' hgrow hat); exact ⟨rfl, F', h1, h2⟩)
                      exact AllReadyIn.nil
                    exact AllReadyIn.nil
                  exact AllReadyIn.nil
                refine AllReadyIn.cons rfl (fun K hK => ?_) ?_
                · go_simp
                  refine hK _ _ ?_
                  clear hK K
                  refine wpAnyIn_ready (rs := [4]) (by kernel_rfl) (by simp) ?_
                  refine AllReadyIn.cons rfl (fun K hK => ?_) ?_
                  · go_simp
                    gi_wp2_with (refine ⟨trivial, (fun h => nomatch h), ?_⟩; gi_at_call 28; refine (round_call (HL.out _)).mono ?_; rintro e w5 ⟨rfl, b5⟩; have hc5 := HcV.out w5 (below_drew14 b5))
                    refine wpAnyIn_ready (rs := [6]) (by kernel_rfl) (by simp) ?_
                    refine AllReadyIn.cons rfl (fun K hK => ?_) ?_
                    · go_simp
                      refine hK _ _ ?_
                      clear hK K
                      refine wpAnyIn_ready (rs := [7]) (by kernel_rfl) (by simp) ?_
                      refine AllReadyIn.cons rfl (fun K hK => ?_) ?_
                      · go_simp
                        refine hK _ _ ?_
                        clear hK K
                        refine wpAnyIn_done (by kernel_rfl) ?_ _
                        (obtain ⟨c6, hrw, hs6, HF⟩ := HYes.out w5 (below_drew14 b5); gi_wp2_with (gi_at_builtin; refine wpListIn_append_own_at _ rfl _ _ 30 rfl w.heap.size 9 i0 (.string ⟨#[]⟩) 1 16 Try.underlying30 hi hz0 hz1 hz2 rfl (by decide) _ _ _ rfl hrw ⟨w5.heap.size, 0, none⟩ 1 1 [.string ⟨yx.toArray⟩] rfl rfl (cell_one_new _ _ _) (by simp [Value.oneCell']) (by unfold maxLen; omega) (by omega) (by simp; omega) ?_; intro v' w7 hown' hgrow _ hat; obtain ⟨A3, c3, rfl⟩ := L5.own_slice hown'; obtain ⟨⟨c7, f7⟩, F', h1, h2⟩ := HF w7 A3 c3 hown' hgrow hat); exact ⟨rfl, F', h1, h2⟩)
                      exact AllReadyIn.nil
                    exact AllReadyIn.nil
                  exact AllReadyIn.nil
                exact AllReadyIn.nil
              refine AllReadyIn.cons rfl (fun K hK => ?_) ?_
              · go_simp
                refine hK _ _ ?_
                clear hK K
                refine wpAnyIn_ready (rs := [3]) (by kernel_rfl) (by simp) ?_
                refine AllReadyIn.cons rfl (fun K hK => ?_) ?_
                · go_simp
                  refine hK _ _ ?_
                  clear hK K
                  refine wpAnyIn_ready (rs := [4]) (by kernel_rfl) (by simp) ?_
                  refine AllReadyIn.cons rfl (fun K hK => ?_) ?_
                  · go_simp
                    gi_wp2_with (refine ⟨trivial, (fun h => nomatch h), ?_⟩; gi_at_call 28; refine (round_call (HL.out _)).mono ?_; rintro e w5 ⟨rfl, b5⟩; have hc5 := HcV.out w5 (below_drew14 b5))
                    refine wpAnyIn_ready (rs := [6]) (by kernel_rfl) (by simp) ?_
                    refine AllReadyIn.cons rfl (fun K hK => ?_) ?_
                    · go_simp
                      refine hK _ _ ?_
                      clear hK K
                      refine wpAnyIn_ready (rs := [7]) (by kernel_rfl) (by simp) ?_
                      refine AllReadyIn.cons rfl (fun K hK => ?_) ?_
                      · go_simp
                        refine hK _ _ ?_
                        clear hK K
                        refine wpAnyIn_done (by kernel_rfl) ?_ _
                        (obtain ⟨c6, hrw, hs6, HF⟩ := HYes.out w5 (below_drew14 b5); gi_wp2_with (gi_at_builtin; refine wpListIn_append_own_at _ rfl _ _ 30 rfl w.heap.size 9 i0 (.string ⟨#[]⟩) 1 16 Try.underlying30 hi hz0 hz1 hz2 rfl (by decide) _ _ _ rfl hrw ⟨w5.heap.size, 0, none⟩ 1 1 [.string ⟨yx.toArray⟩] rfl rfl (cell_one_new _ _ _) (by simp [Value.oneCell']) (by unfold maxLen; omega) (by omega) (by simp; omega) ?_; intro v' w7 hown' hgrow _ hat; obtain ⟨A3, c3, rfl⟩ := L5.own_slice hown'; obtain ⟨⟨c7, f7⟩, F', h1, h2⟩ := HF w7 A3 c3 hown' hgrow hat); exact ⟨rfl, F', h1, h2⟩)
                      exact AllReadyIn.nil
                    exact AllReadyIn.nil
                  exact AllReadyIn.nil
                exact AllReadyIn.nil
              exact AllReadyIn.nil
            exact AllReadyIn.nil
          exact AllReadyIn.nil
        exact AllReadyIn.nil
      · have hd : isDutyI p (yx, yt) = false := decide_eq_false (fun h => hlp (hlw ▸ h.2))
        have HE := Lib.hid (fun V (hb : Below W.heap.size W V) => HNo.out hd V hb)
        have hlp' : (lw == p) = false := by rw [beq_eq_false_iff_ne]; exact hlp
        clear hT hpre hbx hF hrow hmem hc HNo hbW hyx hlw hlp hd
        generalize yt.text = tx at *
        gi_wp2
        refine wpIn_region_any (by kernel_rfl) ?_
        change wpAnyIn _ _ _ _ _ _ _ _ _ (World.drew _)
        refine wpAnyIn_ready (rs := [0]) (by kernel_rfl) (by simp) ?_
        refine AllReadyIn.cons rfl (fun K hK => ?_) ?_
        · go_simp
          refine hK _ _ ?_
          clear hK K
          refine wpAnyIn_ready (rs := [1]) (by kernel_rfl) (by simp) ?_
          refine AllReadyIn.cons rfl (fun K hK => ?_) ?_
          · go_simp
            refine hK _ _ ?_
            clear hK K
            refine wpAnyIn_ready (rs := [2]) (by kernel_rfl) (by simp) ?_
            refine AllReadyIn.cons rfl (fun K hK => ?_) ?_
            · go_simp
              refine hK _ _ ?_
              clear hK K
              refine wpAnyIn_ready (rs := [3, 5]) (by kernel_rfl) (by simp) ?_
              refine AllReadyIn.cons rfl (fun K hK => ?_) ?_
              · go_simp
                refine hK _ _ ?_
                clear hK K
                refine wpAnyIn_ready (rs := [4, 5]) (by kernel_rfl) (by simp) ?_
                refine AllReadyIn.cons rfl (fun K hK => ?_) ?_
                · go_simp
                  gi_wp2_with (refine ⟨trivial, (fun h => nomatch h), ?_⟩; gi_at_call 28; refine (round_call (HL.out _)).mono ?_; rintro e w5 ⟨rfl, b5⟩; have hc5 := HcV.out w5 (below_drew14 b5))
                  refine wpAnyIn_ready (rs := [5]) (by kernel_rfl) (by simp) ?_
                  refine AllReadyIn.cons rfl (fun K hK => ?_) ?_
                  · go_simp
                    refine hK _ _ ?_
                    clear hK K
                    refine wpAnyIn_ready (rs := [6]) (by kernel_rfl) (by simp) ?_
                    refine AllReadyIn.cons rfl (fun K hK => ?_) ?_
                    · go_simp
                      refine hK _ _ ?_
                      clear hK K
                      refine wpAnyIn_ready (rs := [7]) (by kernel_rfl) (by simp) ?_
                      refine AllReadyIn.cons rfl (fun K hK => ?_) ?_
                      · go_simp
                        refine hK _ _ ?_
                        clear hK K
                        refine wpAnyIn_done (by kernel_rfl) ?_ _
                        (gi_wp2; obtain ⟨F', h1, h2⟩ := HE.out _ (below_drew14 b5); exact ⟨rfl, F', h1, h2⟩)
                      exact AllReadyIn.nil
                    exact AllReadyIn.nil
                  exact AllReadyIn.nil
                refine AllReadyIn.cons rfl (fun K hK => ?_) ?_
                · go_simp
                  refine hK _ _ ?_
                  clear hK K
                  refine wpAnyIn_ready (rs := [4]) (by kernel_rfl) (by simp) ?_
                  refine AllReadyIn.cons rfl (fun K hK => ?_) ?_
                  · go_simp
                    gi_wp2_with (refine ⟨trivial, (fun h => nomatch h), ?_⟩; gi_at_call 28; refine (round_call (HL.out _)).mono ?_; rintro e w5 ⟨rfl, b5⟩; have hc5 := HcV.out w5 (below_drew14 b5))
                    refine wpAnyIn_ready (rs := [6]) (by kernel_rfl) (by simp) ?_
                    refine AllReadyIn.cons rfl (fun K hK => ?_) ?_
                    · go_simp
                      refine hK _ _ ?_
                      clear hK K
                      refine wpAnyIn_ready (rs := [7]) (by kernel_rfl) (by simp) ?_
                      refine AllReadyIn.cons rfl (fun K hK => ?_) ?_
                      · go_simp
                        refine hK _ _ ?_
                        clear hK K
                        refine wpAnyIn_done (by kernel_rfl) ?_ _
                        (gi_wp2; obtain ⟨F', h1, h2⟩ := HE.out _ (below_drew14 b5); exact ⟨rfl, F', h1, h2⟩)
                      exact AllReadyIn.nil
                    exact AllReadyIn.nil
                  exact AllReadyIn.nil
                exact AllReadyIn.nil
              refine AllReadyIn.cons rfl (fun K hK => ?_) ?_
              · go_simp
                refine hK _ _ ?_
                clear hK K
                refine wpAnyIn_ready (rs := [3]) (by kernel_rfl) (by simp) ?_
                refine AllReadyIn.cons rfl (fun K hK => ?_) ?_
                · go_simp
                  refine hK _ _ ?_
                  clear hK K
                  refine wpAnyIn_ready (rs := [4]) (by kernel_rfl) (by simp) ?_
                  refine AllReadyIn.cons rfl (fun K hK => ?_) ?_
                  · go_simp
                    gi_wp2_with (refine ⟨trivial, (fun h => nomatch h), ?_⟩; gi_at_call 28; refine (round_call (HL.out _)).mono ?_; rintro e w5 ⟨rfl, b5⟩; have hc5 := HcV.out w5 (below_drew14 b5))
                    refine wpAnyIn_ready (rs := [6]) (by kernel_rfl) (by simp) ?_
                    refine AllReadyIn.cons rfl (fun K hK => ?_) ?_
                    · go_simp
                      refine hK _ _ ?_
                      clear hK K
                      refine wpAnyIn_ready (rs := [7]) (by kernel_rfl) (by simp) ?_
                      refine AllReadyIn.cons rfl (fun K hK => ?_) ?_
                      · go_simp
                        refine hK _ _ ?_
                        clear hK K
                        refine wpAnyIn_done (by kernel_rfl) ?_ _
                        (gi_wp2; obtain ⟨F', h1, h2⟩ := HE.out _ (below_drew14 b5); exact ⟨rfl, F', h1, h2⟩)
                      exact AllReadyIn.nil
                    exact AllReadyIn.nil
                  exact AllReadyIn.nil
                exact AllReadyIn.nil
              exact AllReadyIn.nil
            exact AllReadyIn.nil
          exact AllReadyIn.nil
        exact AllReadyIn.nil
  case done =>
    rintro D F W hD hFD ⟨hT, _, _⟩ hK
    have hst : stopped (fun _ : Nd => false) (upto (fun _ => false) (upL x p)) = false := by unfold stopped; simp
    rw [hst]
    rw [hup] at hT
    have hT2 := hT.kept (Beside.put (B := D) W (.deferred none) (Nat.le_refl _) hFD) (by omega)
    obtain ⟨A, c, hc, hrow, hF, hbx⟩ := hT.cells
    have hrow2 := ownsRow_putObj hrow (.deferred none) hK rfl
    have HB := Lib.hid hT2.below
    have HZ : Hid (dutiesX x p = dutL p (upL x p)) := rfl
    generalize dutL p (upL x p) = zs at *
    clear hT hT2 hF hbx hseq hup hst
    gi_wp2
    refine leave_mark hK (fun V hV => results_tmp rfl _ _ _) ⟨_, rfl, ?_, HB.out⟩
    rw [HZ.out]
    exact hrow2
end Go.Proofs.Ytlpabhgfmkilnaa.L14
