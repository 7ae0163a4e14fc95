/- Contracts of place.Path, Co and Duties. -/
import Derived.Test.YtlpabhgfmkilnaaPlUp2
namespace Go.Proofs.Ytlpabhgfmkilnaa.L14
open Go.ChangeShapes Go.WideShapes Go.ChangeAt Go.RowKit Go.Deep
open Go.Proofs.Ytlpabhgfmkilnaa.L13
open Go.Proofs.Ytlpabhgfmkilnaa.L5 (One)

attribute [local go_sem] Oper.semAt_some

theorem enters_up : ∀ args w, (callFunc 34 args).run Try.prog w = .ok (.enter 34 args) w := enters_of Try.func34 (by kernel_rfl) rfl
theorem up_upto (x : List UInt8) (p : Int) (Bt Bp : Nat) (w : World) (hct : w.cell? ⟨Bt, 0, none⟩ = some (.string ⟨x.toArray⟩)) (hcp : w.cell? ⟨Bp, 0, none⟩ = some (.int .i64 p)) (hBt : Bt < w.heap.size) (hBp : Bp < w.heap.size) :
    SeqUpto Try.prog 34 #[.pointer (some ⟨Bt, 0, none⟩), .pointer (some ⟨Bp, 0, none⟩)] encN (fun q => q = Bt ∨ q = Bp) (upL x p) w :=
  fun s n l J F W hW hl hJ hF hY h0 => up_in x p Bt Bp s n l J F W hl hJ hF ((hW.cell (p := ⟨Bt, 0, none⟩) hBt).trans hct) ((hW.cell (p := ⟨Bp, 0, none⟩) hBp).trans hcp) (Nat.lt_of_lt_of_le hBt hW.size) (Nat.lt_of_lt_of_le hBp hW.size) hY h0
theorem upL_len (x : List UInt8) (p : Int) : (upL x p).length ≤ 15 := by
  unfold upL
  rw [List.length_reverse]
  exact Nat.le_trans (List.length_filter_le _ _) (downX_len x)
theorem upL_ok {x : List UInt8} {p : Int} {y : Nd} (h : y ∈ upL x p) : y.2.ok ∧ y.1.length ≤ 7 := by
  unfold upL at h
  rw [List.mem_reverse, List.mem_filter] at h
  exact downX_ok h.1
set_option maxHeartbeats 1000000 in
/-- What up hands out, in a world that it names. -/
theorem up_calls (x : List UInt8) (p : Int) (w : World) : Calls Try.prog 25 #[.string ⟨x.toArray⟩, .int .i64 p] w fun e w' => ∃ Bt Bp, e = .returned (.func (.func 34) #[] #[.pointer (some ⟨Bt, 0, none⟩), .pointer (some ⟨Bp, 0, none⟩)]) ∧ Below w.heap.size w w' ∧ (w.heap.size ≤ Bt ∧ Bt < w'.heap.size) ∧ (w.heap.size ≤ Bp ∧ Bp < w'.heap.size) ∧
    SeqUpto Try.prog 34 #[.pointer (some ⟨Bt, 0, none⟩), .pointer (some ⟨Bp, 0, none⟩)] encN (fun q => q = Bt ∨ q = Bp) (upL x p) w' := by
  have HU : Hid (∀ W, (w.alloc (.cells #[.string ⟨x.toArray⟩] 23)).alloc (.cells #[.int .i64 p] 3) = W → Below w.heap.size w W ∧ (w.heap.size ≤ w.heap.size ∧ w.heap.size < W.heap.size) ∧ (w.heap.size ≤ w.heap.size + 1 ∧ w.heap.size + 1 < W.heap.size) ∧ SeqUpto Try.prog 34 #[.pointer (some ⟨w.heap.size, 0, none⟩), .pointer (some ⟨w.heap.size + 1, 0, none⟩)] encN (fun q => q = w.heap.size ∨ q = w.heap.size + 1) (upL x p) W) := by
    rintro W rfl
    have e0 := World.alloc_heap_new w (.cells #[.string ⟨x.toArray⟩] 23)
    have e1 := World.alloc_heap_new (w.alloc (.cells #[.string ⟨x.toArray⟩] 23)) (.cells #[.int .i64 p] 3)
    simp only [World.size_alloc] at e0 e1
    refine ⟨((Below.refl _ w).alloc (Nat.le_refl _) _).alloc (by simp) _, ⟨by omega, by simp; omega⟩, ⟨by omega, by simp⟩, up_upto x p _ _ _ ?_ ?_ (by simp; omega) (by simp)⟩
    · rw [cell_of_row _ _ _ _ _ _ ((heap_alloc_old _ _ (by simp)).trans e0)]; rfl
    · rw [cell_of_row _ _ _ _ _ _ e1]; rfl
  go_enter Try.func25, Try.ntmps25
  go_wp2
  go_ret
  exact ⟨_, _, rfl, HU.out _ rfl⟩
def pathX (x : List UInt8) (p : Int) : List (List UInt8) := (upL x p).map (fun s => s.1)
set_option maxHeartbeats 1000000 in
theorem path_calls (x : List UInt8) (p : Int) (w : World) : Calls Try.prog 10 #[.string ⟨x.toArray⟩, .int .i64 p] w (TextsOut w (pathX x p)) := by
  have HD := Lib.hid (up_calls x p w)
  have HG : Hid (∀ W Bt Bp, Bt < W.heap.size → Bp < W.heap.size → SeqUpto Try.prog 34 #[.pointer (some ⟨Bt, 0, none⟩), .pointer (some ⟨Bp, 0, none⟩)] encN (fun q => q = Bt ∨ q = Bp) (upL x p) W → Calls Try.prog 24 #[.func (.func 34) #[] #[.pointer (some ⟨Bt, 0, none⟩), .pointer (some ⟨Bp, 0, none⟩)]] W (TextsOut W (pathX x p))) :=
    fun W Bt Bp h1 h2 hs => gather_calls 34 _ _ (upL x p) W enters_up hs (fun q hq => by omega) (by have := upL_len x p; omega)
  generalize pathX x p = zs at *
  go_enter Try.func10, Try.ntmps10
  go_wp2_with fail
  refine HD.out.mono ?_
  rintro e W ⟨Bt, Bp, rfl, bW, h1, h2, hs⟩
  have hG := HG.out W Bt Bp h1.2 h2.2 hs
  have HB := Lib.hid bW
  clear bW h1 h2 hs
  go_wp2_with fail
  refine hG.mono ?_
  rintro e W2 ⟨v, rfl, ho, b2⟩
  obtain ⟨A, c, rfl⟩ := L5.own_slice ho
  have HO := Lib.hid (And.intro ho b2)
  clear ho b2
  go_wp2
  go_ret
  exact ⟨_, rfl, L10.own_base HO.out.1 HB.out.size, HB.out.trans (HO.out.2.mono HB.out.size)⟩
theorem opIn_append {F : Fence} {n : Nat} {P : Program} {o : Oper} {a : Act} {w w' : World} {K : Act → World → Prop} {Q : Exit → Act → World → Prop} {v' : Value} (s x : Operand) (t : TypeId)
    (ho : o.op = .call { callee := .builtin .append, args := #[s, x], argTypes := #[t, t] }) (v u : Value) (hs : a.eval s = v) (hx : a.eval x = u) (hr : (Builtin.append_ #[t, t] o.type #[v, u]).run P w = .ok v' w') (hK : K (a.put o.dst v') w') : Oper.wpIn F n P o a w K Q := by
  unfold Oper.wpIn
  refine ⟨by simp [Oper.about, ho, resolve, Target.leads, Sem.run_pure], ?_⟩
  rw [Oper.semAt_plain F _ _ (by rw [ho]; intro c hc'; cases hc')]
  simp [execOp, ho, resolve, invoke, builtin, hs, hx, hr, Result.andThen]
  exact hK
/-- What lies beside a path. -/
def coL (pre : List Nd) : List (List UInt8) := (pre.filter (fun y => decide (y.1 ≠ []))).map (fun y => besideL y.1)
def coX (x : List UInt8) (p : Int) : List (List UInt8) := coL (upL x p)
theorem coL_yes (pre : List Nd) (y : Nd) (h : y.1 ≠ []) : coL (pre ++ [y]) = coL pre ++ [besideL y.1] := by simp [coL, h]
theorem coL_no (pre : List Nd) (y : Nd) (h : y.1 = []) : coL (pre ++ [y]) = coL pre := by simp [coL, h]
theorem coL_len (pre : List Nd) : (coL pre).length ≤ pre.length := by
  unfold coL
  rw [List.length_map]
  exact List.length_filter_le _ _
set_option maxRecDepth 100000 in
set_option maxHeartbeats 8000000 in
theorem co_calls (x : List UInt8) (p : Int) (w : World) : Calls Try.prog 14 #[.string ⟨x.toArray⟩, .int .i64 p] w (TextsOut w (coX x p)) := by
  obtain ⟨i0, hi, hz0, hz1, hz2⟩ := info_parts info_str
  have HD := Lib.hid (fun V => up_calls x p V)
  have HBs := Lib.hid (fun y (hy : List.length y ≤ 1000) V => beside_calls y hy V)
  refine (callsIn_wide (n := 9)).1 ?_
  refine callsIn_of_wp_marks Try.func14 rfl trivial ?_ rfl
  simp only [Try.ntmps14, List.size_toArray, List.length_cons, List.length_nil, Nat.reduceAdd, Nat.reduceSub, Array.replicate_succ, Array.replicate_zero, List.push_toArray, List.append_toArray, List.nil_append, List.cons_append]
  gi_wp2_with (refine ⟨trivial, ?_⟩; gi_at_call 25; refine (callsIn_wide.2 (HD.out _)).mono ?_; rintro e W2 ⟨Bt, Bp, rfl, bW, h1, h2, hseq⟩)
  have hN := (TBox.new w w w.heap.size (Below.refl _ _) (Nat.le_refl _)).kept (C := w.heap.size) (.of_below bW) (Nat.le_refl _)
  have hz : w.heap.size + 1 ≤ W2.heap.size := by have := bW.size; simp at this; omega
  simp only [World.size_alloc] at h1 h2
  have hup : upto (fun _ => false) (upL x p) = upL x p := upto_never _
  clear bW
  refine wp_upto (gf := 34) (lb := #[.pointer (some ⟨Bt, 0, none⟩), .pointer (some ⟨Bp, 0, none⟩)]) rfl enters_up hseq (fun q => q = w.heap.size) (fun q hq => by omega) (Below.refl _ _) (fun _ => rfl)
    (fun _ => false) (fun F pre W => TBox w.heap.size w.heap.size w F (coL pre) W) (fun F pre V V' h hk => h.kept hk (by omega)) hN
    (fun y => { tmps := #[.string ⟨x.toArray⟩, .int .i64 p, undef, undef, .slice none 0 0, .pointer (some ⟨w.heap.size, 0, none⟩), .string ⟨y.1.toArray⟩, .string ⟨x.toArray⟩, .int .i64 p, .func (.func 34) #[] #[.pointer (some ⟨Bt, 0, none⟩), .pointer (some ⟨Bp, 0, none⟩)], .string ⟨y.1.toArray⟩, .string ⟨y.2.text.toArray⟩, undef, undef, undef, undef, undef, undef, undef, undef], defers := [] }) ?assign ?body ?done
  case assign =>
    intro m l y W K hK
    unfold encN
    gi_wp2
    exact hK
  case body =>
    rintro m l pre ⟨yx, yt⟩ F W hpre hT
    have hmem : (yx, yt) ∈ upL x p := by
      have := hpre.subset (by simp : (yx, yt) ∈ pre ++ [(yx, yt)])
      rwa [hup] at this
    have hy7 := (upL_ok hmem).2
    have hl : (coL pre).length ≤ 15 := by
      have h1 := hpre.length_le
      rw [hup] at h1
      have h2 := upL_len x p
      have h3 := coL_len pre
      simp at h1
      omega
    dsimp only at hy7
    obtain ⟨A, c, hc, hrow, hF, hbx⟩ := hT.cells
    have hsz := hT.below.size
    by_cases hyx : yx = []
    · subst hyx
      have HE : Hid (∃ F', Round F F' W W ∧ TBox w.heap.size w.heap.size w F' (coL (pre ++ [([], yt)])) W) := ⟨F, Round.of_below (Below.refl _ _) (fun q hq => (hT.lows q hq).2), by rw [coL_no _ _ rfl]; exact hT⟩
      clear hT hpre hbx hF hrow hmem hc
      gi_wp2
      obtain ⟨F', h1, h2⟩ := HE.out
      exact ⟨rfl, F', h1, h2⟩
    · have HBy := Lib.hid (fun V => HBs.out yx (by omega) V)
      have HA := Lib.hid (fun W1 W2 v' (h1 : Below W.heap.size W W1) h2 h3 h4 => hT.append (W1 := W1) (W2 := W2) (y := besideL yx) (v' := v') hF hrow hbx h1 h2 h3 h4)
      rw [coL_yes pre (yx, yt) hyx]
      dsimp only
      have hyx' : (yx == []) = false := by rw [beq_eq_false_iff_ne]; exact hyx
      have hyx2 : (yx != []) = true := by rw [bne, hyx']; rfl
      have mixed : Try.prog.follows Departure.mixedOrders = true := by kernel_rfl
      clear hT hpre hbx hF hmem hyx
      generalize besideL yx = by_ at *
      obtain ⟨zs, hzs⟩ : ∃ zs, coL pre = zs := ⟨_, rfl⟩
      rw [hzs] at hl hrow hc HA ⊢
      clear hzs
      have HApp : Hid (∀ w5, Below W.heap.size W w5 → ∃ A3 c3 w7, (Builtin.append_ #[30, 30] 30 #[.slice A zs.length c, .slice (some ⟨w5.heap.size, 0, none⟩) 1 1]).run Try.prog (w5.alloc (.cells #[.string ⟨by_.toArray⟩] 9)) = .ok (.slice A3 (zs.length + 1) c3) w7 ∧
          (w5.cell? ⟨w.heap.size, 0, none⟩ = some (.slice A zs.length c) ∧ (w5.alloc (.cells #[.string ⟨by_.toArray⟩] 9)).cell? ⟨w.heap.size, 0, none⟩ = some (.slice A zs.length c)) ∧ (w7.cell? ⟨w.heap.size, 0, none⟩ = some (.slice A zs.length c) ∧ w7.frozen? ⟨w.heap.size, 0, none⟩ = false) ∧ ∃ F', TBox w.heap.size w.heap.size w F' (zs ++ [by_]) (w7.setCell ⟨w.heap.size, 0, none⟩ (.slice A3 (zs.length + 1) c3)) ∧ Round F F' W (w7.setCell ⟨w.heap.size, 0, none⟩ (.slice A3 (zs.length + 1) c3))) := by
        intro w5 b5
        have hs5 := b5.size
        have ba : Below W.heap.size W (w5.alloc (.cells #[.string ⟨by_.toArray⟩] 9)) := b5.trans ((Below.refl _ w5).alloc hs5 _)
        obtain ⟨v', w7, hr, h2, h3, h4, h5⟩ := run_append_own_at (P := Try.prog) (w5.alloc (.cells #[.string ⟨by_.toArray⟩] 9)) w.heap.size 30 30 9 i0 (.string ⟨#[]⟩) 1 16 Try.underlying30 hi hz0 hz1 hz2 rfl (by decide) _ zs.length _ (own_later hrow ba) ⟨w5.heap.size, 0, none⟩ 1 1 [.string ⟨by_.toArray⟩] rfl (cell_one_new _ _ _) (by simp [Value.oneCell']) (by unfold maxLen; omega) (by omega) (by simp; omega)
        obtain ⟨A3, c3, rfl⟩ := L5.own_slice h2
        exact ⟨A3, c3, w7, hr, ⟨(b5.cell (p := ⟨w.heap.size, 0, none⟩) (World.block_lt_of_cell? _ _ hc)).trans hc, (ba.cell (p := ⟨w.heap.size, 0, none⟩) (World.block_lt_of_cell? _ _ hc)).trans hc⟩, HA.out _ w7 _ ba h2 h3 h5⟩
      clear hrow HA
      gi_wp2
      refine wpIn_region_any (by kernel_rfl) ?_
      change wpAnyIn _ _ _ _ _ _ _ _ _ (World.drew _)
      refine wpAnyIn_ready (rs := [0, 1]) (by kernel_rfl) (by simp) ?_
      refine AllReadyIn.cons rfl (fun K hK => ?_) ?_
      · go_simp
        refine hK _ _ ?_
        clear hK K
        refine wpAnyIn_ready (rs := [1]) (by kernel_rfl) (by simp) ?_
        refine AllReadyIn.cons rfl (fun K hK => ?_) ?_
        · go_simp
          refine hK _ _ ?_
          clear hK K
          refine wpAnyIn_ready (rs := [2]) (by kernel_rfl) (by simp) ?_
          refine AllReadyIn.cons rfl (fun K hK => ?_) ?_
          · go_simp
            gi_wp2_with (refine ⟨trivial, (fun h => nomatch h), ?_⟩; gi_at_call 12; refine (round_call (HBy.out _)).mono ?_; rintro e w5 ⟨rfl, b5⟩; obtain ⟨A3, c3, w7, hap, ⟨hc5, hc5a⟩, ⟨hc7, hf7⟩, HE⟩ := HApp.out w5 (below_drew14 b5))
            refine wpAnyIn_ready (rs := [3]) (by kernel_rfl) (by simp) ?_
            refine AllReadyIn.cons rfl (fun K hK => ?_) ?_
            · go_simp
              refine hK _ _ ?_
              clear hK K
              refine wpAnyIn_ready (rs := [4]) (by kernel_rfl) (by simp) ?_
              refine AllReadyIn.cons rfl (fun K hK => ?_) ?_
              · rw [if_pos (by rfl)]
                refine opIn_append (.tmp 14) (.tmp 17) 30 rfl _ _ rfl rfl hap ?_
                refine hK _ _ ?_
                clear hK K
                refine wpAnyIn_ready (rs := [5]) (by kernel_rfl) (by simp) ?_
                refine AllReadyIn.cons rfl (fun K hK => ?_) ?_
                · go_simp
                  refine hK _ _ ?_
                  clear hK K
                  refine wpAnyIn_done (by kernel_rfl) ?_ _
                  (gi_wp2; obtain ⟨F', h1, h2⟩ := HE; exact ⟨rfl, F', h2, h1⟩)
                exact AllReadyIn.nil
              exact AllReadyIn.nil
            exact AllReadyIn.nil
          exact AllReadyIn.nil
        exact AllReadyIn.nil
      refine AllReadyIn.cons rfl (fun K hK => ?_) ?_
      · go_simp
        refine hK _ _ ?_
        clear hK K
        refine wpAnyIn_ready (rs := [0, 2]) (by kernel_rfl) (by simp) ?_
        refine AllReadyIn.cons rfl (fun K hK => ?_) ?_
        · go_simp
          refine hK _ _ ?_
          clear hK K
          refine wpAnyIn_ready (rs := [2]) (by kernel_rfl) (by simp) ?_
          refine AllReadyIn.cons rfl (fun K hK => ?_) ?_
          · go_simp
            gi_wp2_with (refine ⟨trivial, (fun h => nomatch h), ?_⟩; gi_at_call 12; refine (round_call (HBy.out _)).mono ?_; rintro e w5 ⟨rfl, b5⟩; obtain ⟨A3, c3, w7, hap, ⟨hc5, hc5a⟩, ⟨hc7, hf7⟩, HE⟩ := HApp.out w5 (below_drew14 b5))
            refine wpAnyIn_ready (rs := [3]) (by kernel_rfl) (by simp) ?_
            refine AllReadyIn.cons rfl (fun K hK => ?_) ?_
            · go_simp
              refine hK _ _ ?_
              clear hK K
              refine wpAnyIn_ready (rs := [4]) (by kernel_rfl) (by simp) ?_
              refine AllReadyIn.cons rfl (fun K hK => ?_) ?_
              · rw [if_pos (by rfl)]
                refine opIn_append (.tmp 14) (.tmp 17) 30 rfl _ _ rfl rfl hap ?_
                refine hK _ _ ?_
                clear hK K
                refine wpAnyIn_ready (rs := [5]) (by kernel_rfl) (by simp) ?_
                refine AllReadyIn.cons rfl (fun K hK => ?_) ?_
                · go_simp
                  refine hK _ _ ?_
                  clear hK K
                  refine wpAnyIn_done (by kernel_rfl) ?_ _
                  (gi_wp2; obtain ⟨F', h1, h2⟩ := HE; exact ⟨rfl, F', h2, h1⟩)
                exact AllReadyIn.nil
              exact AllReadyIn.nil
            exact AllReadyIn.nil
          exact AllReadyIn.nil
        refine AllReadyIn.cons rfl (fun K hK => ?_) ?_
        · go_simp
          gi_wp2_with (refine ⟨trivial, (fun h => nomatch h), ?_⟩; gi_at_call 12; refine (round_call (HBy.out _)).mono ?_; rintro e w5 ⟨rfl, b5⟩; obtain ⟨A3, c3, w7, hap, ⟨hc5, hc5a⟩, ⟨hc7, hf7⟩, HE⟩ := HApp.out w5 (below_drew14 b5))
          refine wpAnyIn_ready (rs := [0, 3]) (by kernel_rfl) (by simp) ?_
          refine AllReadyIn.cons rfl (fun K hK => ?_) ?_
          · go_simp
            refine hK _ _ ?_
            clear hK K
            refine wpAnyIn_ready (rs := [3]) (by kernel_rfl) (by simp) ?_
            refine AllReadyIn.cons rfl (fun K hK => ?_) ?_
            · go_simp
              refine hK _ _ ?_
              clear hK K
              refine wpAnyIn_ready (rs := [4]) (by kernel_rfl) (by simp) ?_
              refine AllReadyIn.cons rfl (fun K hK => ?_) ?_
              · rw [if_pos (by rfl)]
                refine opIn_append (.tmp 14) (.tmp 17) 30 rfl _ _ rfl rfl hap ?_
                refine hK _ _ ?_
                clear hK K
                refine wpAnyIn_ready (rs := [5]) (by kernel_rfl) (by simp) ?_
                refine AllReadyIn.cons rfl (fun K hK => ?_) ?_
                · go_simp
                  refine hK _ _ ?_
                  clear hK K
                  refine wpAnyIn_done (by kernel_rfl) ?_ _
                  (gi_wp2; obtain ⟨F', h1, h2⟩ := HE; exact ⟨rfl, F', h2, h1⟩)
                exact AllReadyIn.nil
              exact AllReadyIn.nil
            exact AllReadyIn.nil
          refine AllReadyIn.cons rfl (fun K hK => ?_) ?_
          · go_simp
            refine hK _ _ ?_
            clear hK K
            refine wpAnyIn_ready (rs := [0]) (by kernel_rfl) (by simp) ?_
            refine AllReadyIn.cons rfl (fun K hK => ?_) ?_
            · go_simp
              refine hK _ _ ?_
              clear hK K
              refine wpAnyIn_ready (rs := [4]) (by kernel_rfl) (by simp) ?_
              refine AllReadyIn.cons rfl (fun K hK => ?_) ?_
              · rw [if_pos (by rfl)]
                refine opIn_append (.tmp 14) (.tmp 17) 30 rfl _ _ rfl rfl hap ?_
                refine hK _ _ ?_
                clear hK K
                refine wpAnyIn_ready (rs := [5]) (by kernel_rfl) (by simp) ?_
                refine AllReadyIn.cons rfl (fun K hK => ?_) ?_
                · go_simp
                  refine hK _ _ ?_
                  clear hK K
                  refine wpAnyIn_done (by kernel_rfl) ?_ _
                  (gi_wp2; obtain ⟨F', h1, h2⟩ := HE; exact ⟨rfl, F', h2, h1⟩)
                exact AllReadyIn.nil
              exact AllReadyIn.nil
            exact AllReadyIn.nil
          exact AllReadyIn.nil
        exact AllReadyIn.nil
      exact AllReadyIn.nil
  case done =>
    rintro D F W hD hFD hT hK
    have hst : stopped (fun _ : Nd => false) (upto (fun _ => false) (upL x p)) = false := by unfold stopped; simp
    rw [hst]
    rw [hup] at hT
    have hT2 := hT.kept (Beside.put (B := D) W (.deferred none) (Nat.le_refl _) hFD) (by omega)
    obtain ⟨A, c, hc, hrow, hF, hbx⟩ := hT.cells
    have hrow2 := ownsRow_putObj hrow (.deferred none) hK rfl
    have HB := Lib.hid hT2.below
    have HZ : Hid (coX x p = coL (upL x p)) := rfl
    generalize coL (upL x p) = zs at *
    clear hT hT2 hF hbx hseq hup hst
    gi_wp2
    refine leave_mark hK (fun V hV => results_tmp rfl _ _ _) ⟨_, rfl, ?_, HB.out⟩
    rw [HZ.out]
    exact hrow2
end Go.Proofs.Ytlpabhgfmkilnaa.L14
