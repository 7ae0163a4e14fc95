/- place.up's walk. -/
import Derived.Test.YtlpabhgfmkilnaaPlUp
import Derived.Stop.RegionWithIn
import Derived.BigRegionIn
namespace Go.Proofs.Ytlpabhgfmkilnaa.L14
open Go.ChangeShapes Go.WideShapes Go.ChangeAt Go.RowKit Go.Deep
open Go.Proofs.Ytlpabhgfmkilnaa.L13
open Go.Proofs.Ytlpabhgfmkilnaa.L5 (One)

attribute [local go_sem] Oper.semAt_some

theorem below_drew14 {B : Nat} {W W' : World} (h : Below B W.drew W') : Below B W W' := ⟨h.os, h.tape, h.output, h.size, h.block⟩
theorem round_call {l n : Nat} {P : Program} {f : FuncId} {args : Array Value} {w : World} {R : Ending → World → Prop} (h : Calls P f args w R) : CallsIn (Fence.wide.inRound l) n P f args w R := callsIn_wide.2 h
theorem own_later {V V' : World} {B k n : Nat} {e : TypeId} {v : Value} {xs : List Value} (h : V.ownsRow B e k v n xs) (hb : Below V.heap.size V V') : V'.ownsRow B e k v n xs := by
  refine ⟨h.1, ?_⟩
  rcases h.2 with e | ⟨g, cap, cur, e, k1, k2, k3⟩
  · exact .inl e
  · exact .inr ⟨g, cap, cur, e, k1, (hb.block g (Array.getElem?_eq_some_iff.1 k2).1).trans k2, k3⟩
theorem upto_map {α β : Type} (f : α → β) (s : β → Bool) (xs : List α) : (upto (fun e => s (f e)) xs).map f = upto s (xs.map f) := by
  induction xs with
  | nil => rfl
  | cons x xs ih =>
    simp only [upto, List.map_cons]
    split
    · rfl
    · rw [List.map_cons, ih]
theorem upto_back {s : Nd → Bool} (ps : List Nd) : (upto (fun e : Nat × Nd => s e.2) (backs ps)).map (fun e => e.2) = upto s ps.reverse := by
  rw [upto_map (fun e : Nat × Nd => e.2) s, backs_snd]
def hasI (p : Int) (y : Nd) : Bool := y.2.mems.contains p
def upL (x : List UInt8) (p : Int) : List Nd := ((downX x).filter (hasI p)).reverse
theorem downX_ok {x : List UInt8} {y : Nd} (h : y ∈ downX x) : y.2.ok ∧ y.1.length ≤ 7 := by
  unfold downX at h
  cases hx : readT x with
  | none => rw [hx] at h; cases h
  | some t =>
    rw [hx] at h
    have ho := (readT_some hx).2
    have := (t.down_mem y.1 y.2).1 h
    exact ⟨ho.at this, by have := at_len this; have := ho.deep8; omega⟩
set_option maxRecDepth 100000 in
set_option maxHeartbeats 16000000 in
theorem up_in (x : List UInt8) (p : Int) (Bt Bp : Nat) (s : Nd → Bool) (n l : Nat) (J : (Nat → Prop) → List Nd → World → Prop) (F : Nat → Prop) (W : World) (hl : l < W.heap.size) (hJ : Hangs W.heap.size J) (hF : ∀ q, F q → q < W.heap.size ∧ ¬ (q = Bt ∨ q = Bp))
    (hct : W.cell? ⟨Bt, 0, none⟩ = some (.string ⟨x.toArray⟩)) (hcp : W.cell? ⟨Bp, 0, none⟩ = some (.int .i64 p)) (hBt : Bt < W.heap.size) (hBp : Bp < W.heap.size)
    (hY : ∀ m pre x' F W1, pre ++ [x'] <+: upto s (upL x p) → J F pre W1 → YieldAt Fence.wide m Try.prog l (encN x') W1 fun e W' => e = .returned (.bool (!s x')) ∧ ∃ F', J F' (pre ++ [x']) W' ∧ (∀ q, F' q → F q ∨ W1.heap.size ≤ q) ∧ Round (fun q => F q ∨ (s x' = true ∧ q = l)) F' W1 W')
    (h0 : J F [] W) : CallsIn Fence.wide n Try.prog 34 #[.func (.yield l) #[] #[], .pointer (some ⟨Bt, 0, none⟩), .pointer (some ⟨Bp, 0, none⟩)] W fun e W' => (∃ v, e = .returned v) ∧ ∃ F', J F' (upto s (upL x p)) W' := by
  obtain ⟨i0, hi, hz0, hz1, hz2⟩ := info_parts info_spot
  have HD := Lib.hid (fun V => down_calls x V)
  have HYh := Lib.hid hY
  have HJh := Lib.hid hJ
  refine callsIn_of_wp_marks Try.func34 rfl trivial ?_ rfl
  simp only [Try.ntmps34, List.size_toArray, List.length_cons, List.length_nil, Nat.reduceAdd, Nat.reduceSub, Array.replicate_succ, Array.replicate_zero, List.push_toArray, List.append_toArray, List.nil_append, List.cons_append]
  clear hY
  gi_wp2_with (refine ⟨trivial, (fun h => nomatch h), ?_⟩; gi_at_call 21; refine (callsIn_wide.2 (HD.out _)).mono ?_; rintro e w3 ⟨rfl, hw3⟩)
  obtain ⟨b3, hb3⟩ : ∃ b, b = W.heap.size := ⟨_, rfl⟩
  obtain ⟨b4, hb4⟩ : ∃ b, b = W.heap.size + 1 := ⟨_, rfl⟩
  have bW : Below W.heap.size W (W.alloc (.cells #[.func (.yield l) #[] #[]] 54)) := (Below.refl _ W).alloc (Nat.le_refl _) _
  have hPB := PBox.new W (W.alloc (.cells #[.func (.yield l) #[] #[]] 54)) W.heap.size bW (by simp)
  rw [World.size_alloc, ← hb4] at hPB
  have hz3 : w3.heap.size = W.heap.size + 3 := by rw [← hw3]; simp
  have hyb : w3.heap[b3]? = some (.cells #[.func (.yield l) #[] #[]] 54 (0, 0)) := by
    rw [← hw3, hb3]
    exact (heap_alloc_old _ _ (by simp; omega)).trans ((heap_alloc_old _ _ (by simp)).trans (World.alloc_heap_new W _))
  have htb : w3.cell? ⟨W.heap.size + 1 + 1, 0, none⟩ = some (.string ⟨x.toArray⟩) := by
    rw [← hw3]
    have := World.alloc_heap_new ((W.alloc (.cells #[.func (.yield l) #[] #[]] 54)).alloc (.cells #[.slice none 0 0] 57)) (.cells #[.string ⟨x.toArray⟩] 23)
    simp only [World.size_alloc] at this
    rw [cell_of_row _ _ _ _ _ _ this]; rfl
  have hPB3 : PBox W.heap.size b4 W (fun q => q = b4) [] w3 := by
    rw [← hw3]
    exact hPB.kept (Beside.alloc (W.heap.size) _ _ _) (Nat.le_refl _)
  have hJ3 : J F [] w3 := by
    refine hJ F [] W w3 h0 ?_
    rw [← hw3]
    exact (Beside.alloc _ _ W _).trans ((Beside.alloc _ _ _ _).trans (Beside.alloc _ _ _ _))
  have hFW : ∀ q, F q → q < W.heap.size := fun q hq => (hF q hq).1
  have hupN : upto (fun _ : Nd => false) (downX x) = downX x := upto_never _
  rw [← hb4, ← hb3]
  rw [← hb4] at htb
  have HB := Lib.hid (And.intro hb3 (And.intro hb4 hz3))
  have hF0 : ∀ q, q = b4 → q < w3.heap.size ∧ ¬ q = b4 + 1 := fun q hq => by omega
  have hb4w : b4 + 1 < w3.heap.size := by omega
  clear hb3 hb4 hw3 hz3 hPB bW
  refine wp_upto (gf := 30) (lb := #[.pointer (some ⟨b4 + 1, 0, none⟩)]) rfl enters_down (down_all x (b4 + 1) w3 htb hb4w) (fun q => q = b4) hF0 (Below.refl _ _) (fun _ => rfl)
    (fun _ => false) (fun F1 pre V => PBox W.heap.size b4 W F1 (pre.filter (hasI p)) V ∧ J F [] V ∧ V.heap[b3]? = some (.cells #[.func (.yield l) #[] #[]] 54 (0, 0)))
    (fun F1 pre V V' h hk => ?hangs) ⟨hPB3, hJ3, hyb⟩
    (fun y => { tmps := #[.func (.yield l) #[] #[], .pointer (some ⟨Bt, 0, none⟩), .pointer (some ⟨Bp, 0, none⟩), .pointer (some ⟨b3, 0, none⟩), .pointer (some ⟨b4, 0, none⟩), .string ⟨y.1.toArray⟩, .string ⟨y.2.text.toArray⟩, undef, undef, .string ⟨x.toArray⟩, .func (.func 30) #[] #[.pointer (some ⟨b4 + 1, 0, none⟩)], .string ⟨y.1.toArray⟩, .string ⟨y.2.text.toArray⟩, undef, undef, undef, undef, undef, undef, undef, undef, undef, undef, undef, undef, undef, undef, undef, undef, undef, undef, undef, undef, undef], defers := [] }) ?assign ?body ?done
  case hangs =>
    obtain ⟨hb3, hb4, hz3⟩ := HB.out
    obtain ⟨k1, k2, k3⟩ := h
    have hlo := k1.lows
    refine ⟨k1.kept hk (by omega), hJ F [] V V' k2 ⟨hk.os, hk.tape, hk.output, hk.size, fun q hq hx => hk.same q hq (.inl (by have : q < W.heap.size := hx.elim id (hFW q); omega))⟩, (hk.same b3 (Array.getElem?_eq_some_iff.1 k3).1 (.inl (by omega))).trans k3⟩
  case assign =>
    intro m l' y V K hK
    unfold encN
    gi_wp2
    exact hK
  case body =>
    rintro m l' pre ⟨yx, u⟩ F1 V hpre ⟨hP, hJV, hyV⟩
    have hmem : (yx, u) ∈ downX x := by
      have := hpre.subset (by simp : (yx, u) ∈ pre ++ [(yx, u)])
      rwa [hupN] at this
    have hu := (downX_ok hmem).1
    have hMt : memsX u.text = u.mems := by unfold memsX; rw [readT_text hu]
    have HM := Lib.hid (fun V => members_top u.text V)
    rw [hMt] at HM
    have HC := Lib.hid (fun (V : World) (v : Value) B (ho : V.ownsRow B 3 1 v u.mems.length (u.mems.map (Value.int .i64))) => contains_calls v u.mems p V (hu.ints ho))
    obtain ⟨bb, hbb⟩ : ∃ bb, u.mems.contains p = bb := ⟨_, rfl⟩
    rw [hbb] at HC
    have hhas : hasI p (yx, u) = bb := hbb
    have hlen : (pre.filter (hasI p)).length ≤ 15 := by
      have h1 := hpre.length_le
      rw [hupN] at h1
      have h2 := downX_len x
      have h3 := List.length_filter_le (hasI p) pre
      simp at h1
      omega
    obtain ⟨A, c, hc4, hrow, hFF, hbx⟩ := hP.cells
    have hstay : ∀ V', Below V.heap.size V V' → J F [] V' ∧ V'.heap[b3]? = some (.cells #[.func (.yield l) #[] #[]] 54 (0, 0)) := fun V' hb =>
      ⟨hJ F [] V V' hJV (.of_below hb), (hb.block b3 (Array.getElem?_eq_some_iff.1 hyV).1).trans hyV⟩
    have HNo : Hid (bb = false → ∀ V', Below V.heap.size V V' → ∃ F', Round F1 F' V V' ∧ PBox W.heap.size b4 W F' ((pre ++ [(yx, u)]).filter (hasI p)) V' ∧ J F [] V' ∧ V'.heap[b3]? = some (.cells #[.func (.yield l) #[] #[]] 54 (0, 0))) := fun hf V' hb =>
      ⟨F1, Round.of_below hb (fun q hq => (hP.lows q hq).2), by rw [List.filter_append, List.filter_cons, hhas, hf]; simpa using hP.kept (C := V.heap.size) (.of_below hb) hP.below.size, (hstay V' hb).1, (hstay V' hb).2⟩
    have HYes : Hid (bb = true → ∀ W1, Below V.heap.size V W1 → (W1.ownsRow W.heap.size 56 2 (.slice A (pre.filter (hasI p)).length c) (pre.filter (hasI p)).length (cellsQ (pre.filter (hasI p))) ∧ W1.cell? ⟨b4, 0, none⟩ = some (.slice A (pre.filter (hasI p)).length c)) ∧
        ∀ W2 A3 n3 c3, W2.ownsRow W.heap.size 56 2 (.slice A3 n3 c3) ((pre.filter (hasI p)).length + 1) (cellsQ (pre.filter (hasI p)) ++ [.string ⟨yx.toArray⟩, .string ⟨u.text.toArray⟩]) → W1.grownBy W2 (Value.slice A (pre.filter (hasI p)).length c).ownBlock → ((Value.slice A3 n3 c3).ownBlock = (Value.slice A (pre.filter (hasI p)).length c).ownBlock ∨ (Value.slice A3 n3 c3).ownBlock = some W1.heap.size) →
          (W2.cell? ⟨b4, 0, none⟩ = some (.slice A (pre.filter (hasI p)).length c) ∧ W2.frozen? ⟨b4, 0, none⟩ = false) ∧ ∃ F', Round F1 F' V (W2.setCell ⟨b4, 0, none⟩ (.slice A3 n3 c3)) ∧ PBox W.heap.size b4 W F' ((pre ++ [(yx, u)]).filter (hasI p)) (W2.setCell ⟨b4, 0, none⟩ (.slice A3 n3 c3)) ∧ J F [] (W2.setCell ⟨b4, 0, none⟩ (.slice A3 n3 c3)) ∧ (W2.setCell ⟨b4, 0, none⟩ (.slice A3 n3 c3)).heap[b3]? = some (.cells #[.func (.yield l) #[] #[]] 54 (0, 0))) := by
      intro ht W1 hb1
      obtain ⟨hb3, hb4, hz3⟩ := HB.out
      refine ⟨⟨own_later hrow hb1, (hb1.cell (p := ⟨b4, 0, none⟩) hP.low).trans hc4⟩, fun W2 A3 n3 c3 hown hg hat => ?_⟩
      obtain ⟨h1, F', h2, h3⟩ := hP.append (y := (yx, u)) hFF hrow hbx hb1 hown hg hat
      have hlo := hP.lows
      have hnF : ∀ q, q < W.heap.size → ¬ F1 q := fun q hq hf => by have := (hlo q hf).1; omega
      have hb3F : ¬ F1 b3 := fun hf => by
        rcases (hFF b3).1 hf with e | e
        · omega
        · have := (Array.getElem?_eq_some_iff.1 hyV).1
          rcases hrow.2 with ⟨e0, _⟩ | ⟨g, cap, cur, e0, k1, k2, _⟩
          · rw [e0] at e; cases e
          · rw [e0] at e
            have : g = b3 := Option.some.inj e
            subst this
            rw [hyV] at k2
            cases k2
      refine ⟨h1, F', h3, by rw [List.filter_append, List.filter_cons, hhas, ht]; simpa using h2, ?_, (h3.same b3 (Array.getElem?_eq_some_iff.1 hyV).1 hb3F).trans hyV⟩
      exact hJ F [] V _ hJV ⟨h3.os, h3.tape, h3.output, h3.size, fun q hq hx => h3.same q hq (hnF q (hx.elim id (hFW q)))⟩
    have cp : ∀ V', Below W.heap.size W V' → V'.cell? ⟨Bp, 0, none⟩ = some (.int .i64 p) := fun V' hb => (hb.cell (p := ⟨Bp, 0, none⟩) hBp).trans hcp
    have hbV := hP.below
    have hsV := hbV.size
    have HcV := Lib.hid (fun V' (hb : Below V.heap.size V V') => cp V' (hbV.trans (hb.mono hsV)))
    have cV := cp V hbV
    clear cp hcp hct htb hPB3 hJ3 hyb hbb hhas hP hJV hyV hc4 hrow hFF hbx hstay hpre hmem
    have mixed : Try.prog.follows Departure.mixedOrders = true := by kernel_rfl
    generalize htx : u.text = tx at *
    gi_wp2_with fail
    gi_region_with_o (first
      | (refine ⟨trivial, (fun h => nomatch h), ?_⟩; gi_at_call 36; refine (round_call (HM.out _)).mono ?_; rintro e w5 ⟨v5, rfl, ho5, b5⟩; have hC5 := HC.out _ _ _ ho5; have cB5 := HcV.out _ (below_drew14 b5); obtain ⟨A5, c5, rfl⟩ := L5.own_slice ho5)
      | (refine ⟨trivial, (fun h => nomatch h), ?_⟩; gi_at_call 35; refine (round_call hC5).mono ?_; rintro e w6 ⟨rfl, rfl⟩))
    all_goals
      have b6 := below_drew14 b5
      clear b5 ho5 cB5 hC5
      cases bb with
      | false =>
        have HE := Lib.hid (HNo.out rfl _ b6)
        clear HNo HYes HC
        gi_wp2
        obtain ⟨F', h1, h2⟩ := HE.out
        exact ⟨rfl, F', h1, h2⟩
      | true =>
        have hfin := (HYes.out rfl _ (b6.trans ((Below.refl _ w6).alloc b6.size (.cells #[.string ⟨yx.toArray⟩, .string ⟨tx.toArray⟩] 56))))
        have c46 := (HYes.out rfl _ b6).1.2
        have hrowA := hfin.1.1
        have HF := Lib.hid hfin.2
        have hs6 := b6.size
        have hnew : ∀ (j : Nat) (z : Value), [Value.string ⟨yx.toArray⟩, Value.string ⟨tx.toArray⟩][j]? = some z → (w6.alloc (.cells #[.string ⟨yx.toArray⟩, .string ⟨tx.toArray⟩] 56)).cell? ((⟨w6.heap.size, 0, none⟩ : Addr).add j) = some z := fun j z hz => by
          rw [addr_none, cell_of_row _ _ _ _ _ _ (World.alloc_heap_new w6 _), Nat.zero_add]
          simpa using hz
        generalize pre.filter (hasI p) = zs at *
        clear HNo HYes HC hfin
        gi_wp2_with (gi_at_builtin; refine wpListIn_append_own_at _ rfl _ _ 57 rfl W.heap.size 56 i0 (.agg #[.string ⟨#[]⟩, .string ⟨#[]⟩]) 2 32 Try.underlying57 hi hz0 hz1 hz2 rfl (by decide) _ _ _ rfl hrowA ⟨w6.heap.size, 0, none⟩ 1 1 [.string ⟨yx.toArray⟩, .string ⟨tx.toArray⟩] rfl rfl hnew (by simp [Value.oneCell']) (by unfold maxLen; omega) (by omega) (by simp; omega) ?_; intro v' w7 hown' hgrow _ hat; obtain ⟨A3, c3, rfl⟩ := L5.own_slice hown'; obtain ⟨⟨c7, f7⟩, F', h1, h2⟩ := HF.out w7 A3 _ c3 hown' hgrow hat)
        exact ⟨rfl, F', h1, h2⟩
  case done =>
    rintro D F1 V hD hFD ⟨hP, hJV, hyV⟩ hK
    have hst1 : stopped (fun _ : Nd => false) (upto (fun _ => false) (downX x)) = false := by unfold stopped; simp
    rw [hst1, if_neg (by decide)]
    rw [hupN] at hP
    obtain ⟨A, c, hc4, hrow, _, _⟩ := hP.cells
    have hlen : ((downX x).filter (hasI p)).length ≤ 15 := Nat.le_trans (List.length_filter_le _ _) (downX_len x)
    have hupL : upL x p = ((downX x).filter (hasI p)).reverse := rfl
    rw [hupL] at HYh
    have HupL := Lib.hid hupL
    obtain ⟨ps, hps⟩ : ∃ ps, (downX x).filter (hasI p) = ps := ⟨_, rfl⟩
    rw [hps] at HYh HupL hlen hc4 hrow
    have hsV := hP.below.size
    have HBk := Lib.hid (fun V => backward_calls A ps.length c V)
    have hKl := (Array.getElem?_eq_some_iff.1 hK).1
    have hyl := (Array.getElem?_eq_some_iff.1 hyV).1
    clear hps hupL hst1 hP hct hcp hPB3 hJ3 hyb htb
    gi_wp2_with (refine ⟨trivial, (fun h => nomatch h), ?_⟩; gi_at_call 37; refine (callsIn_wide.2 (HBk.out _)).mono ?_; rintro e w4 ⟨rfl, hw4⟩)
    have b4' : Below V.heap.size V w4 := by rw [← hw4]; exact (Below.refl _ _).alloc (Nat.le_refl _) _
    have hz4 : w4.heap.size = V.heap.size + 1 := by rw [← hw4]; simp
    have hbx4 : w4.cell? ⟨V.heap.size, 0, none⟩ = some (.slice A ps.length c) := by rw [← hw4, cell_of_row _ _ _ _ _ _ (World.alloc_heap_new V _)]; rfl
    have hJ4 : J F [] w4 := hJ F [] V w4 hJV (.of_below b4')
    have hy4 : w4.heap[b3]? = some (.cells #[.func (.yield l) #[] #[]] 54 (0, 0)) := (b4'.block b3 hyl).trans hyV
    have hK4 : w4.heap[D]? = some (.deferred (some [])) := (b4'.block D hKl).trans hK
    have hrow4 := own_later hrow b4'
    have hown : ∀ q, (Value.slice A ps.length c).ownBlock = some q → W.heap.size ≤ q := fun q hq => (hrow.lt q hq).1
    clear hw4
    obtain ⟨hb3, hb4, hz3⟩ := HB.out
    have hb3W : W.heap.size ≤ b3 := by omega
    have hDW : W.heap.size ≤ D := by omega
    clear hb3 hb4 hz3
    refine wp_uptoA (gf := 45) (lb := #[.pointer (some ⟨V.heap.size, 0, none⟩)]) rfl enters_back (backward_upto ps V.heap.size A c W.heap.size w4 hbx4 (by omega) hrow4 (by omega)) (fun q => F q ∨ q = l) (fun q hq => ?f0) (Below.refl _ _) (fun _ => rfl)
      (fun e => s e.2) (fun Fi pre V' => ∃ F', (∀ q, Fi q ↔ F' q ∨ q = l) ∧ J F' (pre.map (fun e => e.2)) V' ∧ V'.heap[b3]? = some (.cells #[.func (.yield l) #[] #[]] 54 (0, 0)) ∧ V'.heap[D]? = some (.deferred (some [])) ∧ (∀ q, F' q → q < W.heap.size ∨ w4.heap.size ≤ q) ∧ w4.heap.size ≤ V'.heap.size)
      (fun Fi pre V1 V2 h hk => ?hangs2) ⟨F, fun q => Iff.rfl, hJ4, hy4, hK4, fun q hq => .inl (hFW q hq), Nat.le_refl _⟩ ?round2 ?done2
    case f0 =>
      have hqW : q < W.heap.size := hq.elim (hFW q) (fun e => by omega)
      refine ⟨by omega, fun h => ?_⟩
      rcases h with e | e
      · omega
      · have := hown q e; omega
    case hangs2 =>
      obtain ⟨F', k1, k2, k3, k4, k5, k6⟩ := h
      refine ⟨F', k1, hJ F' _ V1 V2 k2 ⟨hk.os, hk.tape, hk.output, hk.size, fun q hq hx => hk.same q hq (hx.elim (fun h => .inl (by omega)) (fun h => .inr ((k1 q).2 (.inl h))))⟩, (hk.same b3 (Array.getElem?_eq_some_iff.1 k3).1 (.inl (by omega))).trans k3, (hk.same D (Array.getElem?_eq_some_iff.1 k4).1 (.inl (by omega))).trans k4, k5, Nat.le_trans k6 hk.size⟩
    case round2 =>
      rintro m l2 pre ⟨i, yx, yt⟩ Fi V1 hpre ⟨F', k1, k2, k3, k4, k5, k6⟩ hl2 hl2w hFl2
      have hpre2 : pre.map (fun e => e.2) ++ [(yx, yt)] <+: upto s ps.reverse := by
        have := hpre.map (fun e : Nat × Nd => e.2)
        rw [upto_back, List.map_append] at this
        exact this
      have HB1 : Hid (∀ W1, V1.alloc (.cells #[.string ⟨yx.toArray⟩, .string ⟨yt.text.toArray⟩] 56) = W1 → Below V1.heap.size V1 W1 ∧ ∀ o V2, W1.putObj l2 o = V2 →
          (V2.cell? ⟨b3, 0, none⟩ = some (.func (.yield l) #[] #[]) ∧ V2.cell? ⟨V1.heap.size, 0, none⟩ = some (.string ⟨yx.toArray⟩) ∧ V2.cell? ⟨V1.heap.size, 1, none⟩ = some (.string ⟨yt.text.toArray⟩)) ∧
          (YieldAt Fence.wide (m - 1) Try.prog l (encN (yx, yt)) V2 fun e W' => e = .returned (.bool (!s (yx, yt))) ∧ ∃ F'', J F'' (pre.map (fun e => e.2) ++ [(yx, yt)]) W' ∧ (∀ q, F'' q → F' q ∨ V2.heap.size ≤ q) ∧ Round (fun q => F' q ∨ (s (yx, yt) = true ∧ q = l)) F'' V2 W') ∧
          ∀ F'' V3, J F'' (pre.map (fun e => e.2) ++ [(yx, yt)]) V3 → (∀ q, F'' q → F' q ∨ V2.heap.size ≤ q) → Round (fun q => F' q ∨ (s (yx, yt) = true ∧ q = l)) F'' V2 V3 →
            ∃ Fi', Round Fi Fi' V2 V3 ∧ ∃ F', (∀ q, Fi' q ↔ F' q ∨ q = l) ∧ J F' (pre.map (fun e => e.2) ++ [(yx, yt)]) V3 ∧ V3.heap[b3]? = some (.cells #[.func (.yield l) #[] #[]] 54 (0, 0)) ∧ V3.heap[D]? = some (.deferred (some [])) ∧ (∀ q, F' q → q < W.heap.size ∨ w4.heap.size ≤ q) ∧ w4.heap.size ≤ V3.heap.size) := by
        rintro W1 rfl
        have hba : Below V1.heap.size V1 (V1.alloc (.cells #[.string ⟨yx.toArray⟩, .string ⟨yt.text.toArray⟩] 56)) := (Below.refl _ _).alloc (Nat.le_refl _) _
        refine ⟨hba, ?_⟩
        rintro o V2 rfl
        have hb3l := (Array.getElem?_eq_some_iff.1 k3).1
        have hDl := (Array.getElem?_eq_some_iff.1 k4).1
        have n1 : l2 ≠ b3 := by omega
        have n2 : l2 ≠ D := by omega
        have hsz : ((V1.alloc (.cells #[.string ⟨yx.toArray⟩, .string ⟨yt.text.toArray⟩] 56)).putObj l2 o).heap.size = V1.heap.size + 1 := by simp [World.putObj]
        have e3 : ((V1.alloc (.cells #[.string ⟨yx.toArray⟩, .string ⟨yt.text.toArray⟩] 56)).putObj l2 o).heap[b3]? = some (.cells #[.func (.yield l) #[] #[]] 54 (0, 0)) := (World.putObj_heap_other n1.symm).trans ((hba.block b3 hb3l).trans k3)
        have eD : ((V1.alloc (.cells #[.string ⟨yx.toArray⟩, .string ⟨yt.text.toArray⟩] 56)).putObj l2 o).heap[D]? = some (.deferred (some [])) := (World.putObj_heap_other n2.symm).trans ((hba.block D hDl).trans k4)
        have eS : ((V1.alloc (.cells #[.string ⟨yx.toArray⟩, .string ⟨yt.text.toArray⟩] 56)).putObj l2 o).heap[V1.heap.size]? = some (.cells #[.string ⟨yx.toArray⟩, .string ⟨yt.text.toArray⟩] 56 (0, 0)) := (World.putObj_heap_other (by omega)).trans (World.alloc_heap_new _ _)
        have nF3 : ¬ F' b3 := fun h => by rcases k5 b3 h with h | h <;> omega
        have nFD : ¬ F' D := fun h => by rcases k5 D h with h | h <;> omega
        have nFl2 : ¬ F' l2 := fun h => hFl2 ((k1 l2).2 (.inl h))
        have hJ2 : J F' (pre.map (fun e => e.2)) ((V1.alloc (.cells #[.string ⟨yx.toArray⟩, .string ⟨yt.text.toArray⟩] 56)).putObj l2 o) :=
          hJ F' _ V1 _ k2 ((Beside.alloc _ _ _ _).trans (.put _ _ (by omega) nFl2))
        refine ⟨⟨by rw [cell_of_row _ _ _ _ _ _ e3]; rfl, by rw [cell_of_row _ _ _ _ _ _ eS]; rfl, by rw [cell_of_row _ _ _ _ _ _ eS]; rfl⟩, HYh.out (m - 1) _ (yx, yt) F' _ hpre2 hJ2, fun F'' V3 g1 g2 g3 => ?_⟩
        have hs3 := g3.size
        refine ⟨fun q => F'' q ∨ q = l, ⟨g3.os, g3.tape, g3.output, g3.size, fun q hq hx => g3.same q hq (fun h => hx ((k1 q).2 (h.imp_right (fun h => h.2)))), fun q hq => ?_, fun q hq => ?_⟩, F'', fun q => Iff.rfl, ?_, ?_, ?_, fun q hq => ?_, by omega⟩
        · rcases hq with hq | hq
          · exact (g2 q hq).imp_left (fun h => (k1 q).2 (.inl h))
          · exact .inl ((k1 q).2 (.inr hq))
        · rcases hq with hq | hq
          · exact g3.low q hq
          · omega
        · exact g1
        · exact (g3.same b3 (by omega) (fun h => by rcases h with h | h; exact nF3 h; omega)).trans e3
        · exact (g3.same D (by omega) (fun h => by rcases h with h | h; exact nFD h; omega)).trans eD
        · rcases g2 q hq with h | h
          · exact k5 q h
          · exact .inr (by omega)
      clear k1 k2 k3 k4 k5 k6 hpre hpre2 hl2w hFl2 hrow4 hrow hbx4 hJ4 hy4 hK4 hJV hyV hc4
      unfold encB
      dsimp only
      have hsu : ∀ b, s (yx, yt) = b → (fun e : Nat × Nd => s e.2) (i, yx, yt) = b := fun b h => h
      generalize htx : yt.text = tx at *
      clear hz4
      gi_wp2
      obtain ⟨hbW1, hB2⟩ := HB1.out _ rfl
      refine ⟨hbW1, fun o => ?_⟩
      obtain ⟨⟨c3, c8, c9⟩, hYld, hNext⟩ := hB2 o _ rfl
      obtain ⟨fn, tmps, assign, body, hy5, hR5⟩ := hYld
      have HNext := Lib.hid hNext
      clear hbW1 hB2 hNext HB1 HYh HJh
      unfold encN at hy5
      dsimp only at hy5
      generalize (V1.alloc (.cells #[.string ⟨yx.toArray⟩, .string ⟨tx.toArray⟩] 56)).putObj l2 o = V2 at *
      rw [htx] at hy5
      clear htx
      gi_wp2
      refine ⟨(fun h => nomatch h), hR5.mono ?_⟩
      rintro e V3 ⟨rfl, F'', g1, g2, g3⟩
      have HN := Lib.hid (HNext.out F'' V3 g1 g2 g3)
      clear g1 g2 g3 HNext hR5 hy5 c3 c8 c9
      cases hs : s (yx, yt) with
      | true =>
        have HS := Lib.hid hs
        clear hs hsu
        gi_wp2
        exact ⟨HS.out, HN.out⟩
      | false =>
        have HS := Lib.hid hs
        clear hs hsu
        gi_wp2
        exact ⟨HS.out, HN.out⟩
    case done2 =>
      rintro D2 Fi V1 hD2 hFD2 ⟨F', k1, k2, k3, k4, k5, k6⟩ hK2
      have hE : Hid (∀ fn : Func, ∀ tmps : Array Value, fn.results = #[] → LeavesInM Fence.wide n Try.prog fn tmps (fun e W' => (∃ v, e = .returned v) ∧ ∃ F', J F' (upto s (upL x p)) W') [{ target := .collected D2, args := #[] }, { target := .collected D, args := #[] }] .returning V1) := by
        intro fn tmps hfn
        rw [upto_back] at k2
        have n1 : D2 ≠ D := by have := (Array.getElem?_eq_some_iff.1 hK4).1; omega
        have nF2 : ¬ F' D2 := fun h => hFD2 ((k1 D2).2 (.inl h))
        have nFD : ¬ F' D := fun h => by
          have := (Array.getElem?_eq_some_iff.1 hK4).1
          rcases k5 D h with h | h <;> omega
        refine ⟨by simp, .inl ⟨D2, _, rfl, run_takeDeferred hK2, by simp, .inl ⟨D, _, rfl, run_takeDeferred ((World.putObj_heap_other n1.symm).trans k4), _, results_none hfn _ _ _, ⟨_, rfl⟩, F', ?_⟩⟩⟩
        rw [HupL.out]
        exact hJ F' _ _ _ (hJ F' _ V1 _ k2 (.put V1 _ (by omega) nF2)) (.put _ _ hDW nFD)
      by_cases hst : stopped (fun e : Nat × Nd => s e.2) (upto (fun e => s e.2) (backs ps)) = true
      · rw [if_pos hst]
        exact hE.out _ _ rfl
      · rw [if_neg hst]
        clear hst
        gi_wp2
        exact hE.out _ _ rfl
end Go.Proofs.Ytlpabhgfmkilnaa.L14
