/- The law TreeLow. -/
import Derived.Test.YtembihlkildodaaDoorTrBk
namespace Go.Proofs.YtembihlkildodaaDoor.L13
open Go.ChangeShapes Go.WideShapes Go.ChangeAt Go.RowKit Go.Deep
open Go.Proofs.YtembihlkildodaaDoor.L5 (One)

/-- Rising numbers of 1 to n. -/
def Rises (n : Nat) (ks : List Int) : Prop := ks.Pairwise (· < ·) ∧ ∀ k ∈ ks, 1 ≤ k ∧ k ≤ n
def LowRel (w : World) (k : Nat) (v8 v9 : Value) (wr : World) : Prop :=
  ∃ (q : Nat) (ks : List Int), k + q = 9 ∧ 1 ≤ q ∧ v9 = .int .i64 q ∧ Rises (q - 1) ks ∧ ks.length ≤ q - 1 ∧ wr.ownsRow w.heap.size 3 1 v8 ks.length (ks.map (Value.int .i64)) ∧ Below w.heap.size w wr
theorem own_cap {W : World} {B : Nat} {e : TypeId} {size n : Nat} {v : Value} {xs : List Value} (h : W.ownsRow B e size v n xs) : match v with | .slice _ n c => n ≤ c | _ => True := by
  rcases h.2 with ⟨rfl, _⟩ | ⟨g, cap, cur, rfl, _, _, h1, _⟩
  · exact Nat.le_refl _
  · exact h1
theorem rises_ints {ks : List Int} {n : Nat} (h : Rises n ks) {w : World} {v : Value} {B : Nat} (ho : w.ownsRow B 3 1 v ks.length (ks.map (Value.int .i64))) (hn : n ≤ 1000) (hl : ks.length ≤ 1000000 := by omega) : IntsA w v ks :=
  L10.ints_own10 ho (fun x hx => by have := h.2 x hx; omega) hl
theorem rise_of : ∀ (ks : List Int) (a : Int), ks.Pairwise (· < ·) → (∀ k ∈ ks, a + 1 ≤ k ∧ k ≤ 8) → riseB a ks = true := by
  intro ks
  induction ks with
  | nil => intro a _ _; rfl
  | cons k ks ih =>
    intro a hp ha
    have h1 := List.pairwise_cons.1 hp
    have hk := ha k (by simp)
    simp only [riseB, Bool.and_eq_true]
    refine ⟨(withinB_iff _ _ _).2 hk, ih k h1.2 (fun y hy => ?_)⟩
    have := h1.1 y hy
    have := ha y (by simp [hy])
    omega
theorem rises_row {k : Int} {ks : List Int} (h : Rises 8 (k :: ks)) : L10.rowB (k :: ks) = true := by
  unfold L10.rowB
  rw [rise_of _ 0 h.1 (fun y hy => by have := h.2 y hy; omega)]
  rfl
theorem joins_procs : ∀ (ks : List Int) (t : Tr), (joins t ks).procs.Perm (ks.map Int.toNat ++ t.procs) := by
  intro ks
  induction ks with
  | nil => intro t; exact List.Perm.refl _
  | cons k ks ih =>
    intro t
    show (joins (t.put k.toNat) ks).procs.Perm _
    refine (ih _).trans ?_
    refine (List.Perm.append_left _ (t.put_procs _)).trans ?_
    exact List.perm_middle
theorem build_mems {k : Int} {ks : List Int} (h : Rises 8 (k :: ks)) : (buildT (k :: ks)).mems = k :: ks := by
  refine sorted_unique _ _ (L10.sortL_sorted _) (h.1.imp (fun h => Int.le_of_lt h)) ?_
  refine (sortL_perm _).trans ?_
  unfold Tr.ints
  refine ((joins_procs ks (.leaf k.toNat)).map _).trans ?_
  have e : ∀ (l : List Int), (∀ y ∈ l, 1 ≤ y) → (l.map Int.toNat).map (fun p : Nat => (p : Int)) = l := by
    intro l
    induction l with
    | nil => intro _; rfl
    | cons y l ih =>
      intro hy
      have h1 := hy y (by simp)
      simp only [List.map_cons]
      rw [ih (fun z hz => hy z (by simp [hz])), Int.toNat_of_nonneg (by omega)]
  rw [List.map_append, e ks (fun y hy => (h.2 y (by simp [hy])).1)]
  have hk := h.2 k (by simp)
  simp only [Tr.procs, List.map_cons, List.map_nil]
  rw [Int.toNat_of_nonneg (by omega)]
  exact List.perm_append_singleton k ks
theorem build_low : ∀ (ks : List Int), ks ≠ [] → ks.length ≤ 8 → ks.length ≤ 2 ^ (buildT ks).deep ∧ (0 < (buildT ks).deep → 2 ^ ((buildT ks).deep - 1) < ks.length) ∧ (buildT ks).deep ≤ 3
  | [], h, _ => absurd rfl h
  | [a], _, _ => by rw [show (buildT [a]).deep = 0 from rfl]; simp
  | [a, b], _, _ => by rw [show (buildT [a, b]).deep = 1 from rfl]; simp
  | [a, b, c], _, _ => by rw [show (buildT [a, b, c]).deep = 2 from rfl]; simp
  | [a, b, c, d], _, _ => by rw [show (buildT [a, b, c, d]).deep = 2 from rfl]; simp
  | [a, b, c, d, e], _, _ => by rw [show (buildT [a, b, c, d, e]).deep = 3 from rfl]; simp
  | [a, b, c, d, e, f], _, _ => by rw [show (buildT [a, b, c, d, e, f]).deep = 3 from rfl]; simp
  | [a, b, c, d, e, f, g], _, _ => by rw [show (buildT [a, b, c, d, e, f, g]).deep = 3 from rfl]; simp
  | [a, b, c, d, e, f, g, h], _, _ => by rw [show (buildT [a, b, c, d, e, f, g, h]).deep = 3 from rfl]; simp
  | a :: b :: c :: d :: e :: f :: g :: h :: i :: l, _, hl => by simp at hl
set_option maxRecDepth 100000 in
set_option maxHeartbeats 8000000 in
theorem low_calls (bits : Int) (v : Value) (xs : List Int) (p : Int) (w : World) (hI : IntsA w v xs) (hp : -9223372036854775808 ≤ p ∧ p ≤ 9223372036854775807) : Calls Tryd.prog 6 #[.int .i64 bits, v, .int .i64 p] w (One w (.bool true)) := by
  obtain ⟨i0, hi0, hz0, hz1, hz2⟩ := info_parts L10.info_int10
  have hSh := shown_calls w
  have HMa := Lib.hid (fun V (hb : Below w.heap.size w V) => made_calls v xs V (hI.below hb))
  obtain ⟨A, c, rfl, _⟩ := id hI.reads
  clear hI
  have HP := Lib.hid (fun V => pick_calls p 8 hp (by omega) V)
  obtain ⟨hq1, hq2⟩ := pickI_bounds p (show (1 : Int) ≤ 8 by omega)
  generalize pickI p 8 = q at *
  obtain ⟨m, rfl⟩ : ∃ m : Nat, q = m := ⟨q.toNat, by omega⟩
  obtain ⟨qn, hqn⟩ : ∃ qn : Nat, qn = 1 + m := ⟨_, rfl⟩
  have hqi : (1 : Int) + (m : Int) = (qn : Int) := by omega
  have hq8 : 1 ≤ qn ∧ qn ≤ 8 := by omega
  have HQ := Lib.hid hqn
  clear hqn
  go_enter Tryd.func6, Tryd.ntmps6
  go_wp2_with fail
  refine hSh.mono ?_
  rintro e w1 ⟨rfl, b1⟩
  have HSt : Hid (LowRel w 8 (.slice none 0 0) (.int .i64 1) w1) := ⟨1, [], by omega, by omega, rfl, ⟨List.Pairwise.nil, by simp⟩, by simp, World.ownsRow_nil _ _ _ _, b1⟩
  clear b1 hSh
  go_wp2
  go_loopg [8, 9] 8 (fun k v8 v9 wr => LowRel w k v8 v9 wr)
  case atStart => exact HSt.out
  case round =>
    clear HSt
    obtain ⟨q, ks, hk, hq0, rfl, hr, hl, ho, hB⟩ := hrel
    by_cases hq : q ≤ 8
    · have j1 : (q : Int) ≤ 8 := by omega
      have j2 : (1 : Int) ≤ (q : Int) := by omega
      obtain ⟨A4, c4, rfl⟩ := L5.own_slice ho
      have HOw := Lib.hid ho
      clear ho
      have hgk := Lib.hid (show gk - 1 < gk by omega)
      have hwr := hB.size
      cases hbt : (Go.bits BinOp.and IntKind.i64 (bits / 2 ^ (q - 1)) 1 == 1) with
      | true =>
        have HY : Hid (∀ (v2 : Value) (w4 : World), w4.ownsRow w.heap.size 3 1 v2 (ks.length + 1) (ks.map (Value.int .i64) ++ [.int .i64 (q : Int)]) → (wr.alloc (.cells #[.int .i64 (q : Int)] 3)).grownBy w4 (Value.slice A4 ks.length c4).ownBlock → LowRel w (gk - 1) v2 (.int .i64 ((q + 1 : Nat) : Int)) w4) := by
          intro v2 w4 k1 k2
          have hg := L5.grow_trans (World.grownBy_alloc wr (.cells #[.int .i64 (q : Int)] 3) _) k2
          refine ⟨q + 1, ks ++ [(q : Int)], by omega, by omega, rfl, ⟨?_, ?_⟩, by simp; omega, by simpa using k1, hB.grown hg hB.size (fun j e => (HOw.out.lt j e).1)⟩
          · refine List.pairwise_append.2 ⟨hr.1, by simp, fun a ha b hb => ?_⟩
            rw [List.mem_singleton] at hb
            have := hr.2 a ha
            omega
          · intro k hk'
            rcases List.mem_append.1 hk' with h | h
            · have := hr.2 k h; omega
            · rw [List.mem_singleton] at h; omega
        clear hr hk hB
        go_wp2_with (at_builtin; refine wpList_append_own_at _ rfl _ _ 34 rfl w.heap.size 3 i0 (.int .i64 0) 1 8 Tryd.underlying34 hi0 hz0 hz1 hz2 rfl (by decide) _ _ _ rfl (HOw.out.alloc _) ⟨wr.heap.size, 0, none⟩ 1 1 [.int .i64 (q : Int)] rfl rfl (cell_one_new _ _ _) (by simp [Value.oneCell']) (by unfold maxLen; omega) (by omega) (by simp; omega) ?_; intro v2 w4 hown' hgrow hnil hat; have hRl := Lib.hid (HY.out v2 w4 (by simpa using hown') hgrow); clear hown' hgrow hnil hat)
        go_roundg (gk - 1)
        case measure => exact hgk.out
        case rel => exact hRl.out
      | false =>
        have HN : Hid (LowRel w (gk - 1) (.slice A4 ks.length c4) (.int .i64 ((q + 1 : Nat) : Int)) wr) := ⟨q + 1, ks, by omega, by omega, rfl, ⟨hr.1, fun k h => by have := hr.2 k h; omega⟩, by omega, HOw.out, hB⟩
        clear hr hk hB HOw
        go_wp2
        go_roundg (gk - 1)
        case measure => exact hgk.out
        case rel => exact HN.out
    · obtain rfl : q = 9 := by omega
      have hI8 := rises_ints hr ho (by omega)
      have hcap := own_cap ho
      obtain ⟨A8, c8, rfl⟩ := L5.own_slice ho
      have hBd := build_top _ ks wr hI8 (fun A n c e => by cases e; exact hcap)
      have HI8 := Lib.hid (And.intro hI8 ho)
      have HB0 := Lib.hid hB
      have hl8 : ks.length ≤ 8 := by omega
      have HMa0 := Lib.hid (fun V (hb : Below w.heap.size w V) => HMa.out V hb)
      clear hI8 ho hcap hB hk hq HMa
      cases ks with
      | nil =>
        rw [show buildX [] = ([], 1) from rfl] at hBd
        unfold Str2 at hBd
        dsimp only at hBd
        have hD := Lib.hid (fun V => depth_top [] V)
        rw [show deepX [] = -1 from rfl] at hD
        simp only [List.length_nil] at *
        go_wp2_with fail
        refine hBd.mono ?_
        rintro e w2 ⟨rfl, b2⟩
        have B2 := Lib.hid (HB0.out.trans (b2.mono HB0.out.size))
        clear b2 hBd
        go_wp2_with fail
        refine (hD.out _).mono ?_
        rintro e w3 ⟨rfl, b3⟩
        have B3 := Lib.hid (B2.out.trans (b3.mono B2.out.size))
        have hMa := HMa0.out _ B3.out
        clear b3 hD
        go_wp2_with fail
        refine hMa.mono ?_
        rintro e wa ⟨t, ot, rfl, ba⟩
        have Ba := Lib.hid (B3.out.trans (ba.mono B3.out.size))
        clear ba hMa HMa0
        go_wp2_with fail
        refine (HP.out _).mono ?_
        rintro e wb ⟨rfl, rfl⟩
        clear HP
        have HJ := Lib.hid (fun V => join_top t.text (qn : Int) V)
        have HDx := Lib.hid (fun V => depth_top t.text V)
        rw [deepX_text ot] at HDx
        have hd7 := ot.deep8
        by_cases hm : qn ∈ t.procs
        · have hX : joinX t.text (qn : Int) = ([], 1) := by
            unfold joinX
            rw [readT_text ot]
            dsimp only
            rw [Int.toNat_natCast, if_neg (fun h => h.2.2 hm)]
          rw [hX] at HJ
          unfold Str2 at HJ
          dsimp only at HJ
          clear hX hm ot
          generalize t.text = tx at *
          generalize t.deep = td at *
          go_wp2_with fail
          refine (HJ.out _).mono ?_
          rintro e wc ⟨rfl, bc⟩
          have Bc := Lib.hid (Ba.out.trans (bc.mono Ba.out.size))
          clear bc
          go_wp2_with fail
          refine (HDx.out _).mono ?_
          rintro e wd ⟨rfl, bd⟩
          have Bd := Lib.hid (Bc.out.trans (bd.mono Bc.out.size))
          clear bd
          go_wp2_with fail
          refine L4.wp_region_still (by kernel_rfl) (by kernel_rfl) ?_
          repeat
            (refine Quietly.step (fun K hK => ?_)
             go_simp
             refine hK _ ?_
             clear hK K)
          refine Quietly.none ?_
          rintro w2 ⟨nq, rfl⟩
          go_wp2
          go_ret
          exact ⟨rfl, L5.below_drewN Bd.out _⟩
        · have hX := (back_join ot hq8 hm).1
          have ou := ot.put hq8 hm
          rw [hX] at HJ
          unfold Str2 at HJ
          dsimp only at HJ
          have HDy := Lib.hid (fun V => depth_top (t.put qn).text V)
          rw [deepX_text ou] at HDy
          have HMx := Lib.hid (fun V => members_top t.text V)
          rw [memsX_text ot] at HMx
          have hpd := t.put_deep qn
          have hfu := t.full_iff
          have hml := mems_len t
          have hcase : ((t.put qn).deep = t.deep + 1 ∧ t.mems.length = 2 ^ t.deep) ∨ ((t.put qn).deep = t.deep ∧ t.mems.length ≠ 2 ^ t.deep) := by
            by_cases hf : t.full = true
            · rw [if_pos hf] at hpd
              exact .inl ⟨hpd, by rw [hml]; exact hfu.1 hf⟩
            · rw [if_neg hf] at hpd
              exact .inr ⟨hpd, fun e => hf (hfu.2 (by rw [← hml]; exact e))⟩
          clear hX hm ot ou hpd hfu hml
          generalize t.text = tx at *
          generalize (t.put qn).text = ux at *
          generalize t.deep = td at *
          generalize (t.put qn).deep = ud at *
          generalize t.mems = tm at *
          obtain ⟨n8, hn8⟩ : ∃ n8 : Nat, 2 ^ td = n8 := ⟨_, rfl⟩
          rw [hn8] at hcase
          go_wp2_with fail
          refine (HJ.out _).mono ?_
          rintro e wc ⟨rfl, bc⟩
          have Bc := Lib.hid (Ba.out.trans (bc.mono Ba.out.size))
          clear bc
          go_wp2_with fail
          refine (HDx.out _).mono ?_
          rintro e wd ⟨rfl, bd⟩
          have bW := Bc.out.trans (bd.mono Bc.out.size)
          clear bd
          go_wp2_with fail
          have hcase2 : ∃ r : Bool, decide ((td : Int) < (ud : Int)) = r ∧ ((tm.length : Int) == (n8 : Int)) = r := by
            rcases hcase with ⟨h1, h2⟩ | ⟨h1, h2⟩
            · exact ⟨true, decide_eq_true (by omega), by rw [beq_iff_eq]; omega⟩
            · exact ⟨false, decide_eq_false (by omega), by rw [beq_eq_false_iff_ne]; omega⟩
          clear hcase
          obtain ⟨r, hr1, hr2⟩ := hcase2
          have hn8' : n8 = 1 ∨ n8 = 2 ∨ True := .inr (.inr trivial)
          clear hn8'
          go_region_held3 (fun V => Below w.heap.size w V)
            ((first | exact bW | assumption | (apply Below.drew; assumption)))
            (first
              | (go_at_call 22; refine (HDy.out _).mono ?_; rintro e we ⟨rfl, be⟩; have he : Below w.heap.size w we := Below.trans (by first | assumption | (apply Below.drew; assumption)) (be.mono (Below.size (B := w.heap.size) (by first | assumption | (apply Below.drew; assumption)))))
              | (go_at_call 20; refine (HMx.out _).mono ?_; rintro e wf ⟨vf, rfl, of, bf⟩; obtain ⟨Af, cf, rfl⟩ := L5.own_slice of; have hf : Below w.heap.size w wf := Below.trans (by first | assumption | (apply Below.drew; assumption)) (bf.mono (Below.size (B := w.heap.size) (by first | assumption | (apply Below.drew; assumption))))))
          have hB9 : Below w.heap.size w wf := by assumption
          have HB9 := Lib.hid hB9
          clear hB9
          have hsh : IntKind.i64.wrap ((2 : Int) ^ td) = (n8 : Int) := by
            rw [← hn8]
            have : td = 0 ∨ td = 1 ∨ td = 2 ∨ td = 3 ∨ td = 4 ∨ td = 5 ∨ td = 6 ∨ td = 7 := by omega
            rcases this with h | h | h | h | h | h | h | h <;> subst h <;> rfl
          have hr1' : decide (td < ud) = r := by rw [← hr1]; congr 1; simp
          have HR1 := Lib.hid (And.intro hsh (And.intro hr1' hr2))
          clear hsh hr1' hr1 hr2 hn8
          go_wp2
          go_ret
          refine ⟨?_, HB9.out⟩
          show Ending.returned (Value.bool (decide (td < ud) == ((tm.length : Int) == IntKind.i64.wrap ((2 : Int) ^ td)))) = _
          rw [HR1.out.1, HR1.out.2.1, HR1.out.2.2]
          simp
      | cons k ks =>
        have hlow := build_low (k :: ks) (by simp) hl8
        have hmm := build_mems hr
        have hok := row_ok (rises_row hr) ks.length
        rw [List.take_length] at hok
        change (buildT (k :: ks)).ok at hok
        have hbx : buildX (k :: ks) = ((buildT (k :: ks)).text, 0) := by unfold buildX; rw [if_pos (rises_row hr)]
        rw [hbx] at hBd
        unfold Str2 at hBd
        dsimp only at hBd
        have hD := Lib.hid (fun V => depth_top (buildT (k :: ks)).text V)
        rw [deepX_text hok] at hD
        have HMb := Lib.hid (fun V => members_top (buildT (k :: ks)).text V)
        rw [memsX_text hok, hmm] at HMb
        have HSm : Hid (∀ (V : World) (v x : Value), IntsA V v (k :: ks) → IntsA V x (k :: ks) → Calls Tryd.prog 19 #[v, x] V (L5.One V (.bool true))) := fun V v x h1 h2 => by
          have := L10.rsame_calls v x _ _ V h1 h2
          rw [decide_eq_true rfl] at this
          exact this
        have HRo : Hid (∀ (V : World) (v : Value) (B : Nat), V.ownsRow B 3 1 v (k :: ks).length ((k :: ks).map (Value.int .i64)) → IntsA V v (k :: ks)) := fun V v B h => rises_ints hr h (by omega) (by omega)
        obtain ⟨hlo1, hlo2, hlo3⟩ := hlow
        have hpos : 0 < (k :: ks).length := by simp
        clear hok hmm hbx hr
        generalize (buildT (k :: ks)).text = tb at *
        generalize (buildT (k :: ks)).deep = db at *
        generalize k :: ks = kk at *
        have hpos' : (0 : Int) < (kk.length : Int) := by omega
        have hdb : db = 0 ∨ db = 1 ∨ db = 2 ∨ db = 3 := by omega
        go_wp2_with fail
        refine hBd.mono ?_
        rintro e w2 ⟨rfl, b2⟩
        have B2 := Lib.hid (HB0.out.trans (b2.mono HB0.out.size))
        have HI2 := Lib.hid (HI8.out.1.below b2)
        clear b2 hBd
        go_wp2_with fail
        refine (hD.out _).mono ?_
        rintro e w3 ⟨rfl, b3⟩
        have B3 := Lib.hid (B2.out.trans (b3.mono B2.out.size))
        have HI3 := Lib.hid (HI2.out.below b3)
        clear b3 hD
        rcases hdb with rfl | rfl | rfl | rfl
        · have q1 : ¬ (1 : Int) < (kk.length : Int) := by simp at hlo1; omega
          clear hlo1 hlo2 hlo3 hpos
          go_wp2_with fail
          refine (HMb.out _).mono ?_
          rintro e w4 ⟨v4, rfl, o4, b4⟩
          have hS := HSm.out w4 _ _ (HRo.out _ _ _ o4) (HI3.out.below b4)
          obtain ⟨A4, c4, rfl⟩ := L5.own_slice o4
          have B4 := Lib.hid (B3.out.trans (b4.mono B3.out.size))
          clear o4 b4 HMb HSm HRo
          go_wp2_with fail
          refine hS.mono ?_
          rintro e w5 ⟨rfl, b5⟩
          have B5 := Lib.hid (B4.out.trans (b5.mono B4.out.size))
          have hMa := HMa0.out _ B5.out
          clear b5 hS
          go_wp2_with fail
          refine hMa.mono ?_
          rintro e wa ⟨t, ot, rfl, ba⟩
          have Ba := Lib.hid (B5.out.trans (ba.mono B5.out.size))
          clear ba hMa HMa0
          go_wp2_with fail
          refine (HP.out _).mono ?_
          rintro e wb ⟨rfl, rfl⟩
          clear HP
          have HJ := Lib.hid (fun V => join_top t.text (qn : Int) V)
          have HDx := Lib.hid (fun V => depth_top t.text V)
          rw [deepX_text ot] at HDx
          have hd7 := ot.deep8
          by_cases hm : qn ∈ t.procs
          · have hX : joinX t.text (qn : Int) = ([], 1) := by
              unfold joinX
              rw [readT_text ot]
              dsimp only
              rw [Int.toNat_natCast, if_neg (fun h => h.2.2 hm)]
            rw [hX] at HJ
            unfold Str2 at HJ
            dsimp only at HJ
            clear hX hm ot
            generalize t.text = tx at *
            generalize t.deep = td at *
            go_wp2_with fail
            refine (HJ.out _).mono ?_
            rintro e wc ⟨rfl, bc⟩
            have Bc := Lib.hid (Ba.out.trans (bc.mono Ba.out.size))
            clear bc
            go_wp2_with fail
            refine (HDx.out _).mono ?_
            rintro e wd ⟨rfl, bd⟩
            have Bd := Lib.hid (Bc.out.trans (bd.mono Bc.out.size))
            clear bd
            go_wp2_with fail
            refine L4.wp_region_still (by kernel_rfl) (by kernel_rfl) ?_
            repeat
              (refine Quietly.step (fun K hK => ?_)
               go_simp
               refine hK _ ?_
               clear hK K)
            refine Quietly.none ?_
            rintro w2 ⟨nq, rfl⟩
            go_wp2
            go_ret
            exact ⟨rfl, L5.below_drewN Bd.out _⟩
          · have hX := (back_join ot hq8 hm).1
            have ou := ot.put hq8 hm
            rw [hX] at HJ
            unfold Str2 at HJ
            dsimp only at HJ
            have HDy := Lib.hid (fun V => depth_top (t.put qn).text V)
            rw [deepX_text ou] at HDy
            have HMx := Lib.hid (fun V => members_top t.text V)
            rw [memsX_text ot] at HMx
            have hpd := t.put_deep qn
            have hfu := t.full_iff
            have hml := mems_len t
            have hcase : ((t.put qn).deep = t.deep + 1 ∧ t.mems.length = 2 ^ t.deep) ∨ ((t.put qn).deep = t.deep ∧ t.mems.length ≠ 2 ^ t.deep) := by
              by_cases hf : t.full = true
              · rw [if_pos hf] at hpd
                exact .inl ⟨hpd, by rw [hml]; exact hfu.1 hf⟩
              · rw [if_neg hf] at hpd
                exact .inr ⟨hpd, fun e => hf (hfu.2 (by rw [← hml]; exact e))⟩
            clear hX hm ot ou hpd hfu hml
            generalize t.text = tx at *
            generalize (t.put qn).text = ux at *
            generalize t.deep = td at *
            generalize (t.put qn).deep = ud at *
            generalize t.mems = tm at *
            obtain ⟨n8, hn8⟩ : ∃ n8 : Nat, 2 ^ td = n8 := ⟨_, rfl⟩
            rw [hn8] at hcase
            go_wp2_with fail
            refine (HJ.out _).mono ?_
            rintro e wc ⟨rfl, bc⟩
            have Bc := Lib.hid (Ba.out.trans (bc.mono Ba.out.size))
            clear bc
            go_wp2_with fail
            refine (HDx.out _).mono ?_
            rintro e wd ⟨rfl, bd⟩
            have bW := Bc.out.trans (bd.mono Bc.out.size)
            clear bd
            go_wp2_with fail
            have hcase2 : ∃ r : Bool, decide ((td : Int) < (ud : Int)) = r ∧ ((tm.length : Int) == (n8 : Int)) = r := by
              rcases hcase with ⟨h1, h2⟩ | ⟨h1, h2⟩
              · exact ⟨true, decide_eq_true (by omega), by rw [beq_iff_eq]; omega⟩
              · exact ⟨false, decide_eq_false (by omega), by rw [beq_eq_false_iff_ne]; omega⟩
            clear hcase
            obtain ⟨r, hr1, hr2⟩ := hcase2
            have hn8' : n8 = 1 ∨ n8 = 2 ∨ True := .inr (.inr trivial)
            clear hn8'
            go_region_held3 (fun V => Below w.heap.size w V)
              ((first | exact bW | assumption | (apply Below.drew; assumption)))
              (first
                | (go_at_call 22; refine (HDy.out _).mono ?_; rintro e we ⟨rfl, be⟩; have he : Below w.heap.size w we := Below.trans (by first | assumption | (apply Below.drew; assumption)) (be.mono (Below.size (B := w.heap.size) (by first | assumption | (apply Below.drew; assumption)))))
                | (go_at_call 20; refine (HMx.out _).mono ?_; rintro e wf ⟨vf, rfl, of, bf⟩; obtain ⟨Af, cf, rfl⟩ := L5.own_slice of; have hf : Below w.heap.size w wf := Below.trans (by first | assumption | (apply Below.drew; assumption)) (bf.mono (Below.size (B := w.heap.size) (by first | assumption | (apply Below.drew; assumption))))))
            have hB9 : Below w.heap.size w wf := by assumption
            have HB9 := Lib.hid hB9
            clear hB9
            have hsh : IntKind.i64.wrap ((2 : Int) ^ td) = (n8 : Int) := by
              rw [← hn8]
              have : td = 0 ∨ td = 1 ∨ td = 2 ∨ td = 3 ∨ td = 4 ∨ td = 5 ∨ td = 6 ∨ td = 7 := by omega
              rcases this with h | h | h | h | h | h | h | h <;> subst h <;> rfl
            have hr1' : decide (td < ud) = r := by rw [← hr1]; congr 1; simp
            have HR1 := Lib.hid (And.intro hsh (And.intro hr1' hr2))
            clear hsh hr1' hr1 hr2 hn8
            go_wp2
            go_ret
            refine ⟨?_, HB9.out⟩
            show Ending.returned (Value.bool (decide (td < ud) == ((tm.length : Int) == IntKind.i64.wrap ((2 : Int) ^ td)))) = _
            rw [HR1.out.1, HR1.out.2.1, HR1.out.2.2]
            simp
        · have q1 : ¬ (2 : Int) < (kk.length : Int) := by simp at hlo1; omega
          have q2 : ¬ (kk.length : Int) ≤ 1 := by have := hlo2 (by omega); simp at this; omega
          clear hlo1 hlo2 hlo3 hpos
          go_wp2_with fail
          refine (HMb.out _).mono ?_
          rintro e w4 ⟨v4, rfl, o4, b4⟩
          have hS := HSm.out w4 _ _ (HRo.out _ _ _ o4) (HI3.out.below b4)
          obtain ⟨A4, c4, rfl⟩ := L5.own_slice o4
          have B4 := Lib.hid (B3.out.trans (b4.mono B3.out.size))
          clear o4 b4 HMb HSm HRo
          go_wp2_with fail
          refine hS.mono ?_
          rintro e w5 ⟨rfl, b5⟩
          have B5 := Lib.hid (B4.out.trans (b5.mono B4.out.size))
          have hMa := HMa0.out _ B5.out
          clear b5 hS
          go_wp2_with fail
          refine hMa.mono ?_
          rintro e wa ⟨t, ot, rfl, ba⟩
          have Ba := Lib.hid (B5.out.trans (ba.mono B5.out.size))
          clear ba hMa HMa0
          go_wp2_with fail
          refine (HP.out _).mono ?_
          rintro e wb ⟨rfl, rfl⟩
          clear HP
          have HJ := Lib.hid (fun V => join_top t.text (qn : Int) V)
          have HDx := Lib.hid (fun V => depth_top t.text V)
          rw [deepX_text ot] at HDx
          have hd7 := ot.deep8
          by_cases hm : qn ∈ t.procs
          · have hX : joinX t.text (qn : Int) = ([], 1) := by
              unfold joinX
              rw [readT_text ot]
              dsimp only
              rw [Int.toNat_natCast, if_neg (fun h => h.2.2 hm)]
            rw [hX] at HJ
            unfold Str2 at HJ
            dsimp only at HJ
            clear hX hm ot
            generalize t.text = tx at *
            generalize t.deep = td at *
            go_wp2_with fail
            refine (HJ.out _).mono ?_
            rintro e wc ⟨rfl, bc⟩
            have Bc := Lib.hid (Ba.out.trans (bc.mono Ba.out.size))
            clear bc
            go_wp2_with fail
            refine (HDx.out _).mono ?_
            rintro e wd ⟨rfl, bd⟩
            have Bd := Lib.hid (Bc.out.trans (bd.mono Bc.out.size))
            clear bd
            go_wp2_with fail
            refine L4.wp_region_still (by kernel_rfl) (by kernel_rfl) ?_
            repeat
              (refine Quietly.step (fun K hK => ?_)
               go_simp
               refine hK _ ?_
               clear hK K)
            refine Quietly.none ?_
            rintro w2 ⟨nq, rfl⟩
            go_wp2
            go_ret
            exact ⟨rfl, L5.below_drewN Bd.out _⟩
          · have hX := (back_join ot hq8 hm).1
            have ou := ot.put hq8 hm
            rw [hX] at HJ
            unfold Str2 at HJ
            dsimp only at HJ
            have HDy := Lib.hid (fun V => depth_top (t.put qn).text V)
            rw [deepX_text ou] at HDy
            have HMx := Lib.hid (fun V => members_top t.text V)
            rw [memsX_text ot] at HMx
            have hpd := t.put_deep qn
            have hfu := t.full_iff
            have hml := mems_len t
            have hcase : ((t.put qn).deep = t.deep + 1 ∧ t.mems.length = 2 ^ t.deep) ∨ ((t.put qn).deep = t.deep ∧ t.mems.length ≠ 2 ^ t.deep) := by
              by_cases hf : t.full = true
              · rw [if_pos hf] at hpd
                exact .inl ⟨hpd, by rw [hml]; exact hfu.1 hf⟩
              · rw [if_neg hf] at hpd
                exact .inr ⟨hpd, fun e => hf (hfu.2 (by rw [← hml]; exact e))⟩
            clear hX hm ot ou hpd hfu hml
            generalize t.text = tx at *
            generalize (t.put qn).text = ux at *
            generalize t.deep = td at *
            generalize (t.put qn).deep = ud at *
            generalize t.mems = tm at *
            obtain ⟨n8, hn8⟩ : ∃ n8 : Nat, 2 ^ td = n8 := ⟨_, rfl⟩
            rw [hn8] at hcase
            go_wp2_with fail
            refine (HJ.out _).mono ?_
            rintro e wc ⟨rfl, bc⟩
            have Bc := Lib.hid (Ba.out.trans (bc.mono Ba.out.size))
            clear bc
            go_wp2_with fail
            refine (HDx.out _).mono ?_
            rintro e wd ⟨rfl, bd⟩
            have bW := Bc.out.trans (bd.mono Bc.out.size)
            clear bd
            go_wp2_with fail
            have hcase2 : ∃ r : Bool, decide ((td : Int) < (ud : Int)) = r ∧ ((tm.length : Int) == (n8 : Int)) = r := by
              rcases hcase with ⟨h1, h2⟩ | ⟨h1, h2⟩
              · exact ⟨true, decide_eq_true (by omega), by rw [beq_iff_eq]; omega⟩
              · exact ⟨false, decide_eq_false (by omega), by rw [beq_eq_false_iff_ne]; omega⟩
            clear hcase
            obtain ⟨r, hr1, hr2⟩ := hcase2
            have hn8' : n8 = 1 ∨ n8 = 2 ∨ True := .inr (.inr trivial)
            clear hn8'
            go_region_held3 (fun V => Below w.heap.size w V)
              ((first | exact bW | assumption | (apply Below.drew; assumption)))
              (first
                | (go_at_call 22; refine (HDy.out _).mono ?_; rintro e we ⟨rfl, be⟩; have he : Below w.heap.size w we := Below.trans (by first | assumption | (apply Below.drew; assumption)) (be.mono (Below.size (B := w.heap.size) (by first | assumption | (apply Below.drew; assumption)))))
                | (go_at_call 20; refine (HMx.out _).mono ?_; rintro e wf ⟨vf, rfl, of, bf⟩; obtain ⟨Af, cf, rfl⟩ := L5.own_slice of; have hf : Below w.heap.size w wf := Below.trans (by first | assumption | (apply Below.drew; assumption)) (bf.mono (Below.size (B := w.heap.size) (by first | assumption | (apply Below.drew; assumption))))))
            have hB9 : Below w.heap.size w wf := by assumption
            have HB9 := Lib.hid hB9
            clear hB9
            have hsh : IntKind.i64.wrap ((2 : Int) ^ td) = (n8 : Int) := by
              rw [← hn8]
              have : td = 0 ∨ td = 1 ∨ td = 2 ∨ td = 3 ∨ td = 4 ∨ td = 5 ∨ td = 6 ∨ td = 7 := by omega
              rcases this with h | h | h | h | h | h | h | h <;> subst h <;> rfl
            have hr1' : decide (td < ud) = r := by rw [← hr1]; congr 1; simp
            have HR1 := Lib.hid (And.intro hsh (And.intro hr1' hr2))
            clear hsh hr1' hr1 hr2 hn8
            go_wp2
            go_ret
            refine ⟨?_, HB9.out⟩
            show Ending.returned (Value.bool (decide (td < ud) == ((tm.length : Int) == IntKind.i64.wrap ((2 : Int) ^ td)))) = _
            rw [HR1.out.1, HR1.out.2.1, HR1.out.2.2]
            simp
        · have q1 : ¬ (4 : Int) < (kk.length : Int) := by simp at hlo1; omega
          have q2 : ¬ (kk.length : Int) ≤ 2 := by have := hlo2 (by omega); simp at this; omega
          clear hlo1 hlo2 hlo3 hpos
          go_wp2_with fail
          refine (HMb.out _).mono ?_
          rintro e w4 ⟨v4, rfl, o4, b4⟩
          have hS := HSm.out w4 _ _ (HRo.out _ _ _ o4) (HI3.out.below b4)
          obtain ⟨A4, c4, rfl⟩ := L5.own_slice o4
          have B4 := Lib.hid (B3.out.trans (b4.mono B3.out.size))
          clear o4 b4 HMb HSm HRo
          go_wp2_with fail
          refine hS.mono ?_
          rintro e w5 ⟨rfl, b5⟩
          have B5 := Lib.hid (B4.out.trans (b5.mono B4.out.size))
          have hMa := HMa0.out _ B5.out
          clear b5 hS
          go_wp2_with fail
          refine hMa.mono ?_
          rintro e wa ⟨t, ot, rfl, ba⟩
          have Ba := Lib.hid (B5.out.trans (ba.mono B5.out.size))
          clear ba hMa HMa0
          go_wp2_with fail
          refine (HP.out _).mono ?_
          rintro e wb ⟨rfl, rfl⟩
          clear HP
          have HJ := Lib.hid (fun V => join_top t.text (qn : Int) V)
          have HDx := Lib.hid (fun V => depth_top t.text V)
          rw [deepX_text ot] at HDx
          have hd7 := ot.deep8
          by_cases hm : qn ∈ t.procs
          · have hX : joinX t.text (qn : Int) = ([], 1) := by
              unfold joinX
              rw [readT_text ot]
              dsimp only
              rw [Int.toNat_natCast, if_neg (fun h => h.2.2 hm)]
            rw [hX] at HJ
            unfold Str2 at HJ
            dsimp only at HJ
            clear hX hm ot
            generalize t.text = tx at *
            generalize t.deep = td at *
            go_wp2_with fail
            refine (HJ.out _).mono ?_
            rintro e wc ⟨rfl, bc⟩
            have Bc := Lib.hid (Ba.out.trans (bc.mono Ba.out.size))
            clear bc
            go_wp2_with fail
            refine (HDx.out _).mono ?_
            rintro e wd ⟨rfl, bd⟩
            have Bd := Lib.hid (Bc.out.trans (bd.mono Bc.out.size))
            clear bd
            go_wp2_with fail
            refine L4.wp_region_still (by kernel_rfl) (by kernel_rfl) ?_
            repeat
              (refine Quietly.step (fun K hK => ?_)
               go_simp
               refine hK _ ?_
               clear hK K)
            refine Quietly.none ?_
            rintro w2 ⟨nq, rfl⟩
            go_wp2
            go_ret
            exact ⟨rfl, L5.below_drewN Bd.out _⟩
          · have hX := (back_join ot hq8 hm).1
            have ou := ot.put hq8 hm
            rw [hX] at HJ
            unfold Str2 at HJ
            dsimp only at HJ
            have HDy := Lib.hid (fun V => depth_top (t.put qn).text V)
            rw [deepX_text ou] at HDy
            have HMx := Lib.hid (fun V => members_top t.text V)
            rw [memsX_text ot] at HMx
            have hpd := t.put_deep qn
            have hfu := t.full_iff
            have hml := mems_len t
            have hcase : ((t.put qn).deep = t.deep + 1 ∧ t.mems.length = 2 ^ t.deep) ∨ ((t.put qn).deep = t.deep ∧ t.mems.length ≠ 2 ^ t.deep) := by
              by_cases hf : t.full = true
              · rw [if_pos hf] at hpd
                exact .inl ⟨hpd, by rw [hml]; exact hfu.1 hf⟩
              · rw [if_neg hf] at hpd
                exact .inr ⟨hpd, fun e => hf (hfu.2 (by rw [← hml]; exact e))⟩
            clear hX hm ot ou hpd hfu hml
            generalize t.text = tx at *
            generalize (t.put qn).text = ux at *
            generalize t.deep = td at *
            generalize (t.put qn).deep = ud at *
            generalize t.mems = tm at *
            obtain ⟨n8, hn8⟩ : ∃ n8 : Nat, 2 ^ td = n8 := ⟨_, rfl⟩
            rw [hn8] at hcase
            go_wp2_with fail
            refine (HJ.out _).mono ?_
            rintro e wc ⟨rfl, bc⟩
            have Bc := Lib.hid (Ba.out.trans (bc.mono Ba.out.size))
            clear bc
            go_wp2_with fail
            refine (HDx.out _).mono ?_
            rintro e wd ⟨rfl, bd⟩
            have bW := Bc.out.trans (bd.mono Bc.out.size)
            clear bd
            go_wp2_with fail
            have hcase2 : ∃ r : Bool, decide ((td : Int) < (ud : Int)) = r ∧ ((tm.length : Int) == (n8 : Int)) = r := by
              rcases hcase with ⟨h1, h2⟩ | ⟨h1, h2⟩
              · exact ⟨true, decide_eq_true (by omega), by rw [beq_iff_eq]; omega⟩
              · exact ⟨false, decide_eq_false (by omega), by rw [beq_eq_false_iff_ne]; omega⟩
            clear hcase
            obtain ⟨r, hr1, hr2⟩ := hcase2
            have hn8' : n8 = 1 ∨ n8 = 2 ∨ True := .inr (.inr trivial)
            clear hn8'
            go_region_held3 (fun V => Below w.heap.size w V)
              ((first | exact bW | assumption | (apply Below.drew; assumption)))
              (first
                | (go_at_call 22; refine (HDy.out _).mono ?_; rintro e we ⟨rfl, be⟩; have he : Below w.heap.size w we := Below.trans (by first | assumption | (apply Below.drew; assumption)) (be.mono (Below.size (B := w.heap.size) (by first | assumption | (apply Below.drew; assumption)))))
                | (go_at_call 20; refine (HMx.out _).mono ?_; rintro e wf ⟨vf, rfl, of, bf⟩; obtain ⟨Af, cf, rfl⟩ := L5.own_slice of; have hf : Below w.heap.size w wf := Below.trans (by first | assumption | (apply Below.drew; assumption)) (bf.mono (Below.size (B := w.heap.size) (by first | assumption | (apply Below.drew; assumption))))))
            have hB9 : Below w.heap.size w wf := by assumption
            have HB9 := Lib.hid hB9
            clear hB9
            have hsh : IntKind.i64.wrap ((2 : Int) ^ td) = (n8 : Int) := by
              rw [← hn8]
              have : td = 0 ∨ td = 1 ∨ td = 2 ∨ td = 3 ∨ td = 4 ∨ td = 5 ∨ td = 6 ∨ td = 7 := by omega
              rcases this with h | h | h | h | h | h | h | h <;> subst h <;> rfl
            have hr1' : decide (td < ud) = r := by rw [← hr1]; congr 1; simp
            have HR1 := Lib.hid (And.intro hsh (And.intro hr1' hr2))
            clear hsh hr1' hr1 hr2 hn8
            go_wp2
            go_ret
            refine ⟨?_, HB9.out⟩
            show Ending.returned (Value.bool (decide (td < ud) == ((tm.length : Int) == IntKind.i64.wrap ((2 : Int) ^ td)))) = _
            rw [HR1.out.1, HR1.out.2.1, HR1.out.2.2]
            simp
        · have q1 : ¬ (8 : Int) < (kk.length : Int) := by simp at hlo1; omega
          have q2 : ¬ (kk.length : Int) ≤ 4 := by have := hlo2 (by omega); simp at this; omega
          clear hlo1 hlo2 hlo3 hpos
          go_wp2_with fail
          refine (HMb.out _).mono ?_
          rintro e w4 ⟨v4, rfl, o4, b4⟩
          have hS := HSm.out w4 _ _ (HRo.out _ _ _ o4) (HI3.out.below b4)
          obtain ⟨A4, c4, rfl⟩ := L5.own_slice o4
          have B4 := Lib.hid (B3.out.trans (b4.mono B3.out.size))
          clear o4 b4 HMb HSm HRo
          go_wp2_with fail
          refine hS.mono ?_
          rintro e w5 ⟨rfl, b5⟩
          have B5 := Lib.hid (B4.out.trans (b5.mono B4.out.size))
          have hMa := HMa0.out _ B5.out
          clear b5 hS
          go_wp2_with fail
          refine hMa.mono ?_
          rintro e wa ⟨t, ot, rfl, ba⟩
          have Ba := Lib.hid (B5.out.trans (ba.mono B5.out.size))
          clear ba hMa HMa0
          go_wp2_with fail
          refine (HP.out _).mono ?_
          rintro e wb ⟨rfl, rfl⟩
          clear HP
          have HJ := Lib.hid (fun V => join_top t.text (qn : Int) V)
          have HDx := Lib.hid (fun V => depth_top t.text V)
          rw [deepX_text ot] at HDx
          have hd7 := ot.deep8
          by_cases hm : qn ∈ t.procs
          · have hX : joinX t.text (qn : Int) = ([], 1) := by
              unfold joinX
              rw [readT_text ot]
              dsimp only
              rw [Int.toNat_natCast, if_neg (fun h => h.2.2 hm)]
            rw [hX] at HJ
            unfold Str2 at HJ
            dsimp only at HJ
            clear hX hm ot
            generalize t.text = tx at *
            generalize t.deep = td at *
            go_wp2_with fail
            refine (HJ.out _).mono ?_
            rintro e wc ⟨rfl, bc⟩
            have Bc := Lib.hid (Ba.out.trans (bc.mono Ba.out.size))
            clear bc
            go_wp2_with fail
            refine (HDx.out _).mono ?_
            rintro e wd ⟨rfl, bd⟩
            have Bd := Lib.hid (Bc.out.trans (bd.mono Bc.out.size))
            clear bd
            go_wp2_with fail
            refine L4.wp_region_still (by kernel_rfl) (by kernel_rfl) ?_
            repeat
              (refine Quietly.step (fun K hK => ?_)
               go_simp
               refine hK _ ?_
               clear hK K)
            refine Quietly.none ?_
            rintro w2 ⟨nq, rfl⟩
            go_wp2
            go_ret
            exact ⟨rfl, L5.below_drewN Bd.out _⟩
          · have hX := (back_join ot hq8 hm).1
            have ou := ot.put hq8 hm
            rw [hX] at HJ
            unfold Str2 at HJ
            dsimp only at HJ
            have HDy := Lib.hid (fun V => depth_top (t.put qn).text V)
            rw [deepX_text ou] at HDy
            have HMx := Lib.hid (fun V => members_top t.text V)
            rw [memsX_text ot] at HMx
            have hpd := t.put_deep qn
            have hfu := t.full_iff
            have hml := mems_len t
            have hcase : ((t.put qn).deep = t.deep + 1 ∧ t.mems.length = 2 ^ t.deep) ∨ ((t.put qn).deep = t.deep ∧ t.mems.length ≠ 2 ^ t.deep) := by
              by_cases hf : t.full = true
              · rw [if_pos hf] at hpd
                exact .inl ⟨hpd, by rw [hml]; exact hfu.1 hf⟩
              · rw [if_neg hf] at hpd
                exact .inr ⟨hpd, fun e => hf (hfu.2 (by rw [← hml]; exact e))⟩
            clear hX hm ot ou hpd hfu hml
            generalize t.text = tx at *
            generalize (t.put qn).text = ux at *
            generalize t.deep = td at *
            generalize (t.put qn).deep = ud at *
            generalize t.mems = tm at *
            obtain ⟨n8, hn8⟩ : ∃ n8 : Nat, 2 ^ td = n8 := ⟨_, rfl⟩
            rw [hn8] at hcase
            go_wp2_with fail
            refine (HJ.out _).mono ?_
            rintro e wc ⟨rfl, bc⟩
            have Bc := Lib.hid (Ba.out.trans (bc.mono Ba.out.size))
            clear bc
            go_wp2_with fail
            refine (HDx.out _).mono ?_
            rintro e wd ⟨rfl, bd⟩
            have bW := Bc.out.trans (bd.mono Bc.out.size)
            clear bd
            go_wp2_with fail
            have hcase2 : ∃ r : Bool, decide ((td : Int) < (ud : Int)) = r ∧ ((tm.length : Int) == (n8 : Int)) = r := by
              rcases hcase with ⟨h1, h2⟩ | ⟨h1, h2⟩
              · exact ⟨true, decide_eq_true (by omega), by rw [beq_iff_eq]; omega⟩
              · exact ⟨false, decide_eq_false (by omega), by rw [beq_eq_false_iff_ne]; omega⟩
            clear hcase
            obtain ⟨r, hr1, hr2⟩ := hcase2
            have hn8' : n8 = 1 ∨ n8 = 2 ∨ True := .inr (.inr trivial)
            clear hn8'
            go_region_held3 (fun V => Below w.heap.size w V)
              ((first | exact bW | assumption | (apply Below.drew; assumption)))
              (first
                | (go_at_call 22; refine (HDy.out _).mono ?_; rintro e we ⟨rfl, be⟩; have he : Below w.heap.size w we := Below.trans (by first | assumption | (apply Below.drew; assumption)) (be.mono (Below.size (B := w.heap.size) (by first | assumption | (apply Below.drew; assumption)))))
                | (go_at_call 20; refine (HMx.out _).mono ?_; rintro e wf ⟨vf, rfl, of, bf⟩; obtain ⟨Af, cf, rfl⟩ := L5.own_slice of; have hf : Below w.heap.size w wf := Below.trans (by first | assumption | (apply Below.drew; assumption)) (bf.mono (Below.size (B := w.heap.size) (by first | assumption | (apply Below.drew; assumption))))))
            have hB9 : Below w.heap.size w wf := by assumption
            have HB9 := Lib.hid hB9
            clear hB9
            have hsh : IntKind.i64.wrap ((2 : Int) ^ td) = (n8 : Int) := by
              rw [← hn8]
              have : td = 0 ∨ td = 1 ∨ td = 2 ∨ td = 3 ∨ td = 4 ∨ td = 5 ∨ td = 6 ∨ td = 7 := by omega
              rcases this with h | h | h | h | h | h | h | h <;> subst h <;> rfl
            have hr1' : decide (td < ud) = r := by rw [← hr1]; congr 1; simp
            have HR1 := Lib.hid (And.intro hsh (And.intro hr1' hr2))
            clear hsh hr1' hr1 hr2 hn8
            go_wp2
            go_ret
            refine ⟨?_, HB9.out⟩
            show Ending.returned (Value.bool (decide (td < ud) == ((tm.length : Int) == IntKind.i64.wrap ((2 : Int) ^ td)))) = _
            rw [HR1.out.1, HR1.out.2.1, HR1.out.2.2]
            simp
end Go.Proofs.YtembihlkildodaaDoor.L13
