/- The law TreeMerged. -/
import Derived.Test.YtembihlkildodaaDoorTrLow
namespace Go.Proofs.YtembihlkildodaaDoor.L13
open Go.ChangeShapes Go.WideShapes Go.ChangeAt Go.RowKit Go.Deep
open Go.Proofs.YtembihlkildodaaDoor.L5 (One)

theorem head_mem {t : Tr} : t.mems.headD 0 ∈ t.mems := by
  obtain ⟨m, r, e⟩ := mems_cons t
  rw [e]
  simp
theorem ahead_other {a b : Tr} (oa : a.ok) (ob : b.ok) (h : ∀ p ∈ a.procs, p ∉ b.procs) : aheadB b a = !aheadB a b := by
  unfold aheadB
  by_cases hd : a.deep = b.deep
  · have e1 : ¬ (b.deep ≠ a.deep) := fun g => g hd.symm
    have e2 : ¬ (a.deep ≠ b.deep) := fun g => g hd
    rw [if_neg e1, if_neg e2]
    by_cases hl : a.procs.length = b.procs.length
    · have e3 : ¬ (b.procs.length ≠ a.procs.length) := fun g => g hl.symm
      have e4 : ¬ (a.procs.length ≠ b.procs.length) := fun g => g hl
      rw [if_neg e3, if_neg e4]
      have ma := mem_mems oa head_mem
      have mb := mem_mems ob head_mem
      have hne : a.mems.headD 0 ≠ b.mems.headD 0 := fun e => h _ ma.2.2 (by rw [e]; exact mb.2.2)
      generalize a.mems.headD 0 = x at *
      generalize b.mems.headD 0 = y at *
      by_cases hxy : x < y
      · rw [decide_eq_true hxy, decide_eq_false (by omega)]; rfl
      · rw [decide_eq_false hxy, decide_eq_true (by omega)]; rfl
    · have e3 : b.procs.length ≠ a.procs.length := fun g => hl g.symm
      have e4 : a.procs.length ≠ b.procs.length := hl
      rw [if_pos e3, if_pos e4]
      by_cases hxy : b.procs.length < a.procs.length
      · rw [decide_eq_true hxy, decide_eq_false (by omega)]; rfl
      · rw [decide_eq_false hxy, decide_eq_true (by omega)]; rfl
  · have e1 : b.deep ≠ a.deep := fun g => hd g.symm
    have e2 : a.deep ≠ b.deep := hd
    rw [if_pos e1, if_pos e2]
    by_cases hxy : b.deep < a.deep
    · rw [decide_eq_true hxy, decide_eq_false (by omega)]; rfl
    · rw [decide_eq_false hxy, decide_eq_true (by omega)]; rfl
theorem merge_comm {a b : Tr} (oa : a.ok) (ob : b.ok) (h : ∀ p ∈ a.procs, p ∉ b.procs) : b.merge a = a.merge b := by
  unfold Tr.merge
  rw [ahead_other oa ob h]
  cases aheadB a b <;> rfl
theorem merge_apart {a b : Tr} (oa : a.ok) (ob : b.ok) (h : ∀ p ∈ a.procs, p ∉ b.procs) : mergeX a.text b.text = ((a.merge b).text, 0) := by
  unfold mergeX
  rw [readT_text oa, readT_text ob]
  dsimp only
  rw [if_neg]
  intro hl
  have hne : sharedL a b ≠ [] := fun e => by rw [e] at hl; simp at hl
  obtain ⟨y, r, e⟩ : ∃ y r, sharedL a b = y :: r := by
    cases hs : sharedL a b with
    | nil => exact absurd hs hne
    | cons y r => exact ⟨y, r, rfl⟩
  have hy : y ∈ sharedL a b := by rw [e]; simp
  have hy2 := List.mem_filter.1 hy
  have m1 := mem_mems oa hy2.1
  have m2 := mem_mems ob (List.contains_iff_mem.1 hy2.2)
  exact h _ m1.2.2 m2.2.2
theorem merge_self {a : Tr} (oa : a.ok) : mergeX a.text a.text = ([], 1) := by
  unfold mergeX
  rw [readT_text oa]
  dsimp only
  rw [if_pos]
  have hh : a.mems.headD 0 ∈ a.mems := head_mem
  have : a.mems.headD 0 ∈ sharedL a a := List.mem_filter.2 ⟨hh, List.contains_iff_mem.2 hh⟩
  exact List.length_pos_of_mem this
theorem merge_deep (a b : Tr) : (a.merge b).deep = 1 + max a.deep b.deep := by
  unfold Tr.merge
  split
  · rfl
  · simp only [Tr.deep]; omega
theorem merge_len (a b : Tr) : (a.merge b).procs.length = a.procs.length + b.procs.length := by
  unfold Tr.merge
  split
  · simp [Tr.procs]
  · simp [Tr.procs]; omega
/-- How far those of a row have left a tree that was merged with t. -/
def Leaving (t : Tr) (ks : List Int) (i : Nat) (s : Tr) : Prop :=
  s.ok ∧ ((i = ks.length ∧ s = t) ∨ (i < ks.length ∧ ∃ u : Tr, (s = .node t u ∨ s = .node u t) ∧ ∀ p : Nat, p ∈ u.procs ↔ (p : Int) ∈ ks.drop i))
theorem leaving_step {t s : Tr} {ks : List Int} {i : Nat} {k : Int} (hr : Rises 8 ks) (h : Leaving t ks i s) (hk : ks[i]? = some k) : ∃ s' : Tr, leaveX s.text k = (s'.text, 0) ∧ Leaving t ks (i + 1) s' := by
  have hil : i < ks.length := (List.getElem?_eq_some_iff.1 hk).1
  obtain ⟨os, ⟨e, _⟩ | ⟨_, u, hs, hu⟩⟩ := h
  · omega
  have hdrop : ks.drop i = k :: ks.drop (i + 1) := by rw [List.drop_eq_getElem_cons hil, (List.getElem?_eq_some_iff.1 hk).2]
  have hkr := hr.2 k (List.mem_of_getElem? hk)
  obtain ⟨q, rfl⟩ : ∃ q : Nat, k = q := ⟨k.toNat, by omega⟩
  have hqu : q ∈ u.procs := (hu q).2 (by rw [hdrop]; simp)
  have hps : (ks.drop i).Pairwise (· < ·) := hr.1.sublist (List.drop_sublist _ _)
  rw [hdrop] at hps
  have hps' := List.pairwise_cons.1 hps
  have hqt : q ∉ t.procs := by
    rcases hs with rfl | rfl
    · exact fun h => os.apart q h hqu
    · exact fun h => os.apart q hqu h
  have hqs : q ∈ s.procs := by
    rcases hs with rfl | rfl
    · simp [Tr.procs, hqu]
    · simp [Tr.procs, hqu]
  have hq8 := os.small q hqs
  have hot : t.out q = some t := Tr.out_not hqt
  have hso : ∃ s', s.out q = some s' ∧ Leaving t ks (i + 1) s' := by
    have hno : ∃ z ∈ s.procs, z ≠ q := by rcases hs with rfl | rfl <;> exact os.other q
    obtain ⟨s', es, ep⟩ := Tr.out_some hno
    refine ⟨s', es, os.out ep, ?_⟩
    have hout := u.out_procs q
    cases huo : u.out q with
    | none =>
      rw [huo] at hout
      have hall : ks.drop (i + 1) = [] := by
        cases hd : ks.drop (i + 1) with
        | nil => rfl
        | cons y r =>
          exfalso
          have hy := hr.2 y (List.mem_of_mem_drop (i := i + 1) (by rw [hd]; simp))
          have hyu : y.toNat ∈ u.procs := (hu _).2 (by rw [hdrop, hd, Int.toNat_of_nonneg (by omega)]; simp)
          have hlt := hps'.1 y (by rw [hd]; simp)
          have : y.toNat ∈ u.procs.filter (fun p => decide (p ≠ q)) := List.mem_filter.2 ⟨hyu, by simp; omega⟩
          rw [← hout] at this
          cases this
      have hlen : i + 1 = ks.length := by
        have := List.drop_eq_nil_iff.1 hall
        omega
      refine .inl ⟨hlen, ?_⟩
      rcases hs with rfl | rfl
      · rw [Tr.out, hot, huo] at es; cases es; rfl
      · rw [Tr.out, hot, huo] at es; cases es; rfl
    | some u' =>
      rw [huo] at hout
      have hu' : ∀ p : Nat, p ∈ u'.procs ↔ (p : Int) ∈ ks.drop (i + 1) := fun p => by
        rw [show u'.procs = u.procs.filter (fun p => decide (p ≠ q)) from hout, List.mem_filter, hu p, hdrop, List.mem_cons, decide_eq_true_iff]
        constructor
        · rintro ⟨h1 | h1, h2⟩
          · exact absurd (by omega : p = q) h2
          · exact h1
        · intro h1
          have := hps'.1 _ h1
          exact ⟨.inr h1, by omega⟩
      have hlt : i + 1 < ks.length := by
        have hpos := u'.procs_pos
        cases hpu : u'.procs with
        | nil => rw [hpu] at hpos; simp at hpos
        | cons z r =>
          have := (hu' z).1 (by rw [hpu]; simp)
          have := List.length_pos_of_mem this
          rw [List.length_drop] at this
          omega
      refine .inr ⟨hlt, u', ?_, hu'⟩
      rcases hs with rfl | rfl
      · rw [Tr.out, hot, huo] at es; cases es; exact .inl rfl
      · rw [Tr.out, hot, huo] at es; cases es; exact .inr rfl
  obtain ⟨s', es, hl⟩ := hso
  refine ⟨s', ?_, hl⟩
  unfold leaveX
  rw [readT_text os]
  dsimp only
  unfold outX
  rw [Int.toNat_natCast, es]
  rcases hs with rfl | rfl
  · dsimp only; rw [if_pos ⟨by omega, hqs⟩]
  · dsimp only; rw [if_pos ⟨by omega, hqs⟩]
theorem build_procs {k : Int} {ks : List Int} (h : Rises 8 (k :: ks)) (p : Nat) : p ∈ (buildT (k :: ks)).procs ↔ (p : Int) ∈ k :: ks := by
  have := (joins_procs ks (.leaf k.toNat)).mem_iff (a := p)
  show p ∈ (joins (.leaf k.toNat) ks).procs ↔ _
  rw [this, List.mem_append, List.mem_map, show (Tr.leaf k.toNat).procs = [k.toNat] from rfl, List.mem_singleton, List.mem_cons]
  constructor
  · rintro (⟨y, hy, e⟩ | e)
    · have := h.2 y (by simp [hy])
      exact .inr (by rw [← e, Int.toNat_of_nonneg (by omega)]; exact hy)
    · have := h.2 k (by simp)
      exact .inl (by omega)
  · rintro (e | e)
    · exact .inr (by omega)
    · exact .inl ⟨_, e, by omega⟩
def MgRel (w : World) (t : Tr) (k : Nat) (v7 v8 : Value) (wr : World) : Prop :=
  ∃ (q : Nat) (ks : List Int), k + q = 9 ∧ 1 ≤ q ∧ v8 = .int .i64 q ∧ Rises (q - 1) ks ∧ ks.length ≤ q - 1 ∧ (∀ y ∈ ks, y.toNat ∉ t.procs) ∧ wr.ownsRow w.heap.size 3 1 v7 ks.length (ks.map (Value.int .i64)) ∧ Below w.heap.size w wr
def MgRel2 (w : World) (t : Tr) (ks : List Int) (k : Nat) (v13 v17 : Value) (wr : World) : Prop :=
  ∃ (i : Nat) (s : Tr), k + i = ks.length ∧ v17 = .int .i64 i ∧ Leaving t ks i s ∧ v13 = .string ⟨s.text.toArray⟩ ∧ Below w.heap.size w wr
set_option maxRecDepth 100000 in
set_option maxHeartbeats 16000000 in
theorem merged_calls (v : Value) (xs : List Int) (bits : Int) (w : World) (hI : IntsA w v xs) : Calls Tryd.prog 7 #[v, .int .i64 bits] w (One w (.bool true)) := by
  obtain ⟨i0, hi0, hz0, hz1, hz2⟩ := info_parts L10.info_int10
  have hSh := shown_calls w
  have HMa := Lib.hid (fun V (hb : Below w.heap.size w V) => made_calls v xs V (hI.below hb))
  obtain ⟨A, c, rfl, _⟩ := id hI.reads
  clear hI
  go_enter Tryd.func7, Tryd.ntmps7
  go_wp2_with fail
  refine hSh.mono ?_
  rintro e w1 ⟨rfl, b1⟩
  have hMa := HMa.out _ b1
  have B1 := Lib.hid b1
  clear b1 hSh HMa
  go_wp2_with fail
  refine hMa.mono ?_
  rintro e w2 ⟨t, ot, rfl, b2⟩
  have HSt : Hid (MgRel w t 8 (.slice none 0 0) (.int .i64 1) w2) := ⟨1, [], by omega, by omega, rfl, ⟨List.Pairwise.nil, by simp⟩, by simp, by simp, World.ownsRow_nil _ _ _ _, B1.out.trans (b2.mono B1.out.size)⟩
  clear b2 hMa B1
  have HMt := Lib.hid (fun V => members_top t.text V)
  rw [memsX_text ot] at HMt
  have HHas : Hid (∀ (V : World) (v : Value) (B : Nat) (q : Nat), 1 ≤ q → V.ownsRow B 3 1 v t.mems.length (t.mems.map (Value.int .i64)) → Calls Tryd.prog 30 #[v, .int .i64 (q : Int)] V fun e w' => e = .returned (.bool (decide (q ∈ t.procs))) ∧ V = w') := fun V v B q hq h => by
    have := L10.rhas_calls v _ (q : Int) V (ot.ints h)
    rw [ot.contains, Int.toNat_natCast] at this
    have e : decide (1 ≤ (q : Int) ∧ q ∈ t.procs) = decide (q ∈ t.procs) := by
      congr 1
      exact propext ⟨fun h => h.2, fun h => ⟨by omega, h⟩⟩
    rw [e] at this
    exact this
  obtain ⟨tx, htx⟩ : ∃ tx, t.text = tx := ⟨_, rfl⟩
  have HTX := Lib.hid htx
  have HOT := Lib.hid ot
  rw [htx] at HMt ⊢
  clear htx ot
  go_wp2
  go_loopg [7, 8] 8 (fun k v7 v8 wr => MgRel w t k v7 v8 wr)
  case atStart => exact HSt.out
  case round =>
    clear HSt
    obtain ⟨q, ks, hk, hq0, rfl, hr, hl, hdis, ho, hB⟩ := hrel
    by_cases hq : q ≤ 8
    · have j1 : (q : Int) ≤ 8 := by omega
      have j2 : (1 : Int) ≤ (q : Int) := by omega
      obtain ⟨A4, c4, rfl⟩ := L5.own_slice ho
      have HOw := Lib.hid ho
      have HB := Lib.hid hB
      have hgk := Lib.hid (show gk - 1 < gk by omega)
      have hwr := hB.size
      have HN : Hid (∀ V, Below wr.heap.size wr V → MgRel w t (gk - 1) (.slice A4 ks.length c4) (.int .i64 ((q + 1 : Nat) : Int)) V) := fun V hV => ⟨q + 1, ks, by omega, by omega, rfl, ⟨hr.1, fun k h => by have := hr.2 k h; omega⟩, by omega, hdis, L5.own_below HOw.out hV, HB.out.trans (hV.mono hwr)⟩
      have HY : Hid (q ∉ t.procs → ∀ (v2 : Value) (V w4 : World), Below wr.heap.size wr V → w4.ownsRow w.heap.size 3 1 v2 (ks.length + 1) (ks.map (Value.int .i64) ++ [.int .i64 (q : Int)]) → (V.alloc (.cells #[.int .i64 (q : Int)] 3)).grownBy w4 (Value.slice A4 ks.length c4).ownBlock → MgRel w t (gk - 1) v2 (.int .i64 ((q + 1 : Nat) : Int)) w4) := by
        intro hqn v2 V w4 hV k1 k2
        have hg := L5.grow_trans (World.grownBy_alloc V (.cells #[.int .i64 (q : Int)] 3) _) k2
        have hBV := HB.out.trans (hV.mono hwr)
        refine ⟨q + 1, ks ++ [(q : Int)], by omega, by omega, rfl, ⟨?_, ?_⟩, by simp; omega, ?_, by simpa using k1, hBV.grown hg hBV.size (fun j e => (HOw.out.lt j e).1)⟩
        · refine List.pairwise_append.2 ⟨hr.1, by simp, fun a ha b hb => ?_⟩
          rw [List.mem_singleton] at hb
          have := hr.2 a ha
          omega
        · intro k hk'
          rcases List.mem_append.1 hk' with h | h
          · have := hr.2 k h; omega
          · rw [List.mem_singleton] at h; omega
        · intro y hy
          rcases List.mem_append.1 hy with h | h
          · exact hdis y h
          · rw [List.mem_singleton] at h
            rw [h, Int.toNat_natCast]
            exact hqn
      have HHq := Lib.hid (fun V v B h => HHas.out V v B q hq0 h)
      clear hr hk hB ho hdis hq HHas hq0
      cases hbt : (Go.bits BinOp.and IntKind.i64 (bits / 2 ^ (q - 1)) 1 == 1) with
      | false =>
        have hE := Lib.hid (HN.out _ (Below.refl _ _))
        clear HN HY HHq HMt
        go_wp2
        go_roundg (gk - 1)
        case measure => exact hgk.out
        case rel => exact hE.out
      | true =>
        by_cases hm : q ∈ t.procs
        · have hd := Lib.hid (decide_eq_true hm)
          clear hm HY
          go_wp2_with fail
          refine (HMt.out _).mono ?_
          rintro e w3 ⟨v3, rfl, o3, b3⟩
          have hH := HHq.out _ _ _ o3
          rw [hd.out] at hH
          obtain ⟨A3, c3, rfl⟩ := L5.own_slice o3
          have hE := Lib.hid (HN.out _ b3)
          clear o3 b3 HHq HN HMt
          go_wp2_with fail
          refine hH.mono ?_
          rintro e w4 ⟨rfl, rfl⟩
          go_wp2
          go_roundg (gk - 1)
          case measure => exact hgk.out
          case rel => exact hE.out
        · have hd := Lib.hid (decide_eq_false hm)
          have HY2 := Lib.hid (HY.out hm)
          clear hm HY HN
          go_wp2_with fail
          refine (HMt.out _).mono ?_
          rintro e w3 ⟨v3, rfl, o3, b3⟩
          have hH := HHq.out _ _ _ o3
          rw [hd.out] at hH
          obtain ⟨A3, c3, rfl⟩ := L5.own_slice o3
          have HO3 := Lib.hid (L5.own_below HOw.out b3)
          have HY3 := Lib.hid (fun v2 w4 => HY2.out v2 w3 w4 b3)
          have hs3 := Nat.le_trans hwr b3.size
          clear o3 b3 HHq HY2 HMt
          go_wp2_with fail
          refine hH.mono ?_
          rintro e w4 ⟨rfl, rfl⟩
          clear hH
          go_wp2_with (at_builtin; refine wpList_append_own_at _ rfl _ _ 34 rfl w.heap.size 3 i0 (.int .i64 0) 1 8 Tryd.underlying34 hi0 hz0 hz1 hz2 rfl (by decide) _ _ _ rfl (HO3.out.alloc _) ⟨w3.heap.size, 0, none⟩ 1 1 [.int .i64 (q : Int)] rfl rfl (cell_one_new _ _ _) (by simp [Value.oneCell']) (by unfold maxLen; omega) (by omega) (by simp; omega) ?_; intro v2 w5 hown' hgrow hnil hat; have hRl := Lib.hid (HY3.out v2 w5 (by simpa using hown') hgrow); clear hown' hgrow hnil hat)
          go_roundg (gk - 1)
          case measure => exact hgk.out
          case rel => exact hRl.out
    · obtain rfl : q = 9 := by omega
      generalize wr = W0 at *
      have hI8 := rises_ints hr ho (by omega)
      have hcap := own_cap ho
      obtain ⟨A8, c8, rfl⟩ := L5.own_slice ho
      have hBd := build_top _ ks W0 hI8 (fun A n c e => by cases e; exact hcap)
      have HI8 := Lib.hid (ints_at hI8)
      have HB0 := Lib.hid hB
      have hl8 : ks.length ≤ 8 := by omega
      have ot := HOT.out
      clear hI8 ho hcap hB hk hq HHas
      cases ks with
      | nil =>
        have hMs := Lib.hid (fun V => merge_top t.text t.text V)
        rw [merge_self ot, HTX.out] at hMs
        unfold Str2 at hMs
        dsimp only at hMs
        simp only [List.length_nil] at *
        clear ot hBd HI8 HMt hr hdis
        go_wp2_with fail
        refine (hMs.out _).mono ?_
        rintro e w3 ⟨rfl, b3⟩
        have B3 := Lib.hid (HB0.out.trans (b3.mono HB0.out.size))
        clear b3
        go_wp2
        go_ret
        exact ⟨rfl, B3.out⟩
      | cons k ks =>
        have hok := row_ok (rises_row hr) ks.length
        rw [List.take_length] at hok
        change (buildT (k :: ks)).ok at hok
        have hbx : buildX (k :: ks) = ((buildT (k :: ks)).text, 0) := by unfold buildX; rw [if_pos (rises_row hr)]
        rw [hbx] at hBd
        unfold Str2 at hBd
        dsimp only at hBd
        have hap : ∀ p ∈ t.procs, p ∉ (buildT (k :: ks)).procs := fun p hp hq => by
          have h1 := (build_procs hr p).1 hq
          have h2 := hdis _ h1
          rw [Int.toNat_natCast] at h2
          exact h2 hp
        have hap2 : ∀ p ∈ (buildT (k :: ks)).procs, p ∉ t.procs := fun p hp hq => hap p hq hp
        have HM1 := Lib.hid (fun V => merge_top t.text (buildT (k :: ks)).text V)
        have HM2 := Lib.hid (fun V => merge_top (buildT (k :: ks)).text t.text V)
        rw [merge_apart ot hok hap] at HM1
        rw [merge_apart hok ot hap2, merge_comm ot hok hap] at HM2
        unfold Str2 at HM1 HM2
        dsimp only at HM1 HM2
        have om := merge_ok ot hok hap
        have hLv : Hid (Leaving t (k :: ks) 0 (t.merge (buildT (k :: ks)))) := by
          refine ⟨om, .inr ⟨by simp, buildT (k :: ks), ?_, fun p => build_procs hr p⟩⟩
          unfold Tr.merge
          split
          · exact .inl rfl
          · exact .inr rfl
        have HD1 := Lib.hid (fun V => depth_top (t.merge (buildT (k :: ks))).text V)
        have HD2 := Lib.hid (fun V => depth_top t.text V)
        have HD3 := Lib.hid (fun V => depth_top (buildT (k :: ks)).text V)
        rw [deepX_text om] at HD1
        rw [deepX_text ot] at HD2
        rw [deepX_text hok] at HD3
        have HMm := Lib.hid (fun V => members_top (t.merge (buildT (k :: ks))).text V)
        rw [memsX_text om] at HMm
        have hda : (1 : Int) + max (t.deep : Int) ((buildT (k :: ks)).deep : Int) = ((t.merge (buildT (k :: ks))).deep : Int) := by rw [merge_deep]; omega
        have hbl : (buildT (k :: ks)).mems.length = (k :: ks).length := by rw [build_mems hr]
        have hlen : (t.mems.length : Int) + ((k :: ks).length : Int) = ((t.merge (buildT (k :: ks))).mems.length : Int) := by
          rw [mems_len, mems_len, merge_len, ← hbl, mems_len]
          omega
        have ht7 := ot.deep8
        have hu7 := hok.deep8
        have htl : t.mems.length ≤ 8 := by rw [mems_len]; exact ot.few
        have hkl0 : (((k :: ks).length : Int) == 0) = false := by rw [beq_eq_false_iff_ne]; simp; omega
        have HStep : Hid (∀ (s : Tr) (i : Nat) (y : Int), Leaving t (k :: ks) i s → (k :: ks)[i]? = some y → ∃ s' : Tr, leaveX s.text y = (s'.text, 0) ∧ Leaving t (k :: ks) (i + 1) s') := fun s i y h hk => leaving_step hr h hk
        rw [HTX.out] at HM1 HM2 HD2
        clear hok hbx hr hdis hap hap2 ot hbl
        generalize (buildT (k :: ks)).text = ux at *
        generalize (buildT (k :: ks)).deep = ud at *
        obtain ⟨s0, hs0⟩ : ∃ s0, t.merge (buildT (k :: ks)) = s0 := ⟨_, rfl⟩
        rw [hs0] at HM1 HM2 om hLv HD1 HMm hda hlen
        clear hs0 om
        generalize k :: ks = kk at *
        obtain ⟨sx, hsx⟩ : ∃ sx, s0.text = sx := ⟨_, rfl⟩
        have HSX := Lib.hid hsx
        rw [hsx] at HM1 HM2 HD1 HMm
        clear hsx
        generalize s0.deep = sd at *
        generalize s0.mems = sm at *
        generalize t.deep = td at *
        have HTM := HMt
        generalize t.mems = tm at *
        go_wp2_with fail
        refine hBd.mono ?_
        rintro e w2 ⟨rfl, b2⟩
        have B2 := Lib.hid (HB0.out.trans (b2.mono HB0.out.size))
        have BW2 := Lib.hid b2
        clear b2 hBd
        go_wp2_with fail
        refine (HM1.out _).mono ?_
        rintro e w3 ⟨rfl, b3⟩
        have B3 := Lib.hid (B2.out.trans (b3.mono B2.out.size))
        have BW3 := Lib.hid (BW2.out.trans (b3.mono BW2.out.size))
        clear b3
        go_wp2_with fail
        refine (HM2.out _).mono ?_
        rintro e w4 ⟨rfl, b4⟩
        have B4 := Lib.hid (B3.out.trans (b4.mono B3.out.size))
        have BW4 := Lib.hid (BW3.out.trans (b4.mono BW3.out.size))
        clear b4
        go_wp2_with fail
        refine (HD1.out _).mono ?_
        rintro e w5 ⟨rfl, b5⟩
        have B5 := Lib.hid (B4.out.trans (b5.mono B4.out.size))
        have BW5 := Lib.hid (BW4.out.trans (b5.mono BW4.out.size))
        clear b5
        go_wp2_with fail
        refine (HD2.out _).mono ?_
        rintro e w6 ⟨rfl, b6⟩
        have B6 := Lib.hid (B5.out.trans (b6.mono B5.out.size))
        have BW6 := Lib.hid (BW5.out.trans (b6.mono BW5.out.size))
        clear b6
        go_wp2_with fail
        refine (HD3.out _).mono ?_
        rintro e w7 ⟨rfl, b7⟩
        have B7 := Lib.hid (B6.out.trans (b7.mono B6.out.size))
        have BW7 := Lib.hid (BW6.out.trans (b7.mono BW6.out.size))
        clear b7
        go_wp2_with fail
        refine (HMm.out _).mono ?_
        rintro e w8 ⟨v8, rfl, o8, b8⟩
        obtain ⟨A9, c9, rfl⟩ := L5.own_slice o8
        have B8 := Lib.hid (B7.out.trans (b8.mono B7.out.size))
        have BW8 := Lib.hid (BW7.out.trans (b8.mono BW7.out.size))
        clear o8 b8
        go_wp2_with fail
        refine (HMt.out _).mono ?_
        rintro e w9 ⟨v9, rfl, o9, b9⟩
        obtain ⟨A10, c10, rfl⟩ := L5.own_slice o9
        have B9 := Lib.hid (B8.out.trans (b9.mono B8.out.size))
        have BW9 := Lib.hid (BW8.out.trans (b9.mono BW8.out.size))
        clear o9 b9
        have HSt2 : Hid (MgRel2 W0 t kk kk.length (.string ⟨sx.toArray⟩) (.int .i64 0) w9) := ⟨0, s0, by omega, rfl, hLv.out, by rw [HSX.out], BW9.out⟩
        clear HM1 HM2 HD1 HD2 HD3 HMm HMt HTM hLv
        go_wp2
        go_loopg [13, 17] kk.length (fun k v13 v17 wr => MgRel2 W0 t kk k v13 v17 wr)
        case atStart => exact HSt2.out
        case round =>
          clear HSt2
          obtain ⟨i, s, hk, rfl, hLe, rfl, hbw⟩ := hrel
          by_cases hil : i < kk.length
          · obtain ⟨y, hy⟩ : ∃ y, kk[i]? = some y := ⟨_, List.getElem?_eq_getElem hil⟩
            obtain ⟨_, ad, rfl, hc⟩ := HI8.out i y hy
            have d0 := hc _ hbw
            obtain ⟨s', hX, hL'⟩ := HStep.out s i y hLe hy
            have hV := leave_top s.text y wr
            rw [hX] at hV
            unfold Str2 at hV
            dsimp only at hV
            have HNx : Hid (∀ V, Below W0.heap.size W0 V → MgRel2 W0 t kk (gk - 1) (.string ⟨s'.text.toArray⟩) (.int .i64 ((i + 1 : Nat) : Int)) V) := fun V hV => ⟨i + 1, s', by omega, rfl, hL', rfl, hV⟩
            have hgk := Lib.hid (show gk - 1 < gk by omega)
            have k1 : (i : Int) < (kk.length : Int) := by omega
            have k2 : (0 : Int) ≤ (i : Int) := by omega
            have HBW := Lib.hid hbw
            clear hk hLe hbw hc hy hX hL' hil
            generalize s.text = st at *
            generalize s'.text = st' at *
            go_wp2_with fail
            refine hV.mono ?_
            rintro e wz ⟨rfl, bz⟩
            have HE := Lib.hid (HNx.out _ (HBW.out.trans (bz.mono HBW.out.size)))
            clear bz hV HNx
            go_wp2
            go_roundg (gk - 1)
            case measure => exact hgk.out
            case rel => exact HE.out
          · have hie : i = kk.length := by omega
            have hst : s.text = tx := by
              obtain ⟨_, ⟨_, e⟩ | ⟨h, _⟩⟩ := hLe
              · rw [e]; exact HTX.out
              · omega
            have k1 : ¬ (i : Int) < (kk.length : Int) := by omega
            have HBE := Lib.hid (HB0.out.trans (hbw.mono HB0.out.size))
            rw [hst]
            clear hk hLe hbw hil hie hst
            go_wp2
            go_ret
            exact ⟨rfl, HBE.out⟩
end Go.Proofs.YtembihlkildodaaDoor.L13
