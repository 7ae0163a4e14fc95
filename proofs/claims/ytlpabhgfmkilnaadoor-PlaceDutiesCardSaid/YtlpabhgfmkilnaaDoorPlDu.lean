/- The law PlaceDuties: each node but the root is one process's duty, the sponsor's. -/
import Derived.Test.YtlpabhgfmkilnaaDoorPlMade
namespace Go.Proofs.YtlpabhgfmkilnaaDoor.L14
open Go.ChangeShapes Go.WideShapes Go.ChangeAt Go.RowKit Go.Deep
open Go.Proofs.YtlpabhgfmkilnaaDoor.L13
open Go.Proofs.YtlpabhgfmkilnaaDoor.L5 (One)

/-- A tree's members as numbers. -/
theorem mems_nat {t : Tr} (h : t.ok) : ∃ ps : List Nat, t.mems = ps.map (fun q : Nat => (q : Int)) ∧ (∀ p, p ∈ ps ↔ p ∈ t.procs) ∧ ps.Nodup ∧ ps.length = t.procs.length ∧ ∀ p ∈ ps, 1 ≤ p ∧ p ≤ 8 := by
  have hp : t.mems.Perm t.ints := List.mergeSort_perm _ _
  have hq : (t.mems.map Int.toNat).Perm (t.procs) := by
    have := hp.map Int.toNat
    have e : t.ints.map Int.toNat = t.procs := by
      unfold Tr.ints
      rw [List.map_map]
      have : (Int.toNat ∘ fun (q : Nat) => (q : Int)) = id := by funext q; simp
      rw [this, List.map_id]
    rwa [e] at this
  refine ⟨t.mems.map Int.toNat, ?_, fun p => hq.mem_iff, hq.nodup_iff.2 h.once, hq.length_eq, fun p hpp => h.small p (hq.mem_iff.1 hpp)⟩
  rw [List.map_map]
  have : ∀ x ∈ t.mems, ((fun q : Nat => (q : Int)) ∘ Int.toNat) x = id x := fun x hx => by
    have : x ∈ t.ints := hp.mem_iff.1 hx
    unfold Tr.ints at this
    obtain ⟨q, _, rfl⟩ := List.mem_map.1 this
    simp
  rw [List.map_congr_left this, List.map_id]
theorem many_le (t : Tr) (x : List UInt8) (ps : List Nat) : t.many x ps ≤ ps.length := by
  induction ps with
  | nil => exact Nat.le_refl _
  | cons p ps ih =>
    have := (t.duty_nodup p).count (a := x)
    simp only [Tr.many, List.length_cons, this]
    split <;> omega
theorem many_next (t : Tr) (x : List UInt8) {ps : List Nat} {k p : Nat} (h : ps[k]? = some p) : t.many x (ps.take (k + 1)) = t.many x (ps.take k) + (t.duty p).count x := by
  rw [List.take_add_one, h, t.many_append]
  simp [Tr.many]
theorem count_next (x : List UInt8) {D : List (List UInt8)} {j : Nat} {y : List UInt8} (h : D[j]? = some y) : (D.take (j + 1)).count x = (D.take j).count x + (if y = x then 1 else 0) := by
  rw [List.take_add_one, h, List.count_append]
  by_cases e : y = x
  · simp [e]
  · simp [e]
theorem up_few14 {t : Tr} (h : t.ok) (p : Nat) : (t.up p).length ≤ 15 := by
  have h1 : (t.up p).length ≤ t.down.length := by unfold Tr.up; rw [List.length_reverse]; exact List.length_filter_le _ _
  have := t.down_len
  have := t.size_procs
  have := h.few
  omega
def OutRel (w4 : World) (n k : Nat) (v7 : Value) (wr : World) : Prop := ∃ i : Nat, k + i = n ∧ v7 = .int .i64 i ∧ Below w4.heap.size w4 wr
def MidRel (t : Tr) (x : List UInt8) (ps : List Nat) (w4 : World) (k : Nat) (v8 v9 : Value) (wr : World) : Prop := ∃ j : Nat, k + j = ps.length ∧ v8 = .int .i64 (t.many x (ps.take j) : Nat) ∧ v9 = .int .i64 j ∧ Below w4.heap.size w4 wr
def InRel (x : List UInt8) (D : List (List UInt8)) (m0 : Nat) (w5 : World) (k : Nat) (v8 v11 : Value) (wr : World) : Prop := ∃ j : Nat, k + j = D.length ∧ v8 = .int .i64 ((m0 + (D.take j).count x : Nat) : Int) ∧ v11 = .int .i64 j ∧ Below w5.heap.size w5 wr
theorem TxA.at {w : World} {A : Option Addr} {n c : Nat} {zs : List (List UInt8)} (h : TxA w (.slice A n c) zs) : n = zs.length ∧ ∀ (j : Nat) (x : List UInt8), zs[j]? = some x → ∃ ad : Addr, A = some ad ∧ ∀ V, Below w.heap.size w V → V.cell? (ad.add j) = some (.string ⟨x.toArray⟩) := by
  obtain ⟨A', c', e, hr⟩ := h
  cases e
  refine ⟨rfl, fun j x hx => ?_⟩
  obtain ⟨ad, e, h1, h2⟩ := hr j x hx
  exact ⟨ad, e, fun V hb => (hb.cell (p := ad.add j) (by rw [addr_blk]; exact h1)).trans h2⟩
theorem ints_later {w : World} {A : Option Addr} {n c : Nat} {xs : List Int} (h : IntsA w (.slice A n c) xs) : n = xs.length ∧ ∀ (j : Nat) (x : Int), xs[j]? = some x → ∃ ad : Addr, A = some ad ∧ ∀ V, Below w.heap.size w V → V.cell? (ad.add j) = some (.int .i64 x) := by
  obtain ⟨A', c', e, hr⟩ := h.reads
  cases e
  refine ⟨rfl, fun j x hx => ?_⟩
  obtain ⟨ad, e, h1, h2⟩ := hr j x hx
  exact ⟨ad, e, fun V hb => (hb.cell (p := ad.add j) (by rw [addr_block]; exact h1)).trans h2⟩
set_option maxRecDepth 100000 in
set_option maxHeartbeats 32000000 in
theorem pduties_calls (v : Value) (xs : List Int) (w : World) (hI : IntsA w v xs) : Calls Tryd.prog 3 #[v] w (One w (.bool true)) := by
  obtain ⟨A, c, rfl, _⟩ := id hI.reads
  have HS := Lib.hid (shown_calls w)
  have HMd := Lib.hid (fun V (hb : Below w.heap.size w V) => made_calls _ xs V (hI.below hb))
  clear hI
  go_enter Tryd.func3, Tryd.ntmps3
  go_wp2_with fail
  refine HS.out.mono ?_
  rintro e w1 ⟨rfl, y1⟩
  have HB1 := Lib.hid y1
  have hMd := HMd.out _ y1
  clear y1 HMd
  go_wp2_with fail
  refine hMd.mono ?_
  rintro e w2 ⟨t, ho, rfl, y2⟩
  have HB2 := Lib.hid (HB1.out.trans (y2.mono HB1.out.size))
  clear y2 hMd
  obtain ⟨ps, hps, hmem, hnd, hpl, hp8⟩ := mems_nat ho
  have hNt : nodesX t.text = t.down.map (fun s => s.1) := by unfold nodesX; rw [downX_text ho]
  have hMt : memsX t.text = t.mems := by unfold memsX; rw [readT_text ho]
  have HN := Lib.hid (fun V => nodes_calls t.text V)
  have HM := Lib.hid (fun V => members_top t.text V)
  have HD := Lib.hid (fun (p : Nat) (hp : 1 ≤ p) V => by have := duties_calls t.text (p : Int) V; rw [dutiesX_text ho hp] at this; exact this)
  have HP := Lib.hid (fun (p : Nat) (hp : 1 ≤ p) V => by have := path_calls t.text (p : Int) V; unfold pathX at this; rw [upL_text ho hp] at this; exact this)
  rw [hNt] at HN
  rw [hMt] at HM
  have hsz := t.down_len
  have hsp := t.size_procs
  have hfew := ho.few
  have hdl : (t.down.map (fun s => s.1)).length = t.down.length := by simp
  have HT := Lib.hid (And.intro ho (And.intro hmem hnd))
  have hfit := Lib.hid ho.fits
  obtain ⟨N, hN⟩ : ∃ N, t.down.map (fun s => s.1) = N := ⟨_, rfl⟩
  have HNm : Hid (∀ x ∈ N, ∃ u, t.at x = some u) := by
    rw [← hN]
    intro x hx
    obtain ⟨⟨y, u⟩, hy, rfl⟩ := List.mem_map.1 hx
    exact ⟨u, (t.down_mem y u).1 hy⟩
  rw [hN] at HN hdl
  have HLn := Lib.hid (And.intro (show N.length + 1 = 2 * ps.length by omega) (And.intro (show ps.length ≤ 8 by omega) (show 1 ≤ ps.length by have := t.procs_pos; omega)))
  have HLen := Lib.hid (show t.procs.length = ps.length by omega)
  clear hsz hsp hdl hfew hpl
  generalize htx : t.text = tx at *
  go_wp2_with fail
  refine (HN.out _).mono ?_
  rintro e w3 ⟨v5, rfl, o5, y3⟩
  have hT5 := TxA.of_own o5
  obtain ⟨A5, c5, rfl⟩ := L5.own_slice o5
  have HB3 := Lib.hid (HB2.out.trans (y3.mono HB2.out.size))
  clear o5 y3
  go_wp2_with fail
  refine (HM.out _).mono ?_
  rintro e w4 ⟨v6, rfl, o6, y4⟩
  have hI6 := ho.ints o6
  obtain ⟨A6, c6, rfl⟩ := L5.own_slice o6
  have HN5 := Lib.hid (hT5.below y4).at.2
  have HB4 := Lib.hid (HB3.out.trans (y4.mono HB3.out.size))
  clear o6 y4 hT5
  have hml : t.mems.length = ps.length := by rw [hps]; simp
  rw [hps] at hI6
  have HM6 := Lib.hid (ints_later hI6).2
  rw [hml]
  obtain ⟨n3, n1', n2⟩ := HLn.out
  have n1 : (ps.length : Int) ≤ 8 := by omega
  have HP8 := Lib.hid hp8
  clear hI6 hps hml hNt hMt HN HM hN hmem hnd hfit hp8 htx ho
  have HSt : Hid (OutRel w4 N.length N.length (.int .i64 0) w4) := ⟨0, by omega, rfl, Below.refl _ _⟩
  go_wp2
  go_loopg [7] N.length (fun k v7 wr => OutRel w4 N.length k v7 wr)
  case atStart => exact HSt.out
  case round =>
    clear HSt
    obtain ⟨i, hk, rfl, hb⟩ := hrel
    have HBo := Lib.hid hb
    by_cases hlt : i < N.length
    · obtain ⟨x, hx⟩ : ∃ x, N[i]? = some x := ⟨_, List.getElem?_eq_getElem hlt⟩
      obtain ⟨ad5, rfl, hc5⟩ := HN5.out i x hx
      have HC5 := Lib.hid (fun V (hV : Below w4.heap.size w4 V) => hc5 V hV)
      obtain ⟨u, hu⟩ := HNm.out x (List.mem_of_getElem? hx)
      have j1 : (i : Int) < (N.length : Int) := by omega
      have j2 : (0 : Int) ≤ (i : Int) := by omega
      obtain ⟨g1, hg1⟩ : ∃ g1, gk - 1 = g1 := ⟨_, rfl⟩
      have hgk := Lib.hid (show g1 < gk by omega)
      have HOut : Hid (∀ V, Below w4.heap.size w4 V → OutRel w4 N.length g1 (.int .i64 ((i + 1 : Nat) : Int)) V) := fun V hV => ⟨i + 1, by omega, rfl, hV⟩
      clear hg1
      have HFin : Hid (t.many x ps = if x = [] then 0 else 1) := by
        obtain ⟨ho, hmem, hnd⟩ := HT.out
        by_cases e : x = []
        · rw [if_pos e, e]; exact t.many_root ps
        · rw [if_neg e]
          exact t.many_one e hu hnd ((hmem _).2 (Tr.at_procs hu _ (low_mem u)))
      have HStM : Hid (MidRel t x ps w4 ps.length (.int .i64 0) (.int .i64 0) wr) := ⟨0, by omega, by simp [Tr.many], rfl, hb⟩
      clear hk hb hlt hu hc5 hx
      go_wp2
      go_loopg [8, 9] ps.length (fun k v8 v9 V => MidRel t x ps w4 k v8 v9 V)
      case atStart => exact HStM.out
      case round =>
        clear HStM
        obtain ⟨j, hkj, rfl, rfl, hbj⟩ := hrel
        have hmb := many_le t x (ps.take j)
        rw [List.length_take] at hmb
        by_cases hlj : j < ps.length
        · obtain ⟨p, hp⟩ : ∃ p, ps[j]? = some p := ⟨_, List.getElem?_eq_getElem hlj⟩
          have hp18 := HP8.out p (List.mem_of_getElem? hp)
          have hpm := (HT.out.2.1 p).1 (List.mem_of_getElem? hp)
          obtain ⟨ad6, rfl, hc6⟩ := HM6.out j (p : Int) (by rw [List.getElem?_map, hp]; rfl)
          have c6j := hc6 wr hbj
          have HC6 := Lib.hid (fun V (hV : Below wr.heap.size wr V) => hc6 V (hbj.trans (hV.mono hbj.size)))
          have HDp := Lib.hid (HD.out p hp18.1 wr)
          have HPp := Lib.hid (fun V => HP.out p hp18.1 V)
          have hto := HT.out.1
          have HTake := Lib.hid (And.intro (hto.duty_take hpm) (And.intro (hto.duty_len hpm) (fun h : 1 < t.procs.length => hto.duty_some hpm h)))
          have hcnt := many_next t x hp
          obtain ⟨m0, hm0⟩ : ∃ m0, t.many x (ps.take j) = m0 := ⟨_, rfl⟩
          rw [hm0] at hcnt hmb ⊢
          have hpl : Hid (t.procs.length = ps.length) := HLen.out
          have hup : ((t.up p).map (fun s => s.1)).length = (t.up p).length := by simp
          have k1 : (j : Int) < (ps.length : Int) := by omega
          have k2 : (0 : Int) ≤ (j : Int) := by omega
          obtain ⟨g2, hg2⟩ : ∃ g2, gk - 1 = g2 := ⟨_, rfl⟩
          have hgk2 := Lib.hid (show g2 < gk by omega)
          have hdb := (t.duty p).length
          have HMid : Hid (∀ V, Below w4.heap.size w4 V → MidRel t x ps w4 g2 (.int .i64 ((m0 + (t.duty p).count x : Nat) : Int)) (.int .i64 ((j + 1 : Nat) : Int)) V) := fun V hV => ⟨j + 1, by omega, by rw [hcnt], rfl, hV⟩
          have hcle : (t.duty p).count x ≤ 1 := by
            have := (t.duty_nodup p).count (a := x)
            rw [this]; split <;> omega
          have HUp := Lib.hid (And.intro hup (up_few14 hto p))
          have HBj := Lib.hid hbj
          clear hp hpm hc6 hto hcnt hm0 hup hg2 hdb hkj hlj hbj
          generalize t.duty p = Dd at *
          generalize (t.up p).map (fun s => s.1) = P at *
          have hDl : Dd.length ≤ 15 := by
            have h1 := HTake.out.2.1
            have h2 := HUp.out
            omega
          go_wp2_with fail
          refine HDp.out.mono ?_
          rintro e w5 ⟨v10, rfl, o10, y5⟩
          have hT10 := TxA.of_own o10
          have HT10 := Lib.hid (TxA.of_own o10)
          obtain ⟨A10, c10, rfl⟩ := L5.own_slice o10
          have HAt := Lib.hid hT10.at.2
          have HB5 := Lib.hid (HBj.out.trans (y5.mono HBj.out.size))
          have HC5' := Lib.hid (fun V (hV : Below w5.heap.size w5 V) => HC5.out V (HB5.out.trans (hV.mono HB5.out.size)))
          have c6k := HC6.out w5 y5
          have HC6' := Lib.hid (fun V (hV : Below w5.heap.size w5 V) => HC6.out V (y5.trans (hV.mono y5.size)))
          have HStI : Hid (InRel x Dd m0 w5 Dd.length (.int .i64 (m0 : Int)) (.int .i64 0) w5) := ⟨0, by omega, by simp, rfl, Below.refl _ _⟩
          clear o10 y5 HDp hT10
          go_wp2
          go_loopg [8, 11] Dd.length (fun k v8 v11 V => InRel x Dd m0 w5 k v8 v11 V)
          case atStart => exact HStI.out
          case round =>
            clear HStI
            obtain ⟨l, hkl, rfl, rfl, hbl⟩ := hrel
            by_cases hll : l < Dd.length
            · obtain ⟨y, hy⟩ : ∃ y, Dd[l]? = some y := ⟨_, List.getElem?_eq_getElem hll⟩
              obtain ⟨ad10, rfl, hc10⟩ := HAt.out l y hy
              have cD := hc10 wr hbl
              have cN := HC5'.out wr hbl
              have hcn := count_next x hy
              have hle : (Dd.take l).count x ≤ l := by
                have := List.count_le_length (a := x) (l := Dd.take l)
                rw [List.length_take] at this
                omega
              have i1 : (l : Int) < (Dd.length : Int) := by omega
              have i2 : (0 : Int) ≤ (l : Int) := by omega
              obtain ⟨g3, hg3⟩ : ∃ g3, gk - 1 = g3 := ⟨_, rfl⟩
              have hgk3 := Lib.hid (show g3 < gk by omega)
              have HIn : Hid (∀ V, Below w5.heap.size w5 V → InRel x Dd m0 w5 g3 (.int .i64 ((m0 + (Dd.take (l + 1)).count x : Nat) : Int)) (.int .i64 ((l + 1 : Nat) : Int)) V) := fun V hV => ⟨l + 1, by omega, rfl, rfl, hV⟩
              have HBl := Lib.hid hbl
              by_cases hyx : y = x
              · subst hyx
                rw [if_pos rfl] at hcn
                rw [hcn] at HIn
                have hml : ((m0 + (Dd.take l).count y : Nat) : Int) ≤ 30 := by omega
                obtain ⟨cc, hcc⟩ : ∃ cc, (Dd.take l).count y = cc := ⟨_, rfl⟩
                rw [hcc] at HIn hml ⊢
                clear hy hc10 hcn hle hg3 hcc hbl hkl hll
                go_wp2
                go_quiet (fail)
                go_wp2
                go_roundg g3
                case measure => exact hgk3.out
                case rel => exact HIn.out _ (below_drewN HBl.out _)
              · rw [if_neg hyx, Nat.add_zero] at hcn
                rw [hcn] at HIn
                have hyx' : (y == x) = false := by rw [beq_eq_false_iff_ne]; exact hyx
                obtain ⟨cc, hcc⟩ : ∃ cc, (Dd.take l).count x = cc := ⟨_, rfl⟩
                rw [hcc] at HIn ⊢
                clear hy hc10 hcn hle hg3 hcc hbl hyx hkl hll
                go_wp2
                go_quiet (fail)
                go_wp2
                go_roundg g3
                case measure => exact hgk3.out
                case rel => exact HIn.out _ (below_drewN HBl.out _)
            · have hl : l = Dd.length := by omega
              subst hl
              rw [List.take_length]
              have i1 : ¬ (Dd.length : Int) < (Dd.length : Int) := by omega
              have c6w := HC6'.out wr hbl
              have hPp := HPp.out wr
              have HT10w := Lib.hid (HT10.out.below hbl)
              have HBw := Lib.hid (HB5.out.trans (hbl.mono HB5.out.size))
              obtain ⟨cc, hcc⟩ : ∃ cc, m0 + Dd.count x = cc := ⟨_, rfl⟩
              rw [hcc] at HMid ⊢
              clear hbl hkl hll hcc hcle
              go_wp2_with fail
              refine hPp.mono ?_
              rintro e w6 ⟨v12, rfl, o12, y6⟩
              obtain ⟨tk1, tk2, tk3⟩ := HTake.out
              have hup := HUp.out.1
              have hup2 := HUp.out.2
              have hT12 := TxA.of_own o12
              have hPpos : Dd.length < P.length := by omega
              obtain ⟨g12, c12, rfl, hcap, hcm⟩ : ∃ g12 c12, v12 = .slice (some ⟨g12, 0, none⟩) P.length c12 ∧ P.length ≤ c12 ∧ c12 ≤ maxLen := by
                rcases o12.2 with ⟨_, h0⟩ | ⟨g12, cap, cur, e, _, _, h3, h4, _⟩
                · omega
                · exact ⟨g12, cap, e, h3, h4⟩
              have hSm := same_once Dd (.slice A10 Dd.length c10) (.slice (some ⟨g12, 0, none⟩) Dd.length c12) w6 (HT10w.out.below y6) (by have := hT12.take Dd.length (by omega) c12; rw [← tk1] at this; exact this) (by omega)
              have HB6 := Lib.hid (HBw.out.trans (y6.mono HBw.out.size))
              have q1 : ¬ (P.length : Int) ≤ (Dd.length : Int) := by omega
              have q2 : (0 : Int) ≤ (Dd.length : Int) := by omega
              have q3 : (Dd.length : Int) ≤ (c12 : Int) := by omega
              have q4 : (P.length : Int) ≤ (c12 : Int) := by omega
              unfold maxLen at hcm
              have hq5 : Hid (1 < ps.length → ((Dd.length : Int) == 0) = false) := fun h => by
                rw [beq_eq_false_iff_ne]
                have := tk3 (by have := hpl.out; omega)
                omega
              clear o12 y6 hT12 hup hup2 tk1 tk2 tk3 hPp HTake HUp HT10w HPp
              by_cases hm1 : 1 < ps.length
              · have q5 := hq5.out hm1
                have q6 : (1 : Int) < (ps.length : Int) := by omega
                clear hq5
                go_wp2_with fail
                refine hSm.mono ?_
                rintro e w7 ⟨rfl, y7⟩
                have HR := Lib.hid (HMid.out _ (HB6.out.trans (y7.mono HB6.out.size)))
                clear y7 hSm
                go_wp2
                go_roundg g2
                case measure => exact hgk2.out
                case rel => exact HR.out
              · have q6 : ¬ (1 : Int) < (ps.length : Int) := by omega
                clear hq5
                go_wp2_with fail
                refine hSm.mono ?_
                rintro e w7 ⟨rfl, y7⟩
                have HR := Lib.hid (HMid.out _ (HB6.out.trans (y7.mono HB6.out.size)))
                clear y7 hSm
                go_wp2
                go_roundg g2
                case measure => exact hgk2.out
                case rel => exact HR.out
        · have hj : j = ps.length := by omega
          subst hj
          rw [List.take_length, HFin.out]
          have k1 : ¬ (ps.length : Int) < (ps.length : Int) := by omega
          have c5w := HC5.out wr hbj
          have HR := Lib.hid (HOut.out wr hbj)
          clear hkj hbj hlj hmb
          by_cases hx0 : x = []
          · subst hx0
            rw [if_pos rfl]
            clear HFin HC5 HNm
            go_wp2
            go_roundg g1
            case measure => exact hgk.out
            case rel => exact HR.out
          · rw [if_neg hx0]
            have hx0' : (x == []) = false := by rw [beq_eq_false_iff_ne]; exact hx0
            clear HFin HC5 hx0 HNm
            go_wp2
            go_roundg g1
            case measure => exact hgk.out
            case rel => exact HR.out
    · have HE : Hid (Below w.heap.size w wr) := HB4.out.trans (hb.mono HB4.out.size)
      have j1 : ¬ (i : Int) < (N.length : Int) := by omega
      clear hk hb hlt HBo
      have n4 : (N.length : Int) = 2 * (ps.length : Int) - 1 := by omega
      go_wp2
      go_ret
      exact ⟨by simp, HE.out⟩
end Go.Proofs.YtlpabhgfmkilnaaDoor.L14
