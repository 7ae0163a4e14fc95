/- The law PlaceMeet: of any two members the paths are one from where they meet up, and apart below. -/
import Derived.Test.YtlpabhgfmkilnaaGreatDoorPlMeP
import Derived.Test.YtlpabhgfmkilnaaGreatDoorPlNat
import Derived.Deep.RegionHeld3
import Derived.Deep.DeepCutAuto
namespace Go.Proofs.YtlpabhgfmkilnaaGreatDoor.L14
open Go.ChangeShapes Go.WideShapes Go.ChangeAt Go.RowKit Go.Deep
open Go.Proofs.YtlpabhgfmkilnaaGreatDoor.L13
open Go.Proofs.YtlpabhgfmkilnaaGreatDoor.L5 (One)

def MtRel (w6 : World) (la lb n k : Nat) (v12 v13 : Value) (wr : World) : Prop := ∃ (c : Nat) (xi yi : Int), k + c = n ∧ v12 = .int .i64 xi ∧ v13 = .int .i64 yi ∧ xi = (la : Int) - 1 - c ∧ yi = (lb : Int) - 1 - c ∧ Below w6.heap.size w6 wr
def UpRel (w7 : World) (m k : Nat) (v14 : Value) (wr : World) : Prop := ∃ i : Nat, k + i = m ∧ v14 = .int .i64 i ∧ Below w7.heap.size w7 wr
theorem TxA.first {w : World} {v : Value} {zs : List (List UInt8)} (h : TxA w v zs) (hne : 0 < zs.length) : ∃ ad c, v = .slice (some ad) zs.length c ∧ ∀ (j : Nat) (x : List UInt8), zs[j]? = some x → ∀ V, Below w.heap.size w V → V.cell? (ad.add j) = some (.string ⟨x.toArray⟩) := by
  obtain ⟨A, c, rfl, _⟩ := id h
  obtain ⟨_, hat⟩ := h.at
  obtain ⟨ad, rfl, _⟩ := hat 0 _ (List.getElem?_eq_getElem hne)
  refine ⟨ad, c, rfl, fun j x hx V hV => ?_⟩
  obtain ⟨ad', e, h⟩ := hat j x hx
  cases e
  exact h V hV
set_option maxRecDepth 100000 in
set_option maxHeartbeats 32000000 in
theorem pmeet_calls (v : Value) (xs : List Int) (i k : Int) (w : World) (hI : IntsA w v xs) (hi : -9223372036854775808 ≤ i ∧ i ≤ 9223372036854775807) (hk : -9223372036854775808 ≤ k ∧ k ≤ 9223372036854775807) : Calls Tryz.prog 4 #[v, .int .i64 i, .int .i64 k] w (One w (.bool true)) := by
  obtain ⟨A, c, rfl, _⟩ := id hI.reads
  have HS := Lib.hid (shown_calls w)
  have HMd := Lib.hid (fun V (hb : Below w.heap.size w V) => made_calls _ xs V (hI.below hb))
  have HPk1 := Lib.hid (fun (n : Int) (hn : 1 ≤ n ∧ n ≤ 1000000) V => pick_calls i n hi hn V)
  have HPk2 := Lib.hid (fun (n : Int) (hn : 1 ≤ n ∧ n ≤ 1000000) V => pick_calls k n hk hn V)
  clear hI hi hk
  go_enter Tryz.func4, Tryz.ntmps4
  go_wp2_with fail
  refine HS.out.mono ?_
  rintro e w1 ⟨rfl, y1⟩
  have HB1 := Lib.hid y1
  have hMd := HMd.out _ y1
  clear y1 HMd
  go_wp2_with fail
  refine hMd.mono ?_
  rintro e w2 ⟨t, ho, rfl, y2⟩
  have HB2 := Lib.hid (HB1.out.trans (y2.mono HB1.out.size))
  clear y2 hMd
  obtain ⟨ps, hps, hmem, hnd, hpl, hp8⟩ := mems_nat ho
  have hMt : memsX t.text = t.mems := by unfold memsX; rw [readT_text ho]
  have HM := Lib.hid (fun V => members_top t.text V)
  have HP := Lib.hid (fun (p : Nat) (hp : 1 ≤ p) V => by have := path_calls t.text (p : Int) V; unfold pathX at this; rw [upL_text ho hp] at this; exact this)
  have HAt := Lib.hid (fun y u (hu : t.at y = some u) V => show Calls Tryz.prog 10 #[.string ⟨t.text.toArray⟩, .string ⟨y.toArray⟩] V (Str2 V (u.text, 0)) from by have := at_calls t.text y V; unfold atX at this; rw [readT_text ho] at this; dsimp only at this; rw [hu] at this; exact this)
  have HSp := Lib.hid (fun y u (hu : t.at y = some u) V => show Calls Tryz.prog 16 #[.string ⟨t.text.toArray⟩, .string ⟨y.toArray⟩] V (One V (.int .i64 (low u : Int))) from by have := sponsor_calls t.text y V; unfold sponsorX at this; rw [readT_text ho] at this; dsimp only at this; rw [hu] at this; exact this)
  have HMem := Lib.hid (fun (u : Tr) (hu : u.ok) V => show Calls Tryz.prog 7 #[.string ⟨u.text.toArray⟩] V (L10.IntsOut V u.mems) from by have := members_top u.text V; unfold memsX at this; rw [readT_text hu] at this; exact this)
  have hNt : nodesX t.text = t.down.map (fun s => s.1) := by unfold nodesX; rw [downX_text ho]
  have HN := Lib.hid (fun V => nodes_calls t.text V)
  rw [hNt] at HN
  rw [hMt] at HM
  have HT := Lib.hid (And.intro ho (And.intro hmem hp8))
  have HLn := Lib.hid (show ps.length ≤ 8 ∧ 1 ≤ ps.length by have := ho.few; have := t.procs_pos; omega)
  have HDn : Hid ((t.down.map (fun s => s.1)).length ≤ 15) := by unfold Hid; rw [List.length_map, t.down_len]; have := t.size_procs; have := ho.few; omega
  obtain ⟨N, hN⟩ : ∃ N, t.down.map (fun s => s.1) = N := ⟨_, rfl⟩
  have HNm : Hid (∀ x ∈ N, ∃ u, t.at x = some u) := by
    rw [← hN]
    intro x hx
    obtain ⟨⟨y, u⟩, hy, rfl⟩ := List.mem_map.1 hx
    exact ⟨u, (t.down_mem y u).1 hy⟩
  rw [hN] at HN HDn
  clear hpl hnd hMt hNt hN
  generalize htx : t.text = tx at *
  go_wp2_with fail
  refine (HM.out _).mono ?_
  rintro e w3 ⟨v9, rfl, o9, y3⟩
  have hI9 := ho.ints o9
  obtain ⟨A9, c9, rfl⟩ := L5.own_slice o9
  have HB3 := Lib.hid (HB2.out.trans (y3.mono HB2.out.size))
  have HI9 := Lib.hid hI9
  clear o9 y3
  have hml : t.mems.length = ps.length := by rw [hps]; simp
  rw [hps] at hI9
  have HM9 := Lib.hid (ints_later hI9).2
  rw [hml] at HI9 ⊢
  have hlen := HLn.out
  obtain ⟨ad9, rfl, h9⟩ := HM9.out 0 _ (List.getElem?_eq_getElem (by simp; omega))
  have HHas := Lib.hid (fun V (hV : Below w3.heap.size w3 V) (p : Nat) (hp : p ∈ t.procs) => show Calls Tryz.prog 12 #[.slice (some ad9) ps.length c9, .int .i64 (p : Int)] V (fun e w' => e = .returned (.bool true) ∧ V = w') from by
    have := L10.rhas_calls _ t.mems (p : Int) V (HI9.out.below hV)
    rw [ho.contains, Int.toNat_natCast, decide_eq_true (And.intro (by have := ho.small p hp; omega) hp)] at this
    exact this)
  obtain ⟨b1, b2⟩ := pickI_bounds i (show (1 : Int) ≤ (ps.length : Int) by omega)
  obtain ⟨b3, b4⟩ := pickI_bounds k (show (1 : Int) ≤ (ps.length : Int) by omega)
  obtain ⟨ni, hni⟩ : ∃ ni : Nat, pickI i (ps.length : Int) = (ni : Int) := ⟨(pickI i (ps.length : Int)).toNat, by omega⟩
  obtain ⟨nk, hnk⟩ : ∃ nk : Nat, pickI k (ps.length : Int) = (nk : Int) := ⟨(pickI k (ps.length : Int)).toNat, by omega⟩
  have HQ1 := Lib.hid (fun V => HPk1.out (ps.length : Int) (by omega) V)
  have HQ2 := Lib.hid (fun V => HPk2.out (ps.length : Int) (by omega) V)
  rw [hni] at HQ1 b1 b2
  rw [hnk] at HQ2 b3 b4
  obtain ⟨p, hp⟩ : ∃ p, ps[ni]? = some p := ⟨_, List.getElem?_eq_getElem (by omega)⟩
  obtain ⟨q, hq⟩ : ∃ q, ps[nk]? = some q := ⟨_, List.getElem?_eq_getElem (by omega)⟩
  have hpm := (hmem p).1 (List.mem_of_getElem? hp)
  have hqm := (hmem q).1 (List.mem_of_getElem? hq)
  have hp1 := (hp8 p (List.mem_of_getElem? hp)).1
  have hq1 := (hp8 q (List.mem_of_getElem? hq)).1
  obtain ⟨n, hmeet⟩ := path_meet ho hpm hqm
  have HP1 := Lib.hid (fun V => HP.out p hp1 V)
  have HP2 := Lib.hid (fun V => HP.out q hq1 V)
  have hpos : ∀ z ∈ t.procs, 0 < ((t.up z).map (fun s => s.1)).length := fun z hz => by obtain ⟨y, U, e⟩ := ho.up_leaf hz; rw [e]; simp
  have hla := hpos p hpm
  have hlb := hpos q hqm
  have hlaf : ((t.up p).map (fun s => s.1)).length ≤ 15 := by rw [List.length_map]; exact up_few14 ho p
  have hlbf : ((t.up q).map (fun s => s.1)).length ≤ 15 := by rw [List.length_map]; exact up_few14 ho q
  have cp : ∀ V, Below w3.heap.size w3 V → V.cell? (ad9.add ni) = some (.int .i64 (p : Int)) := fun V hV => by
    obtain ⟨ad, e, h⟩ := HM9.out ni (p : Int) (by rw [List.getElem?_map, hp]; rfl)
    cases e
    exact h V hV
  have cq : ∀ V, Below w3.heap.size w3 V → V.cell? (ad9.add nk) = some (.int .i64 (q : Int)) := fun V hV => by
    obtain ⟨ad, e, h⟩ := HM9.out nk (q : Int) (by rw [List.getElem?_map, hq]; rfl)
    cases e
    exact h V hV
  have c3p := cp w3 (Below.refl _ _)
  have Hcq := Lib.hid cq
  have n1 : (ps.length : Int) ≤ 8 := by omega
  clear h9 hpm hqm hp hq hp1 hq1 hpos cp cq hps hml HM hmem hp8 htx ho HP HI9 hI9 hni hnk HPk1 HPk2 HM9 hlen
  generalize (t.up p).map (fun s => s.1) = PA at *
  generalize (t.up q).map (fun s => s.1) = PB at *
  have HMeet := Lib.hid hmeet
  clear hmeet
  go_wp2_with fail
  refine (HQ1.out _).mono ?_
  rintro e x ⟨rfl, rfl⟩
  go_wp2_with fail
  refine (HP1.out _).mono ?_
  rintro e w5 ⟨v10, rfl, o10, y5⟩
  obtain ⟨ad10, c10, rfl, hc10⟩ := (TxA.of_own o10).first hla
  have HB5 := Lib.hid y5
  have HT10 := Lib.hid hc10
  have c5q := Hcq.out w5 y5
  clear o10 y5 HP1 HQ1 hc10 c3p
  go_wp2_with fail
  refine (HQ2.out _).mono ?_
  rintro e x' ⟨rfl, rfl⟩
  go_wp2_with fail
  refine (HP2.out _).mono ?_
  rintro e w6 ⟨v11, rfl, o11, y6⟩
  obtain ⟨ad11, c11, rfl, hc11⟩ := (TxA.of_own o11).first hlb
  have HB6 := Lib.hid (HB5.out.trans (y6.mono HB5.out.size))
  have HT10b : Hid (∀ (j : Nat) (x : List UInt8), PA[j]? = some x → ∀ V, Below w6.heap.size w6 V → V.cell? (ad10.add j) = some (.string ⟨x.toArray⟩)) := fun j x hx V hV => HT10.out j x hx V (y6.trans (hV.mono y6.size))
  have HT11 := Lib.hid hc11
  clear o11 y6 HP2 HQ2 hc11 HT10 c5q Hcq
  have mixed : Tryz.prog.follows Departure.mixedOrders = true := by kernel_rfl
  have HSt : Hid (MtRel w6 PA.length PB.length n n (.int .i64 ((PA.length : Int) - 1)) (.int .i64 ((PB.length : Int) - 1)) w6) := ⟨0, _, _, by omega, rfl, rfl, by omega, by omega, Below.refl _ _⟩
  go_wp2
  go_loopg [12, 13] n (fun k v12 v13 wr => MtRel w6 PA.length PB.length n k v12 v13 wr)
  case atStart => exact HSt.out
  case round =>
    clear HSt
    obtain ⟨c, xi, yi, hk, rfl, rfl, hxi, hyi, hb⟩ := hrel
    have HMt := HMeet.out
    have hb0 := Lib.hid hb
    by_cases hcn : c < n
    · obtain ⟨x, hx1, hx2⟩ := HMt.alike c hcn
      have h1 := HMt.leA
      have h2 := HMt.leB
      obtain ⟨xn, hxn⟩ : ∃ xn : Nat, xi = (xn : Int) := ⟨PA.length - 1 - c, by omega⟩
      obtain ⟨yn, hyn⟩ : ∃ yn : Nat, yi = (yn : Int) := ⟨PB.length - 1 - c, by omega⟩
      have cA := HT10b.out xn x (by rw [show xn = PA.length - 1 - c by omega]; exact hx1) wr hb
      have cB := HT11.out yn x (by rw [show yn = PB.length - 1 - c by omega]; exact hx2) wr hb
      have k1 : (xn : Int) < (PA.length : Int) := by omega
      have k2 : (yn : Int) < (PB.length : Int) := by omega
      have k3 : (0 : Int) ≤ (xn : Int) := by omega
      have k4 : (0 : Int) ≤ (yn : Int) := by omega
      obtain ⟨g1, hg1⟩ : ∃ g1, gk - 1 = g1 := ⟨_, rfl⟩
      have hgk := Lib.hid (show g1 < gk by omega)
      have HR : Hid (∀ m, MtRel w6 PA.length PB.length n g1 (.int .i64 ((xn : Int) - 1)) (.int .i64 ((yn : Int) - 1)) (wr.drewN m)) := fun m => ⟨c + 1, _, _, by omega, rfl, rfl, by omega, by omega, below_drewN hb m⟩
      have k5 : (xn : Int) ≤ 15 := by omega
      have k6 : (yn : Int) ≤ 15 := by omega
      subst hxn
      subst hyn
      clear hk hxi hyi hb hcn hx1 hx2 h1 h2 HMt hg1
      go_wp2
      go_quiet (fail)
      go_wp2
      go_roundg g1
      case measure => exact hgk.out
      case rel => exact HR.out _
    · have hce : c = n := by omega
      subst hce
      have hle1 := HMt.leA
      have hle2 := HMt.leB
      obtain ⟨ma, hma⟩ : ∃ ma, PA.length - c = ma := ⟨_, rfl⟩
      obtain ⟨mb, hmb⟩ : ∃ mb, PB.length - c = mb := ⟨_, rfl⟩
      have HXY := Lib.hid (And.intro (show xi = (ma : Int) - 1 by omega) (show yi = (mb : Int) - 1 by omega))
      have HEn : Hid ((xi = -1 ∧ yi = -1) ∨ ∃ (xn yn : Nat) (x y : List UInt8), xi = (xn : Int) ∧ yi = (yn : Int) ∧ xn < PA.length ∧ yn < PB.length ∧ PA[xn]? = some x ∧ PB[yn]? = some y ∧ x ≠ y ∧ besideL x = y ∧ x.length ≤ 7) := by
        rcases HMt.ends with ⟨h1, h2⟩ | ⟨h1, h2, x, y, hx, hy, hb1, hb2⟩
        · exact .inl ⟨by omega, by omega⟩
        · exact .inr ⟨PA.length - 1 - c, PB.length - 1 - c, x, y, by omega, by omega, by omega, by omega, hx, hy, HMt.apart _ _ _ _ (by omega) (by omega) hx hy, hb1, hb2⟩
      have HAp : Hid (∀ i j x y, i < ma → j < mb → PA[i]? = some x → PB[j]? = some y → x ≠ y) := fun i j x y h1 h2 hx hy => HMt.apart i j x y (by omega) (by omega) hx hy
      have HLm := Lib.hid (And.intro (show ma ≤ PA.length by omega) (show mb ≤ PB.length by omega))
      clear hk hxi hyi hb hcn HMt hle1 hle2 hma hmb HMeet
      go_wp2
      go_cut [68] (fun s68 wc => s68 = .bool false ∧ Below w6.heap.size w6 wc)
      case first =>
        rcases HEn.out with ⟨rfl, rfl⟩ | ⟨xn, yn, x, y, rfl, rfl, h1, h2, hx, hy, hne, _, _⟩
        · clear HEn HXY HAp
          refine wp_region_held_drew (S := (fun w' => Below w6.heap.size w6 w')) (by kernel_rfl) ?_ (fun hHeld => ?_)
          · exact hb0.out.drew
          refine wpAnyH_take (i := 0) (v := ?_) rfl (by kernel_rfl) (by kernel_rfl) (by kernel_rfl) (fun _ _ _ h => h) (Or.inl ⟨by rfl, ?_⟩) (by assumption) ?_
          rotate_left 1
          · (intro w hSw; (try dsimp only at hSw); go_simp; try with_reducible rfl)
          try simp only [List.getElem_toArray, List.getElem_cons_zero, Act.put, List.setIfInBounds_toArray, List.set_cons_zero, List.set_cons_succ]
          refine wpAnyH_take (i := 1) (v := ?_) rfl (by kernel_rfl) (by kernel_rfl) (by kernel_rfl) (fun _ _ _ h => h) (Or.inl ⟨by rfl, ?_⟩) (by assumption) ?_
          rotate_left 1
          · (intro w hSw; (try dsimp only at hSw); go_simp; try with_reducible rfl)
          try simp only [List.getElem_toArray, List.getElem_cons_zero, List.getElem_cons_succ, Act.put, List.setIfInBounds_toArray, List.set_cons_zero, List.set_cons_succ]
          refine wpAnyH_take (i := 2) (v := ?_) rfl (by kernel_rfl) (by kernel_rfl) (by kernel_rfl) (fun _ _ _ h => h) (Or.inl ⟨by rfl, ?_⟩) (by assumption) ?_
          rotate_left 1
          · (intro w hSw; (try dsimp only at hSw); go_simp; try with_reducible rfl)
          try simp only [List.getElem_toArray, List.getElem_cons_zero, List.getElem_cons_succ, Act.put, List.setIfInBounds_toArray, List.set_cons_zero, List.set_cons_succ]
          refine wpAnyH_take (i := 3) (v := undef) rfl (by kernel_rfl) (by kernel_rfl) (by kernel_rfl) (fun _ _ _ h => h) (Or.inr ⟨by rfl, rfl⟩) (by assumption) ?_
          try simp only [List.getElem_toArray, List.getElem_cons_zero, List.getElem_cons_succ, Act.put, List.setIfInBounds_toArray, List.set_cons_zero, List.set_cons_succ]
          refine wpAnyH_take (i := 4) (v := undef) rfl (by kernel_rfl) (by kernel_rfl) (by kernel_rfl) (fun _ _ _ h => h) (Or.inr ⟨by rfl, rfl⟩) (by assumption) ?_
          try simp only [List.getElem_toArray, List.getElem_cons_zero, List.getElem_cons_succ, Act.put, List.setIfInBounds_toArray, List.set_cons_zero, List.set_cons_succ]
          refine wpAnyH_take (i := 5) (v := ?_) rfl (by kernel_rfl) (by kernel_rfl) (by kernel_rfl) (fun _ _ _ h => h) (Or.inl ⟨by rfl, ?_⟩) (by assumption) ?_
          rotate_left 1
          · (intro w hSw; (try dsimp only at hSw); go_simp; try with_reducible rfl)
          try simp only [List.getElem_toArray, List.getElem_cons_zero, List.getElem_cons_succ, Act.put, List.setIfInBounds_toArray, List.set_cons_zero, List.set_cons_succ]
          refine wpAnyH_take (i := 6) (v := ?_) rfl (by kernel_rfl) (by kernel_rfl) (by kernel_rfl) (fun _ _ _ h => h) (Or.inl ⟨by rfl, ?_⟩) (by assumption) ?_
          rotate_left 1
          · (intro w hSw; (try dsimp only at hSw); go_simp; try with_reducible rfl)
          try simp only [List.getElem_toArray, List.getElem_cons_zero, List.getElem_cons_succ, Act.put, List.setIfInBounds_toArray, List.set_cons_zero, List.set_cons_succ]
          refine wpAnyH_take (i := 7) (v := undef) rfl (by kernel_rfl) (by kernel_rfl) (by kernel_rfl) (fun _ _ _ h => h) (Or.inr ⟨by rfl, rfl⟩) (by assumption) ?_
          try simp only [List.getElem_toArray, List.getElem_cons_zero, List.getElem_cons_succ, Act.put, List.setIfInBounds_toArray, List.set_cons_zero, List.set_cons_succ]
          refine wpAnyH_take (i := 8) (v := undef) rfl (by kernel_rfl) (by kernel_rfl) (by kernel_rfl) (fun _ _ _ h => h) (Or.inr ⟨by rfl, rfl⟩) (by assumption) ?_
          try simp only [List.getElem_toArray, List.getElem_cons_zero, List.getElem_cons_succ, Act.put, List.setIfInBounds_toArray, List.set_cons_zero, List.set_cons_succ]
          refine wpAnyH_take (i := 9) (v := undef) rfl (by kernel_rfl) (by kernel_rfl) (by kernel_rfl) (fun _ _ _ h => h) (Or.inr ⟨by rfl, rfl⟩) (by assumption) ?_
          try simp only [List.getElem_toArray, List.getElem_cons_zero, List.getElem_cons_succ, Act.put, List.setIfInBounds_toArray, List.set_cons_zero, List.set_cons_succ]
          refine wpAnyH_take (i := 10) (v := undef) rfl (by kernel_rfl) (by kernel_rfl) (by kernel_rfl) (fun _ _ _ h => h) (Or.inr ⟨by rfl, rfl⟩) (by assumption) ?_
          try simp only [List.getElem_toArray, List.getElem_cons_zero, List.getElem_cons_succ, Act.put, List.setIfInBounds_toArray, List.set_cons_zero, List.set_cons_succ]
          refine wpAnyH_take (i := 11) (v := undef) rfl (by kernel_rfl) (by kernel_rfl) (by kernel_rfl) (fun _ _ _ h => h) (Or.inr ⟨by rfl, rfl⟩) (by assumption) ?_
          try simp only [List.getElem_toArray, List.getElem_cons_zero, List.getElem_cons_succ, Act.put, List.setIfInBounds_toArray, List.set_cons_zero, List.set_cons_succ]
          refine wpAnyH_take (i := 12) (v := undef) rfl (by kernel_rfl) (by kernel_rfl) (by kernel_rfl) (fun _ _ _ h => h) (Or.inr ⟨by rfl, rfl⟩) (by assumption) ?_
          try simp only [List.getElem_toArray, List.getElem_cons_zero, List.getElem_cons_succ, Act.put, List.setIfInBounds_toArray, List.set_cons_zero, List.set_cons_succ]
          refine wpAnyH_take (i := 13) (v := undef) rfl (by kernel_rfl) (by kernel_rfl) (by kernel_rfl) (fun _ _ _ h => h) (Or.inr ⟨by rfl, rfl⟩) (by assumption) ?_
          try simp only [List.getElem_toArray, List.getElem_cons_zero, List.getElem_cons_succ, Act.put, List.setIfInBounds_toArray, List.set_cons_zero, List.set_cons_succ]
          refine wpAnyH_take (i := 14) (v := undef) rfl (by kernel_rfl) (by kernel_rfl) (by kernel_rfl) (fun _ _ _ h => h) (Or.inr ⟨by rfl, rfl⟩) (by assumption) ?_
          try simp only [List.getElem_toArray, List.getElem_cons_zero, List.getElem_cons_succ, Act.put, List.setIfInBounds_toArray, List.set_cons_zero, List.set_cons_succ]
          refine wpAnyH_take (i := 15) (v := undef) rfl (by kernel_rfl) (by kernel_rfl) (by kernel_rfl) (fun _ _ _ h => h) (Or.inr ⟨by rfl, rfl⟩) (by assumption) ?_
          try simp only [List.getElem_toArray, List.getElem_cons_zero, List.getElem_cons_succ, Act.put, List.setIfInBounds_toArray, List.set_cons_zero, List.set_cons_succ]
          refine wpAnyH_take (i := 16) (v := ?_) rfl (by kernel_rfl) (by kernel_rfl) (by kernel_rfl) (fun _ _ _ h => h) (Or.inl ⟨by rfl, ?_⟩) (by assumption) ?_
          rotate_left 1
          · (intro w hSw; (try dsimp only at hSw); go_simp; try with_reducible rfl)
          try simp only [List.getElem_toArray, List.getElem_cons_zero, List.getElem_cons_succ, Act.put, List.setIfInBounds_toArray, List.set_cons_zero, List.set_cons_succ]
          refine wpAnyH_done (by kernel_rfl) ?_ _
          go_wp2
          go_meet
          case rel => exact ⟨rfl, hHeld⟩
        · have cA := HT10b.out xn x hx wr hb0.out
          have cB := HT11.out yn y hy wr hb0.out
          have k1 : (xn : Int) < (PA.length : Int) := by omega
          have k2 : (yn : Int) < (PB.length : Int) := by omega
          have k3 : (0 : Int) ≤ (xn : Int) := by omega
          have k4 : (0 : Int) ≤ (yn : Int) := by omega
          have k5 : (x == y) = false := by rw [beq_eq_false_iff_ne]; exact hne
          have HR := Lib.hid (fun m => below_drewN hb0.out m)
          clear hx hy hne h1 h2 HEn HXY HAp
          go_quiet (fail)
          go_wp2
          go_meet
          case rel => exact ⟨rfl, HR.out _⟩
      case rest =>
        obtain ⟨rfl, hb7⟩ := hcut
        obtain ⟨W7, hW7⟩ : ∃ z, z = wc := ⟨wc, rfl⟩
        rw [← hW7] at hb7 ⊢
        have HB7 := Lib.hid hb7
        have HT10c : Hid (∀ (j : Nat) (x : List UInt8), PA[j]? = some x → ∀ V, Below W7.heap.size W7 V → V.cell? (ad10.add j) = some (.string ⟨x.toArray⟩)) := fun j x hx V hV => HT10b.out j x hx V (HB7.out.trans (hV.mono HB7.out.size))
        have HT11c : Hid (∀ (j : Nat) (x : List UInt8), PB[j]? = some x → ∀ V, Below W7.heap.size W7 V → V.cell? (ad11.add j) = some (.string ⟨x.toArray⟩)) := fun j x hx V hV => HT11.out j x hx V (HB7.out.trans (hV.mono HB7.out.size))
        have HSt2 : Hid (UpRel W7 ma ma (.int .i64 0) W7) := ⟨0, by omega, rfl, Below.refl _ _⟩
        clear hW7 hb7 hb0 HT10b HT11
        go_wp2
        go_loopg [14] ma (fun k v14 V => UpRel W7 ma k v14 V)
        case atStart => exact HSt2.out
        case round =>
          clear HSt2
          obtain ⟨i2, hk2, rfl, hb2⟩ := hrel
          have HB2' := Lib.hid hb2
          by_cases hi2 : i2 < ma
          · obtain ⟨x, hx⟩ : ∃ x, PA[i2]? = some x := ⟨_, List.getElem?_eq_getElem (by have := HLm.out.1; omega)⟩
            have cA := HT10c.out i2 x hx
            have HcA := Lib.hid cA
            have k1 : (i2 : Int) ≤ xi := by have := HXY.out.1; omega
            have k2 : (0 : Int) ≤ (i2 : Int) := by omega
            have k3 : (i2 : Int) < (PA.length : Int) := by have := HLm.out.1; omega
            have k4 : (i2 : Int) ≤ 15 := by omega
            obtain ⟨g2, hg2⟩ : ∃ g2, gk - 1 = g2 := ⟨_, rfl⟩
            have hgk2 := Lib.hid (show g2 < gk by omega)
            have HUp : Hid (∀ V, Below W7.heap.size W7 V → UpRel W7 ma g2 (.int .i64 ((i2 + 1 : Nat) : Int)) V) := fun V hV => ⟨i2 + 1, by omega, rfl, hV⟩
            have HApx : Hid (∀ j y, j < mb → PB[j]? = some y → x ≠ y) := fun j y h hy => HAp.out i2 j x y hi2 h hx hy
            have HSt3 : Hid (UpRel wr mb mb (.int .i64 0) wr) := ⟨0, by omega, rfl, Below.refl _ _⟩
            clear hx cA hg2 hk2 hb2 hi2
            go_wp2
            go_loopg [15] mb (fun k v15 V => UpRel _ mb k v15 V)
            case atStart => exact HSt3.out
            case round =>
              clear HSt3
              obtain ⟨l, hkl, rfl, hbl⟩ := hrel
              by_cases hlm : l < mb
              · obtain ⟨y, hy⟩ : ∃ y, PB[l]? = some y := ⟨_, List.getElem?_eq_getElem (by have := HLm.out.2; omega)⟩
                have h7 := HB2'.out.trans (hbl.mono HB2'.out.size)
                have cA := HcA.out wr h7
                have cB := HT11c.out l y hy wr h7
                have hne := HApx.out l y hlm hy
                have k5 : (x == y) = false := by rw [beq_eq_false_iff_ne]; exact hne
                have k6 : (l : Int) ≤ yi := by have := HXY.out.2; omega
                have k7 : (0 : Int) ≤ (l : Int) := by omega
                have k8 : (l : Int) < (PB.length : Int) := by have := HLm.out.2; omega
                have k9 : (l : Int) ≤ 15 := by omega
                obtain ⟨g3, hg3⟩ : ∃ g3, gk - 1 = g3 := ⟨_, rfl⟩
                have hgk3 := Lib.hid (show g3 < gk by omega)
                have HR : Hid (∀ m, UpRel _ mb g3 (.int .i64 ((l + 1 : Nat) : Int)) (wr.drewN m)) := fun m => ⟨l + 1, by omega, rfl, below_drewN hbl m⟩
                clear hy hne hg3 hkl hbl hlm h7
                go_wp2
                go_quiet (fail)
                go_wp2
                go_roundg g3
                case measure => exact hgk3.out
                case rel => exact HR.out _
              · have k6 : ¬ (l : Int) ≤ yi := by have := HXY.out.2; omega
                have HR := Lib.hid (HUp.out _ (HB2'.out.trans (hbl.mono HB2'.out.size)))
                clear hkl hbl hlm
                go_wp2
                go_roundg g2
                case measure => exact hgk2.out
                case rel => exact HR.out
          · have k1 : ¬ (i2 : Int) ≤ xi := by have := HXY.out.1; omega
            clear hk2 hi2 HAp HB2'
            have HB8 := Lib.hid hb2
            clear hb2
            go_wp2
            go_cut [116] (fun s116 wc => s116 = .bool false ∧ Below wr.heap.size wr wc)
            case first =>
              rcases HEn.out with ⟨rfl, rfl⟩ | ⟨xn, yn, x, y, rfl, rfl, h1, h2, hx, hy, _, hbs, hx7⟩
              · clear HEn HXY k1
                refine wp_region_held_drew (S := (fun w' => Below wr.heap.size wr w')) (by kernel_rfl) ?_ (fun hHeld => ?_)
                · exact (Below.refl _ _).drew
                refine wpAnyH_take (i := 0) (v := ?_) rfl (by kernel_rfl) (by kernel_rfl) (by kernel_rfl) (fun _ _ _ h => h) (Or.inl ⟨by rfl, ?_⟩) (by assumption) ?_
                rotate_left 1
                · (intro w hSw; (try dsimp only at hSw); go_simp; try with_reducible rfl)
                try simp only [List.getElem_toArray, List.getElem_cons_zero, Act.put, List.setIfInBounds_toArray, List.set_cons_zero, List.set_cons_succ]
                refine wpAnyH_take (i := 1) (v := ?_) rfl (by kernel_rfl) (by kernel_rfl) (by kernel_rfl) (fun _ _ _ h => h) (Or.inl ⟨by rfl, ?_⟩) (by assumption) ?_
                rotate_left 1
                · (intro w hSw; (try dsimp only at hSw); go_simp; try with_reducible rfl)
                try simp only [List.getElem_toArray, List.getElem_cons_zero, List.getElem_cons_succ, Act.put, List.setIfInBounds_toArray, List.set_cons_zero, List.set_cons_succ]
                refine wpAnyH_take (i := 2) (v := ?_) rfl (by kernel_rfl) (by kernel_rfl) (by kernel_rfl) (fun _ _ _ h => h) (Or.inl ⟨by rfl, ?_⟩) (by assumption) ?_
                rotate_left 1
                · (intro w hSw; (try dsimp only at hSw); go_simp; try with_reducible rfl)
                try simp only [List.getElem_toArray, List.getElem_cons_zero, List.getElem_cons_succ, Act.put, List.setIfInBounds_toArray, List.set_cons_zero, List.set_cons_succ]
                refine wpAnyH_take (i := 3) (v := undef) rfl (by kernel_rfl) (by kernel_rfl) (by kernel_rfl) (fun _ _ _ h => h) (Or.inr ⟨by rfl, rfl⟩) (by assumption) ?_
                try simp only [List.getElem_toArray, List.getElem_cons_zero, List.getElem_cons_succ, Act.put, List.setIfInBounds_toArray, List.set_cons_zero, List.set_cons_succ]
                refine wpAnyH_take (i := 4) (v := undef) rfl (by kernel_rfl) (by kernel_rfl) (by kernel_rfl) (fun _ _ _ h => h) (Or.inr ⟨by rfl, rfl⟩) (by assumption) ?_
                try simp only [List.getElem_toArray, List.getElem_cons_zero, List.getElem_cons_succ, Act.put, List.setIfInBounds_toArray, List.set_cons_zero, List.set_cons_succ]
                refine wpAnyH_take (i := 5) (v := ?_) rfl (by kernel_rfl) (by kernel_rfl) (by kernel_rfl) (fun _ _ _ h => h) (Or.inl ⟨by rfl, ?_⟩) (by assumption) ?_
                rotate_left 1
                · (intro w hSw; (try dsimp only at hSw); go_simp; try with_reducible rfl)
                try simp only [List.getElem_toArray, List.getElem_cons_zero, List.getElem_cons_succ, Act.put, List.setIfInBounds_toArray, List.set_cons_zero, List.set_cons_succ]
                refine wpAnyH_take (i := 6) (v := ?_) rfl (by kernel_rfl) (by kernel_rfl) (by kernel_rfl) (fun _ _ _ h => h) (Or.inl ⟨by rfl, ?_⟩) (by assumption) ?_
                rotate_left 1
                · (intro w hSw; (try dsimp only at hSw); go_simp; try with_reducible rfl)
                try simp only [List.getElem_toArray, List.getElem_cons_zero, List.getElem_cons_succ, Act.put, List.setIfInBounds_toArray, List.set_cons_zero, List.set_cons_succ]
                refine wpAnyH_take (i := 7) (v := undef) rfl (by kernel_rfl) (by kernel_rfl) (by kernel_rfl) (fun _ _ _ h => h) (Or.inr ⟨by rfl, rfl⟩) (by assumption) ?_
                try simp only [List.getElem_toArray, List.getElem_cons_zero, List.getElem_cons_succ, Act.put, List.setIfInBounds_toArray, List.set_cons_zero, List.set_cons_succ]
                refine wpAnyH_take (i := 8) (v := undef) rfl (by kernel_rfl) (by kernel_rfl) (by kernel_rfl) (fun _ _ _ h => h) (Or.inr ⟨by rfl, rfl⟩) (by assumption) ?_
                try simp only [List.getElem_toArray, List.getElem_cons_zero, List.getElem_cons_succ, Act.put, List.setIfInBounds_toArray, List.set_cons_zero, List.set_cons_succ]
                refine wpAnyH_take (i := 9) (v := undef) rfl (by kernel_rfl) (by kernel_rfl) (by kernel_rfl) (fun _ _ _ h => h) (Or.inr ⟨by rfl, rfl⟩) (by assumption) ?_
                try simp only [List.getElem_toArray, List.getElem_cons_zero, List.getElem_cons_succ, Act.put, List.setIfInBounds_toArray, List.set_cons_zero, List.set_cons_succ]
                refine wpAnyH_take (i := 10) (v := undef) rfl (by kernel_rfl) (by kernel_rfl) (by kernel_rfl) (fun _ _ _ h => h) (Or.inr ⟨by rfl, rfl⟩) (by assumption) ?_
                try simp only [List.getElem_toArray, List.getElem_cons_zero, List.getElem_cons_succ, Act.put, List.setIfInBounds_toArray, List.set_cons_zero, List.set_cons_succ]
                refine wpAnyH_take (i := 11) (v := undef) rfl (by kernel_rfl) (by kernel_rfl) (by kernel_rfl) (fun _ _ _ h => h) (Or.inr ⟨by rfl, rfl⟩) (by assumption) ?_
                try simp only [List.getElem_toArray, List.getElem_cons_zero, List.getElem_cons_succ, Act.put, List.setIfInBounds_toArray, List.set_cons_zero, List.set_cons_succ]
                refine wpAnyH_take (i := 12) (v := undef) rfl (by kernel_rfl) (by kernel_rfl) (by kernel_rfl) (fun _ _ _ h => h) (Or.inr ⟨by rfl, rfl⟩) (by assumption) ?_
                try simp only [List.getElem_toArray, List.getElem_cons_zero, List.getElem_cons_succ, Act.put, List.setIfInBounds_toArray, List.set_cons_zero, List.set_cons_succ]
                refine wpAnyH_take (i := 13) (v := undef) rfl (by kernel_rfl) (by kernel_rfl) (by kernel_rfl) (fun _ _ _ h => h) (Or.inr ⟨by rfl, rfl⟩) (by assumption) ?_
                try simp only [List.getElem_toArray, List.getElem_cons_zero, List.getElem_cons_succ, Act.put, List.setIfInBounds_toArray, List.set_cons_zero, List.set_cons_succ]
                refine wpAnyH_take (i := 14) (v := undef) rfl (by kernel_rfl) (by kernel_rfl) (by kernel_rfl) (fun _ _ _ h => h) (Or.inr ⟨by rfl, rfl⟩) (by assumption) ?_
                try simp only [List.getElem_toArray, List.getElem_cons_zero, List.getElem_cons_succ, Act.put, List.setIfInBounds_toArray, List.set_cons_zero, List.set_cons_succ]
                refine wpAnyH_take (i := 15) (v := undef) rfl (by kernel_rfl) (by kernel_rfl) (by kernel_rfl) (fun _ _ _ h => h) (Or.inr ⟨by rfl, rfl⟩) (by assumption) ?_
                try simp only [List.getElem_toArray, List.getElem_cons_zero, List.getElem_cons_succ, Act.put, List.setIfInBounds_toArray, List.set_cons_zero, List.set_cons_succ]
                refine wpAnyH_take (i := 16) (v := undef) rfl (by kernel_rfl) (by kernel_rfl) (by kernel_rfl) (fun _ _ _ h => h) (Or.inr ⟨by rfl, rfl⟩) (by assumption) ?_
                try simp only [List.getElem_toArray, List.getElem_cons_zero, List.getElem_cons_succ, Act.put, List.setIfInBounds_toArray, List.set_cons_zero, List.set_cons_succ]
                refine wpAnyH_take (i := 17) (v := ?_) rfl (by kernel_rfl) (by kernel_rfl) (by kernel_rfl) (fun _ _ _ h => h) (Or.inl ⟨by rfl, ?_⟩) (by assumption) ?_
                rotate_left 1
                · (intro w hSw; (try dsimp only at hSw); go_simp; try with_reducible rfl)
                try simp only [List.getElem_toArray, List.getElem_cons_zero, List.getElem_cons_succ, Act.put, List.setIfInBounds_toArray, List.set_cons_zero, List.set_cons_succ]
                refine wpAnyH_take (i := 18) (v := ?_) rfl (by kernel_rfl) (by kernel_rfl) (by kernel_rfl) (fun _ _ _ h => h) (Or.inl ⟨by rfl, ?_⟩) (by assumption) ?_
                rotate_left 1
                · (intro w hSw; (try dsimp only at hSw); go_simp; try with_reducible rfl)
                try simp only [List.getElem_toArray, List.getElem_cons_zero, List.getElem_cons_succ, Act.put, List.setIfInBounds_toArray, List.set_cons_zero, List.set_cons_succ]
                refine wpAnyH_take (i := 19) (v := ?_) rfl (by kernel_rfl) (by kernel_rfl) (by kernel_rfl) (fun _ _ _ h => h) (Or.inl ⟨by rfl, ?_⟩) (by assumption) ?_
                rotate_left 1
                · (intro w hSw; (try dsimp only at hSw); go_simp; try with_reducible rfl)
                try simp only [List.getElem_toArray, List.getElem_cons_zero, List.getElem_cons_succ, Act.put, List.setIfInBounds_toArray, List.set_cons_zero, List.set_cons_succ]
                refine wpAnyH_take (i := 20) (v := ?_) rfl (by kernel_rfl) (by kernel_rfl) (by kernel_rfl) (fun _ _ _ h => h) (Or.inl ⟨by rfl, ?_⟩) (by assumption) ?_
                rotate_left 1
                · (intro w hSw; (try dsimp only at hSw); go_simp; try with_reducible rfl)
                try simp only [List.getElem_toArray, List.getElem_cons_zero, List.getElem_cons_succ, Act.put, List.setIfInBounds_toArray, List.set_cons_zero, List.set_cons_succ]
                refine wpAnyH_take (i := 21) (v := ?_) rfl (by kernel_rfl) (by kernel_rfl) (by kernel_rfl) (fun _ _ _ h => h) (Or.inl ⟨by rfl, ?_⟩) (by assumption) ?_
                rotate_left 1
                · (intro w hSw; (try dsimp only at hSw); go_simp; try with_reducible rfl)
                try simp only [List.getElem_toArray, List.getElem_cons_zero, List.getElem_cons_succ, Act.put, List.setIfInBounds_toArray, List.set_cons_zero, List.set_cons_succ]
                refine wpAnyH_take (i := 22) (v := ?_) rfl (by kernel_rfl) (by kernel_rfl) (by kernel_rfl) (fun _ _ _ h => h) (Or.inl ⟨by rfl, ?_⟩) (by assumption) ?_
                rotate_left 1
                · (intro w hSw; (try dsimp only at hSw); go_simp; try with_reducible rfl)
                try simp only [List.getElem_toArray, List.getElem_cons_zero, List.getElem_cons_succ, Act.put, List.setIfInBounds_toArray, List.set_cons_zero, List.set_cons_succ]
                refine wpAnyH_take (i := 23) (v := ?_) rfl (by kernel_rfl) (by kernel_rfl) (by kernel_rfl) (fun _ _ _ h => h) (Or.inl ⟨by rfl, ?_⟩) (by assumption) ?_
                rotate_left 1
                · (intro w hSw; (try dsimp only at hSw); go_simp; try with_reducible rfl)
                try simp only [List.getElem_toArray, List.getElem_cons_zero, List.getElem_cons_succ, Act.put, List.setIfInBounds_toArray, List.set_cons_zero, List.set_cons_succ]
                refine wpAnyH_take (i := 24) (v := ?_) rfl (by kernel_rfl) (by kernel_rfl) (by kernel_rfl) (fun _ _ _ h => h) (Or.inl ⟨by rfl, ?_⟩) (by assumption) ?_
                rotate_left 1
                · (intro w hSw; (try dsimp only at hSw); go_simp; try with_reducible rfl)
                try simp only [List.getElem_toArray, List.getElem_cons_zero, List.getElem_cons_succ, Act.put, List.setIfInBounds_toArray, List.set_cons_zero, List.set_cons_succ]
                refine wpAnyH_done (by kernel_rfl) ?_ _
                go_wp2
                go_meet
                case rel => exact ⟨rfl, hHeld⟩
              · have HBe := Lib.hid (fun V => beside_calls x (by omega) V)
                rw [hbs] at HBe
                have HXc : Hid (∀ V, Below wr.heap.size wr V → V.cell? (ad10.add xn) = some (.string ⟨x.toArray⟩) ∧ V.cell? (ad11.add yn) = some (.string ⟨y.toArray⟩)) := fun V hV => ⟨HT10c.out xn x hx V (HB8.out.trans (hV.mono HB8.out.size)), HT11c.out yn y hy V (HB8.out.trans (hV.mono HB8.out.size))⟩
                have k2 : (xn : Int) < (PA.length : Int) := by omega
                have k3 : (yn : Int) < (PB.length : Int) := by omega
                have k4 : (0 : Int) ≤ (xn : Int) := by omega
                have k5 : (0 : Int) ≤ (yn : Int) := by omega
                have k6 : ¬ (xn : Int) < 0 := by omega
                have k7 : ¬ (yn : Int) < 0 := by omega
                clear HEn HXY k1 hx hy h1 h2 hbs hx7
                refine wp_region_held_drew (S := (fun w' => Below wr.heap.size wr w')) (by kernel_rfl) ?_ (fun hHeld => ?_)
                · exact (Below.refl _ _).drew
                refine wpAnyH_take (i := 0) (v := ?_) rfl (by kernel_rfl) (by kernel_rfl) (by kernel_rfl) (fun _ _ _ h => h) (Or.inl ⟨by rfl, ?_⟩) (by assumption) ?_
                rotate_left 1
                · (intro w hSw; (try dsimp only at hSw); go_simp; try with_reducible rfl)
                try simp only [List.getElem_toArray, List.getElem_cons_zero, Act.put, List.setIfInBounds_toArray, List.set_cons_zero, List.set_cons_succ]
                refine wpAnyH_take (i := 1) (v := ?_) rfl (by kernel_rfl) (by kernel_rfl) (by kernel_rfl) (fun _ _ _ h => h) (Or.inl ⟨by rfl, ?_⟩) (by assumption) ?_
                rotate_left 1
                · (intro w hSw; (try dsimp only at hSw); go_simp; try with_reducible rfl)
                try simp only [List.getElem_toArray, List.getElem_cons_zero, List.getElem_cons_succ, Act.put, List.setIfInBounds_toArray, List.set_cons_zero, List.set_cons_succ]
                refine wpAnyH_take (i := 2) (v := ?_) rfl (by kernel_rfl) (by kernel_rfl) (by kernel_rfl) (fun _ _ _ h => h) (Or.inl ⟨by rfl, ?_⟩) (by assumption) ?_
                rotate_left 1
                · (intro w hSw; (try dsimp only at hSw); go_simp; try with_reducible rfl)
                try simp only [List.getElem_toArray, List.getElem_cons_zero, List.getElem_cons_succ, Act.put, List.setIfInBounds_toArray, List.set_cons_zero, List.set_cons_succ]
                refine wpAnyH_take (i := 3) (v := ?_) rfl (by kernel_rfl) (by kernel_rfl) (by kernel_rfl) (fun _ _ _ h => h) (Or.inl ⟨by rfl, ?_⟩) (by assumption) ?_
                rotate_left 1
                · (intro w hSw; (try dsimp only at hSw); go_simp; try with_reducible rfl)
                try simp only [List.getElem_toArray, List.getElem_cons_zero, List.getElem_cons_succ, Act.put, List.setIfInBounds_toArray, List.set_cons_zero, List.set_cons_succ]
                refine wpAnyH_take (i := 4) (v := ?_) rfl (by kernel_rfl) (by kernel_rfl) (by kernel_rfl) (fun _ _ _ h => h) (Or.inl ⟨by rfl, ?_⟩) (by assumption) ?_
                rotate_left 1
                · (intro w hSw; (try dsimp only at hSw); go_simp; try with_reducible rfl)
                try simp only [List.getElem_toArray, List.getElem_cons_zero, List.getElem_cons_succ, Act.put, List.setIfInBounds_toArray, List.set_cons_zero, List.set_cons_succ]
                refine wpAnyH_take (i := 5) (v := ?_) rfl (by kernel_rfl) (by kernel_rfl) (by kernel_rfl) (fun _ _ _ h => h) (Or.inl ⟨by rfl, ?_⟩) (by assumption) ?_
                rotate_left 1
                · (intro w hSw; (try dsimp only at hSw); go_simp; try with_reducible rfl)
                try simp only [List.getElem_toArray, List.getElem_cons_zero, List.getElem_cons_succ, Act.put, List.setIfInBounds_toArray, List.set_cons_zero, List.set_cons_succ]
                refine wpAnyH_take (i := 6) (v := ?_) rfl (by kernel_rfl) (by kernel_rfl) (by kernel_rfl) (fun _ _ _ h => h) (Or.inl ⟨by rfl, ?_⟩) (by assumption) ?_
                rotate_left 1
                · (intro w hSw; (try dsimp only at hSw); go_simp; try with_reducible rfl)
                try simp only [List.getElem_toArray, List.getElem_cons_zero, List.getElem_cons_succ, Act.put, List.setIfInBounds_toArray, List.set_cons_zero, List.set_cons_succ]
                refine wpAnyH_take (i := 7) (v := ?_) rfl (by kernel_rfl) (by kernel_rfl) (by kernel_rfl) (fun _ _ _ h => h) (Or.inl ⟨by rfl, ?_⟩) (by assumption) ?_
                rotate_left 1
                · (intro w hSw; (try dsimp only at hSw); go_simp; try with_reducible rfl)
                try simp only [List.getElem_toArray, List.getElem_cons_zero, List.getElem_cons_succ, Act.put, List.setIfInBounds_toArray, List.set_cons_zero, List.set_cons_succ]
                refine wpAnyH_take (i := 8) (v := ?_) rfl (by kernel_rfl) (by kernel_rfl) (by kernel_rfl) (fun _ _ _ h => h) (Or.inl ⟨by rfl, ?_⟩) (by assumption) ?_
                rotate_left 1
                · (intro w hSw; (try dsimp only at hSw); go_simp; try with_reducible rfl)
                try simp only [List.getElem_toArray, List.getElem_cons_zero, List.getElem_cons_succ, Act.put, List.setIfInBounds_toArray, List.set_cons_zero, List.set_cons_succ]
                refine wpAnyH_take (i := 9) (v := ?_) rfl (by kernel_rfl) (by kernel_rfl) (by kernel_rfl) (fun _ _ _ h => h) (Or.inl ⟨by rfl, ?_⟩) (by assumption) ?_
                rotate_left 1
                · (intro w hSw; (try dsimp only at hSw); go_simp; try with_reducible rfl)
                try simp only [List.getElem_toArray, List.getElem_cons_zero, List.getElem_cons_succ, Act.put, List.setIfInBounds_toArray, List.set_cons_zero, List.set_cons_succ]
                refine wpAnyH_take (i := 10) (v := ?_) rfl (by kernel_rfl) (by kernel_rfl) (by kernel_rfl) (fun _ _ _ h => h) (Or.inl ⟨by rfl, ?_⟩) (by assumption) ?_
                rotate_left 1
                · (intro w hSw; (try dsimp only at hSw); (have cc := (HXc.out w hSw).1; go_simp); try with_reducible rfl)
                try simp only [List.getElem_toArray, List.getElem_cons_zero, List.getElem_cons_succ, Act.put, List.setIfInBounds_toArray, List.set_cons_zero, List.set_cons_succ]
                refine wpAnyH_take (i := 12) (v := ?_) rfl (by kernel_rfl) (by kernel_rfl) (by kernel_rfl) (fun _ _ _ h => h) (Or.inl ⟨by rfl, ?_⟩) (by assumption) ?_
                rotate_left 1
                · (intro w hSw; (try dsimp only at hSw); go_simp; try with_reducible rfl)
                try simp only [List.getElem_toArray, List.getElem_cons_zero, List.getElem_cons_succ, Act.put, List.setIfInBounds_toArray, List.set_cons_zero, List.set_cons_succ]
                refine wpAnyH_take (i := 13) (v := ?_) rfl (by kernel_rfl) (by kernel_rfl) (by kernel_rfl) (fun _ _ _ h => h) (Or.inl ⟨by rfl, ?_⟩) (by assumption) ?_
                rotate_left 1
                · (intro w hSw; (try dsimp only at hSw); go_simp; try with_reducible rfl)
                try simp only [List.getElem_toArray, List.getElem_cons_zero, List.getElem_cons_succ, Act.put, List.setIfInBounds_toArray, List.set_cons_zero, List.set_cons_succ]
                refine wpAnyH_take (i := 14) (v := ?_) rfl (by kernel_rfl) (by kernel_rfl) (by kernel_rfl) (fun _ _ _ h => h) (Or.inl ⟨by rfl, ?_⟩) (by assumption) ?_
                rotate_left 1
                · (intro w hSw; (try dsimp only at hSw); go_simp; try with_reducible rfl)
                try simp only [List.getElem_toArray, List.getElem_cons_zero, List.getElem_cons_succ, Act.put, List.setIfInBounds_toArray, List.set_cons_zero, List.set_cons_succ]
                refine wpAnyH_take (i := 15) (v := ?_) rfl (by kernel_rfl) (by kernel_rfl) (by kernel_rfl) (fun _ _ _ h => h) (Or.inl ⟨by rfl, ?_⟩) (by assumption) ?_
                rotate_left 1
                · (intro w hSw; (try dsimp only at hSw); (have cc := (HXc.out w hSw).2; go_simp); try with_reducible rfl)
                try simp only [List.getElem_toArray, List.getElem_cons_zero, List.getElem_cons_succ, Act.put, List.setIfInBounds_toArray, List.set_cons_zero, List.set_cons_succ]
                refine wpAnyH_ready (rs := [11]) (by kernel_rfl) (by simp) ?_
                refine AllReadyH.cons rfl (fun K hK => ?_) AllReadyH.nil
                try simp only [List.getElem_toArray, List.getElem_cons_zero, List.getElem_cons_succ]
                (go_simp; go_at_call 13; refine (HBe.out _).mono ?_; rintro e wg ⟨rfl, yg⟩; have hbg := hHeld.trans (yg.mono hHeld.size); clear yg)
                refine hK.out _ _ ?_ (fun hHeld => ?_)
                · exact hbg
                clear hK K
                try simp only [List.getElem_toArray, List.getElem_cons_zero, List.getElem_cons_succ, Act.put, List.setIfInBounds_toArray, List.set_cons_zero, List.set_cons_succ]
                refine wpAnyH_take (i := 16) (v := ?_) rfl (by kernel_rfl) (by kernel_rfl) (by kernel_rfl) (fun _ _ _ h => h) (Or.inl ⟨by rfl, ?_⟩) (by assumption) ?_
                rotate_left 1
                · (intro w hSw; (try dsimp only at hSw); go_simp; try with_reducible rfl)
                try simp only [List.getElem_toArray, List.getElem_cons_zero, List.getElem_cons_succ, Act.put, List.setIfInBounds_toArray, List.set_cons_zero, List.set_cons_succ]
                refine wpAnyH_take (i := 17) (v := ?_) rfl (by kernel_rfl) (by kernel_rfl) (by kernel_rfl) (fun _ _ _ h => h) (Or.inl ⟨by rfl, ?_⟩) (by assumption) ?_
                rotate_left 1
                · (intro w hSw; (try dsimp only at hSw); go_simp; try with_reducible rfl)
                try simp only [List.getElem_toArray, List.getElem_cons_zero, List.getElem_cons_succ, Act.put, List.setIfInBounds_toArray, List.set_cons_zero, List.set_cons_succ]
                refine wpAnyH_take (i := 18) (v := ?_) rfl (by kernel_rfl) (by kernel_rfl) (by kernel_rfl) (fun _ _ _ h => h) (Or.inl ⟨by rfl, ?_⟩) (by assumption) ?_
                rotate_left 1
                · (intro w hSw; (try dsimp only at hSw); go_simp; try with_reducible rfl)
                try simp only [List.getElem_toArray, List.getElem_cons_zero, List.getElem_cons_succ, Act.put, List.setIfInBounds_toArray, List.set_cons_zero, List.set_cons_succ]
                refine wpAnyH_take (i := 19) (v := ?_) rfl (by kernel_rfl) (by kernel_rfl) (by kernel_rfl) (fun _ _ _ h => h) (Or.inl ⟨by rfl, ?_⟩) (by assumption) ?_
                rotate_left 1
                · (intro w hSw; (try dsimp only at hSw); go_simp; try with_reducible rfl)
                try simp only [List.getElem_toArray, List.getElem_cons_zero, List.getElem_cons_succ, Act.put, List.setIfInBounds_toArray, List.set_cons_zero, List.set_cons_succ]
                refine wpAnyH_take (i := 20) (v := ?_) rfl (by kernel_rfl) (by kernel_rfl) (by kernel_rfl) (fun _ _ _ h => h) (Or.inl ⟨by rfl, ?_⟩) (by assumption) ?_
                rotate_left 1
                · (intro w hSw; (try dsimp only at hSw); go_simp; try with_reducible rfl)
                try simp only [List.getElem_toArray, List.getElem_cons_zero, List.getElem_cons_succ, Act.put, List.setIfInBounds_toArray, List.set_cons_zero, List.set_cons_succ]
                refine wpAnyH_take (i := 21) (v := ?_) rfl (by kernel_rfl) (by kernel_rfl) (by kernel_rfl) (fun _ _ _ h => h) (Or.inl ⟨by rfl, ?_⟩) (by assumption) ?_
                rotate_left 1
                · (intro w hSw; (try dsimp only at hSw); go_simp; try with_reducible rfl)
                try simp only [List.getElem_toArray, List.getElem_cons_zero, List.getElem_cons_succ, Act.put, List.setIfInBounds_toArray, List.set_cons_zero, List.set_cons_succ]
                refine wpAnyH_take (i := 22) (v := ?_) rfl (by kernel_rfl) (by kernel_rfl) (by kernel_rfl) (fun _ _ _ h => h) (Or.inl ⟨by rfl, ?_⟩) (by assumption) ?_
                rotate_left 1
                · (intro w hSw; (try dsimp only at hSw); go_simp; try with_reducible rfl)
                try simp only [List.getElem_toArray, List.getElem_cons_zero, List.getElem_cons_succ, Act.put, List.setIfInBounds_toArray, List.set_cons_zero, List.set_cons_succ]
                refine wpAnyH_take (i := 23) (v := ?_) rfl (by kernel_rfl) (by kernel_rfl) (by kernel_rfl) (fun _ _ _ h => h) (Or.inl ⟨by rfl, ?_⟩) (by assumption) ?_
                rotate_left 1
                · (intro w hSw; (try dsimp only at hSw); go_simp; try with_reducible rfl)
                try simp only [List.getElem_toArray, List.getElem_cons_zero, List.getElem_cons_succ, Act.put, List.setIfInBounds_toArray, List.set_cons_zero, List.set_cons_succ]
                refine wpAnyH_take (i := 24) (v := ?_) rfl (by kernel_rfl) (by kernel_rfl) (by kernel_rfl) (fun _ _ _ h => h) (Or.inl ⟨by rfl, ?_⟩) (by assumption) ?_
                rotate_left 1
                · (intro w hSw; (try dsimp only at hSw); go_simp; try with_reducible rfl)
                try simp only [List.getElem_toArray, List.getElem_cons_zero, List.getElem_cons_succ, Act.put, List.setIfInBounds_toArray, List.set_cons_zero, List.set_cons_succ]
                refine wpAnyH_done (by kernel_rfl) ?_ _
                go_wp2
                go_meet
                case rel => exact ⟨rfl, hHeld⟩
            case rest =>
              obtain ⟨rfl, hb9⟩ := hcut
              obtain ⟨W9, hW9⟩ : ∃ z, z = wc := ⟨wc, rfl⟩
              rw [← hW9] at hb9 ⊢
              have HB9 := Lib.hid (HB6.out.trans ((HB7.out.trans ((HB8.out.trans (hb9.mono HB8.out.size)).mono HB7.out.size)).mono HB6.out.size))
              have hNn := HN.out W9
              clear hW9 hb9 HB8 HT10c HT11c HXY HEn HLm k1 HN
              go_wp2_with fail
              refine hNn.mono ?_
              rintro e wN ⟨v16, rfl, o16, y16⟩
              obtain ⟨A16, c16, rfl⟩ := L5.own_slice o16
              have HT16 := Lib.hid (TxA.of_own o16).at.2
              have HBN := Lib.hid (HB9.out.trans (y16.mono HB9.out.size))
              have HSt4 : Hid (UpRel wN N.length N.length (.int .i64 0) wN) := ⟨0, by omega, rfl, Below.refl _ _⟩
              clear o16 y16 hNn
              go_wp2
              go_loopg [17] N.length (fun k v17 V => UpRel wN N.length k v17 V)
              case atStart => exact HSt4.out
              case round =>
                clear HSt4
                obtain ⟨j, hkj, rfl, hbj⟩ := hrel
                by_cases hj : j < N.length
                · obtain ⟨y, hy⟩ : ∃ y, N[j]? = some y := ⟨_, List.getElem?_eq_getElem hj⟩
                  obtain ⟨u, hu⟩ := HNm.out y (List.mem_of_getElem? hy)
                  have hou := HT.out.1.at hu
                  obtain ⟨ad16, rfl, hc16⟩ := HT16.out j y hy
                  have HcN := Lib.hid hc16
                  have c16w := hc16 wr hbj
                  have HBj := Lib.hid hbj
                  have hA := HAt.out y u hu wr
                  have HMu := Lib.hid (fun V => HMem.out u hou V)
                  have HSu := Lib.hid (fun V => HSp.out y u hu V)
                  have hmh : u.mems.head? = some (low u : Int) ∧ ∀ x ∈ u.mems, (low u : Int) ≤ x := by first | exact mems_head u | exact mems_head hou
                  have hh := hmh.1
                  have hlow := Tr.at_procs hu _ (low_mem u)
                  have HHa := Lib.hid (fun V hV => HHas.out V hV (low u) hlow)
                  have hpos : 0 < u.mems.length := by rw [mems_len]; exact u.procs_pos
                  have HIu := Lib.hid (fun (V : World) (v : Value) B (h : V.ownsRow B 3 1 v u.mems.length (u.mems.map (Value.int .i64))) => hou.ints h)
                  have h0 : u.mems[0]? = some (low u : Int) := by rw [← hh]; cases u.mems <;> rfl
                  have hfew : (u.mems.length : Int) ≤ 8 := by rw [mems_len]; have := hou.few; omega
                  have k1 : (j : Int) < (N.length : Int) := by omega
                  have k2 : (0 : Int) ≤ (j : Int) := by omega
                  have k3 : (j : Int) ≤ 15 := by have := HDn.out; omega
                  obtain ⟨g4, hg4⟩ : ∃ g4, gk - 1 = g4 := ⟨_, rfl⟩
                  have hgk4 := Lib.hid (show g4 < gk by omega)
                  have HUp : Hid (∀ V, Below wN.heap.size wN V → UpRel wN N.length g4 (.int .i64 ((j + 1 : Nat) : Int)) V) := fun V hV => ⟨j + 1, by omega, rfl, hV⟩
                  obtain ⟨lw, hlw⟩ : ∃ lw : Int, (low u : Int) = lw := ⟨_, rfl⟩
                  rw [hlw] at HSu HHa h0
                  unfold Str2 at hA
                  dsimp only at hA
                  have h0h := Lib.hid h0
                  clear hy hu hou hmh hh hlow hg4 hkj hbj hj hc16 hlw h0 HNm HAt HMem HSp HHas HT16
                  generalize u.text = ux at *
                  generalize u.mems = ms at *
                  go_wp2_with fail
                  refine hA.mono ?_
                  rintro e wa ⟨rfl, ya⟩
                  have HBa := Lib.hid (HBj.out.trans (ya.mono HBj.out.size))
                  have hM := HMu.out wa
                  clear ya hA c16w HMu
                  go_wp2_with fail
                  refine hM.mono ?_
                  rintro e wb ⟨v20, rfl, o20, y20⟩
                  have hI20 := HIu.out _ _ _ o20
                  obtain ⟨A20, c20, rfl⟩ := L5.own_slice o20
                  obtain ⟨ad20, rfl, hc20⟩ := (ints_later hI20).2 0 lw h0h.out
                  have HBb := Lib.hid (HBa.out.trans (y20.mono HBa.out.size))
                  have HXb : Hid (∀ V, Below wb.heap.size wb V → V.cell? (ad16.add j) = some (.string ⟨y.toArray⟩) ∧ V.cell? ad20 = some (.int .i64 lw)) := fun V hV => ⟨HcN.out V (HBb.out.trans (hV.mono HBb.out.size)), by
                    have := hc20 V hV
                    rwa [show ad20.add 0 = ad20 by simp [Addr.add]] at this⟩
                  have HHb : Hid (∀ V, Below wb.heap.size wb V → Calls Tryz.prog 12 #[.slice (some ad9) ps.length c9, .int .i64 lw] V (fun e w' => e = .returned (.bool true) ∧ V = w')) := fun V hV => HHa.out V (HBN.out.trans ((HBb.out.trans (hV.mono HBb.out.size)).mono HBN.out.size))
                  have k4 : ((ms.length : Int) == 0) = false := by rw [beq_eq_false_iff_ne]; omega
                  have k5 : (0 : Int) < (ms.length : Int) := by omega
                  clear o20 y20 hM hI20 hc20 HIu HHa h0h HcN
                  go_wp2
                  go_cut [158] (fun s158 wc => s158 = .bool false ∧ Below wb.heap.size wb wc)
                  case first =>
                    refine wp_region_held_drew (S := (fun w' => Below wb.heap.size wb w')) (by kernel_rfl) ?_ (fun hHeld => ?_)
                    · exact (Below.refl _ _).drew
                    refine wpAnyH_take (i := 0) (v := ?_) rfl (by kernel_rfl) (by kernel_rfl) (by kernel_rfl) (fun _ _ _ h => h) (Or.inl ⟨by rfl, ?_⟩) (by assumption) ?_
                    rotate_left 1
                    · (intro w hSw; (try dsimp only at hSw); go_simp; try with_reducible rfl)
                    try simp only [List.getElem_toArray, List.getElem_cons_zero, Act.put, List.setIfInBounds_toArray, List.set_cons_zero, List.set_cons_succ]
                    refine wpAnyH_take (i := 1) (v := ?_) rfl (by kernel_rfl) (by kernel_rfl) (by kernel_rfl) (fun _ _ _ h => h) (Or.inl ⟨by rfl, ?_⟩) (by assumption) ?_
                    rotate_left 1
                    · (intro w hSw; (try dsimp only at hSw); go_simp; try with_reducible rfl)
                    try simp only [List.getElem_toArray, List.getElem_cons_zero, List.getElem_cons_succ, Act.put, List.setIfInBounds_toArray, List.set_cons_zero, List.set_cons_succ]
                    refine wpAnyH_take (i := 2) (v := ?_) rfl (by kernel_rfl) (by kernel_rfl) (by kernel_rfl) (fun _ _ _ h => h) (Or.inl ⟨by rfl, ?_⟩) (by assumption) ?_
                    rotate_left 1
                    · (intro w hSw; (try dsimp only at hSw); go_simp; try with_reducible rfl)
                    try simp only [List.getElem_toArray, List.getElem_cons_zero, List.getElem_cons_succ, Act.put, List.setIfInBounds_toArray, List.set_cons_zero, List.set_cons_succ]
                    refine wpAnyH_take (i := 3) (v := ?_) rfl (by kernel_rfl) (by kernel_rfl) (by kernel_rfl) (fun _ _ _ h => h) (Or.inl ⟨by rfl, ?_⟩) (by assumption) ?_
                    rotate_left 1
                    · (intro w hSw; (try dsimp only at hSw); go_simp; try with_reducible rfl)
                    try simp only [List.getElem_toArray, List.getElem_cons_zero, List.getElem_cons_succ, Act.put, List.setIfInBounds_toArray, List.set_cons_zero, List.set_cons_succ]
                    refine wpAnyH_take (i := 4) (v := ?_) rfl (by kernel_rfl) (by kernel_rfl) (by kernel_rfl) (fun _ _ _ h => h) (Or.inl ⟨by rfl, ?_⟩) (by assumption) ?_
                    rotate_left 1
                    · (intro w hSw; (try dsimp only at hSw); go_simp; try with_reducible rfl)
                    try simp only [List.getElem_toArray, List.getElem_cons_zero, List.getElem_cons_succ, Act.put, List.setIfInBounds_toArray, List.set_cons_zero, List.set_cons_succ]
                    refine wpAnyH_take (i := 5) (v := ?_) rfl (by kernel_rfl) (by kernel_rfl) (by kernel_rfl) (fun _ _ _ h => h) (Or.inl ⟨by rfl, ?_⟩) (by assumption) ?_
                    rotate_left 1
                    · (intro w hSw; (try dsimp only at hSw); go_simp; try with_reducible rfl)
                    try simp only [List.getElem_toArray, List.getElem_cons_zero, List.getElem_cons_succ, Act.put, List.setIfInBounds_toArray, List.set_cons_zero, List.set_cons_succ]
                    refine wpAnyH_take (i := 6) (v := ?_) rfl (by kernel_rfl) (by kernel_rfl) (by kernel_rfl) (fun _ _ _ h => h) (Or.inl ⟨by rfl, ?_⟩) (by assumption) ?_
                    rotate_left 1
                    · (intro w hSw; (try dsimp only at hSw); go_simp; try with_reducible rfl)
                    try simp only [List.getElem_toArray, List.getElem_cons_zero, List.getElem_cons_succ, Act.put, List.setIfInBounds_toArray, List.set_cons_zero, List.set_cons_succ]
                    refine wpAnyH_take (i := 7) (v := ?_) rfl (by kernel_rfl) (by kernel_rfl) (by kernel_rfl) (fun _ _ _ h => h) (Or.inl ⟨by rfl, ?_⟩) (by assumption) ?_
                    rotate_left 1
                    · (intro w hSw; (try dsimp only at hSw); go_simp; try with_reducible rfl)
                    try simp only [List.getElem_toArray, List.getElem_cons_zero, List.getElem_cons_succ, Act.put, List.setIfInBounds_toArray, List.set_cons_zero, List.set_cons_succ]
                    refine wpAnyH_take (i := 8) (v := ?_) rfl (by kernel_rfl) (by kernel_rfl) (by kernel_rfl) (fun _ _ _ h => h) (Or.inl ⟨by rfl, ?_⟩) (by assumption) ?_
                    rotate_left 1
                    · (intro w hSw; (try dsimp only at hSw); (have cc := (HXb.out w hSw).1; go_simp); try with_reducible rfl)
                    try simp only [List.getElem_toArray, List.getElem_cons_zero, List.getElem_cons_succ, Act.put, List.setIfInBounds_toArray, List.set_cons_zero, List.set_cons_succ]
                    refine wpAnyH_take (i := 10) (v := ?_) rfl (by kernel_rfl) (by kernel_rfl) (by kernel_rfl) (fun _ _ _ h => h) (Or.inl ⟨by rfl, ?_⟩) (by assumption) ?_
                    rotate_left 1
                    · (intro w hSw; (try dsimp only at hSw); go_simp; try with_reducible rfl)
                    try simp only [List.getElem_toArray, List.getElem_cons_zero, List.getElem_cons_succ, Act.put, List.setIfInBounds_toArray, List.set_cons_zero, List.set_cons_succ]
                    refine wpAnyH_take (i := 11) (v := ?_) rfl (by kernel_rfl) (by kernel_rfl) (by kernel_rfl) (fun _ _ _ h => h) (Or.inl ⟨by rfl, ?_⟩) (by assumption) ?_
                    rotate_left 1
                    · (intro w hSw; (try dsimp only at hSw); go_simp; try with_reducible rfl)
                    try simp only [List.getElem_toArray, List.getElem_cons_zero, List.getElem_cons_succ, Act.put, List.setIfInBounds_toArray, List.set_cons_zero, List.set_cons_succ]
                    refine wpAnyH_take (i := 12) (v := ?_) rfl (by kernel_rfl) (by kernel_rfl) (by kernel_rfl) (fun _ _ _ h => h) (Or.inl ⟨by rfl, ?_⟩) (by assumption) ?_
                    rotate_left 1
                    · (intro w hSw; (try dsimp only at hSw); (have cc := (HXb.out w hSw).2; go_simp); try with_reducible rfl)
                    try simp only [List.getElem_toArray, List.getElem_cons_zero, List.getElem_cons_succ, Act.put, List.setIfInBounds_toArray, List.set_cons_zero, List.set_cons_succ]
                    refine wpAnyH_ready (rs := [9]) (by kernel_rfl) (by simp) ?_
                    refine AllReadyH.cons rfl (fun K hK => ?_) AllReadyH.nil
                    try simp only [List.getElem_toArray, List.getElem_cons_zero, List.getElem_cons_succ]
                    (go_simp; go_at_call 16; refine (HSu.out _).mono ?_; rintro e wg ⟨rfl, yg⟩; have hbg := hHeld.trans (yg.mono hHeld.size); clear yg)
                    refine hK.out _ _ ?_ (fun hHeld => ?_)
                    · exact hbg
                    clear hK K
                    try simp only [List.getElem_toArray, List.getElem_cons_zero, List.getElem_cons_succ, Act.put, List.setIfInBounds_toArray, List.set_cons_zero, List.set_cons_succ]
                    refine wpAnyH_take (i := 13) (v := ?_) rfl (by kernel_rfl) (by kernel_rfl) (by kernel_rfl) (fun _ _ _ h => h) (Or.inl ⟨by rfl, ?_⟩) (by assumption) ?_
                    rotate_left 1
                    · (intro w hSw; (try dsimp only at hSw); go_simp; try with_reducible rfl)
                    try simp only [List.getElem_toArray, List.getElem_cons_zero, List.getElem_cons_succ, Act.put, List.setIfInBounds_toArray, List.set_cons_zero, List.set_cons_succ]
                    refine wpAnyH_take (i := 14) (v := ?_) rfl (by kernel_rfl) (by kernel_rfl) (by kernel_rfl) (fun _ _ _ h => h) (Or.inl ⟨by rfl, ?_⟩) (by assumption) ?_
                    rotate_left 1
                    · (intro w hSw; (try dsimp only at hSw); go_simp; try with_reducible rfl)
                    try simp only [List.getElem_toArray, List.getElem_cons_zero, List.getElem_cons_succ, Act.put, List.setIfInBounds_toArray, List.set_cons_zero, List.set_cons_succ]
                    refine wpAnyH_take (i := 15) (v := ?_) rfl (by kernel_rfl) (by kernel_rfl) (by kernel_rfl) (fun _ _ _ h => h) (Or.inl ⟨by rfl, ?_⟩) (by assumption) ?_
                    rotate_left 1
                    · (intro w hSw; (try dsimp only at hSw); go_simp; try with_reducible rfl)
                    try simp only [List.getElem_toArray, List.getElem_cons_zero, List.getElem_cons_succ, Act.put, List.setIfInBounds_toArray, List.set_cons_zero, List.set_cons_succ]
                    refine wpAnyH_take (i := 16) (v := ?_) rfl (by kernel_rfl) (by kernel_rfl) (by kernel_rfl) (fun _ _ _ h => h) (Or.inl ⟨by rfl, ?_⟩) (by assumption) ?_
                    rotate_left 1
                    · (intro w hSw; (try dsimp only at hSw); go_simp; try with_reducible rfl)
                    try simp only [List.getElem_toArray, List.getElem_cons_zero, List.getElem_cons_succ, Act.put, List.setIfInBounds_toArray, List.set_cons_zero, List.set_cons_succ]
                    refine wpAnyH_take (i := 17) (v := ?_) rfl (by kernel_rfl) (by kernel_rfl) (by kernel_rfl) (fun _ _ _ h => h) (Or.inl ⟨by rfl, ?_⟩) (by assumption) ?_
                    rotate_left 1
                    · (intro w hSw; (try dsimp only at hSw); go_simp; try with_reducible rfl)
                    try simp only [List.getElem_toArray, List.getElem_cons_zero, List.getElem_cons_succ, Act.put, List.setIfInBounds_toArray, List.set_cons_zero, List.set_cons_succ]
                    refine wpAnyH_take (i := 18) (v := ?_) rfl (by kernel_rfl) (by kernel_rfl) (by kernel_rfl) (fun _ _ _ h => h) (Or.inl ⟨by rfl, ?_⟩) (by assumption) ?_
                    rotate_left 1
                    · (intro w hSw; (try dsimp only at hSw); go_simp; try with_reducible rfl)
                    try simp only [List.getElem_toArray, List.getElem_cons_zero, List.getElem_cons_succ, Act.put, List.setIfInBounds_toArray, List.set_cons_zero, List.set_cons_succ]
                    refine wpAnyH_take (i := 19) (v := ?_) rfl (by kernel_rfl) (by kernel_rfl) (by kernel_rfl) (fun _ _ _ h => h) (Or.inl ⟨by rfl, ?_⟩) (by assumption) ?_
                    rotate_left 1
                    · (intro w hSw; (try dsimp only at hSw); (have cc := (HXb.out w hSw).2; go_simp); try with_reducible rfl)
                    try simp only [List.getElem_toArray, List.getElem_cons_zero, List.getElem_cons_succ, Act.put, List.setIfInBounds_toArray, List.set_cons_zero, List.set_cons_succ]
                    refine wpAnyH_ready (rs := [20]) (by kernel_rfl) (by simp) ?_
                    refine AllReadyH.cons rfl (fun K hK => ?_) AllReadyH.nil
                    try simp only [List.getElem_toArray, List.getElem_cons_zero, List.getElem_cons_succ]
                    (go_simp; go_at_call 12; refine (HHb.out _ hHeld).mono ?_; rintro e wh ⟨rfl, rfl⟩)
                    refine hK.out _ _ ?_ (fun hHeld => ?_)
                    · exact hHeld
                    clear hK K
                    try simp only [List.getElem_toArray, List.getElem_cons_zero, List.getElem_cons_succ, Act.put, List.setIfInBounds_toArray, List.set_cons_zero, List.set_cons_succ]
                    refine wpAnyH_take (i := 21) (v := ?_) rfl (by kernel_rfl) (by kernel_rfl) (by kernel_rfl) (fun _ _ _ h => h) (Or.inl ⟨by rfl, ?_⟩) (by assumption) ?_
                    rotate_left 1
                    · (intro w hSw; (try dsimp only at hSw); go_simp; try with_reducible rfl)
                    try simp only [List.getElem_toArray, List.getElem_cons_zero, List.getElem_cons_succ, Act.put, List.setIfInBounds_toArray, List.set_cons_zero, List.set_cons_succ]
                    refine wpAnyH_take (i := 22) (v := ?_) rfl (by kernel_rfl) (by kernel_rfl) (by kernel_rfl) (fun _ _ _ h => h) (Or.inl ⟨by rfl, ?_⟩) (by assumption) ?_
                    rotate_left 1
                    · (intro w hSw; (try dsimp only at hSw); go_simp; try with_reducible rfl)
                    try simp only [List.getElem_toArray, List.getElem_cons_zero, List.getElem_cons_succ, Act.put, List.setIfInBounds_toArray, List.set_cons_zero, List.set_cons_succ]
                    refine wpAnyH_done (by kernel_rfl) ?_ _
                    go_wp2
                    go_meet
                    case rel => exact ⟨rfl, hHeld⟩
                  case rest =>
                    obtain ⟨rfl, hbz⟩ := hcut
                    have HR := Lib.hid (HUp.out wc (HBb.out.trans (hbz.mono HBb.out.size)))
                    clear hbz HUp
                    go_wp2
                    go_roundg g4
                    case measure => exact hgk4.out
                    case rel => exact HR.out
                · have k1 : ¬ (j : Int) < (N.length : Int) := by omega
                  have HE : Hid (Below w.heap.size w wr) := HB3.out.trans ((HBN.out.trans (hbj.mono HBN.out.size)).mono HB3.out.size)
                  clear hkj hbj hj
                  go_wp2
                  go_ret
                  exact ⟨rfl, HE.out⟩
end Go.Proofs.YtlpabhgfmkilnaaGreatDoor.L14
