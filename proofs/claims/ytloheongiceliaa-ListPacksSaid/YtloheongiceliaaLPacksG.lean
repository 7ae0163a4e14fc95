/- Contract of the document's own Unpack of messages (gemotref4). The law ListPacks: for all messages and texts it returns true. A message that a law is handed, as its cells lie in memory (nil rows told, too), in a seat without made. The statement ListPacks: for every input the law returns true, and its arguments read as they did. -/
import Derived.Test.YtloheongiceliaaR4PackG
import Derived.Test.YtloheongiceliaaR4TakeG
import Derived.Test.YtloheongiceliaaMsgG
import Derived.Test.YtloheongiceliaaRValG
import Derived.Test.YtloheongiceliaaAsG
import Derived.Test.YtloheongiceliaaPackG
import Derived.SliceStrings
import Derived.ChangeSlices
import Derived.Deep.Slices
import Derived.Deep.Fields
import Derived.Carry
section
namespace Go.Proofs.Ytloheongiceliaa.L4
open Go.ChangeShapes Go.WideShapes Go.ChangeAt Go.RowKit

def RNums (W1 : World) (zs : List (List UInt8)) (N k : Nat) (v6 v7 : Value) (wr : World) : Prop :=
  ∃ i : Nat, k + i = N ∧ v7 = .int .i64 i ∧ wr.ownsRow W1.heap.size 3 1 v6 i (intV ((zs.take i).map num4)) ∧ Below W1.heap.size W1 wr

set_option maxRecDepth 100000 in
set_option maxHeartbeats 16000000 in
theorem unpack4_calls (t : List UInt8) (hs : t.length ≤ maxLen) (w : World) : Calls Try.prog 32 #[.string ⟨t.toArray⟩] w (UnpackOut w t) := by
  obtain ⟨j0, hj, hy0, hy1, hy2⟩ := info_parts info_int4
  obtain ⟨W0, hW0⟩ : ∃ W0, w.alloc (.cells #[.int .i64 0, .int .i64 0, .int .i64 0, .int .i64 0, .int .i64 0, .int .i64 0, .slice none 0 0, .slice none 0 0] 55) = W0 := ⟨_, rfl⟩
  have hs0 : W0.heap.size = w.heap.size + 1 := by rw [← hW0]; simp
  have hB0 : Below w.heap.size w W0 := by rw [← hW0]; exact (Below.refl _ w).alloc (Nat.le_refl _) _
  have hR0 : W0.heap[w.heap.size]? = some (.cells #[.int .i64 0, .int .i64 0, .int .i64 0, .int .i64 0, .int .i64 0, .int .i64 0, .slice none 0 0, .slice none 0 0] 55 (0, 0)) := by
    rw [← hW0]; exact World.alloc_heap_new _ _
  have HR0 : Hid (∀ V, Below W0.heap.size W0 V → V.heap[w.heap.size]? = some (.cells #[.int .i64 0, .int .i64 0, .int .i64 0, .int .i64 0, .int .i64 0, .int .i64 0, .slice none 0 0, .slice none 0 0] 55 (0, 0)) ∧ Below w.heap.size w V) := fun V hV => ⟨(hV.block w.heap.size (by omega)).trans hR0, hB0.trans (hV.mono (by omega))⟩
  have HT := Lib.hid (RTake4_calls t hs W0)
  have HTwo := Lib.hid (Tm.takeRow_two t)
  have HSay : Hid (∀ m, Says t m → Tm.takeRow t = (m.row, 0) ∧ m.ok = true ∧ m.pack = (t, 0)) := fun m h => says4 h
  have HRT : Hid (∀ zs, Tm.takeRow t = (zs, 0) → zs.length ≤ 150 ∧ ∀ z ∈ zs, z.length ≤ maxLen) := fun zs hz => by
    obtain ⟨_, k1, k2, _⟩ := Tm.putRow_ok (Tm.put_take hz)
    refine ⟨k1, fun z hm => ?_⟩
    unfold Tm.wrongIn at k2
    rw [List.any_eq_false] at k2
    have h1 := k2 z hm
    have := Tm.depthOf_short (z := z) (by simpa using h1)
    unfold maxLen
    omega
  obtain ⟨⟨zs, er⟩, hz⟩ : ∃ r, Tm.takeRow t = r := ⟨_, rfl⟩
  rw [hz] at HT HTwo HSay HRT
  have HS0 := Lib.hid hs0
  have HPS : Hid (∀ m, m.pack = (t, 0) → Says t m) := fun m h => Msg.pack_says h
  clear hB0 hR0 hs hs0 hz
  go_enter Try.func32, Try.ntmps32
  go_wp2_with fail
  refine HT.out.mono ?_
  rintro e w1 ⟨v, rfl, hown, hB⟩
  by_cases her : er = 0
  case neg =>
    have h2 : er = 2 := by
      rcases HTwo.out with h | h
      · exact absurd h her
      · exact congrArg Prod.snd h
    subst h2
    obtain ⟨hr2, hbw⟩ := HR0.out w1 hB
    obtain ⟨u1, u2, u3, u4, u5, u6, u7, u8, ⟨e0, d0, f0⟩, ⟨e1, d1, f1⟩, ⟨e2, d2, f2⟩, ⟨e3, d3, f3⟩, ⟨e4, d4, f4⟩, ⟨e5, d5, f5⟩, ⟨e6, d6, f6⟩, ⟨e7, d7, f7⟩, hlast, hBlast, hklast⟩ := store8 (.int .i64 0) (.int .i64 0) (.int .i64 0) (.int .i64 0) (.int .i64 0) (.int .i64 0) (.slice none 0 0) (.slice none 0 0) hr2
    have HL := Lib.hid hlast
    have HF : Hid (UnpackOut w t (.returned (.tuple #[zeroMsg, .int .i64 2])) u8) := .inr ⟨rfl, fun ⟨m, hm⟩ => by
      obtain ⟨e, _⟩ := HSay.out m hm
      simp at e, hbw.trans (hBlast.mono (Nat.le_refl _))⟩
    clear hown hB hr2 hbw hlast hBlast hklast her hW0
    go_wp2
    refine bodyPost_ret (results_both rfl _ _ w.heap.size 55 _ (0, 0) _ rfl HL.out Try.underlying55 rfl (by kernel_rfl)) rfl ?_
    exact HF.out
  subst her
  have HFail : Hid ((∀ m, Says t m → False) → ∀ V, Below w1.heap.size w1 V → ∃ u1 u2 u3 u4 u5 u6 u7 u8 : World, (V.setCell ⟨w.heap.size, 0, none⟩ (.int .i64 0) = u1 ∧ V.cell? ⟨w.heap.size, 0, none⟩ = some (.int .i64 0) ∧ V.frozen? ⟨w.heap.size, 0, none⟩ = false) ∧ (u1.setCell ⟨w.heap.size, 1, none⟩ (.int .i64 0) = u2 ∧ u1.cell? ⟨w.heap.size, 1, none⟩ = some (.int .i64 0) ∧ u1.frozen? ⟨w.heap.size, 1, none⟩ = false) ∧ (u2.setCell ⟨w.heap.size, 2, none⟩ (.int .i64 0) = u3 ∧ u2.cell? ⟨w.heap.size, 2, none⟩ = some (.int .i64 0) ∧ u2.frozen? ⟨w.heap.size, 2, none⟩ = false) ∧ (u3.setCell ⟨w.heap.size, 3, none⟩ (.int .i64 0) = u4 ∧ u3.cell? ⟨w.heap.size, 3, none⟩ = some (.int .i64 0) ∧ u3.frozen? ⟨w.heap.size, 3, none⟩ = false) ∧ (u4.setCell ⟨w.heap.size, 4, none⟩ (.int .i64 0) = u5 ∧ u4.cell? ⟨w.heap.size, 4, none⟩ = some (.int .i64 0) ∧ u4.frozen? ⟨w.heap.size, 4, none⟩ = false) ∧ (u5.setCell ⟨w.heap.size, 5, none⟩ (.int .i64 0) = u6 ∧ u5.cell? ⟨w.heap.size, 5, none⟩ = some (.int .i64 0) ∧ u5.frozen? ⟨w.heap.size, 5, none⟩ = false) ∧ (u6.setCell ⟨w.heap.size, 6, none⟩ (.slice none 0 0) = u7 ∧ u6.cell? ⟨w.heap.size, 6, none⟩ = some (.slice none 0 0) ∧ u6.frozen? ⟨w.heap.size, 6, none⟩ = false) ∧ (u7.setCell ⟨w.heap.size, 7, none⟩ (.slice none 0 0) = u8 ∧ u7.cell? ⟨w.heap.size, 7, none⟩ = some (.slice none 0 0) ∧ u7.frozen? ⟨w.heap.size, 7, none⟩ = false) ∧
      Hid (u8.heap[w.heap.size]? = some (.cells #[.int .i64 0, .int .i64 0, .int .i64 0, .int .i64 0, .int .i64 0, .int .i64 0, .slice none 0 0, .slice none 0 0] 55 (0, 0)) ∧ UnpackOut w t (.returned (.tuple #[zeroMsg, .int .i64 2])) u8)) := fun hno V hV => by
    have hBV : Below W0.heap.size W0 V := hB.trans (hV.mono hB.size)
    obtain ⟨hr2, hbw⟩ := HR0.out V hBV
    obtain ⟨u1, u2, u3, u4, u5, u6, u7, u8, q0, q1, q2, q3, q4, q5, q6, q7, hlast, hBlast, hklast⟩ := store8 (.int .i64 0) (.int .i64 0) (.int .i64 0) (.int .i64 0) (.int .i64 0) (.int .i64 0) (.slice none 0 0) (.slice none 0 0) hr2
    exact ⟨u1, u2, u3, u4, u5, u6, u7, u8, q0, q1, q2, q3, q4, q5, q6, q7, hlast, .inr ⟨rfl, fun ⟨m, hm⟩ => hno m hm, hbw.trans (hBlast.mono (Nat.le_refl _))⟩⟩
  obtain ⟨hl150, hsh⟩ := HRT.out zs rfl
  have HRows : Hid (∀ m, Says t m → zs = m.row ∧ m.ok = true ∧ m.pack = (t, 0)) := fun m hm => by
    obtain ⟨e, h1, h2⟩ := HSay.out m hm
    simp at e
    exact ⟨e, h1, h2⟩
  obtain ⟨Al, cl, rfl⟩ := own_slice hown
  have HOwn := Lib.hid (And.intro hown (And.intro hsh hl150))
  have HB := Lib.hid hB
  clear hown hB hsh HRT HTwo HSay hW0
  by_cases h7 : zs.length < 7
  · have j1 : (zs.length : Int) < 7 := by omega
    obtain ⟨u1, u2, u3, u4, u5, u6, u7, u8, ⟨e0, d0, f0⟩, ⟨e1, d1, f1⟩, ⟨e2, d2, f2⟩, ⟨e3, d3, f3⟩, ⟨e4, d4, f4⟩, ⟨e5, d5, f5⟩, ⟨e6, d6, f6⟩, ⟨e7, d7, f7⟩, HFu⟩ := HFail.out (fun m hm => by
      obtain ⟨e, ho, _⟩ := HRows.out m hm
      have := (msg4_row ho).1
      rw [← e] at this
      omega) w1 (Below.refl _ _)
    clear h7
    go_wp2
    refine bodyPost_ret (results_both rfl _ _ w.heap.size 55 _ (0, 0) _ rfl HFu.out.1 Try.underlying55 rfl (by kernel_rfl)) rfl ?_
    exact HFu.out.2
  have j1 : ¬ (zs.length : Int) < 7 := by omega
  obtain ⟨gl, rfl⟩ : ∃ gl, Al = some ⟨gl, 0, none⟩ := by
    rcases HOwn.out.1.2 with ⟨_, h0⟩ | ⟨g, cap, cur, e, _⟩
    · have h0' : zs.length = 0 := h0
      omega
    · cases e; exact ⟨g, rfl⟩
  have hgl := (HOwn.out.1.lt gl rfl).2
  obtain ⟨N, hN⟩ : ∃ N, min 15 zs.length = N := ⟨_, rfl⟩
  have hNb : 7 ≤ N ∧ N ≤ 15 ∧ N ≤ zs.length := by omega
  have HNb := Lib.hid (And.intro hNb hN)
  have HGl := Lib.hid hgl
  clear hNb hN hgl h7
  go_wp2
  go_loopg [6, 7] N (fun k v6 v7 wr => RNums w1 zs N k v6 v7 wr)
  case atStart => exact ⟨0, rfl, rfl, World.ownsRow_nil _ _ _ _, Below.refl _ _⟩
  case round =>
    obtain ⟨i, hk, rfl, hr6, hB⟩ := hrel
    obtain ⟨A6, c6, rfl⟩ := own_slice hr6
    have hNN := HNb.out
    by_cases hlt : i < N
    · obtain ⟨z, hz⟩ : ∃ z, zs[i]? = some z := ⟨_, List.getElem?_eq_getElem (by omega)⟩
      have hz0 := HOwn.out.1.cellAt i (show i < (zs, 0).fst.length * 1 by show i < zs.length * 1; omega)
      have hzc : wr.cell? ⟨gl, i, none⟩ = some (.string ⟨z.toArray⟩) := by
        rw [hB.cell (p := ⟨gl, i, none⟩) HGl.out, hz0]
        simp [strs, hz]
      have hzl : z.length ≤ maxLen := HOwn.out.2.1 z (List.mem_of_getElem? hz)
      have HV := Lib.hid (RValue_calls ⟨z.toArray⟩ (by rw [size_list]; exact hzl) wr)
      obtain ⟨q, hq⟩ : ∃ q, (Tm.valueT z).1 = q := ⟨_, rfl⟩
      obtain ⟨b, hb⟩ : ∃ b, (Tm.valueT z).2 = b := ⟨_, rfl⟩
      have e2 : (⟨z.toArray⟩ : ByteArray).data.toList = z := by simp
      rw [e2, hq, hb] at HV
      obtain ⟨r, hr⟩ : ∃ r, q % 4294967296 = r := ⟨_, rfl⟩
      have hrI : (q : Int) % 4294967296 = (r : Int) := by omega
      have hrb : (r : Int) < 4294967296 := by omega
      have hq0 : (0 : Int) ≤ (q : Int) := by omega
      have hrt : (q : Int).tmod 4294967296 = (r : Int) := by rw [Int.tmod_eq_emod_of_nonneg hq0]; exact hrI
      have hw : IntKind.i64.wrap (r : Int) = (r : Int) := by rw [IntKind.wrap_i64]; omega
      have hn4 : num4 z = (r : Int) := by unfold num4; rw [hq, hr]
      have j2 : (i : Int) < (zs.length : Int) := by omega
      have j3 : (i : Int) < 15 := by omega
      have j4 : (0 : Int) ≤ (i : Int) := by omega
      have hmm := Lib.hid (show gk - 1 < gk by omega)
      have hfin : Hid (∀ n, ((wr.drewN n).alloc (.cells #[.int .i64 (r : Int)] 3)).ownsRow w1.heap.size 3 1 (.slice A6 i c6) i (intV ((zs.take i).map num4)) ∧ w1.heap.size ≤ ((wr.drewN n).alloc (.cells #[.int .i64 (r : Int)] 3)).heap.size ∧
          ∀ v5 w5, w5.ownsRow w1.heap.size 3 1 v5 (i + 1) (intV ((zs.take i).map num4) ++ [.int .i64 (r : Int)]) → ((wr.drewN n).alloc (.cells #[.int .i64 (r : Int)] 3)).grownBy w5 (Value.slice A6 i c6).ownBlock → RNums w1 zs N (gk - 1) v5 (.int .i64 ((i + 1 : Nat) : Int)) w5) := fun n => by
        have hd := below_drewN hB n
        refine ⟨(own_below hr6 (below_drewN (Below.refl _ wr) n)).alloc _, by have := hB.size; simp; exact Nat.le_succ_of_le this, fun v5 w5 k1 k2 => ⟨i + 1, by omega, rfl, ?_, hd.grown (grow_trans (World.grownBy_alloc (wr.drewN n) _ _) k2) hd.size (fun q e => (hr6.lt q e).1)⟩⟩
        have ht : zs.take (i + 1) = zs.take i ++ [z] := by rw [List.take_add_one, hz]; rfl
        rw [ht]
        simpa [intV, hn4] using k1
      have HIb := Lib.hid (show i ≤ 15 by omega)
      clear hr6 hB hk hz hz0 hzl hq hb e2 hr hn4 hlt hNN
      go_wp2_with fail
      refine HV.out.mono ?_
      rintro e w4 ⟨rfl, md, rfl⟩
      obtain ⟨q1, q2, q3⟩ := hfin.out md
      have HQ1 := Lib.hid q1
      have HQ2 := Lib.hid q2
      have HQ3 := Lib.hid q3
      have hsz : (wr.drewN md).heap.size = wr.heap.size := rfl
      clear q1 q2 q3 hfin HV hzc
      go_wp2_with (at_builtin; refine wpList_append_own_at _ rfl _ _ 37 rfl w1.heap.size 3 j0 _ 1 8 Try.underlying37 hj hy0 hy1 hy2 rfl (by decide) _ _ _ rfl HQ1.out ⟨wr.heap.size, 0, none⟩ 1 1 [.int .i64 (r : Int)] rfl rfl (cell_one_new (wr.drewN md) _ _) (by simp [Value.oneCell']) (by have := HIb.out; unfold maxLen; omega) (by have := HIb.out; omega) HQ2.out ?_; intro v5 w5 hown5 hgrow5 hnil5 hat5; have HF := Lib.hid (HQ3.out v5 w5 hown5 hgrow5); clear hown5 hgrow5 hnil5 hat5)
      go_roundg (gk - 1)
      case measure => exact hmm.out
      case rel => simpa using HF.out
    · obtain rfl : i = N := by omega
      have hnum : (zs.take i).map num4 = nums4 zs := by
        unfold nums4
        congr 1
        rw [← HNb.out.2]
        rcases Nat.le_total 15 zs.length with h | h
        · rw [Nat.min_eq_left h]
        · rw [Nat.min_eq_right h, List.take_of_length_le h, List.take_of_length_le (Nat.le_refl _)]
      have hnl : (nums4 zs).length = i := by unfold nums4; rw [List.length_map, List.length_take]; exact HNb.out.2
      rw [hnum] at hr6
      obtain ⟨g, rfl⟩ : ∃ g, A6 = some ⟨g, 0, none⟩ := by
        rcases hr6.2 with ⟨_, h0⟩ | ⟨g, cap, cur, e, _⟩
        · omega
        · cases e; exact ⟨g, rfl⟩
      have hcap6 : i ≤ c6 ∧ c6 ≤ maxLen := by
        rcases hr6.2 with ⟨h0, _⟩ | ⟨g', cap, cur, e, _, _, h1, h2, _⟩
        · cases h0
        · cases e; exact ⟨h1, h2⟩
      have hcapl : zs.length ≤ cl ∧ cl ≤ maxLen := by
        rcases HOwn.out.1.2 with ⟨h0, _⟩ | ⟨g', cap, cur, e, _, _, h1, h2, _⟩
        · cases h0
        · cases e; exact ⟨h1, h2⟩
      have hcj : ∀ j, j < i → wr.cell? ⟨g, j, none⟩ = some (.int .i64 ((nums4 zs).getD j 0)) := fun j hj => by
        rw [hr6.cellAt j (by omega)]
        simp only [intV, List.getElem?_map, List.getD]
        rw [List.getElem?_eq_getElem (by omega)]
        rfl
      have hpos : ∀ j, 0 ≤ (nums4 zs).getD j 0 ∧ (nums4 zs).getD j 0 ≤ 4294967295 := fun j => by
        rw [List.getD]
        cases hq : (nums4 zs)[j]? with
        | none => simp
        | some x =>
          obtain ⟨z, _, rfl⟩ := List.mem_map.1 (List.mem_of_getElem? hq)
          exact num4_bound z
      have n0 := hcj 0 (by omega)
      have n1 := hcj 1 (by omega)
      have n2 := hcj 2 (by omega)
      have n3 := hcj 3 (by omega)
      have n4 := hcj 4 (by omega)
      have n5 := hcj 5 (by omega)
      have n6 := hcj 6 (by omega)
      obtain ⟨K, hK⟩ : ∃ K, many4 zs = K := ⟨_, rfl⟩
      have hK6 : (nums4 zs).getD 6 0 = (K : Int) := by
        have := hpos 6
        rw [← hK]
        unfold many4
        omega
      rw [hK6] at n6
      have hg1 := (hr6.lt g rfl).1
      have hg2 := (hr6.lt g rfl).2
      have HNums := Lib.hid (And.intro hr6 (And.intro hnl (And.intro hpos (And.intro hg1 hg2))))
      have HKK := Lib.hid hK
      have HMsg : Hid (msg4 zs = ⟨(nums4 zs).getD 0 0, (nums4 zs).getD 1 0, (nums4 zs).getD 2 0, (nums4 zs).getD 3 0, (nums4 zs).getD 4 0, (nums4 zs).getD 5 0, ((nums4 zs).drop 7).take K, zs.drop (7 + K)⟩) := by show msg4 zs = _; unfold msg4; rw [hK]
      have HBn := Lib.hid hB
      have hKb : (K : Int) ≤ 4294967295 := by have := hpos 6; omega
      have HCaps := Lib.hid (And.intro hcap6 hcapl)
      have t7 : (7 : Int) ≤ (i : Int) := by omega
      have b0 : (0 : Int) < (i : Int) := by omega
      have b00 : 0 < i := by omega
      have b1 : (1 : Int) < (i : Int) := by omega
      have b2 : (2 : Int) < (i : Int) := by omega
      have b3 : (3 : Int) < (i : Int) := by omega
      have b4 : (4 : Int) < (i : Int) := by omega
      have b5 : (5 : Int) < (i : Int) := by omega
      have b6 : (6 : Int) < (i : Int) := by omega
      have hleni : (zs.length : Int) ≤ 150 := by have := HOwn.out.2.2; omega
      have hcase : (15 < zs.length ∧ i = 15) ∨ (zs.length ≤ 15 ∧ i = zs.length) := by have := HNb.out.2; omega
      generalize (nums4 zs).getD 0 0 = x0 at *
      generalize (nums4 zs).getD 1 0 = x1 at *
      generalize (nums4 zs).getD 2 0 = x2 at *
      generalize (nums4 zs).getD 3 0 = x3 at *
      generalize (nums4 zs).getD 4 0 = x4 at *
      generalize (nums4 zs).getD 5 0 = x5 at *
      clear hr6 hB hk hlt hNN hnum hnl hcap6 hcapl hcj hpos hK hK6 hg1 hg2
      by_cases h8 : 8 < K
      · have k8 : (8 : Int) < (K : Int) := by omega
        obtain ⟨u1, u2, u3, u4, u5, u6, u7, u8, ⟨e0, d0, f0⟩, ⟨e1, d1, f1⟩, ⟨e2, d2, f2⟩, ⟨e3, d3, f3⟩, ⟨e4, d4, f4⟩, ⟨e5, d5, f5⟩, ⟨e6, d6, f6⟩, ⟨e7, d7, f7⟩, HFu⟩ := HFail.out (fun m hm => by
          obtain ⟨e, ho, _⟩ := HRows.out m hm
          have := (msg4_row ho).2.1
          rw [← e, HKK.out] at this
          omega) wr HBn.out
        rcases hcase with ⟨q1, q2⟩ | ⟨q1, q2⟩
        all_goals
          first
          | (have p1 : (i : Int) < (zs.length : Int) := by omega
             have p2 : ¬ (i : Int) < 15 := by omega
             clear q1 q2 h8
             go_wp2
             refine bodyPost_ret (results_both rfl _ _ w.heap.size 55 _ (0, 0) _ rfl HFu.out.1 Try.underlying55 rfl (by kernel_rfl)) rfl ?_
             exact HFu.out.2)
          | (have p1 : ¬ (i : Int) < (zs.length : Int) := by omega
             clear q1 q2 h8
             go_wp2
             refine bodyPost_ret (results_both rfl _ _ w.heap.size 55 _ (0, 0) _ rfl HFu.out.1 Try.underlying55 rfl (by kernel_rfl)) rfl ?_
             exact HFu.out.2)
      have k8 : ¬ (8 : Int) < (K : Int) := by omega
      by_cases h9 : zs.length < 7 + K
      · have k9 : (zs.length : Int) < 7 + (K : Int) := by omega
        obtain ⟨u1, u2, u3, u4, u5, u6, u7, u8, ⟨e0, d0, f0⟩, ⟨e1, d1, f1⟩, ⟨e2, d2, f2⟩, ⟨e3, d3, f3⟩, ⟨e4, d4, f4⟩, ⟨e5, d5, f5⟩, ⟨e6, d6, f6⟩, ⟨e7, d7, f7⟩, HFu⟩ := HFail.out (fun m hm => by
          obtain ⟨e, ho, _⟩ := HRows.out m hm
          have := (msg4_row ho).2.2.1
          rw [← e, HKK.out] at this
          omega) wr HBn.out
        rcases hcase with ⟨q1, q2⟩ | ⟨q1, q2⟩
        all_goals
          first
          | (have p1 : (i : Int) < (zs.length : Int) := by omega
             have p2 : ¬ (i : Int) < 15 := by omega
             clear q1 q2 h8 h9
             go_wp2
             refine bodyPost_ret (results_both rfl _ _ w.heap.size 55 _ (0, 0) _ rfl HFu.out.1 Try.underlying55 rfl (by kernel_rfl)) rfl ?_
             exact HFu.out.2)
          | (have p1 : ¬ (i : Int) < (zs.length : Int) := by omega
             clear q1 q2 h8 h9
             go_wp2
             refine bodyPost_ret (results_both rfl _ _ w.heap.size 55 _ (0, 0) _ rfl HFu.out.1 Try.underlying55 rfl (by kernel_rfl)) rfl ?_
             exact HFu.out.2)
      have k9 : ¬ (zs.length : Int) < 7 + (K : Int) := by omega
      have hKi : 7 + K ≤ i := by omega
      have HKi := Lib.hid (And.intro hKi (show 7 + K ≤ zs.length by omega))
      rcases hcase with ⟨q1, q2⟩ | ⟨q1, q2⟩
      all_goals
        first
        | (have p1 : (i : Int) < (zs.length : Int) := by omega
           have p2 : ¬ (i : Int) < 15 := by omega)
        | (have p1 : ¬ (i : Int) < (zs.length : Int) := by omega)
        have HIL := Lib.hid (And.intro q1 q2)
        clear q1 q2 h8 h9 hKi
        go_wp2
        go_region_held3 (fun w' => w'.cell? ⟨g, 0, none⟩ = some (.int .i64 x0) ∧ w'.cell? ⟨g, 1, none⟩ = some (.int .i64 x1) ∧ w'.cell? ⟨g, 2, none⟩ = some (.int .i64 x2) ∧ w'.cell? ⟨g, 3, none⟩ = some (.int .i64 x3) ∧ w'.cell? ⟨g, 4, none⟩ = some (.int .i64 x4) ∧ w'.cell? ⟨g, 5, none⟩ = some (.int .i64 x5)) (go_keep) (fail)
        obtain ⟨bx, hbx⟩ : ∃ bx, wr.heap.size = bx := ⟨_, rfl⟩
        have hY0 : ((wr.alloc (.cells #[.int .i64 x0, .int .i64 x1, .int .i64 x2, .int .i64 x3, .int .i64 x4, .int .i64 x5, .slice none 0 0, .slice none 0 0] 55)).drew).heap[bx]? = some (.cells #[.int .i64 x0, .int .i64 x1, .int .i64 x2, .int .i64 x3, .int .i64 x4, .int .i64 x5, .slice none 0 0, .slice none 0 0] 55 (0, 0)) := by rw [← hbx]; exact World.alloc_heap_new _ _
        have hYB : Below wr.heap.size wr ((wr.alloc (.cells #[.int .i64 x0, .int .i64 x1, .int .i64 x2, .int .i64 x3, .int .i64 x4, .int .i64 x5, .slice none 0 0, .slice none 0 0] 55)).drew) := below_drewN ((Below.refl _ wr).alloc (Nat.le_refl _) _) 1
        have hYs : ((wr.alloc (.cells #[.int .i64 x0, .int .i64 x1, .int .i64 x2, .int .i64 x3, .int .i64 x4, .int .i64 x5, .slice none 0 0, .slice none 0 0] 55)).drew).heap.size = bx + 1 := by rw [← hbx]; simp
        rw [hbx]
        generalize (wr.alloc (.cells #[.int .i64 x0, .int .i64 x1, .int .i64 x2, .int .i64 x3, .int .i64 x4, .int .i64 x5, .slice none 0 0, .slice none 0 0] 55)).drew = Y0 at *
        have HY0 := Lib.hid (And.intro hY0 (And.intro hYB (And.intro hYs hbx)))
        clear hY0 hYB hYs hbx n0 n1 n2 n3 n4 n5 n6 b0 b00 b1 b2 b3 b4 b5 b6
        have HTail : Hid (∀ vm vt, ∃ Y1 Y2, Y0.setCell ⟨bx, 6, none⟩ vm = Y1 ∧ Y0.cell? ⟨bx, 6, none⟩ = some (.slice none 0 0) ∧ Y0.frozen? ⟨bx, 6, none⟩ = false ∧ Y1.setCell ⟨bx, 7, none⟩ vt = Y2 ∧ Y1.cell? ⟨bx, 7, none⟩ = some (.slice none 0 0) ∧ Y1.frozen? ⟨bx, 7, none⟩ = false ∧ Hid (Y2.heap[bx]? = some (.cells #[.int .i64 x0, .int .i64 x1, .int .i64 x2, .int .i64 x3, .int .i64 x4, .int .i64 x5, vm, vt] 55 (0, 0)) ∧ Below wr.heap.size wr Y2 ∧ Y2.heap.size = bx + 1 ∧ wr.heap.size = bx)) := fun vm vt => by
          obtain ⟨hY0, hYB, hYs, hbx⟩ := HY0.out
          have h1 : (Y0.setCell ⟨bx, 6, none⟩ vm).heap[bx]? = some (.cells #[.int .i64 x0, .int .i64 x1, .int .i64 x2, .int .i64 x3, .int .i64 x4, .int .i64 x5, vm, .slice none 0 0] 55 (0, 0)) := set_blk hY0 vm
          have h2 : ((Y0.setCell ⟨bx, 6, none⟩ vm).setCell ⟨bx, 7, none⟩ vt).heap[bx]? = some (.cells #[.int .i64 x0, .int .i64 x1, .int .i64 x2, .int .i64 x3, .int .i64 x4, .int .i64 x5, vm, vt] 55 (0, 0)) := set_blk h1 vt
          exact ⟨_, _, rfl, blk_cell hY0, blk_frozen hY0, rfl, blk_cell h1, blk_frozen h1, h2, (hYB.setCell (by simp [hbx]) _).setCell (by simp [hbx]) _, by simp [World.setCell, hYs], hbx⟩
        have HM : Hid (∀ V vm vt, V.heap[g]? = wr.heap[g]? → V.heap[gl]? = wr.heap[gl]? → wr.heap.size ≤ V.heap.size → ((c6 = 7 ∧ vm = .slice (some ⟨g, 0, none⟩) K 0) ∨ vm = .slice (some ⟨g, 7, none⟩) K (c6 - 7)) → ((cl = 7 + K ∧ vt = .slice (some ⟨gl, 0, none⟩) (zs.length - (7 + K)) 0) ∨ vt = .slice (some ⟨gl, 7 + K, none⟩) (zs.length - (7 + K)) (cl - (7 + K))) → MsgA V ⟨x0, x1, x2, x3, x4, x5, ((nums4 zs).drop 7).take K, zs.drop (7 + K)⟩ vm vt) := fun V vm vt v1 v2 v3 a1 a2 => by
          obtain ⟨hr6, hnl, hpos, hg1, hg2⟩ := HNums.out
          obtain ⟨hK1, hK2⟩ := HKi.out
          obtain ⟨⟨ca1, ca2⟩, cb1, cb2⟩ := HCaps.out
          have hml : (((nums4 zs).drop 7).take K).length = K := by rw [List.length_take, List.length_drop]; omega
          have htl : (zs.drop (7 + K)).length = zs.length - (7 + K) := List.length_drop
          have hmc : ∀ j x, (((nums4 zs).drop 7).take K)[j]? = some x → j < K ∧ V.cell? ⟨g, 7 + j, none⟩ = some (.int .i64 x) := fun j x hx => by
            have hjK : j < K := by have := (List.getElem?_eq_some_iff.1 hx).1; omega
            rw [List.getElem?_take, if_pos hjK, List.getElem?_drop] at hx
            refine ⟨hjK, ?_⟩
            rw [World.cell?_of_block (a := ⟨g, 7 + j, none⟩) v1, hr6.cellAt (7 + j) (by omega)]
            simp [intV, hx]
          have htc : ∀ j z, (zs.drop (7 + K))[j]? = some z → V.cell? ⟨gl, 7 + K + j, none⟩ = some (.string ⟨z.toArray⟩) ∧ gl < V.heap.size ∧ z.length ≤ maxLen := fun j z hz => by
            have hjl := (List.getElem?_eq_some_iff.1 hz).1
            rw [List.getElem?_drop] at hz
            refine ⟨?_, by have := HGl.out; have := HBn.out.size; omega, HOwn.out.2.1 z (List.mem_of_getElem? hz)⟩
            rw [World.cell?_of_block (a := ⟨gl, 7 + K + j, none⟩) v2, HBn.out.cell (p := ⟨gl, 7 + K + j, none⟩) HGl.out]
            rw [HOwn.out.1.cellAt (7 + K + j) (show 7 + K + j < zs.length * 1 by omega)]
            simp [strs, hz]
          refine ⟨⟨?_, fun x hx => ?_, by show (((nums4 zs).drop 7).take K).length ≤ maxLen; rw [hml]; unfold maxLen; omega⟩, ⟨?_, fun z hz => ?_, by show (zs.drop (7 + K)).length ≤ maxLen; rw [htl]; unfold maxLen; omega⟩⟩
          · show ∃ A c, vm = .slice A (((nums4 zs).drop 7).take K).length c ∧ _
            rw [hml]
            rcases a1 with ⟨c7, rfl⟩ | rfl
            · exact ⟨_, _, rfl, fun j x hx => absurd (hmc j x hx).1 (by omega)⟩
            · refine ⟨_, _, rfl, fun j x hx => ⟨⟨g, 7, none⟩, rfl, by show g < V.heap.size; omega, ?_⟩⟩
              have e2 : (⟨g, 7, none⟩ : Addr).add j = ⟨g, 7 + j, none⟩ := by unfold Addr.add; split <;> simp_all
              rw [e2]
              exact (hmc j x hx).2
          · obtain ⟨z, _, rfl⟩ := List.mem_map.1 (List.mem_of_mem_drop (List.mem_of_mem_take hx))
            have := num4_bound z
            omega
          · show ∃ A c, vt = .slice A (zs.drop (7 + K)).length c ∧ _
            rw [htl]
            rcases a2 with ⟨cz, rfl⟩ | rfl
            · refine ⟨_, _, rfl, fun j z hz => ?_⟩
              have := (List.getElem?_eq_some_iff.1 hz).1
              rw [List.length_drop] at this
              omega
            · refine ⟨_, _, rfl, fun j z hz => ⟨⟨gl, 7 + K, none⟩, rfl, (htc j z hz).2.1, id, ?_⟩⟩
              have e2 : (⟨gl, 7 + K, none⟩ : Addr).add j = ⟨gl, 7 + K + j, none⟩ := by unfold Addr.add; split <;> simp_all
              rw [e2]
              exact (htc j z hz).1
          · obtain ⟨j, hj⟩ := List.getElem?_of_mem hz
            exact (htc j z hj).2.2
        have HEnd : Hid (∀ vm vt, ((c6 = 7 ∧ vm = .slice (some ⟨g, 0, none⟩) K 0) ∨ vm = .slice (some ⟨g, 7, none⟩) K (c6 - 7)) → ((cl = 7 + K ∧ vt = .slice (some ⟨gl, 0, none⟩) (zs.length - (7 + K)) 0) ∨ vt = .slice (some ⟨gl, 7 + K, none⟩) (zs.length - (7 + K)) (cl - (7 + K))) →
            ∃ Y1 Y2, Y0.setCell ⟨bx, 6, none⟩ vm = Y1 ∧ Y0.cell? ⟨bx, 6, none⟩ = some (.slice none 0 0) ∧ Y0.frozen? ⟨bx, 6, none⟩ = false ∧ Y1.setCell ⟨bx, 7, none⟩ vt = Y2 ∧ Y1.cell? ⟨bx, 7, none⟩ = some (.slice none 0 0) ∧ Y1.frozen? ⟨bx, 7, none⟩ = false ∧
              (∀ V, Below Y2.heap.size Y2 V → V.cell? ⟨bx, 0, none⟩ = some (.int .i64 x0) ∧ V.cell? ⟨bx, 1, none⟩ = some (.int .i64 x1) ∧ V.cell? ⟨bx, 2, none⟩ = some (.int .i64 x2) ∧ V.cell? ⟨bx, 3, none⟩ = some (.int .i64 x3) ∧ V.cell? ⟨bx, 4, none⟩ = some (.int .i64 x4) ∧ V.cell? ⟨bx, 5, none⟩ = some (.int .i64 x5) ∧ V.cell? ⟨bx, 6, none⟩ = some vm ∧ V.cell? ⟨bx, 7, none⟩ = some vt) ∧
              Calls Try.prog 30 #[.agg #[.int .i64 x0, .int .i64 x1, .int .i64 x2, .int .i64 x3, .int .i64 x4, .int .i64 x5, vm, vt]] Y2 (fun e V => e = .returned (.tuple #[.string ⟨(Msg.pack ⟨x0, x1, x2, x3, x4, x5, ((nums4 zs).drop 7).take K, zs.drop (7 + K)⟩).1.toArray⟩, .int .i64 ((Msg.pack ⟨x0, x1, x2, x3, x4, x5, ((nums4 zs).drop 7).take K, zs.drop (7 + K)⟩).2 : Nat)]) ∧ Below Y2.heap.size Y2 V ∧ Below w1.heap.size w1 V) ∧
              (∀ V, Below Y2.heap.size Y2 V → Msg.pack ⟨x0, x1, x2, x3, x4, x5, ((nums4 zs).drop 7).take K, zs.drop (7 + K)⟩ = (t, 0) → ∃ u1 u2 u3 u4 u5 u6 u7 u8 : World, (V.setCell ⟨w.heap.size, 0, none⟩ (.int .i64 x0) = u1 ∧ V.cell? ⟨w.heap.size, 0, none⟩ = some (.int .i64 0) ∧ V.frozen? ⟨w.heap.size, 0, none⟩ = false) ∧ (u1.setCell ⟨w.heap.size, 1, none⟩ (.int .i64 x1) = u2 ∧ u1.cell? ⟨w.heap.size, 1, none⟩ = some (.int .i64 0) ∧ u1.frozen? ⟨w.heap.size, 1, none⟩ = false) ∧ (u2.setCell ⟨w.heap.size, 2, none⟩ (.int .i64 x2) = u3 ∧ u2.cell? ⟨w.heap.size, 2, none⟩ = some (.int .i64 0) ∧ u2.frozen? ⟨w.heap.size, 2, none⟩ = false) ∧ (u3.setCell ⟨w.heap.size, 3, none⟩ (.int .i64 x3) = u4 ∧ u3.cell? ⟨w.heap.size, 3, none⟩ = some (.int .i64 0) ∧ u3.frozen? ⟨w.heap.size, 3, none⟩ = false) ∧ (u4.setCell ⟨w.heap.size, 4, none⟩ (.int .i64 x4) = u5 ∧ u4.cell? ⟨w.heap.size, 4, none⟩ = some (.int .i64 0) ∧ u4.frozen? ⟨w.heap.size, 4, none⟩ = false) ∧ (u5.setCell ⟨w.heap.size, 5, none⟩ (.int .i64 x5) = u6 ∧ u5.cell? ⟨w.heap.size, 5, none⟩ = some (.int .i64 0) ∧ u5.frozen? ⟨w.heap.size, 5, none⟩ = false) ∧ (u6.setCell ⟨w.heap.size, 6, none⟩ vm = u7 ∧ u6.cell? ⟨w.heap.size, 6, none⟩ = some (.slice none 0 0) ∧ u6.frozen? ⟨w.heap.size, 6, none⟩ = false) ∧ (u7.setCell ⟨w.heap.size, 7, none⟩ vt = u8 ∧ u7.cell? ⟨w.heap.size, 7, none⟩ = some (.slice none 0 0) ∧ u7.frozen? ⟨w.heap.size, 7, none⟩ = false) ∧
                Hid (u8.heap[w.heap.size]? = some (.cells #[.int .i64 x0, .int .i64 x1, .int .i64 x2, .int .i64 x3, .int .i64 x4, .int .i64 x5, vm, vt] 55 (0, 0)) ∧ UnpackOut w t (.returned (.tuple #[.agg #[.int .i64 x0, .int .i64 x1, .int .i64 x2, .int .i64 x3, .int .i64 x4, .int .i64 x5, vm, vt], .int .i64 0])) u8))) := fun vm vt a1 a2 => by
          obtain ⟨Y1, Y2, r1, r2, r3, r4, r5, r6, hY2, hYB, hYs, hbx⟩ := HTail.out vm vt
          obtain ⟨hr6, hnl, hpos, hg1, hg2⟩ := HNums.out
          obtain ⟨hK1, hK2⟩ := HKi.out
          have hB1 := HBn.out
          have hsz1 := hB1.size
          have hgl := HGl.out
          have hglo : W0.heap.size ≤ gl := (HOwn.out.1.lt gl rfl).1
          have hsB := HB.out.size
          have hs0 := HS0.out
          have nm : ∀ n c, vm = .slice none n c → c = 0 := fun n c e => by rcases a1 with ⟨_, h⟩ | h <;> rw [h] at e <;> cases e
          have nt : ∀ n c, vt = .slice none n c → c = 0 := fun n c e => by rcases a2 with ⟨_, h⟩ | h <;> rw [h] at e <;> cases e
          have htl : (zs.drop (7 + K)).length ≤ 900 := by rw [List.length_drop]; have := HOwn.out.2.2; omega
          refine ⟨Y1, Y2, r1, r2, r3, r4, r5, r6, fun V hV => ?_, ?_, fun V hV hp => ?_⟩
          · have k : ∀ j, V.cell? ⟨bx, j, none⟩ = (#[.int .i64 x0, .int .i64 x1, .int .i64 x2, .int .i64 x3, .int .i64 x4, .int .i64 x5, vm, vt] : Array Value)[j]? := fun j => (hV.cell (p := ⟨bx, j, none⟩) (by show bx < Y2.heap.size; omega)).trans (blk_cell hY2)
            exact ⟨k 0, k 1, k 2, k 3, k 4, k 5, k 6, k 7⟩
          · refine (pack4_calls ⟨x0, x1, x2, x3, x4, x5, ((nums4 zs).drop 7).take K, zs.drop (7 + K)⟩ vm vt Y2 (HM.out Y2 vm vt (hYB.block g hg2) (hYB.block gl (by omega)) hYB.size a1 a2) nm nt htl).mono ?_
            rintro e V ⟨h1, h2⟩
            exact ⟨h1, h2, (hB1.trans (hYB.mono hsz1)).trans (h2.mono (Nat.le_trans hsz1 hYB.size))⟩
          · have hb := (HR0.out V (HB.out.trans (((hB1.trans (hYB.mono hsz1)).trans (hV.mono (Nat.le_trans hsz1 hYB.size))).mono hsB))).1
            obtain ⟨u1, u2, u3, u4, u5, u6, u7, u8, p0, p1, p2, p3, p4, p5, p6, p7, hlast, hu1, hu2⟩ := store8 (.int .i64 x0) (.int .i64 x1) (.int .i64 x2) (.int .i64 x3) (.int .i64 x4) (.int .i64 x5) vm vt hb
            refine ⟨u1, u2, u3, u4, u5, u6, u7, u8, p0, p1, p2, p3, p4, p5, p6, p7, hlast, ?_⟩
            have hbV := (HR0.out V (HB.out.trans (((hB1.trans (hYB.mono hsz1)).trans (hV.mono (Nat.le_trans hsz1 hYB.size))).mono hsB))).2
            have hgs : ∀ q, q < wr.heap.size → w.heap.size < q → u8.heap[q]? = wr.heap[q]? := fun q q1 q2 => (hu2 q (by omega)).trans ((hV.block q (by have := hYB.size; omega)).trans (hYB.block q q1))
            exact .inl ⟨⟨x0, x1, x2, x3, x4, x5, ((nums4 zs).drop 7).take K, zs.drop (7 + K)⟩, vm, vt, HPS.out _ hp, rfl, HM.out u8 vm vt (hgs g hg2 (by omega)) (hgs gl (by omega) (by omega)) (by have := hu1.size; have := hV.size; have := hYB.size; omega) a1 a2, nt, hbV.trans (hu1.mono (Nat.le_refl _))⟩
        have HNo : Hid (Msg.pack ⟨x0, x1, x2, x3, x4, x5, ((nums4 zs).drop 7).take K, zs.drop (7 + K)⟩ ≠ (t, 0) → ∀ m, Says t m → False) := fun hne m hm => by
          obtain ⟨e, ho, hp⟩ := HRows.out m hm
          have h4 := (msg4_row ho).2.2.2
          rw [← e, HMsg.out] at h4
          exact hne (h4 ▸ hp)
        clear HM HTail
        generalize hpk : Msg.pack ⟨x0, x1, x2, x3, x4, x5, ((nums4 zs).drop 7).take K, zs.drop (7 + K)⟩ = pk at *
        clear hpk HMsg
        have s1 : (7 : Int) ≤ 7 + (K : Int) := by omega
        have s2 : 7 + (K : Int) ≤ (c6 : Int) := by have := HCaps.out; have := HKi.out; omega
        have s3 : 7 + (K : Int) ≤ (zs.length : Int) := by have := HKi.out; omega
        have s4 : (zs.length : Int) ≤ (cl : Int) := by have := HCaps.out; omega
        have s5 : (7 + (K : Int)).toNat = 7 + K := by omega
        have hsplit : ((∃ _ : c6 = 7, True) ∨ ¬ c6 = 7) ∧ ((∃ _ : cl = 7 + K, True) ∨ ¬ cl = 7 + K) := by
          refine ⟨?_, ?_⟩
          · by_cases h : c6 = 7
            · exact .inl ⟨h, trivial⟩
            · exact .inr h
          · by_cases h : cl = 7 + K
            · exact .inl ⟨h, trivial⟩
            · exact .inr h
        have himp : cl = 7 + K → 15 < zs.length → False := fun h1 h2 => by have := HCaps.out; omega
        have hway : Hid (cl = 7 + K → 15 < zs.length → False) := himp
        clear himp
        obtain ⟨hsp1, hsp2⟩ := hsplit
        have HSp1 := Lib.hid hsp1
        clear hsp1
        rcases hsp2 with ⟨hce, _⟩ | hcl
        all_goals
          first
          | (exfalso; exact hway.out hce HIL.out.1)
          | skip
        all_goals
          first
          | subst hce
          | skip
          obtain ⟨rfl, _⟩ | hc6 := HSp1.out
        all_goals
          first
          | obtain ⟨Y1, Y2, r1, r2, r3, r4, r5, r6, hcs, hcall, hfin⟩ := HEnd.out (.slice (some ⟨g, 0, none⟩) K 0) (.slice (some ⟨gl, 0, none⟩) (zs.length - (7 + K)) 0) (.inl ⟨rfl, rfl⟩) (.inl ⟨rfl, rfl⟩)
          | obtain ⟨Y1, Y2, r1, r2, r3, r4, r5, r6, hcs, hcall, hfin⟩ := HEnd.out (.slice (some ⟨g, 0, none⟩) K 0) (.slice (some ⟨gl, 7 + K, none⟩) (zs.length - (7 + K)) (cl - (7 + K))) (.inl ⟨rfl, rfl⟩) (.inr rfl)
          | obtain ⟨Y1, Y2, r1, r2, r3, r4, r5, r6, hcs, hcall, hfin⟩ := HEnd.out (.slice (some ⟨g, 7, none⟩) K (c6 - 7)) (.slice (some ⟨gl, 0, none⟩) (zs.length - (7 + K)) 0) (.inr rfl) (.inl ⟨rfl, rfl⟩)
          | obtain ⟨Y1, Y2, r1, r2, r3, r4, r5, r6, hcs, hcall, hfin⟩ := HEnd.out (.slice (some ⟨g, 7, none⟩) K (c6 - 7)) (.slice (some ⟨gl, 7 + K, none⟩) (zs.length - (7 + K)) (cl - (7 + K))) (.inr rfl) (.inr rfl)
          have HCs := Lib.hid hcs
          have HCall := Lib.hid hcall
          have HFin2 := Lib.hid hfin
          obtain ⟨l0, l1, l2, l3, l4, l5, l6, l7⟩ := hcs Y2 (Below.refl _ _)
          clear hcs hcall hfin HEnd HSp1
          go_wp2_with fail
          refine HCall.out.mono ?_
          rintro e V ⟨rfl, b1, b2⟩
          have HB2 := Lib.hid (And.intro b1 b2)
          clear b1 b2 l0 l1 l2 l3 l4 l5 l6 l7 r1 r2 r3 r4 r5 r6 s1 s2 s3 s4 s5 k8 k9 t7
          obtain ⟨l0, l1, l2, l3, l4, l5, l6, l7⟩ := HCs.out V HB2.out.1
          by_cases hok : pk = (t, 0)
          · subst hok
            obtain ⟨u1, u2, u3, u4, u5, u6, u7, u8, ⟨e0, d0, f0⟩, ⟨e1, d1, f1⟩, ⟨e2, d2, f2⟩, ⟨e3, d3, f3⟩, ⟨e4, d4, f4⟩, ⟨e5, d5, f5⟩, ⟨e6, d6, f6⟩, ⟨e7, d7, f7⟩, HFu⟩ := HFin2.out V HB2.out.1 rfl
            clear HFin2 HCall HCs HNo HFail
            go_wp2
            refine bodyPost_ret (results_both rfl _ _ w.heap.size 55 _ (0, 0) _ rfl HFu.out.1 Try.underlying55 rfl (by kernel_rfl)) rfl ?_
            exact HFu.out.2
          · obtain ⟨u1, u2, u3, u4, u5, u6, u7, u8, ⟨e0, d0, f0⟩, ⟨e1, d1, f1⟩, ⟨e2, d2, f2⟩, ⟨e3, d3, f3⟩, ⟨e4, d4, f4⟩, ⟨e5, d5, f5⟩, ⟨e6, d6, f6⟩, ⟨e7, d7, f7⟩, HFu⟩ := HFail.out (HNo.out hok) V HB2.out.2
            obtain ⟨pt, pe⟩ := pk
            by_cases hpe : pe = 0
            · subst hpe
              have hpt : (pt == t) = false := beq_eq_false_iff_ne.2 (fun e => hok (by rw [e]))
              clear hok HFin2 HCall HCs HNo HFail
              go_wp2
              refine bodyPost_ret (results_both rfl _ _ w.heap.size 55 _ (0, 0) _ rfl HFu.out.1 Try.underlying55 rfl (by kernel_rfl)) rfl ?_
              exact HFu.out.2
            · have hq : ((pe : Int) != 0) = true := by rw [bne_iff_ne]; omega
              clear hok HFin2 HCall HCs HNo HFail
              go_wp2
              refine bodyPost_ret (results_both rfl _ _ w.heap.size 55 _ (0, 0) _ rfl HFu.out.1 Try.underlying55 rfl (by kernel_rfl)) rfl ?_
              exact HFu.out.2

end Go.Proofs.Ytloheongiceliaa.L4
end

section
namespace Go.Proofs.Ytloheongiceliaa.L4
open Go.ChangeShapes Go.WideShapes Go.ChangeAt Go.RowKit

theorem own_rowA4 {W : World} {B : Nat} {v : Value} {zs : List (List UInt8)} (h : W.ownsRow B 9 1 v zs.length (strs zs)) (hs : ∀ z ∈ zs, z.length ≤ maxLen) (hf : zs.length ≤ maxLen) : RowA W v zs := by
  rcases h.2 with ⟨rfl, h0⟩ | ⟨g, cap, cur, rfl, h1, h2, h3, h4, h5, h6⟩
  · obtain rfl : zs = [] := List.length_eq_zero_iff.1 h0
    exact ⟨⟨none, 0, rfl, fun j x hx => by simp at hx⟩, hs, hf⟩
  · refine ⟨⟨_, cap, rfl, fun j x hx => ⟨⟨g, 0, none⟩, rfl, (Array.getElem?_eq_some_iff.1 h2).1, id, ?_⟩⟩, hs, hf⟩
    exact h.cells (g := g) rfl j _ (by unfold strs; rw [List.getElem?_map, hx]; rfl)
def Msg.zero : Msg := ⟨0, 0, 0, 0, 0, 0, [], []⟩
open Classical in
/-- What Unpack tells of a text. -/
noncomputable def unp (t : List UInt8) : Msg × Nat := if h : ∃ m, Says t m then (Classical.choose h, 0) else (Msg.zero, 2)
theorem unp_out {w w' : World} {t : List UInt8} {e : Ending} (h : UnpackOut w t e w') : ∃ A5 c5 A6 c6, e = .returned (.tuple #[.agg (msgCells (unp t).1 (.slice A5 (unp t).1.mem.length c5) (.slice A6 (unp t).1.terms.length c6)), .int .i64 ((unp t).2 : Nat)]) ∧ MsgA w' (unp t).1 (.slice A5 (unp t).1.mem.length c5) (.slice A6 (unp t).1.terms.length c6) ∧ Below w.heap.size w w' := by
  rcases h with ⟨m, vm, vt, hs, rfl, hM, _, hB⟩ | ⟨rfl, hno, hB⟩
  · have hex : ∃ m, Says t m := ⟨m, hs⟩
    have e : unp t = (m, 0) := by
      unfold unp
      rw [dif_pos hex]
      rw [says_one (Classical.choose_spec hex) hs]
    rw [e]
    obtain ⟨A, c, rfl⟩ : ∃ A c, vm = .slice A m.mem.length c := by obtain ⟨⟨A, c, e, k⟩, f⟩ := hM.mem; exact ⟨A, c, e⟩
    obtain ⟨B, d, rfl⟩ : ∃ A c, vt = .slice A m.terms.length c := by obtain ⟨⟨A, c, e, k⟩, f⟩ := hM.terms; exact ⟨A, c, e⟩
    exact ⟨A, c, B, d, rfl, hM, hB⟩
  · have e : unp t = (Msg.zero, 2) := by unfold unp; rw [dif_neg hno]
    rw [e]
    exact ⟨none, 0, none, 0, rfl, ⟨⟨⟨none, 0, rfl, fun j x hx => by simp [Msg.zero] at hx⟩, by simp [Msg.zero], by simp [Msg.zero]⟩, ⟨⟨none, 0, rfl, fun j x hx => by simp [Msg.zero] at hx⟩, by simp [Msg.zero], by simp [Msg.zero]⟩⟩, hB⟩

set_option maxRecDepth 100000 in
set_option maxHeartbeats 16000000 in
theorem packs_all (m : Msg) (vm vt : Value) (s : ByteArray) (w : World) (h : MsgA w m vm vt) (hnm : ∀ n c, vm = .slice none n c → c = 0) (hnt : ∀ n c, vt = .slice none n c → c = 0) (hs : s.size ≤ maxLen) :
    Calls Try.prog 5 #[.agg (msgCells m vm vt), .string s] w (One w (.bool true)) := by
  obtain ⟨A5, c5, rfl⟩ : ∃ A c, vm = .slice A m.mem.length c := by obtain ⟨⟨A, c, e, k⟩, f⟩ := h.mem; exact ⟨A, c, e⟩
  obtain ⟨A6, c6, rfl⟩ : ∃ A c, vt = .slice A m.terms.length c := by obtain ⟨⟨A, c, e, k⟩, f⟩ := h.terms; exact ⟨A, c, e⟩
  have HSh := Lib.hid shown_calls
  have HSa := Lib.hid (fun (V : World) (hV : Below w.heap.size w V) => short_calls m _ _ V (h.below hV))
  have HAs := Lib.hid (fun (h200 : m.terms.length < 200) (V : World) (hV : Below w.heap.size w V) => asMsg_calls m _ _ V (h.below hV) h200)
  have HPa := Lib.hid (fun (V : World) (hV : Below w.heap.size w V) => lpack_calls m _ _ V (h.below hV) hnt)
  have HRt := Lib.hid (fun (V : World) (hV : Below w.heap.size w V) => lright_calls m _ _ V (h.below hV))
  have HMem := Lib.hid (And.intro h.mem (And.intro h.terms.short h.terms.few))
  have HNm := Lib.hid hnm
  have HUn := Lib.hid (fun V => unpack_calls s hs V)
  have HUr : Hid (∀ V, Calls Try.prog 32 #[.string s] V (UnpackOut V s.data.toList)) := fun V => by
    have := unpack4_calls s.data.toList (by rw [len_bytes]; exact hs) V
    simpa using this
  have hbx := boxed_new w m (.slice A5 m.mem.length c5) (.slice A6 m.terms.length c6) 51
  unfold msgCells at hbx HSa HAs HPa HRt ⊢
  obtain ⟨W0, hW0⟩ : ∃ W0, w.alloc (.cells #[.int .i64 m.kind, .int .i64 m.e1, .int .i64 m.c1, .int .i64 m.e2, .int .i64 m.c2, .int .i64 m.num, (.slice A5 m.mem.length c5), (.slice A6 m.terms.length c6)] 51) = W0 := ⟨_, rfl⟩
  have hs0 : W0.heap.size = w.heap.size + 1 := by rw [← hW0]; simp
  have hB0 : Below w.heap.size w W0 := by rw [← hW0]; exact (Below.refl _ w).alloc (Nat.le_refl _) _
  rw [hW0] at hbx
  have HTwo : Hid (∀ V, Below W0.heap.size W0 V → Boxed V w.heap.size m (.slice A5 m.mem.length c5) (.slice A6 m.terms.length c6)) := fun V hV => hbx.below hV (by omega)
  have HW : Hid (∀ V, Below W0.heap.size W0 V → Below w.heap.size w V) := fun V hV => hB0.trans (hV.mono (by omega))
  clear h hbx hB0 hnm hnt hs hs0
  go_enter Try.func5, Try.ntmps5
  go_wp2_with fail
  refine (HSh.out _).mono ?_
  rintro e u1 ⟨rfl, b1⟩
  have HB1 := Lib.hid b1
  obtain ⟨y0, y1, y2, y3, y4, y5, y6, y7⟩ := HTwo.out u1 b1
  clear b1
  go_wp2_with fail
  refine (HSa.out _ (HW.out _ HB1.out)).mono ?_
  rintro e u2 ⟨s1, rfl, hs1, b2⟩
  have HB2 := Lib.hid (HB1.out.trans (b2.mono HB1.out.size))
  have HShort := Lib.hid hs1
  clear b2 y0 y1 y2 y3 y4 y5 y6 y7 HB1 hs1
  obtain ⟨y0, y1, y2, y3, y4, y5, y6, y7⟩ := HTwo.out u2 HB2.out
  cases s1 with
  | false =>
    go_wp2
    go_ret
    exact ⟨rfl, HW.out _ HB2.out⟩
  | true =>
  by_cases hsl : 3000 < s.size
  · have j1 : (3000 : Int) < (s.size : Int) := by omega
    go_wp2
    go_ret
    exact ⟨rfl, HW.out _ HB2.out⟩
  have j1 : ¬ (3000 : Int) < (s.size : Int) := by omega
  have h200 := (HShort.out rfl).2
  have HAs' := Lib.hid (HAs.out h200)
  have H200 := Lib.hid h200
  clear h200 HAs HShort hW0
  go_wp2_with fail
  refine (HAs'.out _ (HW.out _ HB2.out)).mono ?_
  rintro e u3 ⟨vk, rfl, hown, b3⟩
  obtain ⟨A7, c7, rfl⟩ := own_slice hown
  have hB3 := HB2.out.trans (b3.mono HB2.out.size)
  have HB3 := Lib.hid hB3
  have hMk : MsgA u3 m (.slice A5 m.mem.length c5) (.slice A7 m.terms.length c7) := ⟨HMem.out.1.below (HW.out _ hB3), own_rowA4 hown HMem.out.2.1 HMem.out.2.2⟩
  have hnk : ∀ n c, Value.slice A7 m.terms.length c7 = .slice none n c → c = 0 := fun n c e => by
    rcases hown.2 with ⟨h0, _⟩ | ⟨g, cap, cur, h0, _⟩
    · rw [h0] at e; cases e; rfl
    · rw [h0] at e; cases e
  have HMk := Lib.hid (And.intro hMk hnk)
  clear y0 y1 y2 y3 y4 y5 y6 y7 hown b3 hB3 hMk hnk HAs'
  unfold msgCells
  obtain ⟨b3, hb3⟩ : ∃ b3, u3.heap.size = b3 := ⟨_, rfl⟩
  obtain ⟨X3, hX3⟩ : ∃ X3, u3.alloc (.cells #[.int .i64 m.kind, .int .i64 m.e1, .int .i64 m.c1, .int .i64 m.e2, .int .i64 m.c2, .int .i64 m.num, (.slice A5 m.mem.length c5), (.slice A7 m.terms.length c7)] 55) = X3 := ⟨_, rfl⟩
  have hk3 : Boxed X3 b3 m (.slice A5 m.mem.length c5) (.slice A7 m.terms.length c7) := by rw [← hX3, ← hb3]; exact boxed_new u3 m _ _ _
  have hs3 : X3.heap.size = b3 + 1 := by rw [← hX3, ← hb3]; simp
  have hB33 : Below u3.heap.size u3 X3 := by rw [← hX3]; exact (Below.refl _ _).alloc (Nat.le_refl _) _
  have hB3x := HB3.out.trans (hB33.mono HB3.out.size)
  have HB3x := Lib.hid hB3x
  have HK3 : Hid (∀ V, Below X3.heap.size X3 V → Boxed V b3 m (.slice A5 m.mem.length c5) (.slice A7 m.terms.length c7) ∧ MsgA V m (.slice A5 m.mem.length c5) (.slice A7 m.terms.length c7)) := fun V hV => ⟨hk3.below hV (by omega), (HMk.out.1.below hB33).below hV⟩
  have HB33 := Lib.hid (And.intro hB33 (And.intro hs3 hb3))
  obtain ⟨y0, y1, y2, y3, y4, y5, y6, y7⟩ := HTwo.out X3 hB3x
  obtain ⟨⟨ps, pe⟩, hpk⟩ : ∃ r, m.pack = r := ⟨_, rfl⟩
  rw [hpk] at HPa
  have HP4 := Lib.hid (fun V (hV : MsgA V m (.slice A5 m.mem.length c5) (.slice A7 m.terms.length c7)) => pack4_calls m _ _ V hV HNm.out HMk.out.2 (by have := H200.out; omega))
  rw [hpk] at HP4
  unfold msgCells at HP4
  clear hk3 hs3 hB33 hB3x hpk HB2

  go_wp2_with fail
  refine (HPa.out _ (HW.out _ HB3x.out)).mono ?_
  rintro e u4 ⟨rfl, b4⟩
  have HB4 := Lib.hid b4
  have HB4x := Lib.hid (HB3x.out.trans (b4.mono HB3x.out.size))
  obtain ⟨⟨z0, z1, z2, z3, z4, z5, z6, z7⟩, hMz⟩ := HK3.out u4 b4
  have HMz := Lib.hid hMz
  clear b4 hMz y0 y1 y2 y3 y4 y5 y6 y7
  go_wp2_with fail
  refine (HP4.out u4 HMz.out).mono ?_
  rintro e u5 ⟨rfl, b5⟩
  have HB5 := Lib.hid (HB4.out.trans (b5.mono HB4.out.size))
  have HB5x := Lib.hid (HB4x.out.trans (b5.mono HB4x.out.size))
  clear b5 z0 z1 z2 z3 z4 z5 z6 z7
  go_wp2_with fail
  refine (HUn.out u5).mono ?_
  rintro e u6 hu
  obtain ⟨C5, d5, C6, d6, rfl, hM6, b6'⟩ := unp_out hu
  obtain ⟨⟨m2, g2⟩, hun⟩ : ∃ r, unp s.data.toList = r := ⟨_, rfl⟩
  have HUr2 : Hid (∀ V, Calls Try.prog 32 #[.string s] V fun e w' => ∃ E5 e5 E6 e6, e = .returned (.tuple #[.agg (msgCells m2 (.slice E5 m2.mem.length e5) (.slice E6 m2.terms.length e6)), .int .i64 (g2 : Nat)]) ∧ MsgA w' m2 (.slice E5 m2.mem.length e5) (.slice E6 m2.terms.length e6) ∧ Below V.heap.size V w') := fun V => (HUr.out V).mono fun e w' h => by
    have := unp_out h
    rw [hun] at this
    exact this
  rw [hun] at hM6 ⊢
  obtain ⟨b6, hb6⟩ : ∃ b6, u6.heap.size = b6 := ⟨_, rfl⟩
  unfold msgCells
  show _
  obtain ⟨X6, hX6⟩ : ∃ X6, u6.alloc (.cells #[.int .i64 m2.kind, .int .i64 m2.e1, .int .i64 m2.c1, .int .i64 m2.e2, .int .i64 m2.c2, .int .i64 m2.num, (.slice C5 m2.mem.length d5), (.slice C6 m2.terms.length d6)] 51) = X6 := ⟨_, rfl⟩
  have hk6 : Boxed X6 b6 m2 (.slice C5 m2.mem.length d5) (.slice C6 m2.terms.length d6) := by rw [← hX6, ← hb6]; exact boxed_new u6 m2 _ _ _
  have hs6 : X6.heap.size = b6 + 1 := by rw [← hX6, ← hb6]; simp
  have hB66 : Below u6.heap.size u6 X6 := by rw [← hX6]; exact (Below.refl _ _).alloc (Nat.le_refl _) _
  have hX3X6 : Below X3.heap.size X3 X6 := (HB5.out.trans (b6'.mono HB5.out.size)).trans (hB66.mono (HB5.out.trans (b6'.mono HB5.out.size)).size)
  have hW0X6 : Below W0.heap.size W0 X6 := HB3x.out.trans (hX3X6.mono HB3x.out.size)
  have HX6 : Hid (∀ V, Below X6.heap.size X6 V → Boxed V b6 m2 (.slice C5 m2.mem.length d5) (.slice C6 m2.terms.length d6) ∧ MsgA V m2 (.slice C5 m2.mem.length d5) (.slice C6 m2.terms.length d6) ∧ Boxed V b3 m (.slice A5 m.mem.length c5) (.slice A7 m.terms.length c7) ∧ MsgA V m (.slice A5 m.mem.length c5) (.slice A7 m.terms.length c7) ∧ Boxed V w.heap.size m (.slice A5 m.mem.length c5) (.slice A6 m.terms.length c6) ∧ Below w.heap.size w V) := fun V hV => ⟨hk6.below hV (by omega), (hM6.below hB66).below hV, (HK3.out V (hX3X6.trans (hV.mono hX3X6.size))).1, (HK3.out V (hX3X6.trans (hV.mono hX3X6.size))).2, HTwo.out V (hW0X6.trans (hV.mono hW0X6.size)), HW.out V (hW0X6.trans (hV.mono hW0X6.size))⟩
  clear hu hM6 b6' hun hk6 hs6 hB66 hX3X6 hW0X6 HUr HB3 HB3x HB4 HB4x HB5 HB5x HMz HK3
  go_wp2_with fail
  refine (HUr2.out X6).mono ?_
  rintro e u7 ⟨E5, e5, E6, e6, rfl, hM7, b7'⟩
  obtain ⟨b7, hb7⟩ : ∃ b7, u7.heap.size = b7 := ⟨_, rfl⟩
  unfold msgCells
  obtain ⟨X7, hX7⟩ : ∃ X7, u7.alloc (.cells #[.int .i64 m2.kind, .int .i64 m2.e1, .int .i64 m2.c1, .int .i64 m2.e2, .int .i64 m2.c2, .int .i64 m2.num, (.slice E5 m2.mem.length e5), (.slice E6 m2.terms.length e6)] 55) = X7 := ⟨_, rfl⟩
  have hk7 : Boxed X7 b7 m2 (.slice E5 m2.mem.length e5) (.slice E6 m2.terms.length e6) := by rw [← hX7, ← hb7]; exact boxed_new u7 m2 _ _ _
  have hs7 : X7.heap.size = b7 + 1 := by rw [← hX7, ← hb7]; simp
  have hB77 : Below u7.heap.size u7 X7 := by rw [← hX7]; exact (Below.refl _ _).alloc (Nat.le_refl _) _
  have hX6X7 : Below X6.heap.size X6 X7 := b7'.trans (hB77.mono b7'.size)
  have HAll : Hid (∀ V, Below X7.heap.size X7 V → V.cell? ⟨w.heap.size, 0, none⟩ = some (.int .i64 m.kind) ∧ V.cell? ⟨w.heap.size, 1, none⟩ = some (.int .i64 m.e1) ∧ V.cell? ⟨w.heap.size, 2, none⟩ = some (.int .i64 m.c1) ∧ V.cell? ⟨w.heap.size, 3, none⟩ = some (.int .i64 m.e2) ∧ V.cell? ⟨w.heap.size, 4, none⟩ = some (.int .i64 m.c2) ∧ V.cell? ⟨w.heap.size, 5, none⟩ = some (.int .i64 m.num) ∧ V.cell? ⟨w.heap.size, 6, none⟩ = some ((.slice A5 m.mem.length c5)) ∧ V.cell? ⟨w.heap.size, 7, none⟩ = some ((.slice A6 m.terms.length c6)) ∧ V.cell? ⟨b3, 0, none⟩ = some (.int .i64 m.kind) ∧ V.cell? ⟨b3, 1, none⟩ = some (.int .i64 m.e1) ∧ V.cell? ⟨b3, 2, none⟩ = some (.int .i64 m.c1) ∧ V.cell? ⟨b3, 3, none⟩ = some (.int .i64 m.e2) ∧ V.cell? ⟨b3, 4, none⟩ = some (.int .i64 m.c2) ∧ V.cell? ⟨b3, 5, none⟩ = some (.int .i64 m.num) ∧ V.cell? ⟨b3, 6, none⟩ = some ((.slice A5 m.mem.length c5)) ∧ V.cell? ⟨b3, 7, none⟩ = some ((.slice A7 m.terms.length c7)) ∧ V.cell? ⟨b6, 0, none⟩ = some (.int .i64 m2.kind) ∧ V.cell? ⟨b6, 1, none⟩ = some (.int .i64 m2.e1) ∧ V.cell? ⟨b6, 2, none⟩ = some (.int .i64 m2.c1) ∧ V.cell? ⟨b6, 3, none⟩ = some (.int .i64 m2.e2) ∧ V.cell? ⟨b6, 4, none⟩ = some (.int .i64 m2.c2) ∧ V.cell? ⟨b6, 5, none⟩ = some (.int .i64 m2.num) ∧ V.cell? ⟨b6, 6, none⟩ = some ((.slice C5 m2.mem.length d5)) ∧ V.cell? ⟨b6, 7, none⟩ = some ((.slice C6 m2.terms.length d6)) ∧ V.cell? ⟨b7, 0, none⟩ = some (.int .i64 m2.kind) ∧ V.cell? ⟨b7, 1, none⟩ = some (.int .i64 m2.e1) ∧ V.cell? ⟨b7, 2, none⟩ = some (.int .i64 m2.c1) ∧ V.cell? ⟨b7, 3, none⟩ = some (.int .i64 m2.e2) ∧ V.cell? ⟨b7, 4, none⟩ = some (.int .i64 m2.c2) ∧ V.cell? ⟨b7, 5, none⟩ = some (.int .i64 m2.num) ∧ V.cell? ⟨b7, 6, none⟩ = some ((.slice E5 m2.mem.length e5)) ∧ V.cell? ⟨b7, 7, none⟩ = some ((.slice E6 m2.terms.length e6)) ∧ Below X7.heap.size X7 V) := fun V hV => by
    obtain ⟨⟨q0, q1, q2, q3, q4, q5, q6, q7⟩, _, ⟨r0, r1, r2, r3, r4, r5, r6, r7⟩, _, ⟨s0, s1, s2, s3, s4, s5, s6, s7⟩, _⟩ := HX6.out V (hX6X7.trans (hV.mono hX6X7.size))
    obtain ⟨t0, t1, t2, t3, t4, t5, t6, t7⟩ := hk7.below hV (by omega)
    exact ⟨s0, s1, s2, s3, s4, s5, s6, s7, r0, r1, r2, r3, r4, r5, r6, r7, q0, q1, q2, q3, q4, q5, q6, q7, t0, t1, t2, t3, t4, t5, t6, t7, hV⟩
  have HMs : Hid (∀ V, Below X7.heap.size X7 V → MsgA V m2 (.slice C5 m2.mem.length d5) (.slice C6 m2.terms.length d6) ∧ MsgA V m (.slice A5 m.mem.length c5) (.slice A7 m.terms.length c7) ∧ MsgA V m2 (.slice E5 m2.mem.length e5) (.slice E6 m2.terms.length e6) ∧ Below w.heap.size w V) := fun V hV => by
    obtain ⟨_, k1, _, k2, _, k3⟩ := HX6.out V (hX6X7.trans (hV.mono hX6X7.size))
    exact ⟨k1, k2, (hM7.below hB77).below hV, k3⟩
  have HR1 : Hid (∀ V, Below X7.heap.size X7 V → Calls Try.prog 33 #[.agg #[.int .i64 m.kind, .int .i64 m.e1, .int .i64 m.c1, .int .i64 m.e2, .int .i64 m.c2, .int .i64 m.num, (.slice A5 m.mem.length c5), (.slice A6 m.terms.length c6)]] V fun e V' => e = .returned (.bool m.ok) ∧ V'.cell? ⟨w.heap.size, 0, none⟩ = some (.int .i64 m.kind) ∧ V'.cell? ⟨w.heap.size, 1, none⟩ = some (.int .i64 m.e1) ∧ V'.cell? ⟨w.heap.size, 2, none⟩ = some (.int .i64 m.c1) ∧ V'.cell? ⟨w.heap.size, 3, none⟩ = some (.int .i64 m.e2) ∧ V'.cell? ⟨w.heap.size, 4, none⟩ = some (.int .i64 m.c2) ∧ V'.cell? ⟨w.heap.size, 5, none⟩ = some (.int .i64 m.num) ∧ V'.cell? ⟨w.heap.size, 6, none⟩ = some ((.slice A5 m.mem.length c5)) ∧ V'.cell? ⟨w.heap.size, 7, none⟩ = some ((.slice A6 m.terms.length c6)) ∧ V'.cell? ⟨b3, 0, none⟩ = some (.int .i64 m.kind) ∧ V'.cell? ⟨b3, 1, none⟩ = some (.int .i64 m.e1) ∧ V'.cell? ⟨b3, 2, none⟩ = some (.int .i64 m.c1) ∧ V'.cell? ⟨b3, 3, none⟩ = some (.int .i64 m.e2) ∧ V'.cell? ⟨b3, 4, none⟩ = some (.int .i64 m.c2) ∧ V'.cell? ⟨b3, 5, none⟩ = some (.int .i64 m.num) ∧ V'.cell? ⟨b3, 6, none⟩ = some ((.slice A5 m.mem.length c5)) ∧ V'.cell? ⟨b3, 7, none⟩ = some ((.slice A7 m.terms.length c7)) ∧ V'.cell? ⟨b6, 0, none⟩ = some (.int .i64 m2.kind) ∧ V'.cell? ⟨b6, 1, none⟩ = some (.int .i64 m2.e1) ∧ V'.cell? ⟨b6, 2, none⟩ = some (.int .i64 m2.c1) ∧ V'.cell? ⟨b6, 3, none⟩ = some (.int .i64 m2.e2) ∧ V'.cell? ⟨b6, 4, none⟩ = some (.int .i64 m2.c2) ∧ V'.cell? ⟨b6, 5, none⟩ = some (.int .i64 m2.num) ∧ V'.cell? ⟨b6, 6, none⟩ = some ((.slice C5 m2.mem.length d5)) ∧ V'.cell? ⟨b6, 7, none⟩ = some ((.slice C6 m2.terms.length d6)) ∧ V'.cell? ⟨b7, 0, none⟩ = some (.int .i64 m2.kind) ∧ V'.cell? ⟨b7, 1, none⟩ = some (.int .i64 m2.e1) ∧ V'.cell? ⟨b7, 2, none⟩ = some (.int .i64 m2.c1) ∧ V'.cell? ⟨b7, 3, none⟩ = some (.int .i64 m2.e2) ∧ V'.cell? ⟨b7, 4, none⟩ = some (.int .i64 m2.c2) ∧ V'.cell? ⟨b7, 5, none⟩ = some (.int .i64 m2.num) ∧ V'.cell? ⟨b7, 6, none⟩ = some ((.slice E5 m2.mem.length e5)) ∧ V'.cell? ⟨b7, 7, none⟩ = some ((.slice E6 m2.terms.length e6)) ∧ Below X7.heap.size X7 V') := fun V hV => (HRt.out V (HMs.out V hV).2.2.2).mono fun e V' ⟨h1, h2⟩ => ⟨h1, HAll.out V' (hV.trans (h2.mono hV.size))⟩
  have HR2 : Hid (∀ V, Below X7.heap.size X7 V → Calls Try.prog 34 #[.agg #[.int .i64 m.kind, .int .i64 m.e1, .int .i64 m.c1, .int .i64 m.e2, .int .i64 m.c2, .int .i64 m.num, (.slice A5 m.mem.length c5), (.slice A7 m.terms.length c7)]] V fun e V' => e = .returned (.bool m.ok) ∧ V'.cell? ⟨w.heap.size, 0, none⟩ = some (.int .i64 m.kind) ∧ V'.cell? ⟨w.heap.size, 1, none⟩ = some (.int .i64 m.e1) ∧ V'.cell? ⟨w.heap.size, 2, none⟩ = some (.int .i64 m.c1) ∧ V'.cell? ⟨w.heap.size, 3, none⟩ = some (.int .i64 m.e2) ∧ V'.cell? ⟨w.heap.size, 4, none⟩ = some (.int .i64 m.c2) ∧ V'.cell? ⟨w.heap.size, 5, none⟩ = some (.int .i64 m.num) ∧ V'.cell? ⟨w.heap.size, 6, none⟩ = some ((.slice A5 m.mem.length c5)) ∧ V'.cell? ⟨w.heap.size, 7, none⟩ = some ((.slice A6 m.terms.length c6)) ∧ V'.cell? ⟨b3, 0, none⟩ = some (.int .i64 m.kind) ∧ V'.cell? ⟨b3, 1, none⟩ = some (.int .i64 m.e1) ∧ V'.cell? ⟨b3, 2, none⟩ = some (.int .i64 m.c1) ∧ V'.cell? ⟨b3, 3, none⟩ = some (.int .i64 m.e2) ∧ V'.cell? ⟨b3, 4, none⟩ = some (.int .i64 m.c2) ∧ V'.cell? ⟨b3, 5, none⟩ = some (.int .i64 m.num) ∧ V'.cell? ⟨b3, 6, none⟩ = some ((.slice A5 m.mem.length c5)) ∧ V'.cell? ⟨b3, 7, none⟩ = some ((.slice A7 m.terms.length c7)) ∧ V'.cell? ⟨b6, 0, none⟩ = some (.int .i64 m2.kind) ∧ V'.cell? ⟨b6, 1, none⟩ = some (.int .i64 m2.e1) ∧ V'.cell? ⟨b6, 2, none⟩ = some (.int .i64 m2.c1) ∧ V'.cell? ⟨b6, 3, none⟩ = some (.int .i64 m2.e2) ∧ V'.cell? ⟨b6, 4, none⟩ = some (.int .i64 m2.c2) ∧ V'.cell? ⟨b6, 5, none⟩ = some (.int .i64 m2.num) ∧ V'.cell? ⟨b6, 6, none⟩ = some ((.slice C5 m2.mem.length d5)) ∧ V'.cell? ⟨b6, 7, none⟩ = some ((.slice C6 m2.terms.length d6)) ∧ V'.cell? ⟨b7, 0, none⟩ = some (.int .i64 m2.kind) ∧ V'.cell? ⟨b7, 1, none⟩ = some (.int .i64 m2.e1) ∧ V'.cell? ⟨b7, 2, none⟩ = some (.int .i64 m2.c1) ∧ V'.cell? ⟨b7, 3, none⟩ = some (.int .i64 m2.e2) ∧ V'.cell? ⟨b7, 4, none⟩ = some (.int .i64 m2.c2) ∧ V'.cell? ⟨b7, 5, none⟩ = some (.int .i64 m2.num) ∧ V'.cell? ⟨b7, 6, none⟩ = some ((.slice E5 m2.mem.length e5)) ∧ V'.cell? ⟨b7, 7, none⟩ = some ((.slice E6 m2.terms.length e6)) ∧ Below X7.heap.size X7 V') := fun V hV => (right4_calls m _ _ V (HMs.out V hV).2.1 (by have := H200.out; omega)).mono fun e V' ⟨h1, h2⟩ => ⟨h1, HAll.out V' (hV.trans (h2.mono hV.size))⟩
  have HR3 : Hid (∀ V, Below X7.heap.size X7 V → Calls Try.prog 35 #[.agg #[.int .i64 m2.kind, .int .i64 m2.e1, .int .i64 m2.c1, .int .i64 m2.e2, .int .i64 m2.c2, .int .i64 m2.num, (.slice C5 m2.mem.length d5), (.slice C6 m2.terms.length d6)], .agg #[.int .i64 m2.kind, .int .i64 m2.e1, .int .i64 m2.c1, .int .i64 m2.e2, .int .i64 m2.c2, .int .i64 m2.num, (.slice E5 m2.mem.length e5), (.slice E6 m2.terms.length e6)]] V fun e V' => e = .returned (.bool true) ∧ V'.cell? ⟨w.heap.size, 0, none⟩ = some (.int .i64 m.kind) ∧ V'.cell? ⟨w.heap.size, 1, none⟩ = some (.int .i64 m.e1) ∧ V'.cell? ⟨w.heap.size, 2, none⟩ = some (.int .i64 m.c1) ∧ V'.cell? ⟨w.heap.size, 3, none⟩ = some (.int .i64 m.e2) ∧ V'.cell? ⟨w.heap.size, 4, none⟩ = some (.int .i64 m.c2) ∧ V'.cell? ⟨w.heap.size, 5, none⟩ = some (.int .i64 m.num) ∧ V'.cell? ⟨w.heap.size, 6, none⟩ = some ((.slice A5 m.mem.length c5)) ∧ V'.cell? ⟨w.heap.size, 7, none⟩ = some ((.slice A6 m.terms.length c6)) ∧ V'.cell? ⟨b3, 0, none⟩ = some (.int .i64 m.kind) ∧ V'.cell? ⟨b3, 1, none⟩ = some (.int .i64 m.e1) ∧ V'.cell? ⟨b3, 2, none⟩ = some (.int .i64 m.c1) ∧ V'.cell? ⟨b3, 3, none⟩ = some (.int .i64 m.e2) ∧ V'.cell? ⟨b3, 4, none⟩ = some (.int .i64 m.c2) ∧ V'.cell? ⟨b3, 5, none⟩ = some (.int .i64 m.num) ∧ V'.cell? ⟨b3, 6, none⟩ = some ((.slice A5 m.mem.length c5)) ∧ V'.cell? ⟨b3, 7, none⟩ = some ((.slice A7 m.terms.length c7)) ∧ V'.cell? ⟨b6, 0, none⟩ = some (.int .i64 m2.kind) ∧ V'.cell? ⟨b6, 1, none⟩ = some (.int .i64 m2.e1) ∧ V'.cell? ⟨b6, 2, none⟩ = some (.int .i64 m2.c1) ∧ V'.cell? ⟨b6, 3, none⟩ = some (.int .i64 m2.e2) ∧ V'.cell? ⟨b6, 4, none⟩ = some (.int .i64 m2.c2) ∧ V'.cell? ⟨b6, 5, none⟩ = some (.int .i64 m2.num) ∧ V'.cell? ⟨b6, 6, none⟩ = some ((.slice C5 m2.mem.length d5)) ∧ V'.cell? ⟨b6, 7, none⟩ = some ((.slice C6 m2.terms.length d6)) ∧ V'.cell? ⟨b7, 0, none⟩ = some (.int .i64 m2.kind) ∧ V'.cell? ⟨b7, 1, none⟩ = some (.int .i64 m2.e1) ∧ V'.cell? ⟨b7, 2, none⟩ = some (.int .i64 m2.c1) ∧ V'.cell? ⟨b7, 3, none⟩ = some (.int .i64 m2.e2) ∧ V'.cell? ⟨b7, 4, none⟩ = some (.int .i64 m2.c2) ∧ V'.cell? ⟨b7, 5, none⟩ = some (.int .i64 m2.num) ∧ V'.cell? ⟨b7, 6, none⟩ = some ((.slice E5 m2.mem.length e5)) ∧ V'.cell? ⟨b7, 7, none⟩ = some ((.slice E6 m2.terms.length e6)) ∧ Below X7.heap.size X7 V') := fun V hV => (sameMsg_calls m2 m2 _ _ _ _ V (HMs.out V hV).1 (HMs.out V hV).2.2.1).mono fun e V' ⟨r, h1, hr, h2⟩ => ⟨by rw [h1, hr.2 rfl], HAll.out V' (hV.trans (h2.mono hV.size))⟩
  have hBX : Below X7.heap.size X7 X7 := Below.refl _ _
  have hBd : Below X7.heap.size X7 X7.drew := below_drewN hBX 1
  obtain ⟨a0, a1, a2, a3, a4, a5, a6, a7, a8, a9, a10, a11, a12, a13, a14, a15, a16, a17, a18, a19, a20, a21, a22, a23, a24, a25, a26, a27, a28, a29, a30, a31, _⟩ := HAll.out X7 hBX
  have HFinal : Hid (∀ V, Below X7.heap.size X7 V → One w (.bool true) (.returned (.bool true)) V) := fun V hV => ⟨rfl, (HMs.out V hV).2.2.2⟩
  clear hk7 hs7 hB77 hX6X7 hM7 b7' HAll HMs HX6 hBX HTwo HW
  generalize m.ok = ok at *
  go_wp2
  go_region_held3 (fun w' => w'.cell? ⟨w.heap.size, 0, none⟩ = some (.int .i64 m.kind) ∧ w'.cell? ⟨w.heap.size, 1, none⟩ = some (.int .i64 m.e1) ∧ w'.cell? ⟨w.heap.size, 2, none⟩ = some (.int .i64 m.c1) ∧ w'.cell? ⟨w.heap.size, 3, none⟩ = some (.int .i64 m.e2) ∧ w'.cell? ⟨w.heap.size, 4, none⟩ = some (.int .i64 m.c2) ∧ w'.cell? ⟨w.heap.size, 5, none⟩ = some (.int .i64 m.num) ∧ w'.cell? ⟨w.heap.size, 6, none⟩ = some ((.slice A5 m.mem.length c5)) ∧ w'.cell? ⟨w.heap.size, 7, none⟩ = some ((.slice A6 m.terms.length c6)) ∧ w'.cell? ⟨b3, 0, none⟩ = some (.int .i64 m.kind) ∧ w'.cell? ⟨b3, 1, none⟩ = some (.int .i64 m.e1) ∧ w'.cell? ⟨b3, 2, none⟩ = some (.int .i64 m.c1) ∧ w'.cell? ⟨b3, 3, none⟩ = some (.int .i64 m.e2) ∧ w'.cell? ⟨b3, 4, none⟩ = some (.int .i64 m.c2) ∧ w'.cell? ⟨b3, 5, none⟩ = some (.int .i64 m.num) ∧ w'.cell? ⟨b3, 6, none⟩ = some ((.slice A5 m.mem.length c5)) ∧ w'.cell? ⟨b3, 7, none⟩ = some ((.slice A7 m.terms.length c7)) ∧ w'.cell? ⟨b6, 0, none⟩ = some (.int .i64 m2.kind) ∧ w'.cell? ⟨b6, 1, none⟩ = some (.int .i64 m2.e1) ∧ w'.cell? ⟨b6, 2, none⟩ = some (.int .i64 m2.c1) ∧ w'.cell? ⟨b6, 3, none⟩ = some (.int .i64 m2.e2) ∧ w'.cell? ⟨b6, 4, none⟩ = some (.int .i64 m2.c2) ∧ w'.cell? ⟨b6, 5, none⟩ = some (.int .i64 m2.num) ∧ w'.cell? ⟨b6, 6, none⟩ = some ((.slice C5 m2.mem.length d5)) ∧ w'.cell? ⟨b6, 7, none⟩ = some ((.slice C6 m2.terms.length d6)) ∧ w'.cell? ⟨b7, 0, none⟩ = some (.int .i64 m2.kind) ∧ w'.cell? ⟨b7, 1, none⟩ = some (.int .i64 m2.e1) ∧ w'.cell? ⟨b7, 2, none⟩ = some (.int .i64 m2.c1) ∧ w'.cell? ⟨b7, 3, none⟩ = some (.int .i64 m2.e2) ∧ w'.cell? ⟨b7, 4, none⟩ = some (.int .i64 m2.c2) ∧ w'.cell? ⟨b7, 5, none⟩ = some (.int .i64 m2.num) ∧ w'.cell? ⟨b7, 6, none⟩ = some ((.slice E5 m2.mem.length e5)) ∧ w'.cell? ⟨b7, 7, none⟩ = some ((.slice E6 m2.terms.length e6)) ∧ Below X7.heap.size X7 w') ((go_split_ands; refine ⟨?_, ?_, ?_, ?_, ?_, ?_, ?_, ?_, ?_, ?_, ?_, ?_, ?_, ?_, ?_, ?_, ?_, ?_, ?_, ?_, ?_, ?_, ?_, ?_, ?_, ?_, ?_, ?_, ?_, ?_, ?_, ?_, ?_⟩ <;> first | assumption | go_keep))
    (first
      | (go_at_call 33; refine (HR1.out _ (by assumption)).mono ?_; rintro e' v1 ⟨rfl, f0, f1, f2, f3, f4, f5, f6, f7, f8, f9, f10, f11, f12, f13, f14, f15, f16, f17, f18, f19, f20, f21, f22, f23, f24, f25, f26, f27, f28, f29, f30, f31, f32⟩)
      | (go_at_call 34; refine (HR2.out _ (by assumption)).mono ?_; rintro e' v2 ⟨rfl, g0, g1, g2, g3, g4, g5, g6, g7, g8, g9, g10, g11, g12, g13, g14, g15, g16, g17, g18, g19, g20, g21, g22, g23, g24, g25, g26, g27, g28, g29, g30, g31, g32⟩)
      | (go_at_call 35; refine (HR3.out _ (by assumption)).mono ?_; rintro e' v3 ⟨rfl, h0, h1, h2, h3, h4, h5, h6, h7, h8, h9, h10, h11, h12, h13, h14, h15, h16, h17, h18, h19, h20, h21, h22, h23, h24, h25, h26, h27, h28, h29, h30, h31, h32⟩))
  all_goals
    have HF := Lib.hid (HFinal.out v3 h32)
    clear f0 f1 f2 f3 f4 f5 f6 f7 f8 f9 f10 f11 f12 f13 f14 f15 f16 f17 f18 f19 f20 f21 f22 f23 f24 f25 f26 f27 f28 f29 f30 f31 f32 g0 g1 g2 g3 g4 g5 g6 g7 g8 g9 g10 g11 g12 g13 g14 g15 g16 g17 g18 g19 g20 g21 g22 g23 g24 g25 g26 g27 g28 g29 g30 g31 g32 h0 h1 h2 h3 h4 h5 h6 h7 h8 h9 h10 h11 h12 h13 h14 h15 h16 h17 h18 h19 h20 h21 h22 h23 h24 h25 h26 h27 h28 h29 h30 h31 h32
    go_wp2
    go_ret
    exact HF.out

end Go.Proofs.Ytloheongiceliaa.L4
end

section
namespace Go.Proofs.Ytloheongiceliaa.L4
open Go.ChangeShapes Go.WideShapes Go.ChangeAt Go.RowKit Go.Deep

theorem laid_out : laidOutB Try.prog = true := by kernel_rfl
/-- As the row asks it: the arguments' reading given at the one place where it is asked. -/
theorem post_law_at {H : Type} {enc : TypeId × Value → H} {P : Program} {f : Func} {s : ChangeSpec} {W W' : World} {args : Array Value} {v : Value} {ds gs : List (DataW H)} {before pa pv : List MemPlace}
    (hW : DataW.Whole enc P f.params.toList s.vars false W args.toList ds gs before)
    (hres : DataW.TrodAll enc P W' W.heap.size (fun _ => false) false f.resultTypes.toList (v.resultList f.resultTypes.size) (s.fn H (ds ++ gs)).results [])
    (hargs : DataW.TrodAll enc P W' 0 (fun b => decide (b < W.heap.size)) true f.params.toList args.toList (s.fn H (ds ++ gs)).args pa)
    (hvars : DataW.TrodVars enc P W' (fun b => decide (b < W.heap.size)) s.vars (s.fn H (ds ++ gs)).vars pv)
    (hps : before = pa ++ pv) (hb : Below W.heap.size W W') : s.post enc P f false true false false W args v W' := by
  have hin : ∀ p ∈ before, p ∈ before ∧ (p ∈ ([] : List MemPlace) ∨ p ∈ pa ∨ p ∈ pv) := by
    intro p hp
    refine ⟨hp, .inr ?_⟩
    rw [hps] at hp
    exact List.mem_append.1 hp
  exact ⟨ds, gs, before, [], pa, pv, hW, hres, hargs, hvars, World.keptBut_mono hin (hb.frame (· ∈ before)), fun h => by cases h⟩


section
variable {H : Type} {enc : TypeId × Value → H} {W : World}
set_option maxRecDepth 100000 in
theorem trod_ints {n : Nat} {c : Value} {x : DataW H × List MemPlace} (h : DataW.trod enc Try.prog W 0 (fun _ => true) true n 37 [c] = some x) : ∃ xs, IntsA W c xs ∧ ∀ n k, c = .slice none n k → k = 0 := by
  rcases open_ints Try.underlying37 Try.underlying3 (by kernel_rfl) h with ⟨h0, _⟩ | ⟨a, len, cap, ss, hcs, _, hl, hm, hsl, _, hcell, hwf⟩
  · cases h0
    exact ⟨[], ⟨⟨none, 0, rfl, fun j x hx => by simp at hx⟩, by simp, by simp⟩, fun n k e => by cases e; rfl⟩
  · cases hcs
    simp only [if_true] at hsl
    have hlen : (ss.take len).length = len := by simp; omega
    refine ⟨ss.take len, ⟨⟨some a, cap, by rw [hlen], fun j x hx => ?_⟩, fun z hz => i64_of_wf (hwf z (List.mem_of_mem_take hz)), by rw [hlen]; omega⟩, fun n k e => by cases e⟩
    rw [List.getElem?_take] at hx
    have hjn : j < len := by
      rcases Nat.lt_or_ge j len with h | h
      · exact h
      · rw [if_neg (by omega)] at hx; cases hx
    rw [if_pos hjn] at hx
    have hc2 := hcell j (by omega)
    rw [List.getD, hx, Option.getD_some] at hc2
    have hlt := World.block_lt_of_cell? W _ hc2
    rw [addr_block] at hlt
    exact ⟨a, rfl, hlt, hc2⟩
set_option maxRecDepth 100000 in
theorem trod_row {n : Nat} {c : Value} {x : DataW H × List MemPlace} (h : DataW.trod enc Try.prog W 0 (fun _ => true) true n 38 [c] = some x) : ∃ zs, RowA W c zs ∧ ∀ n k, c = .slice none n k → k = 0 := by
  rcases open_strings Try.underlying38 Try.underlying24 (by kernel_rfl) h with ⟨h0, _⟩ | ⟨a, n, cap, ss, hcs, _, hl, hm, hsl, _, hcell, hsz⟩
  · cases h0
    exact ⟨[], ⟨⟨none, 0, rfl, fun j x hx => by simp at hx⟩, by simp, by simp⟩, fun n k e => by cases e; rfl⟩
  · cases hcs
    simp only [if_true] at hsl
    have hlen : ((ss.take n).map (fun s => s.data.toList)).length = n := by simp; omega
    refine ⟨(ss.take n).map (fun s => s.data.toList), ⟨⟨some a, cap, by rw [hlen], fun j x hx => ?_⟩, fun z hz => ?_, by rw [hlen]; omega⟩, fun n k e => by cases e⟩
    · rw [List.getElem?_map, Option.map_eq_some_iff] at hx
      obtain ⟨s, hs, rfl⟩ := hx
      rw [List.getElem?_take] at hs
      have hjn : j < n := by
        rcases Nat.lt_or_ge j n with h | h
        · exact h
        · rw [if_neg (by omega)] at hs; cases hs
      rw [if_pos hjn] at hs
      have hc2 := hcell j (by omega)
      rw [List.getD, hs, Option.getD_some] at hc2
      have hlt := World.block_lt_of_cell? W _ hc2
      rw [addr_block] at hlt
      refine ⟨a, rfl, hlt, id, ?_⟩
      rw [hc2]
    · obtain ⟨s, hs, rfl⟩ := List.mem_map.1 hz
      have := hsz s (List.mem_of_mem_take hs)
      rwa [← len_bytes] at this
theorem trod_num {n : Nat} {c : Value} {x : DataW H × List MemPlace} (h : DataW.trod enc Try.prog W 0 (fun _ => true) true n 3 [c] = some x) : ∃ k : Int, c = .int .i64 k ∧ -9223372036854775808 ≤ k ∧ k ≤ 9223372036854775807 := by
  obtain ⟨k, hk, _, hw⟩ := DataW.trod_int Try.underlying3 h
  cases hk
  exact ⟨k, rfl, i64_of_wf hw⟩
set_option maxRecDepth 100000 in
theorem trod_id {n : Nat} {c d : Value} {x : DataW H × List MemPlace} (h : DataW.trod enc Try.prog W 0 (fun _ => true) true n 49 [c, d] = some x) : (∃ k : Int, c = .int .i64 k) ∧ ∃ k : Int, d = .int .i64 k := by
  have hC : Try.prog.cellsOf 3 = 1 := by kernel_rfl
  obtain ⟨xs, n', _, _, _, hlen, hg⟩ := DataW.trod_struct Try.underlying49 h
  match xs, hlen with
  | [x0, x1], _ =>
    have h0 : DataW.trod enc Try.prog W 0 (fun _ => true) true n' 3 (([c, d].drop 0).take (Try.prog.cellsOf 3)) = some x0 := hg 0 _ rfl
    have h1 : DataW.trod enc Try.prog W 0 (fun _ => true) true n' 3 (([c, d].drop 1).take (Try.prog.cellsOf 3)) = some x1 := hg 1 _ rfl
    rw [hC] at h0 h1
    obtain ⟨k0, e0, _⟩ := trod_num (c := c) h0
    obtain ⟨k1, e1, _⟩ := trod_num (c := d) h1
    exact ⟨⟨k0, e0⟩, ⟨k1, e1⟩⟩
set_option maxRecDepth 100000 in
theorem open_msg {base : Nat} {v : Value} {d : DataW H} {ps : List MemPlace} (hval : Value.okWide Try.prog W .any base 51 v) (h : DataW.Trod enc Try.prog W 0 (fun _ => true) true 51 v d ps) :
    ∃ m vm vt, v = .agg (msgCells m vm vt) ∧ MsgA W m vm vt ∧ (∀ n c, vt = .slice none n c → c = 0) ∧ (∀ n c, vm = .slice none n c → c = 0) := by
  have hC1 : Try.prog.cellsOf 3 = 1 := by kernel_rfl
  have hC2 : Try.prog.cellsOf 49 = 2 := by kernel_rfl
  have hC3 : Try.prog.cellsOf 37 = 1 := by kernel_rfl
  have hC4 : Try.prog.cellsOf 38 = 1 := by kernel_rfl
  have hC : Try.prog.cellsOf 51 = 8 := by kernel_rfl
  obtain ⟨cs, rfl, hsz⟩ := okWide_struct Try.underlying51 hval
  obtain ⟨l⟩ := cs
  match l, hsz.trans hC with
  | [c0, c1, c2, c3, c4, c5, c6, c7], _ =>
    obtain ⟨fuel, hf⟩ := h
    obtain ⟨xs, n, _, _, _, hlen, hg⟩ := DataW.trod_struct Try.underlying51 hf
    match xs, hlen with
    | [x0, x1, x2, x3, x4, x5], _ =>
      have h0 : DataW.trod enc Try.prog W 0 (fun _ => true) true n 3 (([c0, c1, c2, c3, c4, c5, c6, c7].drop 0).take (Try.prog.cellsOf 3)) = some x0 := hg 0 _ rfl
      have h1 : DataW.trod enc Try.prog W 0 (fun _ => true) true n 49 (([c0, c1, c2, c3, c4, c5, c6, c7].drop 1).take (Try.prog.cellsOf 49)) = some x1 := hg 1 _ rfl
      have h2 : DataW.trod enc Try.prog W 0 (fun _ => true) true n 49 (([c0, c1, c2, c3, c4, c5, c6, c7].drop 3).take (Try.prog.cellsOf 49)) = some x2 := hg 2 _ rfl
      have h3 : DataW.trod enc Try.prog W 0 (fun _ => true) true n 3 (([c0, c1, c2, c3, c4, c5, c6, c7].drop 5).take (Try.prog.cellsOf 3)) = some x3 := hg 3 _ rfl
      have h4 : DataW.trod enc Try.prog W 0 (fun _ => true) true n 37 (([c0, c1, c2, c3, c4, c5, c6, c7].drop 6).take (Try.prog.cellsOf 37)) = some x4 := hg 4 _ rfl
      have h5 : DataW.trod enc Try.prog W 0 (fun _ => true) true n 38 (([c0, c1, c2, c3, c4, c5, c6, c7].drop 7).take (Try.prog.cellsOf 38)) = some x5 := hg 5 _ rfl
      rw [hC1] at h0 h3
      rw [hC2] at h1 h2
      rw [hC3] at h4
      rw [hC4] at h5
      obtain ⟨k0, rfl, _⟩ := trod_num (c := c0) h0
      obtain ⟨⟨k1, rfl⟩, k2, rfl⟩ := trod_id (c := c1) (d := c2) h1
      obtain ⟨⟨k3, rfl⟩, k4, rfl⟩ := trod_id (c := c3) (d := c4) h2
      obtain ⟨k5, rfl, _⟩ := trod_num (c := c5) h3
      obtain ⟨xs6, hI, hm⟩ := trod_ints (c := c6) h4
      obtain ⟨zs7, hR, hn⟩ := trod_row (c := c7) h5
      exact ⟨⟨k0, k1, k2, k3, k4, k5, xs6, zs7⟩, c6, c7, rfl, ⟨hI, hR⟩, hn, hm⟩
end
end Go.Proofs.Ytloheongiceliaa.L4
end

section
namespace Go.Proofs.Ytloheongiceliaa
open Go.ChangeShapes Go.WideShapes Go.ChangeAt Go.RowKit

set_option maxRecDepth 100000 in
theorem packs_lifted (os : Os) (started : os.Started) (H : Type) (enc : TypeId × Value → H) :
    ReturnsInHanded {} Try.checked os 5 .any (Rows.listPacksSpec.pre6 enc Try.prog Try.f5 Rows.listPacksRow.domain false) (Rows.listPacksSpec.post enc Try.prog Try.f5 false true false false) := by
  refine returnsInHanded_of_change (C := Try.checked) own started (by kernel_rfl) Try.func5
    (ChangeSpec.witness6 (enc := enc) (C := Try.checked) false ⟨#[], #[.agg #[.int .i64 0, .int .i64 0, .int .i64 0, .int .i64 0, .int .i64 0, .int .i64 0, .slice none 0 0, .slice none 0 0], .string ⟨#[]⟩], []⟩ 8 (by kernel_rfl) (by kernel_rfl) (by kernel_rfl) (by kernel_rfl)) ?_
  intro W base args ds gs before hval0 hW hcnd _
  have hval : ∀ (j : Nat) t v, Try.f5.params[j]? = some t → args[j]? = some v → Value.okWide Try.prog W .any base t v := hval0
  have hW' := hW
  obtain ⟨p, q, hA0, hV, rfl, hfz, hnd⟩ := hW
  have hA : DataW.TrodAll enc Try.prog W 0 (fun _ => true) true Try.f5.params.toList args.toList ds p := hA0
  rw [Try.params5] at hA hval
  obtain ⟨v0, vs0, d0, ds0, p0, q0, hargs, rfl, rfl, h0, r0⟩ := trodAll_cons hA
  obtain ⟨v1, vs1, d1, ds1, p1, q1, rfl, rfl, rfl, h1, r1⟩ := trodAll_cons r0
  obtain ⟨rfl, rfl, rfl⟩ := trodAll_nil r1
  obtain rfl : args = #[v0, v1] := by cases args; simp_all
  obtain ⟨rfl, rfl⟩ := trodVars_none hV
  have h0k := h0
  obtain ⟨m0, vm0, vt0, rfl, hM0, hn0, hnm0⟩ := L4.open_msg (hval 0 51 v0 rfl rfl) h0
  obtain ⟨s1, rfl, rfl, rfl, w1⟩ := Go.ChangeMaps.open_string Try.underlying9 (hval 1 9 v1 rfl rfl) h1
  clear hA0 hval0
  simp only [List.append_nil] at hW'
  have hlt : ∀ x ∈ p0, x.block < W.heap.size := fun x hx => by simpa using hW'.lt x (by simpa using hx)
  refine (L4.packs_all m0 vm0 vt0 s1 W hM0 hnm0 hn0 w1).mono fun e W' ⟨he, hg⟩ => ?_
  subst he
  exact ⟨_, rfl, L4.post_law_at (pv := []) hW' (trodAll_cons_mk (shut_bool Try.underlying4 _) trodAll_mk0) (trodAll_cons_mk (Below.trod L4.laid_out (by kernel_rfl) (of_decide_eq_true (by kernel_rfl)) h0k hg hlt) (trodAll_cons_mk (Go.ChangeMaps.shut_string Try.underlying9 w1) trodAll_mk0)) rfl (by simp) hg⟩

theorem packs_over : Rows.listPacksRow.holds Try.pinned (OpenSpec.ofChange Rows.listPacksSpec) :=
  OpenClaim.holds_of_wide 5 Try.f5 rfl rfl rfl rfl rfl rfl rfl ⟨rfl, rfl, rfl, rfl, rfl⟩ rfl rfl rfl rfl rfl (by kernel_rfl) Try.func5 (by kernel_rfl)
    (of_decide_eq_true (by kernel_rfl)) (by unfold Func.isWrapper; first | (rw [if_pos (by decide +kernel)]; kernel_rfl) | (rw [if_neg (by decide +kernel)]; exact ⟨rfl, rfl⟩))
    (fun os started H enc _ => packs_lifted os started H enc)

theorem packs_proved : Rows.ListPacksSaid := packs_over

end Go.Proofs.Ytloheongiceliaa
end
