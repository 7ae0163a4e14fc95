/- Contract of cut.split: so many numbers at the beginning of a term's row, and what is behind them. Contract of cut.Take: terms as logs. Contract of cut.Unpart: terms as parts. Logs and parts as terms, and back. -/
import Derived.Test.YtckmpbmlneionaaCtGd
import Derived.Test.YtckmpbmlneionaaLTake
import Derived.Test.YtckmpbmlneionaaRowFacts
import Derived.Test.YtckmpbmlneionaaValue
import Derived.Test.YtckmpbmlneionaaWord
import Derived.Test.YtckmpbmlneionaaLater
import Derived.Laws.OwnMore
import Derived.IntWalk
import Derived.Deep.RegionHeld3
import Derived.Deep.AppendLies
section
namespace Go.Proofs.Ytckmpbmlneionaa.L11
open Go.ChangeShapes Go.WideShapes Go.ChangeAt Go.RowKit Go.Deep

theorem valueT_lt (z : Bytes) : (Tm.valueT z).1 < 18446744073709551616 := by
  unfold Tm.valueT
  split
  · rename_i h
    have h9 : z.length = 9 := by
      rcases h with h | h
      · obtain ⟨k1, k2⟩ := Tm.kind_right h (by decide)
        exact Tm.word_long k1 (.inl k2)
      · obtain ⟨k1, k2⟩ := Tm.kind_right h (by decide)
        exact Tm.word_long k1 (.inr k2)
    have hlt := Tm.beNum_lt (z.drop 1)
    rw [show (z.drop 1).length = 8 by rw [List.length_drop]; omega] at hlt
    simpa using hlt
  · simp
theorem row_len {zs : List Bytes} {z : Bytes} (h : z ∈ zs) : z.length ≤ (Tm.rowL zs).length := by
  unfold Tm.rowL
  rw [List.length_append]
  have : z.length ≤ (zs.flatMap (fun z => 112 :: z)).length := by
    induction zs with
    | nil => simp at h
    | cons a l ih =>
      rw [List.flatMap_cons, List.length_append]
      rcases List.mem_cons.1 h with rfl | h
      · rw [List.length_cons]; omega
      · have := ih h; omega
  omega
theorem takeRow_some {t : Bytes} {zs : List Bytes} (h : Tm.takeRow t = (zs, 0)) : Tm.right t = true ∧ t = Tm.rowL zs ∧ zs.length ≤ 150 ∧ Tm.wrongIn zs = false := by
  unfold Tm.takeRow at h
  split at h
  · rename_i hr
    split at h
    · rename_i zs' hu
      cases h
      obtain ⟨h1, h2, h3⟩ := Tm.unrow_back hr hu
      exact ⟨hr, h1, by omega, h3⟩
    · cases h
  · cases h
/-- Is a text a number? -/
def IsNum (z : Bytes) : Prop := z = numT (Tm.valueT z).1
def numI (z : Bytes) : Int := IntKind.i64.wrap ((Tm.valueT z).1 : Nat)
def numIs (zs : List Bytes) : List Value := zs.map (fun z => .int .i64 (numI z))
/-- A row of texts in a block of the call's own. -/
structure OwnD (w : World) (B : Nat) (x : It) : Prop where
  at' : ItAt w x
  blk : ∀ ad z, x.a = some ad → z ∈ x.l → B ≤ ad.block ∧ ∃ cs cur, w.heap[ad.block]? = some (.cells cs 31 cur)
theorem OwnD.below {w W : World} {B : Nat} {x : It} (h : OwnD w B x) (hb : Below w.heap.size w W) : OwnD W B x := ⟨h.at'.below hb, fun ad z e hz => by
  obtain ⟨h1, cs, cur, h2⟩ := h.blk ad z e hz
  exact ⟨h1, cs, cur, (hb.block _ (Array.getElem?_eq_some_iff.1 h2).1).trans h2⟩⟩
theorem OwnD.base {w : World} {B C : Nat} {x : It} (h : OwnD w B x) (hc : C ≤ B) : OwnD w C x := ⟨h.at', fun ad z e hz => ⟨Nat.le_trans hc (h.blk ad z e hz).1, (h.blk ad z e hz).2⟩⟩
theorem OwnD.grown {w w' : World} {B : Nat} {x : It} (h : OwnD w B x) {v : Value} {n : Nat} {xs : List Value} {e : TypeId} {B' size : Nat} (hr : w.ownsRow B' e size v n xs) (he : e ≠ 31) (hg : w.grownBy w' v.ownBlock) : OwnD w' B x := by
  have key : ∀ ad z, x.a = some ad → z ∈ x.l → w'.heap[ad.block]? = w.heap[ad.block]? := fun ad z e1 hz => by
    obtain ⟨h1, cs, cur, h2⟩ := h.blk ad z e1 hz
    refine hg.block _ (Array.getElem?_eq_some_iff.1 h2).1 (fun e2 => ?_)
    rcases hr.2 with ⟨e3, _⟩ | ⟨g', cap', cur', e3, _, h3, _⟩
    · rw [e3] at e2; cases e2
    · rw [e3] at e2
      have : ad.block = g' := by cases e2; rfl
      rw [← this, h2] at h3
      cases h3
      exact he rfl
  refine ⟨⟨h.at'.le, h.at'.few, h.at'.nil, h.at'.short, fun j z hz => ?_⟩, fun ad z e1 hz => ?_⟩
  · obtain ⟨ad, e1, h1, h2⟩ := h.at'.reads j z hz
    refine ⟨ad, e1, Nat.lt_of_lt_of_le h1 hg.size, ?_⟩
    rw [← h2]
    exact World.cell?_of_block (by rw [addr_blockC]; exact key ad z e1 (List.mem_of_getElem? hz))
  · obtain ⟨h1, cs, cur, h2⟩ := h.blk ad z e1 hz
    exact ⟨h1, cs, cur, (key ad z e1 hz).trans h2⟩
theorem OwnD.of_own {w : World} {B : Nat} {A : Option Addr} {c : Nat} {zs : List Bytes} (h : w.ownsRow B 31 1 (.slice A zs.length c) zs.length (txt zs)) (hs : ∀ z ∈ zs, z.length ≤ maxLen) : OwnD w B ⟨A, c, zs⟩ := by
  refine ⟨OwnIt.at ⟨h, hs⟩, fun ad z e hz => ?_⟩
  simp only at e
  rcases h.2 with ⟨e3, h0⟩ | ⟨g', cap', cur', e3, h2, h3, _⟩
  · have : A = none := by injection e3
    rw [this] at e; cases e
  · have : A = some ⟨g', 0, none⟩ := by injection e3
    rw [this] at e; cases e; exact ⟨h2, _, _, h3⟩
theorem OwnD.drop {w : World} {B : Nat} {A : Option Addr} {c : Nat} {l : List Bytes} (h : OwnD w B ⟨A, c, l⟩) {n : Nat} (hn : n < l.length) : OwnD w B ⟨A.map (fun x => x.add n), c - n, l.drop n⟩ := by
  obtain ⟨ad, e, h1⟩ := h.at'.drop hn
  subst e
  refine ⟨h1, fun ad' z e hz => ?_⟩
  cases e
  rw [addr_blockC]
  exact h.blk ad z rfl (List.mem_of_mem_drop hz)
theorem OwnD.none' {w : World} {B : Nat} {A : Option Addr} {c : Nat} (hc : c ≤ maxLen) (hA : A = none → c = 0) : OwnD w B ⟨A, c, []⟩ :=
  ⟨⟨Nat.zero_le _, hc, hA, by simp, fun j z hz => by simp at hz⟩, fun ad z e hz => by simp at hz⟩
def splitOk (t : Bytes) (k : Nat) (zs : List Bytes) : Prop := Tm.takeRow t = (zs, 0) ∧ k ≤ zs.length ∧ ∀ z ∈ zs.take k, IsNum z
def SplitOut (w : World) (t : Bytes) (k : Nat) (e : Ending) (w' : World) : Prop :=
  (∃ (zs : List Bytes) (A : Option Addr) (c g : Nat), splitOk t k zs ∧ e = .returned (.tuple #[.slice (some ⟨g, 0, none⟩) k k, .slice A (zs.drop k).length c, .bool true]) ∧ w.heap.size ≤ g ∧ g < w'.heap.size ∧ (∀ (j : Nat) (u : Value), (numIs (zs.take k))[j]? = some u → w'.cell? ⟨g, j, none⟩ = some u) ∧
    OwnD w' w.heap.size ⟨A, c, zs.drop k⟩ ∧ Below w.heap.size w w') ∨
  ((¬ ∃ zs, splitOk t k zs) ∧ e = .returned (.tuple #[.slice none 0 0, .slice none 0 0, .bool false]) ∧ Below w.heap.size w w')
theorem info_int11 : (Try.prog.info? 3).map (fun i => (i.zero, i.size, i.bytes)) = some (some (.int .i64 0), 1, 8) := by kernel_rfl
def NumsGo (w : World) (zs : List Bytes) (n k : Nat) (v30 : Value) (wr : World) : Prop :=
  ∃ i : Nat, k + i = n ∧ v30 = .int .i64 i ∧ (∀ z ∈ zs.take i, IsNum z) ∧ wr.ownsRow w.heap.size 3 1 (.slice (some ⟨w.heap.size, 0, none⟩) n n) n (numIs (zs.take i) ++ List.replicate (n - i) (.int .i64 0)) ∧ Below w.heap.size w wr
theorem nums_step {w wr u2 : World} {zs : List Bytes} {n i : Nat} {z : Bytes} (hlt : i < n) (hnl : n ≤ zs.length) (hz : zs[i]? = some z) (hu : IsNum z) (hpre : ∀ z ∈ zs.take i, IsNum z) (hB : Below w.heap.size w wr)
    (hown : wr.ownsRow w.heap.size 3 1 (.slice (some ⟨w.heap.size, 0, none⟩) n n) n (numIs (zs.take i) ++ List.replicate (n - i) (.int .i64 0))) (b2 : Below wr.heap.size wr u2) :
    (u2.cell? ⟨w.heap.size, i, none⟩ = some (.int .i64 0) ∧ u2.frozen? ⟨w.heap.size, i, none⟩ = false) ∧ Hid (∀ y : Int, y = numI z → NumsGo w zs n (n - (i + 1)) (.int .i64 ((i + 1 : Nat) : Int)) (u2.setCell ⟨w.heap.size, i, none⟩ (.int .i64 y))) := by
  have h2 := L5.own_below hown b2
  have hlen : (numIs (zs.take i)).length = i := by simp [numIs]; omega
  refine ⟨⟨?_, h2.frozenAt i⟩, fun y hy => ?_⟩
  · rw [h2.cellAt i (by omega), List.getElem?_append_right (by omega), hlen, Nat.sub_self, List.getElem?_replicate, if_pos (by omega)]
  · obtain ⟨k1, k2⟩ := h2.stored i (.int .i64 y)
    have ht : zs.take (i + 1) = zs.take i ++ [z] := by rw [List.take_add_one, hz]; rfl
    have hB2 := hB.trans (b2.mono hB.size)
    refine ⟨i + 1, by omega, rfl, ?_, ?_, hB2.setCell (by simp) _⟩
    · intro z' hz'
      rw [ht] at hz'
      rcases List.mem_append.1 hz' with hz' | hz'
      · exact hpre z' hz'
      · simp at hz'
        rw [hz']
        exact hu
    · have e : (numIs (zs.take i) ++ List.replicate (n - i) (Value.int .i64 0)).set i (Value.int .i64 y) = numIs (zs.take (i + 1)) ++ List.replicate (n - (i + 1)) (Value.int .i64 0) := by
        rw [List.set_append_right _ _ (by omega), hlen, Nat.sub_self, ht, show n - i = (n - (i + 1)) + 1 from by omega, List.replicate_succ, List.set_cons_zero, hy]
        simp [numIs]
      rw [e] at k1
      exact k1
set_option maxRecDepth 100000 in
set_option maxHeartbeats 4000000 in
theorem split_calls (t : Bytes) (ht : t.length ≤ maxLen) (n : Nat) (hn : n ≤ 3) (w : World) : Calls Try.prog 42 #[.string ⟨t.toArray⟩, .int .i64 (n : Int)] w (SplitOut w t n) := by
  obtain ⟨i0, hi, hz0, hz1, hz2⟩ := info_parts info_int11
  have HT := Lib.hid (ltake_calls ⟨t.toArray⟩ (by rw [size_list]; exact ht) w)
  rw [show (⟨t.toArray⟩ : ByteArray).data.toList = t from rfl] at HT
  obtain ⟨⟨zs, er⟩, hr⟩ : ∃ r, Tm.takeRow t = r := ⟨_, rfl⟩
  rw [hr] at HT
  have hTl := Lib.hid ht
  clear ht
  go_enter Try.func42, Try.ntmps42
  go_wp2_with fail
  refine HT.out.mono ?_
  clear HT
  rintro e w1 ⟨v, rfl, hown, _, b1⟩
  obtain ⟨A, c, rfl⟩ := L5.own_slice hown
  have HW1 := Lib.hid b1
  have HNo : Hid ((¬ ∃ zs, splitOk t n zs) → ∀ V, Below w1.heap.size w1 V → SplitOut w t n (.returned (.tuple #[.slice none 0 0, .slice none 0 0, .bool false])) V) := fun h V hV => .inr ⟨h, rfl, b1.trans (hV.mono b1.size)⟩
  clear b1
  by_cases h1 : er = 0
  · subst h1
    by_cases h2 : zs.length < n
    · have HF := Lib.hid (HNo.out (fun ⟨zs', k1, k2, _⟩ => by rw [hr] at k1; cases k1; omega) w1 (Below.refl _ _))
      have j1 : (zs.length : Int) < (n : Int) := by omega
      clear hr hown HNo h2
      go_wp2
      refine bodyPost_ret (by simp [results]; rfl) rfl ?_
      exact HF.out
    · have j1 : ¬ (zs.length : Int) < (n : Int) := by omega
      have hnl : n ≤ zs.length := by omega
      obtain ⟨_, htz, hlen, _⟩ := takeRow_some hr
      have hshort : ∀ z ∈ zs, z.length ≤ maxLen := fun z hz => Nat.le_trans (row_len hz) (by rw [← htz]; exact hTl.out)
      have HD := Lib.hid (OwnD.of_own hown hshort)
      have hle := HD.out.at'.le
      have hfew := HD.out.at'.few
      have hnil := HD.out.at'.nil
      simp only at hle hfew hnil
      have HNil := Lib.hid hnil
      have HFew := Lib.hid hfew
      unfold maxLen at hfew
      obtain ⟨W2, hmk, hown0, hg0⟩ := run_make_full (P := Try.prog) (w := w1) w1.heap.size 70 3 i0 (.int .i64 0) 1 Try.underlying70 hi hz0 hz1 .i64 .i64 n (by rw [hz2]; omega) (by unfold maxLen; omega) (Nat.le_refl _)
      have hmk' : (Instr.makeSlice 70 (.int .i64 (n : Int)) (.int .i64 (n : Int))).run Try.prog w1 = .ok (.slice (some ⟨w1.heap.size, 0, none⟩) n n) W2 := hmk
      have HStart : Hid (NumsGo w1 zs n n (.int .i64 0) W2) := ⟨0, rfl, rfl, by simp, by
        have e : (madeCells (Value.int .i64 0).cells (n * 1)).toList = List.replicate n (.int .i64 0) := by rw [Nat.mul_one]; exact toList_madeCells_one _ _
        rw [e] at hown0
        simpa [numIs] using hown0, (Below.refl _ _).grown hg0 (Nat.le_refl _) (by simp)⟩
      have HR := Lib.hid hr
      clear hmk hown0 hg0 hr hown hnil h2 hshort htz
      have hn0 : (0 : Int) ≤ (n : Int) := by omega
      have hcI : (n : Int) ≤ (c : Int) := by omega
      go_wp2
      clear hmk'
      rw [show decide (zs.length < n) = false from decide_eq_false (by omega)]
      go_loopg [30] n (fun k v30 wr => NumsGo w1 zs n k v30 wr)
      case atStart => exact HStart.out
      clear HStart
      case round =>
        obtain ⟨i, hk, rfl, hpre, hown, hB⟩ := hrel
        by_cases hlt : i < n
        · obtain ⟨z, hz⟩ : ∃ z, zs[i]? = some z := ⟨_, List.getElem?_eq_getElem (by omega)⟩
          have hzl := HD.out.at'.short z (List.mem_of_getElem? hz)
          obtain ⟨ad, rfl, hrd⟩ := it_read HD.out.at' i z hz
          have a4 := hrd wr hB
          have HVa := Lib.hid (fun V => Value_calls ⟨z.toArray⟩ (by rw [size_list]; exact hzl) V)
          have ez : (⟨z.toArray⟩ : ByteArray).data.toList = z := rfl
          rw [ez] at HVa
          have k1 : (i : Int) < (n : Int) := by omega
          have k1' : (i : Int) < (zs.length : Int) := by omega
          have k2 : (0 : Int) ≤ (i : Int) := by omega
          obtain ⟨⟨x, xb⟩, hx⟩ : ∃ r, Tm.valueT z = r := ⟨_, rfl⟩
          have hxl := valueT_lt z
          rw [hx] at hxl
          have HX : Hid (numI z = IntKind.i64.wrap (x : Int)) := by show numI z = _; unfold numI; rw [hx]
          have hIs : IsNum z ↔ z = numT x := by unfold IsNum; rw [hx]
          rw [hx] at HVa
          have hgk := Lib.hid (show n - (i + 1) < gk by omega)
          have HNum : Hid (∀ V, Calls Try.prog 35 #[.int .u64 (x : Int)] V (One V (.string ⟨(numT x).toArray⟩))) := fun V => Number_calls x (by simpa using hxl) V
          have HA : Hid (∀ V, Below wr.heap.size wr V → V.cell? (ad.add i) = some (.string ⟨z.toArray⟩)) := fun V hV => hrd V (hB.trans (hV.mono hB.size))
          by_cases hu : IsNum z
          · have HStep := Lib.hid (fun (u2 : World) (b2 : Below wr.heap.size wr u2) => nums_step hlt hnl hz hu hpre hB hown b2)
            have hzx := hIs.1 hu
            rw [← hzx] at HNum
            clear hk hown hB hpre hz hzl hu hx ez hrd hIs hzx hxl
            go_wp2_with fail
            refine (HVa.out _).mono ?_
            rintro e u2 ⟨rfl, b2⟩
            have a5 : ∀ X : Later u2, X.world.cell? (ad.add i) = some (.string ⟨z.toArray⟩) := fun X => HA.out X.world (b2.trans (X.kept.mono b2.size))
            have HStep2 : Hid (∀ X : Later u2, (X.world.cell? ⟨w1.heap.size, i, none⟩ = some (.int .i64 0) ∧ X.world.frozen? ⟨w1.heap.size, i, none⟩ = false) ∧ Hid (∀ y : Int, y = numI z → NumsGo w1 zs n (n - (i + 1)) (.int .i64 ((i + 1 : Nat) : Int)) (X.world.setCell ⟨w1.heap.size, i, none⟩ (.int .i64 y)))) := fun X => HStep.out X.world (b2.trans (X.kept.mono b2.size))
            have a6 := HA.out u2 b2
            clear b2 HStep a4
            go_wp2
            refine wp_region_later (by kernel_rfl) (by kernel_rfl) ?_
            repeat
              (refine Quietly.step (fun K hK => ?_)
               go_simp
               first
                 | (refine hK _ ?_)
                 | (refine ⟨_, fun X => ((HNum.out X.world).mono (fun e w' h => ⟨h.1, ⟨w', X.kept.trans (h.2.mono X.kept.size)⟩, rfl⟩)), ?_⟩; refine hK _ ?_)
               clear hK K)
            refine Quietly.none ?_
            rintro w5 ⟨X, rfl⟩
            obtain ⟨⟨m1, m2⟩, m3⟩ := HStep2.out X
            clear HStep2 a5 a6
            generalize X.world = w5 at *
            go_wp2
            have HJ := Lib.hid (m3.out (wrap64 (x : Int)) ((IntWalk.i64_left _).symm.trans HX.out.symm))
            clear m1 m2 m3
            go_roundg (n - (i + 1))
            case measure => exact hgk.out
            case rel => exact HJ.out
          · have hne : (z == numT x) = false := str_ne (fun e => hu (hIs.2 e))
            have HNo2 : Hid (∀ V, Below wr.heap.size wr V → SplitOut w t n (.returned (.tuple #[.slice none 0 0, .slice none 0 0, .bool false])) V) := fun V hV => HNo.out (fun ⟨zs', k1, _, k3⟩ => by
              rw [HR.out] at k1
              cases k1
              exact hu (k3 z (List.mem_of_getElem? (i := i) (by rw [List.getElem?_take, if_pos hlt]; exact hz)))) V (hB.trans (hV.mono hB.size))
            clear hk hown hB hpre hz hzl hu hx ez hrd hIs hxl
            generalize numT x = tx at *
            go_wp2_with fail
            refine (HVa.out _).mono ?_
            rintro e u2 ⟨rfl, b2⟩
            have a5 : ∀ X : Later u2, X.world.cell? (ad.add i) = some (.string ⟨z.toArray⟩) := fun X => HA.out X.world (b2.trans (X.kept.mono b2.size))
            have HF2 : Hid (∀ X : Later u2, SplitOut w t n (.returned (.tuple #[.slice none 0 0, .slice none 0 0, .bool false])) X.world) := fun X => HNo2.out X.world (b2.trans (X.kept.mono b2.size))
            have a6 := HA.out u2 b2
            clear b2 HNo2 a4
            go_wp2
            refine wp_region_later (by kernel_rfl) (by kernel_rfl) ?_
            repeat
              (refine Quietly.step (fun K hK => ?_)
               go_simp
               first
                 | (refine hK _ ?_)
                 | (refine ⟨_, fun X => ((HNum.out X.world).mono (fun e w' h => ⟨h.1, ⟨w', X.kept.trans (h.2.mono X.kept.size)⟩, rfl⟩)), ?_⟩; refine hK _ ?_)
               clear hK K)
            refine Quietly.none ?_
            rintro w5 ⟨X, rfl⟩
            have HF := Lib.hid (HF2.out X)
            clear HF2 a5 a6
            go_wp2
            refine bodyPost_ret (by simp [results]; rfl) rfl ?_
            exact HF.out
        · obtain rfl : i = n := by omega
          have k1 : ¬ ((i : Int) < (i : Int)) := by omega
          have HFin : Hid (∀ (w2 : World) (A2 : Option Addr) (c2 : Nat), Below wr.heap.size wr w2 → OwnD w2 w.heap.size ⟨A2, c2, zs.drop i⟩ → SplitOut w t i (.returned (.tuple #[.slice (some ⟨w1.heap.size, 0, none⟩) i i, .slice A2 (zs.drop i).length c2, .bool true])) w2) := fun w2 A2 c2 b2 hd => by
            have ho := L5.own_below hown b2
            rw [Nat.sub_self] at ho
            simp only [List.replicate_zero, List.append_nil] at ho
            refine .inl ⟨zs, A2, c2, w1.heap.size, ⟨HR.out, hnl, hpre⟩, rfl, HW1.out.size, (ho.lt _ rfl).2, fun j u hu => by have := ho.cells (g := w1.heap.size) rfl j u hu; rw [add_zeroC] at this; exact this, hd, HW1.out.trans ((hB.trans (b2.mono hB.size)).mono HW1.out.size)⟩
          have HDw : Hid (∀ w2, Below wr.heap.size wr w2 → OwnD w2 w.heap.size ⟨A, c, zs⟩) := fun w2 b2 => HD.out.below (hB.trans (b2.mono hB.size))
          clear hk hown hB hpre
          have hdl : (zs.drop i).length = zs.length - i := List.length_drop
          by_cases hcap : c = i
          · have hzi : zs.length = i := by omega
            have hd : zs.drop i = [] := List.drop_eq_nil_of_le (by omega)
            have HFin2 : Hid (∀ w2, Below wr.heap.size wr w2 → SplitOut w t i (.returned (.tuple #[.slice (some ⟨w1.heap.size, 0, none⟩) i i, .slice A 0 0, .bool true])) w2) := fun w2 b2 => by
              have := HFin.out w2 A 0 b2 (by rw [hd]; exact .none' (by simp) (fun _ => rfl))
              rw [hd] at this
              exact this
            subst hcap
            clear HFin HDw hd hdl hle
            rw [hzi]
            clear hzi
            go_wp2
            refine wp_region_later (by kernel_rfl) (by kernel_rfl) ?_
            repeat
              (refine Quietly.step (fun K hK => ?_)
               go_simp
               refine hK _ ?_
               clear hK K)
            refine Quietly.none ?_
            rintro w2 ⟨⟨V, b2⟩, rfl⟩
            have HF := Lib.hid (HFin2.out _ b2)
            clear b2
            go_wp2
            refine bodyPost_ret (by simp [results]; rfl) rfl ?_
            exact HF.out
          · have HFin2 : Hid (∀ w2, Below wr.heap.size wr w2 → SplitOut w t i (.returned (.tuple #[.slice (some ⟨w1.heap.size, 0, none⟩) i i, .slice (A.map (fun x => x.add i)) (zs.length - i) (c - i), .bool true])) w2) := fun w2 b2 => by
              have := HFin.out w2 (A.map (fun x => x.add i)) (c - i) b2 (by
                by_cases hzi : i < zs.length
                · exact (HDw.out w2 b2).drop hzi
                · rw [List.drop_eq_nil_of_le (by omega)]
                  exact .none' (by unfold maxLen; omega) (fun e => by
                    cases A with
                    | none => have := HNil.out rfl; omega
                    | some a => cases e))
              rw [hdl] at this
              exact this
            clear HFin HDw hdl
            go_wp2
            refine wp_region_later (by kernel_rfl) (by kernel_rfl) ?_
            repeat
              (refine Quietly.step (fun K hK => ?_)
               go_simp
               refine hK _ ?_
               clear hK K)
            refine Quietly.none ?_
            rintro w2 ⟨⟨V, b2⟩, rfl⟩
            have HF := Lib.hid (HFin2.out _ b2)
            clear b2
            go_wp2
            refine bodyPost_ret (by simp [results]; rfl) rfl ?_
            exact HF.out
  · have HF := Lib.hid (HNo.out (fun ⟨zs', k1, _⟩ => by rw [hr] at k1; cases k1; exact h1 rfl) w1 (Below.refl _ _))
    have j1 : ((er : Int) == 0) = false := by rw [beq_eq_false_iff_ne]; omega
    clear hr hown HNo
    go_wp2
    refine bodyPost_ret (by simp [results]; rfl) rfl ?_
    exact HF.out
end Go.Proofs.Ytckmpbmlneionaa.L11
end

section
namespace Go.Proofs.Ytckmpbmlneionaa.L11
open Go.ChangeShapes Go.WideShapes Go.ChangeAt Go.RowKit Go.Deep

instance (z : Bytes) : Decidable (IsNum z) := by unfold IsNum; exact inferInstance
/-- The row of a term that begins with so many numbers. -/
def unrowN (k : Nat) (t : Bytes) : Option (List Bytes) := if (Tm.takeRow t).2 = 0 ∧ k ≤ (Tm.takeRow t).1.length ∧ ∀ z ∈ (Tm.takeRow t).1.take k, IsNum z then some (Tm.takeRow t).1 else none
theorem unrowN_iff {k : Nat} {t : Bytes} {zs : List Bytes} : unrowN k t = some zs ↔ splitOk t k zs := by
  unfold unrowN splitOk
  constructor
  · intro h
    split at h
    · rename_i h1
      cases h
      exact ⟨Prod.ext rfl h1.1, h1.2.1, h1.2.2⟩
    · cases h
  · rintro ⟨h1, h2, h3⟩
    rw [h1, if_pos ⟨rfl, h2, h3⟩]
def logOf (zs : List Bytes) : LCore := (numI (zs.getD 0 []), zs.drop 1)
def unlog (t : Bytes) : Option LCore := (unrowN 1 t).map logOf
theorem numI_int (z : Bytes) : isInt (numI z) := by
  have h := valueT_lt z
  unfold numI isInt
  rw [IntKind.wrap_i64]
  omega
def TookOut (w : World) (un : Bytes → Option LCore) (tm : List Bytes) (e : Ending) (w' : World) : Prop :=
  (∃ (v : Value) (ls : List Lg), e = .returned (.tuple #[v, .int .i64 0]) ∧ tm.map un = (ls.map Lg.core).map some ∧ OkLogs (ls.map Lg.core) ∧ LogsA w' v ls ∧ (∀ l ∈ ls, l.it.l.length ≤ 150) ∧ Below w.heap.size w w') ∨
  ((¬ ∃ lc, tm.map un = lc.map some ∧ OkLogs lc) ∧ e = .returned (.tuple #[.slice none 0 0, .int .i64 2]) ∧ Below w.heap.size w w')
def TakeGo (w : World) (tm : List Bytes) (k : Nat) (v4 vi : Value) (wr : World) : Prop :=
  ∃ (i : Nat) (ls : List Lg), k + i = tm.length ∧ vi = .int .i64 i ∧ (tm.take i).map unlog = (ls.map Lg.core).map some ∧ (∀ l ∈ ls, OwnD wr w.heap.size l.it ∧ isInt l.se ∧ l.it.l.length ≤ 150) ∧
    wr.ownsRow w.heap.size 76 2 v4 ls.length (flatG ls) ∧ Below w.heap.size w wr
set_option maxRecDepth 100000 in
set_option maxHeartbeats 8000000 in
theorem takeC_calls (x : It) (w : World) (h : ItAt w x) (hl : x.l.length ≤ 4000000) : Calls Try.prog 19 #[x.v] w (TookOut w unlog x.l) := by
  obtain ⟨i0, hi, hz0, hz1, hz2⟩ := info_partsC info_log
  obtain ⟨A, c, tm⟩ := x
  replace hl : tm.length ≤ 4000000 := hl
  have HR := Lib.hid (it_read h)
  have HSh := Lib.hid h.short
  have HSt : Hid (TakeGo w tm tm.length (.slice none 0 0) (.int .i64 0) w) := ⟨0, [], by omega, rfl, by simp, by simp, World.ownsRow_nil _ _ _ _, Below.refl _ _⟩
  simp only [It.v]
  clear h
  go_enter Try.func19, Try.ntmps19
  go_wp2
  go_loopg [4, 12] tm.length (fun k v4 v12 wr => TakeGo w tm k v4 v12 wr)
  case atStart => exact HSt.out
  clear HSt
  case round =>
    obtain ⟨i, ls, hk, rfl, hco, hit, hrow, hB⟩ := hrel
    obtain ⟨A9, c9, rfl⟩ := L5.own_slice hrow
    have hbs := hB.size
    have hll : ls.length = (tm.take i).length := by have := congrArg List.length hco; simpa using this.symm
    by_cases hil : i < tm.length
    · obtain ⟨t, hx⟩ : ∃ t, tm[i]? = some t := ⟨_, List.getElem?_eq_getElem hil⟩
      obtain ⟨ad, rfl, hrd⟩ := HR.out i t hx
      have a0 := hrd wr hB
      have ht := HSh.out t (List.mem_of_getElem? hx)
      have j1 : (i : Int) < (tm.length : Int) := by omega
      have j2 : (0 : Int) ≤ (i : Int) := by omega
      have hgk := Lib.hid (show gk - 1 < gk by omega)
      have HS : Hid (∀ V, Calls Try.prog 42 #[.string ⟨t.toArray⟩, .int .i64 1] V (SplitOut V t 1)) := fun V => split_calls t ht 1 (by omega) V
      have hll' : ls.length ≤ 4000000 := by rw [hll]; simp; omega
      have hnx : (tm.take (i + 1)).map unlog = (ls.map Lg.core).map some ++ [unlog t] := by rw [take_nextR tm hx, List.map_append, hco]; rfl
      have HNo : Hid ((¬ ∃ zs, splitOk t 1 zs) → ∀ V, Below wr.heap.size wr V → TookOut w unlog tm (.returned (.tuple #[.slice none 0 0, .int .i64 2])) V) := fun hno V hV => by
        refine .inr ⟨fun ⟨lc, k1, _⟩ => hno ?_, rfl, hB.trans (hV.mono hbs)⟩
        have e := congrArg (fun l => l[i]?) k1
        simp only [List.getElem?_map, hx, Option.map_some] at e
        obtain ⟨y, hy, e2⟩ := Option.map_eq_some_iff.1 e.symm
        unfold unlog at e2
        obtain ⟨zs, hz, _⟩ := Option.map_eq_some_iff.1 e2.symm
        exact ⟨zs, unrowN_iff.1 hz⟩
      have HApp : Hid (∀ (zs : List Bytes) (z0 : Bytes) (A : Option Addr) (c g : Nat) V, splitOk t 1 zs → zs[0]? = some z0 → Below wr.heap.size wr V → OwnD V wr.heap.size ⟨A, c, zs.drop 1⟩ → g < V.heap.size → (V.cell? ⟨g, 0, none⟩ = some (.int .i64 (numI z0)) ∧ wr.heap.size ≤ g) →
          (V.alloc (.cells #[.int .i64 (numI z0), .slice A (zs.drop 1).length c] 76)).ownsRow w.heap.size 76 2 (.slice A9 ls.length c9) ls.length (flatG ls) ∧
          (∀ (j : Nat) (u : Value), [Value.int .i64 (numI z0), .slice A (zs.drop 1).length c][j]? = some u → (V.alloc (.cells #[.int .i64 (numI z0), .slice A (zs.drop 1).length c] 76)).cell? ((⟨V.heap.size, 0, none⟩ : Addr).add j) = some u) ∧
          w.heap.size ≤ (V.alloc (.cells #[.int .i64 (numI z0), .slice A (zs.drop 1).length c] 76)).heap.size ∧
          ∀ v' w6, w6.ownsRow w.heap.size 76 2 v' (ls.length + 1) (flatG ls ++ [.int .i64 (numI z0), .slice A (zs.drop 1).length c]) → (V.alloc (.cells #[.int .i64 (numI z0), .slice A (zs.drop 1).length c] 76)).grownBy w6 (Value.slice A9 ls.length c9).ownBlock →
            w6.cell? ⟨g, 0, none⟩ = some (.int .i64 (numI z0)) ∧ TakeGo w tm (gk - 1) v' (.int .i64 ((i + 1 : Nat) : Int)) w6) := by
        intro zs z0 A c g V hok hz0 hV hD hg hc
        have hr := L5.own_below hrow hV
        have hb := hB.trans (hV.mono hbs)
        have hbz := hb.size
        refine ⟨hr.alloc _, fun j u hu => ?_, Nat.le_trans hbz (by simp), fun v' w6 k1 k2 => ?_⟩
        · rw [add_zeroC]
          simp only [World.cell?]
          rw [World.alloc_heap_new V _]
          simpa using hu
        · have k3 := (World.grownBy_alloc V (.cells #[.int .i64 (numI z0), .slice A (zs.drop 1).length c] 76) (Value.slice A9 ls.length c9).ownBlock).trans k2
          have hcell : w6.cell? ⟨g, 0, none⟩ = some (.int .i64 (numI z0)) := by
            rw [← hc.1]
            refine World.cell?_of_block (k3.block _ hg (fun e => ?_))
            have := (hrow.lt g e.symm).2
            omega
          obtain ⟨_, _, hlz, _⟩ := takeRow_some hok.1
          refine ⟨hcell, i + 1, ls ++ [⟨numI z0, ⟨A, c, zs.drop 1⟩⟩], by omega, rfl, ?_, fun l hl => ?_, ?_, hb.grown k3 hbz (fun q e => (hr.lt q e).1)⟩
          · rw [hnx, List.map_append, List.map_append]
            congr 1
            unfold unlog
            rw [unrowN_iff.2 hok]
            simp only [Option.map_some, List.map_cons, List.map_nil, logOf, Lg.core, List.getD, hz0, Option.getD_some]
          · rcases List.mem_append.1 hl with hl | hl
            · exact ⟨((hit l hl).1.below hV).grown hr (of_decide_eq_true (by kernel_rfl)) k3, (hit l hl).2⟩
            · obtain rfl := List.mem_singleton.1 hl
              exact ⟨(hD.base hbs).grown hr (of_decide_eq_true (by kernel_rfl)) k3, numI_int z0, by simp; omega⟩
          · rw [flatG_snoc, List.length_append]
            simp only [Lg.cells, It.v]
            exact k1
      clear hk hco hit hrow hB hx hrd ht hnx hll
      go_wp2_with fail
      refine (HS.out _).mono ?_
      rintro e w6 hsp
      rcases hsp with ⟨zs, A2, c2, g, hok, rfl, hgB, hg, hcl, hD, b6⟩ | ⟨hno, rfl, b6⟩
      · obtain ⟨z0, hz0⟩ : ∃ z, zs[0]? = some z := ⟨_, List.getElem?_eq_getElem (by have := hok.2.1; omega)⟩
        have f1 : w6.cell? ⟨g, 0, none⟩ = some (.int .i64 (numI z0)) := hcl 0 _ (by
          rw [numIs, List.getElem?_map, List.getElem?_take, if_pos (by omega), hz0]; rfl)
        have HA := Lib.hid (HApp.out zs z0 A2 c2 g w6 hok hz0 b6 hD hg ⟨f1, hgB⟩)
        clear hok hz0 hg hcl hD b6 hgB HApp HNo HS
        generalize numI z0 = n0 at *
        generalize (zs.drop 1).length = dl at *
        go_wp2_with (at_builtin; refine wpList_append_own _ rfl _ _ 22 rfl w.heap.size 76 i0 zeroLg 2 32 Try.underlying22 hi hz0 hz1 hz2 rfl (by decide) _ _ _ rfl HA.out.1 ⟨w6.heap.size, 0, none⟩ 1 1 [.int .i64 n0, .slice A2 dl c2] rfl rfl HA.out.2.1 (by simp [Value.oneCell']) (by unfold maxLen; omega) (by omega) HA.out.2.2.1 ?_; intro v' w1 hown' hgrow _; have HJ := Lib.hid (HA.out.2.2.2 v' w1 hown' hgrow).2; clear hown' hgrow)
        go_roundg (gk - 1)
        case measure => exact hgk.out
        case rel => exact HJ.out
      · have HF := Lib.hid (HNo.out hno w6 b6)
        clear hno b6 HNo HApp
        go_wp2
        go_ret2
        exact HF.out
    · obtain rfl : i = tm.length := by omega
      have j1 : ¬ (tm.length : Int) < (tm.length : Int) := by omega
      rw [List.take_length] at hco hll
      have hLA : LogsA wr (.slice A9 ls.length c9) ls := LogsA.of_own hrow (by unfold maxLen; omega) (fun l hl => ⟨(hit l hl).1.at', (hit l hl).2.1⟩)
      have HRt := Lib.hid (rightLogs_calls wr hLA)
      have HF : Hid (∀ b V, (b = true ↔ OkLogs (ls.map Lg.core)) → Below wr.heap.size wr V → TookOut w unlog tm (.returned (if b then .tuple #[.slice A9 ls.length c9, .int .i64 0] else .tuple #[.slice none 0 0, .int .i64 2])) V) := fun b V hb hV => by
        cases b with
        | true => exact .inl ⟨_, ls, rfl, hco, hb.1 rfl, hLA.below hV, fun l hl => (hit l hl).2.2, hB.trans (hV.mono hbs)⟩
        | false =>
          refine .inr ⟨fun ⟨lc, k1, k2⟩ => ?_, rfl, hB.trans (hV.mono hbs)⟩
          rw [hco] at k1
          have k3 : ls.map Lg.core = lc := (List.map_inj_right (fun _ _ h => Option.some.inj h)).1 k1
          rw [← k3] at k2
          have := hb.2 k2
          cases this
      clear hk hco hit hrow hB hll hLA
      go_wp2_with fail
      refine HRt.out.mono ?_
      rintro e w6 ⟨b, rfl, hb, b6⟩
      have HF2 := Lib.hid (HF.out b w6 hb b6)
      clear hb b6 HF HRt
      cases b with
      | true =>
        go_wp2
        go_ret2
        exact HF2.out
      | false =>
        go_wp2
        go_ret2
        exact HF2.out
end Go.Proofs.Ytckmpbmlneionaa.L11
end

section
namespace Go.Proofs.Ytckmpbmlneionaa.L11
open Go.ChangeShapes Go.WideShapes Go.ChangeAt Go.RowKit Go.Deep

def partOf (zs : List Bytes) : Core := (numI (zs.getD 0 []), numI (zs.getD 1 []), numI (zs.getD 2 []), zs.drop 3)
def unpart (t : Bytes) : Option Core := (unrowN 3 t).map partOf
def ToldOut (w : World) (un : Bytes → Option Core) (tm : List Bytes) (e : Ending) (w' : World) : Prop :=
  (∃ (v : Value) (ls : List Pt), e = .returned (.tuple #[v, .int .i64 0]) ∧ tm.map un = (ls.map Pt.core).map some ∧ OkParts (ls.map Pt.core) ∧ PartsA w' v ls ∧ (∀ l ∈ ls, l.it.l.length ≤ 150) ∧ Below w.heap.size w w') ∨
  ((¬ ∃ lc, tm.map un = lc.map some ∧ OkParts lc) ∧ e = .returned (.tuple #[.slice none 0 0, .int .i64 2]) ∧ Below w.heap.size w w')
def TellGo (w : World) (tm : List Bytes) (k : Nat) (v4 vi : Value) (wr : World) : Prop :=
  ∃ (i : Nat) (ls : List Pt), k + i = tm.length ∧ vi = .int .i64 i ∧ (tm.take i).map unpart = (ls.map Pt.core).map some ∧ (∀ l ∈ ls, OwnD wr w.heap.size l.it ∧ intsP l ∧ l.it.l.length ≤ 150) ∧
    wr.ownsRow w.heap.size 60 4 v4 ls.length (flatP ls) ∧ Below w.heap.size w wr
set_option maxRecDepth 100000 in
set_option maxHeartbeats 8000000 in
theorem unpartC_calls (x : It) (w : World) (h : ItAt w x) (hl : x.l.length ≤ 4000000) : Calls Try.prog 21 #[x.v] w (ToldOut w unpart x.l) := by
  obtain ⟨i0, hi, hz0, hz1, hz2⟩ := info_partsC info_part
  obtain ⟨A, c, tm⟩ := x
  replace hl : tm.length ≤ 4000000 := hl
  have HR := Lib.hid (it_read h)
  have HSh := Lib.hid h.short
  have HSt : Hid (TellGo w tm tm.length (.slice none 0 0) (.int .i64 0) w) := ⟨0, [], by omega, rfl, by simp, by simp, World.ownsRow_nil _ _ _ _, Below.refl _ _⟩
  simp only [It.v]
  clear h
  go_enter Try.func21, Try.ntmps21
  go_wp2
  go_loopg [4, 12] tm.length (fun k v4 v12 wr => TellGo w tm k v4 v12 wr)
  case atStart => exact HSt.out
  clear HSt
  case round =>
    obtain ⟨i, ls, hk, rfl, hco, hit, hrow, hB⟩ := hrel
    obtain ⟨A9, c9, rfl⟩ := L5.own_slice hrow
    have hbs := hB.size
    have hll : ls.length = (tm.take i).length := by have := congrArg List.length hco; simpa using this.symm
    by_cases hil : i < tm.length
    · obtain ⟨t, hx⟩ : ∃ t, tm[i]? = some t := ⟨_, List.getElem?_eq_getElem hil⟩
      obtain ⟨ad, rfl, hrd⟩ := HR.out i t hx
      have a0 := hrd wr hB
      have ht := HSh.out t (List.mem_of_getElem? hx)
      have j1 : (i : Int) < (tm.length : Int) := by omega
      have j2 : (0 : Int) ≤ (i : Int) := by omega
      have hgk := Lib.hid (show gk - 1 < gk by omega)
      have HS : Hid (∀ V, Calls Try.prog 42 #[.string ⟨t.toArray⟩, (.int .i64 3)] V (SplitOut V t 3)) := fun V => split_calls t ht 3 (by omega) V
      have hll' : ls.length ≤ 4000000 := by rw [hll]; simp; omega
      have hnx : (tm.take (i + 1)).map unpart = (ls.map Pt.core).map some ++ [unpart t] := by rw [take_nextR tm hx, List.map_append, hco]; rfl
      have HNo : Hid ((¬ ∃ zs, splitOk t 3 zs) → ∀ V, Below wr.heap.size wr V → ToldOut w unpart tm (.returned (.tuple #[.slice none 0 0, .int .i64 2])) V) := fun hno V hV => by
        refine .inr ⟨fun ⟨lc, k1, _⟩ => hno ?_, rfl, hB.trans (hV.mono hbs)⟩
        have e := congrArg (fun l => l[i]?) k1
        simp only [List.getElem?_map, hx, Option.map_some] at e
        obtain ⟨y, hy, e2⟩ := Option.map_eq_some_iff.1 e.symm
        unfold unpart at e2
        obtain ⟨zs, hz, _⟩ := Option.map_eq_some_iff.1 e2.symm
        exact ⟨zs, unrowN_iff.1 hz⟩
      have HApp : Hid (∀ (zs : List Bytes) (z0 z1 z2 : Bytes) (A : Option Addr) (c g : Nat) V, splitOk t 3 zs → zs[0]? = some z0 → zs[1]? = some z1 → zs[2]? = some z2 → Below wr.heap.size wr V → OwnD V wr.heap.size ⟨A, c, zs.drop 3⟩ → g < V.heap.size → ((V.cell? ⟨g, 0, none⟩ = some (.int .i64 (numI z0)) ∧ V.cell? ⟨g, 1, none⟩ = some (.int .i64 (numI z1)) ∧ V.cell? ⟨g, 2, none⟩ = some (.int .i64 (numI z2))) ∧ wr.heap.size ≤ g) →
          (V.alloc (.cells #[.int .i64 (numI z0), .int .i64 (numI z1), .int .i64 (numI z2), .slice A (zs.drop 3).length c] 60)).ownsRow w.heap.size 60 4 (.slice A9 ls.length c9) ls.length (flatP ls) ∧
          (∀ (j : Nat) (u : Value), [Value.int .i64 (numI z0), .int .i64 (numI z1), .int .i64 (numI z2), .slice A (zs.drop 3).length c][j]? = some u → (V.alloc (.cells #[.int .i64 (numI z0), .int .i64 (numI z1), .int .i64 (numI z2), .slice A (zs.drop 3).length c] 60)).cell? ((⟨V.heap.size, 0, none⟩ : Addr).add j) = some u) ∧
          w.heap.size ≤ (V.alloc (.cells #[.int .i64 (numI z0), .int .i64 (numI z1), .int .i64 (numI z2), .slice A (zs.drop 3).length c] 60)).heap.size ∧
          ∀ v' w6, w6.ownsRow w.heap.size 60 4 v' (ls.length + 1) (flatP ls ++ [.int .i64 (numI z0), .int .i64 (numI z1), .int .i64 (numI z2), .slice A (zs.drop 3).length c]) → (V.alloc (.cells #[.int .i64 (numI z0), .int .i64 (numI z1), .int .i64 (numI z2), .slice A (zs.drop 3).length c] 60)).grownBy w6 (Value.slice A9 ls.length c9).ownBlock →
            (w6.cell? ⟨g, 0, none⟩ = some (.int .i64 (numI z0)) ∧ w6.cell? ⟨g, 1, none⟩ = some (.int .i64 (numI z1)) ∧ w6.cell? ⟨g, 2, none⟩ = some (.int .i64 (numI z2))) ∧ TellGo w tm (gk - 1) v' (.int .i64 ((i + 1 : Nat) : Int)) w6) := by
        intro zs z0 z1 z2 A c g V hok hz0 hz1 hz2 hV hD hg hc
        have hr := L5.own_below hrow hV
        have hb := hB.trans (hV.mono hbs)
        have hbz := hb.size
        refine ⟨hr.alloc _, fun j u hu => ?_, Nat.le_trans hbz (by simp), fun v' w6 k1 k2 => ?_⟩
        · rw [add_zeroC]
          simp only [World.cell?]
          rw [World.alloc_heap_new V _]
          simpa using hu
        · have k3 := (World.grownBy_alloc V (.cells #[.int .i64 (numI z0), .int .i64 (numI z1), .int .i64 (numI z2), .slice A (zs.drop 3).length c] 60) (Value.slice A9 ls.length c9).ownBlock).trans k2
          have hcell : ∀ j, w6.cell? ⟨g, j, none⟩ = V.cell? ⟨g, j, none⟩ := fun j => by
            refine World.cell?_of_block (k3.block _ hg (fun e => ?_))
            have := (hrow.lt g e.symm).2
            omega
          obtain ⟨_, _, hlz, _⟩ := takeRow_some hok.1
          refine ⟨⟨(hcell 0).trans hc.1.1, (hcell 1).trans hc.1.2.1, (hcell 2).trans hc.1.2.2⟩, i + 1, ls ++ [⟨numI z0, numI z1, numI z2, ⟨A, c, zs.drop 3⟩⟩], by omega, rfl, ?_, fun l hl => ?_, ?_, hb.grown k3 hbz (fun q e => (hr.lt q e).1)⟩
          · rw [hnx, List.map_append, List.map_append]
            congr 1
            unfold unpart
            rw [unrowN_iff.2 hok]
            simp only [Option.map_some, List.map_cons, List.map_nil, partOf, Pt.core, List.getD, hz0, hz1, hz2, Option.getD_some]
          · rcases List.mem_append.1 hl with hl | hl
            · exact ⟨((hit l hl).1.below hV).grown hr (of_decide_eq_true (by kernel_rfl)) k3, (hit l hl).2⟩
            · obtain rfl := List.mem_singleton.1 hl
              exact ⟨(hD.base hbs).grown hr (of_decide_eq_true (by kernel_rfl)) k3, ⟨numI_int z0, numI_int z1, numI_int z2⟩, by simp; omega⟩
          · rw [flatP_snoc, List.length_append]
            simp only [Pt.cells, It.v]
            exact k1
      clear hk hco hit hrow hB hx hrd ht hnx hll
      go_wp2_with fail
      refine (HS.out _).mono ?_
      rintro e w6 hsp
      rcases hsp with ⟨zs, A2, c2, g, hok, rfl, hgB, hg, hcl, hD, b6⟩ | ⟨hno, rfl, b6⟩
      · obtain ⟨z0, hz0⟩ : ∃ z, zs[0]? = some z := ⟨_, List.getElem?_eq_getElem (by have := hok.2.1; omega)⟩
        obtain ⟨z1, hz1⟩ : ∃ z, zs[1]? = some z := ⟨_, List.getElem?_eq_getElem (by have := hok.2.1; omega)⟩
        obtain ⟨z2, hz2⟩ : ∃ z, zs[2]? = some z := ⟨_, List.getElem?_eq_getElem (by have := hok.2.1; omega)⟩
        have f0 : w6.cell? ⟨g, 0, none⟩ = some (.int .i64 (numI z0)) := hcl 0 _ (by
          rw [numIs, List.getElem?_map, List.getElem?_take, if_pos (by omega), hz0]; rfl)
        have f1 : w6.cell? ⟨g, 1, none⟩ = some (.int .i64 (numI z1)) := hcl 1 _ (by
          rw [numIs, List.getElem?_map, List.getElem?_take, if_pos (by omega), hz1]; rfl)
        have f2 : w6.cell? ⟨g, 2, none⟩ = some (.int .i64 (numI z2)) := hcl 2 _ (by
          rw [numIs, List.getElem?_map, List.getElem?_take, if_pos (by omega), hz2]; rfl)
        have HA := Lib.hid (HApp.out zs z0 z1 z2 A2 c2 g w6.drew hok hz0 hz1 hz2 b6.drew (hD.below (Below.refl _ _).drew) hg ⟨⟨f0, f1, f2⟩, hgB⟩)
        clear hok hz0 hz1 hz2 hg hcl hD b6 hgB HApp HNo HS
        generalize numI z0 = n0 at *
        generalize numI z1 = n1 at *
        generalize numI z2 = n2 at *
        generalize (zs.drop 3).length = dl at *
        go_wp2
        go_region_held3 (fun V => V.cell? ⟨g, 0, none⟩ = some (.int .i64 n0) ∧ V.cell? ⟨g, 1, none⟩ = some (.int .i64 n1) ∧ V.cell? ⟨g, 2, none⟩ = some (.int .i64 n2))
          ((first | exact ⟨f0, f1, f2⟩ | (go_split_ands; refine ⟨?_, ?_, ?_⟩ <;> first | assumption | go_keep)))
          (first
            | (refine step_append_lies _ rfl (.tmp 24) (.tmp 37) 23 rfl w.heap.size 60 i0 zeroPt 4 48 Try.underlying23 hi hz0 hz1 hz2 rfl (by decide) (.slice A9 ls.length c9) ls.length (flatP ls) (by simp [Act.eval]) HA.out.1 ⟨w6.heap.size, 0, none⟩ 1 1 [.int .i64 n0, .int .i64 n1, .int .i64 n2, .slice A2 dl c2] (by simp [Act.eval]) rfl HA.out.2.1 (by simp [Value.oneCell']) (by decide) (by unfold maxLen; omega) (by omega) HA.out.2.2.1 (w6.heap.size + 1) (by simp) ?_
               intro gg cc w7 k1 k2 k3 k4
               obtain ⟨⟨g4, g5, g6⟩, hfin⟩ := HA.out.2.2.2 _ w7 k1 k2))
        have HJ := Lib.hid hfin
        clear hfin g4 g5 g6 k1 k2 k3 k4 HA
        go_wp2
        go_roundg (gk - 1)
        case measure => exact hgk.out
        case rel => exact HJ.out
      · have HF := Lib.hid (HNo.out hno w6 b6)
        clear hno b6 HNo HApp
        go_wp2
        go_ret2
        exact HF.out
    · obtain rfl : i = tm.length := by omega
      have j1 : ¬ (tm.length : Int) < (tm.length : Int) := by omega
      rw [List.take_length] at hco hll
      have hLA : PartsA wr (.slice A9 ls.length c9) ls := PartsA.of_own hrow (by unfold maxLen; omega) (fun l hl => ⟨(hit l hl).1.at', (hit l hl).2.1⟩)
      have HRt := Lib.hid (rightParts_calls wr hLA)
      have HF : Hid (∀ b V, (b = true ↔ OkParts (ls.map Pt.core)) → Below wr.heap.size wr V → ToldOut w unpart tm (.returned (if b then .tuple #[.slice A9 ls.length c9, .int .i64 0] else .tuple #[.slice none 0 0, .int .i64 2])) V) := fun b V hb hV => by
        cases b with
        | true => exact .inl ⟨_, ls, rfl, hco, hb.1 rfl, hLA.below hV, fun l hl => (hit l hl).2.2, hB.trans (hV.mono hbs)⟩
        | false =>
          refine .inr ⟨fun ⟨lc, k1, k2⟩ => ?_, rfl, hB.trans (hV.mono hbs)⟩
          rw [hco] at k1
          have k3 : ls.map Pt.core = lc := (List.map_inj_right (fun _ _ h => Option.some.inj h)).1 k1
          rw [← k3] at k2
          have := hb.2 k2
          cases this
      clear hk hco hit hrow hB hll hLA
      go_wp2_with fail
      refine HRt.out.mono ?_
      rintro e w6 ⟨b, rfl, hb, b6⟩
      have HF2 := Lib.hid (HF.out b w6 hb b6)
      clear hb b6 HF HRt
      cases b with
      | true =>
        go_wp2
        go_ret2
        exact HF2.out
      | false =>
        go_wp2
        go_ret2
        exact HF2.out
end Go.Proofs.Ytckmpbmlneionaa.L11
end

section
namespace Go.Proofs.Ytckmpbmlneionaa.L11
open Go.ChangeShapes Go.WideShapes Go.ChangeAt Go.RowKit Go.Deep

theorem beNum_be8c (n : Nat) (h : n < 18446744073709551616) : Tm.beNum (Tm.be8 n) = n := by
  simp only [Tm.beNum, Tm.be8, List.foldl_cons, List.foldl_nil, Nat.zero_mul, Nat.zero_add, UInt8.toNat_ofNat', Nat.reducePow, Nat.div_one]
  omega
theorem valueT_num {n : Nat} (h : n < 18446744073709551616) (hr : Tm.right (numT n) = true) : Tm.valueT (numT n) = (n, true) := by
  have hk : Tm.kindOf (numT n) = 117 := by unfold Tm.kindOf; rw [if_pos hr]; rfl
  unfold Tm.valueT
  rw [if_pos (.inr hk)]
  show (Tm.beNum (Tm.be8 n), true) = _
  rw [beNum_be8c n h]
theorem wrap_small {n : Nat} (h : n < 9223372036854775808) : IntKind.i64.wrap (n : Int) = (n : Int) := by rw [IntKind.wrap_i64]; omega
theorem numI_num {n : Nat} (h : n < 9223372036854775808) (hr : Tm.right (numT n) = true) : numI (numT n) = (n : Int) := by
  unfold numI
  rw [valueT_num (by omega) hr]
  exact wrap_small h
theorem isNum_num {n : Nat} (h : n < 18446744073709551616) (hr : Tm.right (numT n) = true) : IsNum (numT n) := by
  unfold IsNum
  rw [valueT_num h hr]
theorem right_in {r : List Bytes} (h : Tm.wrongIn r = false) {z : Bytes} (hz : z ∈ r) : Tm.right z = true := by
  rw [Tm.right_iff]
  intro e
  have : Tm.wrongIn r = true := List.any_eq_true.2 ⟨z, hz, by simp [e]⟩
  rw [h] at this
  cases this
theorem row_two {r : List Bytes} (h : rowE r = 0) : Tm.takeRow (rowT r) = (r, 0) ∧ Tm.wrongIn r = false := by
  have e : Tm.putRow r = (rowT r, 0) := Prod.ext rfl h
  exact ⟨(Tm.take_put e).2, (Tm.putRow_ok e).2.2.1⟩
theorem unlog_row {c : LCore} (h1 : 1 ≤ c.1) (h8 : c.1 ≤ 8) (h : rowE (rowLg c) = 0) : unlog (rowT (rowLg c)) = some c := by
  obtain ⟨k1, k2⟩ := row_two h
  have hr : Tm.right (numT c.1.toNat) = true := right_in k2 (by simp [rowLg])
  unfold unlog
  rw [(unrowN_iff (zs := rowLg c)).2 ⟨k1, by simp [rowLg], fun z hz => by
    simp [rowLg] at hz
    rw [hz]
    exact isNum_num (by omega) hr⟩]
  obtain ⟨a, l⟩ := c
  simp only [Option.map_some, logOf, rowLg, List.getD_cons_zero, List.drop_one, List.tail_cons, numI_num (show a.toNat < 9223372036854775808 by omega) hr]
  congr 2
  omega
theorem unpart_row {c : Core} (ho : OldOk c.1 c.2.1) (hs : 1 ≤ c.2.2.1 ∧ c.2.2.1 ≤ 8) (h : rowE (rowPt c) = 0) : unpart (rowT (rowPt c)) = some c := by
  obtain ⟨k1, k2⟩ := row_two h
  obtain ⟨o1, o2, o3, o4⟩ := ho
  have hr0 : Tm.right (numT c.1.toNat) = true := right_in k2 (by simp [rowPt])
  have hr1 : Tm.right (numT c.2.1.toNat) = true := right_in k2 (by simp [rowPt])
  have hr2 : Tm.right (numT c.2.2.1.toNat) = true := right_in k2 (by simp [rowPt])
  unfold unpart
  rw [(unrowN_iff (zs := rowPt c)).2 ⟨k1, by simp [rowPt], fun z hz => by
    simp [rowPt] at hz
    rcases hz with rfl | rfl | rfl
    · exact isNum_num (by omega) hr0
    · exact isNum_num (by omega) hr1
    · exact isNum_num (by omega) hr2⟩]
  obtain ⟨a, b, d, l⟩ := c
  simp only [Option.map_some, partOf, rowPt, List.getD_cons_zero, List.getD_cons_succ, List.drop_succ_cons, List.drop_zero, numI_num (show a.toNat < 9223372036854775808 by simp only at o2; omega) hr0, numI_num (show b.toNat < 9223372036854775808 by simp only at o4; omega) hr1, numI_num (show d.toNat < 9223372036854775808 by simp only at hs; omega) hr2]
  simp only at o1 o3 hs
  rw [Int.toNat_of_nonneg o1, Int.toNat_of_nonneg o3, Int.toNat_of_nonneg (by omega)]
/-- What is put is taken again. -/
theorem put_taken {lc : List LCore} (ho : OkLogs lc) (h : ∀ r ∈ lc.map rowLg, rowE r = 0) : ((lc.map rowLg).map rowT).map unlog = lc.map some := by
  rw [List.map_map, List.map_map]
  refine List.map_congr_left fun c hc => ?_
  obtain ⟨i, hi⟩ := List.getElem?_of_mem hc
  obtain ⟨k1, k2, _⟩ := ho i c hi
  exact unlog_row k1 k2 (h _ (List.mem_map.2 ⟨c, hc, rfl⟩))
theorem parts_taken {pc : List Core} (ho : OkParts pc) (h : ∀ r ∈ pc.map rowPt, rowE r = 0) : ((pc.map rowPt).map rowT).map unpart = pc.map some := by
  rw [List.map_map, List.map_map]
  refine List.map_congr_left fun c hc => ?_
  obtain ⟨i, hi⟩ := List.getElem?_of_mem hc
  obtain ⟨k1, k2, _⟩ := ho i c hi
  exact unpart_row k1 k2 (h _ (List.mem_map.2 ⟨c, hc, rfl⟩))
theorem num_back {z : Bytes} (h : IsNum z) (h0 : 0 ≤ numI z) : numT (numI z).toNat = z := by
  have hl := valueT_lt z
  have e : (numI z).toNat = (Tm.valueT z).1 := by
    unfold numI at h0 ⊢
    rw [IntKind.wrap_i64] at h0 ⊢
    omega
  rw [e]
  exact h.symm
theorem row_log {t : Bytes} {c : LCore} (h : unlog t = some c) (h1 : 1 ≤ c.1) : rowT (rowLg c) = t ∧ rowE (rowLg c) = 0 := by
  unfold unlog at h
  obtain ⟨zs, hz, rfl⟩ := Option.map_eq_some_iff.1 h
  obtain ⟨k1, k2, k3⟩ := unrowN_iff.1 hz
  have e : rowLg (logOf zs) = zs := by
    match zs, k2 with
    | z :: r, _ =>
      simp only [logOf, List.getD_cons_zero] at h1
      simp only [rowLg, logOf, List.getD_cons_zero, List.drop_one, List.tail_cons, num_back (k3 z (by simp)) (by omega)]
  rw [e]
  have := Tm.put_take k1
  unfold rowT rowE
  rw [this]
  exact ⟨rfl, rfl⟩
theorem row_part {t : Bytes} {c : Core} (h : unpart t = some c) (ho : OldOk c.1 c.2.1) (hs : 1 ≤ c.2.2.1) : rowT (rowPt c) = t ∧ rowE (rowPt c) = 0 := by
  unfold unpart at h
  obtain ⟨zs, hz, rfl⟩ := Option.map_eq_some_iff.1 h
  obtain ⟨k1, k2, k3⟩ := unrowN_iff.1 hz
  have e : rowPt (partOf zs) = zs := by
    match zs, k2 with
    | z0 :: z1 :: z2 :: r, _ =>
      obtain ⟨o1, o2, o3, o4⟩ := ho
      simp only [partOf, List.getD_cons_zero, List.getD_cons_succ] at o1 o3 hs
      simp only [rowPt, partOf, List.getD_cons_zero, List.getD_cons_succ, List.drop_succ_cons, List.drop_zero, num_back (k3 z0 (by simp)) o1, num_back (k3 z1 (by simp)) o3, num_back (k3 z2 (by simp)) (by omega)]
  rw [e]
  have := Tm.put_take k1
  unfold rowT rowE
  rw [this]
  exact ⟨rfl, rfl⟩
theorem map_some_at {α β : Type} {s : List α} {f : α → Option β} {l : List β} (h : s.map f = l.map some) : ∀ (i : Nat) (c : β), l[i]? = some c → ∃ t, s[i]? = some t ∧ f t = some c := fun i c hc => by
  have e := congrArg (fun x => x[i]?) h
  simp only [List.getElem?_map, hc, Option.map_some] at e
  exact Option.map_eq_some_iff.1 e
theorem map_back {α : Type} {s : List Bytes} {f : Bytes → Option α} {l : List α} {g : α → List Bytes} (h : s.map f = l.map some) (hb : ∀ t c, f t = some c → c ∈ l → rowT (g c) = t ∧ rowE (g c) = 0) : (l.map g).map rowT = s ∧ ∀ r ∈ l.map g, rowE r = 0 := by
  have hl : s.length = l.length := by have := congrArg List.length h; simpa using this
  constructor
  · refine List.ext_getElem? fun i => ?_
    cases hc : l[i]? with
    | none =>
      have h1 : l.length ≤ i := List.getElem?_eq_none_iff.1 hc
      rw [List.getElem?_eq_none (by simp; omega), List.getElem?_eq_none (by omega)]
    | some c =>
      obtain ⟨t, h1, h2⟩ := map_some_at h i c hc
      simp only [List.getElem?_map, hc, Option.map_some, h1, (hb t c h2 (List.mem_of_getElem? hc)).1]
  · intro r hr
    obtain ⟨c, hc, rfl⟩ := List.mem_map.1 hr
    obtain ⟨i, hi⟩ := List.getElem?_of_mem hc
    obtain ⟨t, _, h2⟩ := map_some_at h i c hi
    exact (hb t c h2 hc).2
/-- What is taken is put again. -/
theorem take_putC {s : List Bytes} {lc : List LCore} (h : s.map unlog = lc.map some) (ho : OkLogs lc) : (lc.map rowLg).map rowT = s ∧ ∀ r ∈ lc.map rowLg, rowE r = 0 :=
  map_back h fun t c h1 hc => by
    obtain ⟨i, hi⟩ := List.getElem?_of_mem hc
    exact row_log h1 (ho i c hi).1
theorem take_partsC {s : List Bytes} {pc : List Core} (h : s.map unpart = pc.map some) (ho : OkParts pc) : (pc.map rowPt).map rowT = s ∧ ∀ r ∈ pc.map rowPt, rowE r = 0 :=
  map_back h fun t c h1 hc => by
    obtain ⟨i, hi⟩ := List.getElem?_of_mem hc
    exact row_part h1 (ho i c hi).1 (ho i c hi).2.1.1
end Go.Proofs.Ytckmpbmlneionaa.L11
end
