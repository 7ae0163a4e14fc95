/- Contract of list.numbers: so many numbers at the beginning of a row, and what is behind them. Contract of list.messageOf: a row as a message, which need not be right. Contract of list.Unpack: the message of a term, or what is wrong. What was packed says its message; other numbers make a term as long. What a term says as a message is packed to that term again. -/
import Derived.Test.YtiodphkmllcjdaaGreatMsg
import Derived.Test.YtiodphkmllcjdaaGreatValue
import Derived.Test.YtiodphkmllcjdaaGreatListPure
import Derived.Test.YtiodphkmllcjdaaGreatLater
import Derived.Laws.OwnMore
import Derived.Deep.Slices
import Derived.IntWalk
import Derived.Test.YtiodphkmllcjdaaGreatAsMsg
import Derived.Test.YtiodphkmllcjdaaGreatPackG
import Derived.Laws.ResultCell
import Derived.Deep.RegionHeld3
import Derived.Test.YtiodphkmllcjdaaGreatRowFacts
section
namespace Go.Proofs.YtiodphkmllcjdaaGreat
open Go.ChangeShapes Go.WideShapes Go.ChangeAt Go.RowKit

/-- A row that can be sliced. -/
structure RowC (w : World) (v : Value) (zs : List (List UInt8)) : Prop where
  row : RowA w v zs
  cap : ∃ A c, v = .slice A zs.length c ∧ zs.length ≤ c ∧ c ≤ maxLen ∧ (A = none → c = 0)
theorem RowC.below {w w' : World} {v : Value} {zs : List (List UInt8)} (h : RowC w v zs) (hb : Below w.heap.size w w') : RowC w' v zs := ⟨h.row.below hb, h.cap⟩
theorem RowC.drop {w : World} {A : Option Addr} {c i : Nat} {zs : List (List UInt8)} (h : RowC w (.slice A zs.length c) zs) (hi : i ≤ zs.length) (_hc : c ≠ i) : RowC w (.slice (A.map (fun x => x.add i)) (zs.length - i) (c - i)) (zs.drop i) := by
  obtain ⟨A', c', e, k1, k2, k3⟩ := h.cap
  cases e
  have hl : (zs.drop i).length = zs.length - i := List.length_drop
  refine ⟨⟨⟨A.map (fun x => x.add i), c - i, by rw [hl], fun j x hx => ?_⟩, fun z hz => h.row.short z (List.mem_of_mem_drop hz), by rw [hl]; have := h.row.few; omega⟩, ⟨_, _, by rw [hl], by rw [hl]; omega, by omega, fun e => ?_⟩⟩
  · rw [List.getElem?_drop] at hx
    obtain ⟨A', c', e, k⟩ := h.row.reads
    cases e
    obtain ⟨ad, rfl, b1, b2, b3⟩ := k (i + j) x hx
    exact ⟨ad.add i, rfl, by rw [addr_block]; exact b1, id, by rw [Go.Deep.add_add]; exact b3⟩
  · cases A with
    | none => have := k3 rfl; omega
    | some a => cases e
theorem RowC.none {w : World} {A : Option Addr} : RowC w (.slice A 0 0) [] := ⟨⟨⟨A, 0, rfl, fun j x hx => by simp at hx⟩, by simp, by simp⟩, ⟨A, 0, rfl, by simp, by simp, fun _ => rfl⟩⟩
def numV (z : List UInt8) : Int := IntKind.i64.wrap ((Tm.valueT z).1 : Nat)
def numVals (zs : List (List UInt8)) : List Value := zs.map (fun z => .int .i64 (numV z))
def Nums (zs : List (List UInt8)) (many : Int) (k : Nat) : Prop := many = k ∧ k ≤ zs.length ∧ ∀ z ∈ zs.take k, Tm.kindOf z = 117
def NumsOut (w : World) (v : Value) (zs : List (List UInt8)) (many : Int) (e : Ending) (w' : World) : Prop :=
  (∃ (k : Nat) (v1 v2 : Value), Nums zs many k ∧ e = .returned (.tuple #[v1, v2, .bool true]) ∧ w'.ownsRow w.heap.size 3 1 v1 k (numVals (zs.take k)) ∧ (∀ V, RowC V v zs → RowC V v2 (zs.drop k)) ∧ Below w.heap.size w w') ∨
  (e = .returned (.tuple #[.slice none 0 0, .slice none 0 0, .bool false]) ∧ (¬ ∃ k, Nums zs many k) ∧ Below w.heap.size w w')
theorem info_int4 : (Tryz.prog.info? 3).map (fun i => (i.zero, i.size, i.bytes)) = some (some (.int .i64 0), 1, 8) := by kernel_rfl
def Numbers (w : World) (zs : List (List UInt8)) (n k : Nat) (v23 : Value) (wr : World) : Prop :=
  ∃ i : Nat, k + i = n ∧ v23 = .int .i64 i ∧ (∀ z ∈ zs.take i, Tm.kindOf z = 117) ∧ wr.ownsRow w.heap.size 3 1 (.slice (some ⟨w.heap.size, 0, none⟩) n n) n (numVals (zs.take i) ++ List.replicate (n - i) (.int .i64 0)) ∧ Below w.heap.size w wr

theorem numbers_step {w wr u2 : World} {zs : List (List UInt8)} {n i : Nat} {z : List UInt8} (hlt : i < n) (hnl : n ≤ zs.length) (hz : zs[i]? = some z) (hu : Tm.kindOf z = 117) (hpre : ∀ z ∈ zs.take i, Tm.kindOf z = 117) (hB : Below w.heap.size w wr)
    (hown : wr.ownsRow w.heap.size 3 1 (.slice (some ⟨w.heap.size, 0, none⟩) n n) n (numVals (zs.take i) ++ List.replicate (n - i) (.int .i64 0))) (b2 : Below wr.heap.size wr u2) :
    (u2.cell? ⟨w.heap.size, i, none⟩ = some (.int .i64 0) ∧ u2.frozen? ⟨w.heap.size, i, none⟩ = false) ∧ Hid (∀ y : Int, y = numV z → Numbers w zs n (n - (i + 1)) (.int .i64 ((i + 1 : Nat) : Int)) (u2.setCell ⟨w.heap.size, i, none⟩ (.int .i64 y))) := by
  have h2 := own_below hown b2
  have hlen : (numVals (zs.take i)).length = i := by simp [numVals]; omega
  refine ⟨⟨?_, h2.frozenAt i⟩, fun y hy => ?_⟩
  · rw [h2.cellAt i (by omega), List.getElem?_append_right (by omega), hlen, Nat.sub_self, List.getElem?_replicate, if_pos (by omega)]
  · obtain ⟨k1, k2⟩ := h2.stored i (.int .i64 y)
    have ht : zs.take (i + 1) = zs.take i ++ [z] := by rw [List.take_add_one, hz]; rfl
    have hB2 := hB.trans (b2.mono hB.size)
    refine ⟨i + 1, by omega, rfl, ?_, ?_, hB2.setCell (by simp) _⟩
    · intro z' hz'
      rw [ht] at hz'
      rcases List.mem_append.1 hz' with hz' | hz'
      · exact hpre z' hz'
      · simp at hz'
        rw [hz']
        exact hu
    · have e : (numVals (zs.take i) ++ List.replicate (n - i) (Value.int .i64 0)).set i (Value.int .i64 y) = numVals (zs.take (i + 1)) ++ List.replicate (n - (i + 1)) (Value.int .i64 0) := by
        rw [List.set_append_right _ _ (by omega), hlen, Nat.sub_self, ht, show n - i = (n - (i + 1)) + 1 from by omega, List.replicate_succ, List.set_cons_zero, hy]
        simp [numVals]
      rw [e] at k1
      exact k1

set_option maxRecDepth 100000 in
set_option maxHeartbeats 4000000 in
theorem numbers_calls (zs : List (List UInt8)) (v : Value) (many : Int) (w : World) (h : RowC w v zs) (hl : zs.length ≤ 100000) : Calls Tryz.prog 77 #[v, .int .i64 many] w (NumsOut w v zs many) := by
  obtain ⟨i0, hi, hz0, hz1, hz2⟩ := info_parts info_int4
  obtain ⟨A, c, rfl, hlc, hcm, hnil⟩ := h.cap
  have HW := Lib.hid (fun V => within_calls many 0 zs.length V)
  by_cases hin : 0 ≤ many ∧ many ≤ zs.length
  case neg =>
    have hf : withinB many 0 zs.length = false := by
      cases hb : withinB many 0 zs.length with
      | false => rfl
      | true => exact absurd ((withinB_iff _ _ _).1 hb) hin
    rw [hf] at HW
    have hfin : Hid (NumsOut w (.slice A zs.length c) zs many (.returned (.tuple #[.slice none 0 0, .slice none 0 0, .bool false])) w) := .inr ⟨rfl, fun ⟨k, e, k1, _⟩ => hin (by omega), Below.refl _ _⟩
    clear hf hin hcm hnil hlc h
    go_enter Tryz.func77, Tryz.ntmps77
    go_wp2_with fail
    refine (HW.out _).mono ?_
    rintro e w1 ⟨rfl, rfl⟩
    go_wp2
    refine bodyPost_ret (by simp [results]; rfl) rfl ?_
    exact hfin.out
  obtain ⟨n, rfl⟩ : ∃ n : Nat, many = n := ⟨many.toNat, by omega⟩
  have hnl : n ≤ zs.length := by omega
  have ht : withinB (n : Int) 0 zs.length = true := (withinB_iff _ _ _).2 hin
  rw [ht] at HW
  obtain ⟨W2, hmk, hown0, hg0⟩ := run_make_full (P := Tryz.prog) (w := w) w.heap.size 33 3 i0 (.int .i64 0) 1 Tryz.underlying33 hi hz0 hz1 .i64 .i64 n (by rw [hz2]; omega) (by unfold maxLen; omega) (Nat.le_refl _)
  have hmk' : (Instr.makeSlice 33 (.int .i64 (n : Int)) (.int .i64 (n : Int))).run Tryz.prog w = .ok (.slice (some ⟨w.heap.size, 0, none⟩) n n) W2 := hmk
  have HStart : Hid (Numbers w zs n n (.int .i64 0) W2) := ⟨0, rfl, rfl, by simp, by
    have e : (madeCells (Value.int .i64 0).cells (n * 1)).toList = List.replicate n (.int .i64 0) := by rw [Nat.mul_one]; exact toList_madeCells_one _ _
    rw [e] at hown0
    simpa [numVals] using hown0, (Below.refl _ _).grown hg0 (Nat.le_refl _) (by simp)⟩
  have hcI : (n : Int) ≤ (c : Int) := by omega
  have hn0 : (0 : Int) ≤ (n : Int) := by omega
  have HC := Lib.hid h
  have HNil := Lib.hid hnil
  clear hmk hown0 hg0 ht hin h hnil
  unfold maxLen at hcm
  go_enter Tryz.func77, Tryz.ntmps77
  go_wp2_with fail
  refine (HW.out _).mono ?_
  rintro e w1 ⟨rfl, rfl⟩
  go_wp2
  clear hmk'
  go_loopg [23] n (fun k v23 wr => Numbers w zs n k v23 wr)
  case atStart => exact HStart.out
  case round =>
    clear HStart
    obtain ⟨i, hk, rfl, hpre, hown, hB⟩ := hrel
    by_cases hlt : i < n
    · obtain ⟨z, hz⟩ : ∃ z, zs[i]? = some z := ⟨_, List.getElem?_eq_getElem (by omega)⟩
      have hzl := HC.out.row.short z (List.mem_of_getElem? hz)
      obtain ⟨ad, rfl, a4⟩ : ∃ ad : Addr, A = some ad ∧ wr.cell? (ad.add i) = some (.string ⟨z.toArray⟩) := by
        obtain ⟨A', c', e, k⟩ := (HC.out.row.below hB).reads
        cases e
        obtain ⟨ad, e2, _, _, b2⟩ := k i z hz
        exact ⟨ad, e2, b2⟩
      have HKi := Lib.hid (fun V => Kind_calls ⟨z.toArray⟩ (by rw [size_list]; exact hzl) V)
      have HVa := Lib.hid (fun V => Value_calls ⟨z.toArray⟩ (by rw [size_list]; exact hzl) V)
      have ez : (⟨z.toArray⟩ : ByteArray).data.toList = z := rfl
      rw [ez] at HKi HVa
      have j1 : (i : Int) < (n : Int) := by omega
      have j2 : (0 : Int) ≤ (i : Int) := by omega
      have HK := Lib.hid hk
      have HOwn := Lib.hid hown
      have HBl := Lib.hid hB
      have HPre := Lib.hid hpre
      have HZ := Lib.hid hz
      by_cases hu : Tm.kindOf z = 117
      · have hgo : (((Tm.kindOf z).toNat : Int) != 117) = false := by rw [hu]; rfl
        obtain ⟨⟨x, xb⟩, hx⟩ : ∃ r, Tm.valueT z = r := ⟨_, rfl⟩
        have HX : Hid (numV z = IntKind.i64.wrap (x : Int)) := by show numV z = _; unfold numV; rw [hx]
        rw [hx] at HVa
        have HStep := Lib.hid (fun (u2 : World) (b2 : Below wr.heap.size wr u2) => numbers_step hlt hnl hz hu hpre hB hown b2)
        clear hk hown hB hpre hz hzl hu hx ez HOwn HBl HPre HZ
        generalize Tm.kindOf z = kz at *
        go_wp2_with (first
          | (go_at_call 54; refine (HKi.out _).mono ?_; rintro e u1 ⟨rfl, b1⟩; have c1 := Lib.hid b1; clear b1)
          | (go_at_call 98; refine (HVa.out _).mono ?_; rintro e u2 ⟨rfl, b2⟩; obtain ⟨⟨k1, k2⟩, k3⟩ := HStep.out u2 (c1.out.trans (b2.mono c1.out.size)); clear b2))
        have HR := Lib.hid (k3.out (wrap64 (x : Int)) ((IntWalk.i64_left _).symm.trans HX.out.symm))
        clear k1 k2 k3
        go_roundg (n - (i + 1))
        case measure => have := HK.out; omega
        case rel => exact HR.out
      · have hgo : (((Tm.kindOf z).toNat : Int) != 117) = true := by
          rw [bne_iff_ne]
          intro e
          apply hu
          apply UInt8.toNat_inj.1
          exact Int.ofNat.inj e
        have hfin : Hid (∀ u1, Below wr.heap.size wr u1 → NumsOut w (.slice (some ad) zs.length c) zs n (.returned (.tuple #[.slice none 0 0, .slice none 0 0, .bool false])) u1) := fun u1 b1 => .inr ⟨rfl, fun ⟨k, e, k1, k2⟩ => hu (k2 z (List.mem_of_getElem? (i := i) (by rw [List.getElem?_take, if_pos (by omega)]; exact hz))), hB.trans (b1.mono hB.size)⟩
        clear hk hown hB hpre hz hzl hu ez HOwn HBl HPre HZ HVa
        generalize Tm.kindOf z = kz at *
        go_wp2_with fail
        refine (HKi.out _).mono ?_
        rintro e u1 ⟨rfl, b1⟩
        have HF := Lib.hid (hfin.out u1 b1)
        clear b1
        go_wp2
        refine bodyPost_ret (by simp [results]; rfl) rfl ?_
        exact HF.out
    · obtain rfl : i = n := by omega
      have j1 : ¬ ((i : Int) < (i : Int)) := by omega
      have HFin : Hid (∀ (w2 : World) (v2 : Value), Below wr.heap.size wr w2 → (∀ V, RowC V (.slice A zs.length c) zs → RowC V v2 (zs.drop i)) → NumsOut w (.slice A zs.length c) zs i (.returned (.tuple #[.slice (some ⟨w.heap.size, 0, none⟩) i i, v2, .bool true])) w2) := fun w2 v2 b2 hr => by
        refine .inl ⟨i, _, v2, ⟨rfl, hnl, hpre⟩, rfl, ?_, hr, hB.trans (b2.mono hB.size)⟩
        have := own_below hown b2
        rw [Nat.sub_self] at this
        simpa using this
      clear hk hown hB hpre
      by_cases hcap : c = i
      · have hzi : zs.length = i := by omega
        have hd : zs.drop i = [] := List.drop_eq_nil_of_le (by omega)
        have HD : Hid (∀ V, RowC V (.slice A zs.length c) zs → RowC V (.slice A 0 0) (zs.drop i)) := by
          intro V _
          rw [hd]
          exact RowC.none
        subst hcap
        clear hd
        rw [hzi]
        clear hzi hlc
        go_wp2
        refine wp_region_later (by kernel_rfl) (by kernel_rfl) ?_
        repeat
          (refine Quietly.step (fun K hK => ?_)
           go_simp
           refine hK _ ?_
           clear hK K)
        refine Quietly.none ?_
        rintro w2 ⟨⟨V, b2⟩, rfl⟩
        have HF := Lib.hid (HFin.out _ _ b2 HD.out)
        clear b2
        go_wp2
        refine bodyPost_ret (by simp [results]; rfl) rfl ?_
        exact HF.out
      · have HD := Lib.hid (fun V (hV : RowC V (.slice A zs.length c) zs) => hV.drop hnl hcap)
        go_wp2
        refine wp_region_later (by kernel_rfl) (by kernel_rfl) ?_
        repeat
          (refine Quietly.step (fun K hK => ?_)
           go_simp
           refine hK _ ?_
           clear hK K)
        refine Quietly.none ?_
        rintro w2 ⟨⟨V, b2⟩, rfl⟩
        have HF := Lib.hid (HFin.out _ _ b2 HD.out)
        clear b2
        go_wp2
        refine bodyPost_ret (by simp [results]; rfl) rfl ?_
        exact HF.out
end Go.Proofs.YtiodphkmllcjdaaGreat
end

section
namespace Go.Proofs.YtiodphkmllcjdaaGreat
open Go.ChangeShapes Go.WideShapes Go.ChangeAt Go.RowKit

theorem results_both {P : Program} {fn : Func} {p u : Tmp} {ty : TypeId} (h : fn.results = #[.cell p ty, .tmp u]) (tmps : Array Value) (w : World) (g : Nat) (t : TypeId) (cs : Array Value) (fr : Nat × Nat) (d : TypeDesc)
    (hp : tmps.getD p undef = .pointer (some ⟨g, 0, none⟩)) (hg : w.heap[g]? = some (.cells cs t fr))
    (hu : P.underlying ty = some d) (hd : (match d with | .struct _ | .array _ _ => true | _ => false) = true) (hi : (P.info? ty).map (·.size) = some cs.size) :
    (results fn tmps).run P w = .ok (.tuple #[.agg cs, tmps.getD u undef]) w := by
  rw [results_cell_tmp h, hp]
  simp [asAddr, run_loadVar_row w g t ty cs fr d hg hu hd hi, Result.andThen]
/-- The message that a row says. -/
def MsgRow (zs : List (List UInt8)) (m : Msg) : Prop :=
  ∃ (z0 z1 z2 z3 z4 z5 z6 : List UInt8) (rest : List (List UInt8)) (k : Nat), zs = z0 :: z1 :: z2 :: z3 :: z4 :: z5 :: z6 :: rest ∧ (∀ z ∈ [z0, z1, z2, z3, z4, z5, z6], Tm.kindOf z = 117) ∧ Nums rest (numV z6) k ∧
    m = ⟨numV z0, numV z1, numV z2, numV z3, numV z4, numV z5, (rest.take k).map numV, rest.drop k⟩
def zeroMsg : Value := .agg #[.int .i64 0, .int .i64 0, .int .i64 0, .int .i64 0, .int .i64 0, .int .i64 0, .slice none 0 0, .slice none 0 0]
def MsgOfOut (w : World) (v : Value) (zs : List (List UInt8)) (e : Ending) (w' : World) : Prop :=
  (∃ m vm vt, MsgRow zs m ∧ e = .returned (.tuple #[.agg (msgCells m vm vt), .bool true]) ∧ w'.ownsRow w.heap.size 3 1 vm m.mem.length (m.mem.map (fun x => .int .i64 x)) ∧ (∀ V, RowC V v zs → RowC V vt m.terms) ∧ Below w.heap.size w w') ∨
  (e = .returned (.tuple #[zeroMsg, .bool false]) ∧ (¬ ∃ m, MsgRow zs m) ∧ Below w.heap.size w w')

set_option maxRecDepth 100000 in
set_option maxHeartbeats 4000000 in
theorem messageOf_calls (zs : List (List UInt8)) (v : Value) (w : World) (h : RowC w v zs) (hl : zs.length ≤ 1000) : Calls Tryz.prog 57 #[v] w (MsgOfOut w v zs) := by
  obtain ⟨W0, hW0⟩ : ∃ W0, w.alloc (.cells #[.int .i64 0, .int .i64 0, .int .i64 0, .int .i64 0, .int .i64 0, .int .i64 0, .slice none 0 0, .slice none 0 0] 87) = W0 := ⟨_, rfl⟩
  have hs0 : W0.heap.size = w.heap.size + 1 := by rw [← hW0]; simp
  have hB0 : Below w.heap.size w W0 := by rw [← hW0]; exact (Below.refl _ w).alloc (Nat.le_refl _) _
  have hR0 : W0.heap[w.heap.size]? = some (.cells #[.int .i64 0, .int .i64 0, .int .i64 0, .int .i64 0, .int .i64 0, .int .i64 0, .slice none 0 0, .slice none 0 0] 87 (0, 0)) := by
    rw [← hW0]; exact World.alloc_heap_new _ _
  have HN1 := Lib.hid (numbers_calls zs v 7 W0 (h.below hB0) (by omega))
  obtain ⟨A, c, rfl, _⟩ := h.cap
  have HR0 : Hid (∀ V, Below W0.heap.size W0 V → V.heap[w.heap.size]? = some (.cells #[.int .i64 0, .int .i64 0, .int .i64 0, .int .i64 0, .int .i64 0, .int .i64 0, .slice none 0 0, .slice none 0 0] 87 (0, 0)) ∧ Below w.heap.size w V) := fun V hV => ⟨(hV.block w.heap.size (by omega)).trans hR0, hB0.trans (hV.mono (by omega))⟩
  have HH := Lib.hid (And.intro h hB0)
  clear h hB0 hR0
  go_enter Tryz.func57, Tryz.ntmps57
  go_wp2_with fail
  refine HN1.out.mono ?_
  rintro e w1 (⟨k, v1, v2, ⟨hk, hkl, hku⟩, rfl, hown, hrow, hB⟩ | ⟨rfl, hno, hB⟩)
  · obtain rfl : k = 7 := by omega
    match zs, hkl with
    | z0 :: z1 :: z2 :: z3 :: z4 :: z5 :: z6 :: rest, _ =>
      simp only [List.take_succ_cons, List.take_zero, List.drop_succ_cons, List.drop_zero] at hku hown hrow
      have hroww := hrow w HH.out.1
      have hrow1 := hrow W0 (HH.out.1.below HH.out.2)
      obtain ⟨A2, c2, rfl, _⟩ := hroww.cap
      obtain ⟨g, c1, rfl, hg, hgl⟩ : ∃ g c1, v1 = .slice (some ⟨g, 0, none⟩) 7 c1 ∧ W0.heap.size ≤ g ∧ g < w1.heap.size := by
        rcases hown.2 with ⟨_, h0⟩ | ⟨g, cap, cur, e, k1, k2, _⟩
        · simp at h0
        · exact ⟨g, cap, e, k1, (Array.getElem?_eq_some_iff.1 k2).1⟩
      have HN2 := Lib.hid (numbers_calls rest _ (numV z6) w1 (hrow1.below hB) (by simp at hl; omega))
      have HCe : Hid (∀ V, Below w1.heap.size w1 V → V.cell? ⟨g, 0, none⟩ = some (.int .i64 (numV z0)) ∧ V.cell? ⟨g, 1, none⟩ = some (.int .i64 (numV z1)) ∧ V.cell? ⟨g, 2, none⟩ = some (.int .i64 (numV z2)) ∧ V.cell? ⟨g, 3, none⟩ = some (.int .i64 (numV z3)) ∧ V.cell? ⟨g, 4, none⟩ = some (.int .i64 (numV z4)) ∧ V.cell? ⟨g, 5, none⟩ = some (.int .i64 (numV z5)) ∧ V.cell? ⟨g, 6, none⟩ = some (.int .i64 (numV z6))) := fun V hV => by
        have k : ∀ j, j < 7 → V.cell? ⟨g, j, none⟩ = (numVals [z0, z1, z2, z3, z4, z5, z6])[j]? := fun j hj => (hV.cell (p := ⟨g, j, none⟩) hgl).trans (hown.cellAt j (by omega))
        exact ⟨k 0 (by omega), k 1 (by omega), k 2 (by omega), k 3 (by omega), k 4 (by omega), k 5 (by omega), k 6 (by omega)⟩
      obtain ⟨n0, n1, n2, n3, n4, n5, n6⟩ := HCe.out w1 (Below.refl _ _)
      have HB1 := Lib.hid hB
      have HKu := Lib.hid hku
      have HSz := Lib.hid (And.intro hs0 (And.intro hg hgl))
      have HMr : Hid (∀ k, Nums rest (numV z6) k → MsgRow (z0 :: z1 :: z2 :: z3 :: z4 :: z5 :: z6 :: rest) ⟨numV z0, numV z1, numV z2, numV z3, numV z4, numV z5, (rest.take k).map numV, rest.drop k⟩) := fun k hk => ⟨z0, z1, z2, z3, z4, z5, z6, rest, k, rfl, hku, hk, rfl⟩
      have HRw := Lib.hid hroww
      have HRv := Lib.hid hrow
      clear hk hkl hku hown hrow hB hl HN1 hroww hrow1 HH hW0 hs0 hg hgl n0 n1 n2 n3 n4 n5
      obtain ⟨many, hmany⟩ : ∃ x, numV z6 = x := ⟨_, rfl⟩
      have HMany := Lib.hid hmany
      rw [hmany] at HN2 n6 HCe HMr
      clear hmany
      go_wp2_with fail
      refine HN2.out.mono ?_
      rintro e w2 (⟨k, v3, v4, hnk, rfl, hown2, hrow2, hB2⟩ | ⟨rfl, hno2, hB2⟩)
      · obtain ⟨A3, c3, rfl⟩ := own_slice hown2
        have hrw2 := hrow2 w HRw.out
        obtain ⟨A4, c4, rfl, _⟩ := hrw2.cap
        obtain ⟨n0, n1, n2, n3, n4, n5, _⟩ := HCe.out w2.drew ⟨hB2.os, hB2.tape, hB2.output, hB2.size, hB2.block⟩
        have hBw : Below W0.heap.size W0 w2.drew := HB1.out.trans (Below.mono (show Below w1.heap.size w1 w2.drew from ⟨hB2.os, hB2.tape, hB2.output, hB2.size, hB2.block⟩) HB1.out.size)
        obtain ⟨hr2, hbw⟩ := HR0.out w2.drew hBw
        obtain ⟨u1, u2, u3, u4, u5, u6, u7, u8, ⟨e0, d0, f0⟩, ⟨e1, d1, f1⟩, ⟨e2, d2, f2⟩, ⟨e3, d3, f3⟩, ⟨e4, d4, f4⟩, ⟨e5, d5, f5⟩, ⟨e6, d6, f6⟩, ⟨e7, d7, f7⟩, hlast, hBlast, hklast⟩ := L4.store8 (.int .i64 (numV z0)) (.int .i64 (numV z1)) (.int .i64 (numV z2)) (.int .i64 (numV z3)) (.int .i64 (numV z4)) (.int .i64 (numV z5)) (.slice A3 k c3) (.slice A4 (rest.drop k).length c4) hr2
        have hkr : k ≤ rest.length := hnk.2.1
        have HL := Lib.hid hlast
        have HF : Hid (MsgOfOut w (.slice A (z0 :: z1 :: z2 :: z3 :: z4 :: z5 :: z6 :: rest).length c) (z0 :: z1 :: z2 :: z3 :: z4 :: z5 :: z6 :: rest) (.returned (.tuple #[.agg #[.int .i64 (numV z0), .int .i64 (numV z1), .int .i64 (numV z2), .int .i64 (numV z3), .int .i64 (numV z4), .int .i64 (numV z5), .slice A3 k c3, .slice A4 (rest.drop k).length c4], .bool true])) u8) := by
          have hlen : ((rest.take k).map numV).length = k := by simp; omega
          have hsz1 := HB1.out.size
          refine .inl ⟨_, .slice A3 k c3, .slice A4 (rest.drop k).length c4, HMr.out k hnk, rfl, ?_, fun V hV => hrow2 V (HRv.out V hV), hbw.trans (hBlast.mono (Nat.le_refl _))⟩
          · show u8.ownsRow w.heap.size 3 1 _ ((rest.take k).map numV).length (((rest.take k).map numV).map (fun x => .int .i64 x))
            rw [hlen]
            have h1 : w2.drew.ownsRow w1.heap.size 3 1 (.slice A3 k c3) k (numVals (rest.take k)) := hown2.drew
            have h2 := own_same (W' := u8) h1 (fun q e => hklast q (by have := (h1.lt q e).1; have := HSz.out.1; omega))
            have h3 := own_base (base' := w.heap.size) h2 (by have := HSz.out.1; omega)
            rw [List.map_map]
            exact h3
        have hmm : ∀ j, u8.cell? ⟨g, j, none⟩ = w2.drew.cell? ⟨g, j, none⟩ := fun j => World.cell?_of_block (a := ⟨g, j, none⟩) (hklast g (by have := HSz.out; omega))
        have m0 := (hmm 0).trans n0
        have m1 := (hmm 1).trans n1
        have m2 := (hmm 2).trans n2
        have m3 := (hmm 3).trans n3
        have m4 := (hmm 4).trans n4
        have m5 := (hmm 5).trans n5
        clear hmm
        clear hown2 hrow2 hrw2 hB2 hnk hBw hr2 hbw hlast hBlast hklast
        have i0 : (0 : Int) < 7 := by omega
        have i1 : (1 : Int) < 7 := by omega
        have i2 : (2 : Int) < 7 := by omega
        have i3 : (3 : Int) < 7 := by omega
        have i4 : (4 : Int) < 7 := by omega
        have i5 : (5 : Int) < 7 := by omega
        generalize numV z0 = x0 at *
        generalize numV z1 = x1 at *
        generalize numV z2 = x2 at *
        generalize numV z3 = x3 at *
        generalize numV z4 = x4 at *
        generalize numV z5 = x5 at *
        generalize (rest.drop k).length = lr at *
        clear n6 HN2 HCe HMr HR0
        go_wp2
        go_region_held3 (fun w' => w'.cell? ⟨g, 0, none⟩ = some (.int .i64 x0) ∧ w'.cell? ⟨g, 1, none⟩ = some (.int .i64 x1) ∧ w'.cell? ⟨g, 2, none⟩ = some (.int .i64 x2) ∧ w'.cell? ⟨g, 3, none⟩ = some (.int .i64 x3) ∧ w'.cell? ⟨g, 4, none⟩ = some (.int .i64 x4) ∧ w'.cell? ⟨g, 5, none⟩ = some (.int .i64 x5)) (go_keep) (fail)
        all_goals
          clear n0 n1 n2 n3 n4 n5 m0 m1 m2 m3 m4 m5
          go_wp2
          refine bodyPost_ret (results_both rfl _ _ w.heap.size 87 _ (0, 0) _ rfl HL.out Tryz.underlying87 rfl (by kernel_rfl)) rfl ?_
          exact HF.out
      · have hBw : Below W0.heap.size W0 w2 := HB1.out.trans (hB2.mono HB1.out.size)
        obtain ⟨hr2, hbw⟩ := HR0.out w2 hBw
        obtain ⟨u1, u2, u3, u4, u5, u6, u7, u8, ⟨e0, d0, f0⟩, ⟨e1, d1, f1⟩, ⟨e2, d2, f2⟩, ⟨e3, d3, f3⟩, ⟨e4, d4, f4⟩, ⟨e5, d5, f5⟩, ⟨e6, d6, f6⟩, ⟨e7, d7, f7⟩, hlast, hBlast, hklast⟩ := L4.store8 (.int .i64 0) (.int .i64 0) (.int .i64 0) (.int .i64 0) (.int .i64 0) (.int .i64 0) (.slice none 0 0) (.slice none 0 0) hr2
        have HL := Lib.hid hlast
        have HF : Hid (MsgOfOut w (.slice A (z0 :: z1 :: z2 :: z3 :: z4 :: z5 :: z6 :: rest).length c) (z0 :: z1 :: z2 :: z3 :: z4 :: z5 :: z6 :: rest) (.returned (.tuple #[zeroMsg, .bool false])) u8) := .inr ⟨rfl, fun ⟨m, y0, y1, y2, y3, y4, y5, y6, r, k, e, _, hk, _⟩ => hno2 ⟨k, by
          simp only [List.cons.injEq] at e
          obtain ⟨_, _, _, _, _, _, rfl, rfl⟩ := e
          exact HMany.out ▸ hk⟩, hbw.trans (hBlast.mono (Nat.le_refl _))⟩
        clear hB2 hno2 hBw hr2 hbw hlast hBlast hklast
        go_wp2
        refine bodyPost_ret (results_both rfl _ _ w.heap.size 87 _ (0, 0) _ rfl HL.out Tryz.underlying87 rfl (by kernel_rfl)) rfl ?_
        exact HF.out
  · have hBw := hB
    obtain ⟨hr2, hbw⟩ := HR0.out w1 hBw
    obtain ⟨u1, u2, u3, u4, u5, u6, u7, u8, ⟨e0, d0, f0⟩, ⟨e1, d1, f1⟩, ⟨e2, d2, f2⟩, ⟨e3, d3, f3⟩, ⟨e4, d4, f4⟩, ⟨e5, d5, f5⟩, ⟨e6, d6, f6⟩, ⟨e7, d7, f7⟩, hlast, hBlast, hklast⟩ := L4.store8 (.int .i64 0) (.int .i64 0) (.int .i64 0) (.int .i64 0) (.int .i64 0) (.int .i64 0) (.slice none 0 0) (.slice none 0 0) hr2
    have HL := Lib.hid hlast
    have HF : Hid (MsgOfOut w (.slice A zs.length c) zs (.returned (.tuple #[zeroMsg, .bool false])) u8) := .inr ⟨rfl, fun ⟨m, y0, y1, y2, y3, y4, y5, y6, r, k, e, h7, hk, _⟩ => hno ⟨7, rfl, by rw [e]; simp, by rw [e]; simpa using h7⟩, hbw.trans (hBlast.mono (Nat.le_refl _))⟩
    clear hB hno hBw hr2 hbw hlast hBlast hklast
    go_wp2
    refine bodyPost_ret (results_both rfl _ _ w.heap.size 87 _ (0, 0) _ rfl HL.out Tryz.underlying87 rfl (by kernel_rfl)) rfl ?_
    exact HF.out
end Go.Proofs.YtiodphkmllcjdaaGreat
end

section
namespace Go.Proofs.YtiodphkmllcjdaaGreat
open Go.ChangeShapes Go.WideShapes Go.ChangeAt Go.RowKit

theorem numV_fit (z : List UInt8) : -9223372036854775808 ≤ numV z ∧ numV z ≤ 9223372036854775807 := by
  unfold numV
  rw [IntKind.wrap_i64]
  omega
theorem ints_own {W : World} {B : Nat} {v : Value} {xs : List Int} (h : W.ownsRow B 3 1 v xs.length (xs.map (fun x => .int .i64 x))) (hf : ∀ x ∈ xs, -9223372036854775808 ≤ x ∧ x ≤ 9223372036854775807) : IntsA W v xs := by
  rcases h.2 with ⟨rfl, h0⟩ | ⟨g, cap, cur, rfl, h1, h2, h3, h4, h5, h6⟩
  · obtain rfl : xs = [] := List.length_eq_zero_iff.1 h0
    exact ⟨⟨none, 0, rfl, fun j x hx => by simp at hx⟩, hf, by simp⟩
  · refine ⟨⟨_, cap, rfl, fun j x hx => ⟨⟨g, 0, none⟩, rfl, (Array.getElem?_eq_some_iff.1 h2).1, ?_⟩⟩, hf, Nat.le_trans h3 h4⟩
    exact h.cells (g := g) rfl j _ (by rw [List.getElem?_map, hx]; rfl)
theorem rowC_own {W : World} {B : Nat} {v : Value} {zs : List (List UInt8)} (h : W.ownsRow B 46 1 v zs.length (strs zs)) (hs : ∀ z ∈ zs, z.length ≤ maxLen) (hf : zs.length ≤ maxLen) : RowC W v zs := by
  refine ⟨rowA_own h hs hf, ?_⟩
  rcases h.2 with ⟨rfl, h0⟩ | ⟨g, cap, cur, rfl, h1, h2, h3, h4, h5, h6⟩
  · have h0' : zs.length = 0 := h0
    exact ⟨none, 0, by rw [h0'], by omega, by simp, fun _ => rfl⟩
  · exact ⟨_, cap, rfl, h3, h4, fun e => by cases e⟩
/-- The message that a text says. -/
def Says (t : List UInt8) (m : Msg) : Prop := ∃ zs, Tm.takeRow t = (zs, 0) ∧ MsgRow zs m ∧ m.ok = true
def UnpackOut (w : World) (t : List UInt8) (e : Ending) (w' : World) : Prop :=
  (∃ m vm vt, Says t m ∧ e = .returned (.tuple #[.agg (msgCells m vm vt), .int .i64 0]) ∧ MsgA w' m vm vt ∧ (∀ n c, vt = .slice none n c → c = 0) ∧ Below w.heap.size w w') ∨
  (e = .returned (.tuple #[zeroMsg, .int .i64 2]) ∧ (¬ ∃ m, Says t m) ∧ Below w.heap.size w w')
theorem msgRow_one {zs : List (List UInt8)} {a b : Msg} (ha : MsgRow zs a) (hb : MsgRow zs b) : a = b := by
  obtain ⟨z0, z1, z2, z3, z4, z5, z6, r, k, rfl, _, ⟨hk, _, _⟩, rfl⟩ := ha
  obtain ⟨y0, y1, y2, y3, y4, y5, y6, r', k', e, _, ⟨hk', _, _⟩, rfl⟩ := hb
  simp only [List.cons.injEq] at e
  obtain ⟨rfl, rfl, rfl, rfl, rfl, rfl, rfl, rfl⟩ := e
  obtain rfl : k = k' := by omega
  rfl

set_option maxRecDepth 100000 in
set_option maxHeartbeats 4000000 in
theorem unpack_calls (s : ByteArray) (hs : s.size ≤ maxLen) (w : World) : Calls Tryz.prog 33 #[.string s] w (UnpackOut w s.data.toList) := by
  obtain ⟨W0, hW0⟩ : ∃ W0, w.alloc (.cells #[.int .i64 0, .int .i64 0, .int .i64 0, .int .i64 0, .int .i64 0, .int .i64 0, .slice none 0 0, .slice none 0 0] 87) = W0 := ⟨_, rfl⟩
  have hs0 : W0.heap.size = w.heap.size + 1 := by rw [← hW0]; simp
  have hB0 : Below w.heap.size w W0 := by rw [← hW0]; exact (Below.refl _ w).alloc (Nat.le_refl _) _
  have hR0 : W0.heap[w.heap.size]? = some (.cells #[.int .i64 0, .int .i64 0, .int .i64 0, .int .i64 0, .int .i64 0, .int .i64 0, .slice none 0 0, .slice none 0 0] 87 (0, 0)) := by
    rw [← hW0]; exact World.alloc_heap_new _ _
  have HR0 : Hid (∀ V, Below W0.heap.size W0 V → V.heap[w.heap.size]? = some (.cells #[.int .i64 0, .int .i64 0, .int .i64 0, .int .i64 0, .int .i64 0, .int .i64 0, .slice none 0 0, .slice none 0 0] 87 (0, 0)) ∧ Below w.heap.size w V) := fun V hV => ⟨(hV.block w.heap.size (by omega)).trans hR0, hB0.trans (hV.mono (by omega))⟩
  have HT := Lib.hid (ltake_calls s hs W0)
  have HRT : Hid (∀ zs, Tm.takeRow s.data.toList = (zs, 0) → zs.length ≤ 150 ∧ ∀ z ∈ zs, z.length ≤ maxLen) := fun zs hz => by
    obtain ⟨_, k1, k2, _⟩ := Tm.putRow_ok (Tm.put_take hz)
    refine ⟨k1, fun z hm => ?_⟩
    unfold Tm.wrongIn at k2
    rw [List.any_eq_false] at k2
    have h1 := k2 z hm
    have := Tm.depthOf_short (z := z) (by simpa using h1)
    unfold maxLen
    omega
  have HSay : Hid (∀ m, Says s.data.toList m ↔ ∃ zs, Tm.takeRow s.data.toList = (zs, 0) ∧ MsgRow zs m ∧ m.ok = true) := fun m => Iff.rfl
  have HTwo := Lib.hid (Tm.takeRow_two s.data.toList)
  obtain ⟨⟨zs, er⟩, hz⟩ : ∃ r, Tm.takeRow s.data.toList = r := ⟨_, rfl⟩
  rw [hz] at HT HRT HSay HTwo
  have HS0 := Lib.hid hs0
  clear hB0 hR0 hs hs0 hz
  go_enter Tryz.func33, Tryz.ntmps33
  go_wp2_with fail
  refine HT.out.mono ?_
  rintro e w1 ⟨v, rfl, hown, hnil, hB⟩
  by_cases her : er = 0
  case neg =>
    have h2 : er = 2 := by
      rcases HTwo.out with h | h
      · exact absurd h her
      · exact congrArg Prod.snd h
    subst h2
    obtain ⟨hr2, hbw⟩ := HR0.out w1 hB
    obtain ⟨u1, u2, u3, u4, u5, u6, u7, u8, ⟨e0, d0, f0⟩, ⟨e1, d1, f1⟩, ⟨e2, d2, f2⟩, ⟨e3, d3, f3⟩, ⟨e4, d4, f4⟩, ⟨e5, d5, f5⟩, ⟨e6, d6, f6⟩, ⟨e7, d7, f7⟩, hlast, hBlast, hklast⟩ := L4.store8 (.int .i64 0) (.int .i64 0) (.int .i64 0) (.int .i64 0) (.int .i64 0) (.int .i64 0) (.slice none 0 0) (.slice none 0 0) hr2
    have HL := Lib.hid hlast
    have HF : Hid (UnpackOut w s.data.toList (.returned (.tuple #[zeroMsg, .int .i64 2])) u8) := .inr ⟨rfl, fun ⟨m, hm⟩ => by
      obtain ⟨zs', e, _⟩ := (HSay.out m).1 hm
      simp at e, hbw.trans (hBlast.mono (Nat.le_refl _))⟩
    clear hown hnil hB hr2 hbw hlast hBlast hklast her hW0
    go_wp2
    refine bodyPost_ret (results_both rfl _ _ w.heap.size 87 _ (0, 0) _ rfl HL.out Tryz.underlying87 rfl (by kernel_rfl)) rfl ?_
    exact HF.out
  subst her
  obtain ⟨hl150, hsh⟩ := HRT.out zs rfl
  have hRC := rowC_own (zs := zs) hown hsh (by unfold maxLen; omega)
  have HM := Lib.hid (messageOf_calls zs v w1 hRC (by omega))
  have HRC : Hid (RowC w1 v zs ∧ w1.ownsRow W0.heap.size 46 1 v zs.length (strs zs) ∧ (∀ z ∈ zs, z.length ≤ maxLen) ∧ zs.length ≤ maxLen) := ⟨hRC, hown, hsh, by unfold maxLen; omega⟩
  have HB := Lib.hid hB
  have HSz1 := Lib.hid hB.size
  clear hown hnil hB hl150 hsh hRC HTwo HRT hW0
  go_wp2_with fail
  refine HM.out.mono ?_
  rintro e w2 (⟨m, vm, vt, hrow, rfl, hown, hrc, hB2⟩ | ⟨rfl, hno, hB2⟩)
  · obtain ⟨A5, c5, rfl⟩ := own_slice hown
    have hrcw := hrc w1 HRC.out.1
    obtain ⟨A6, c6, rfl, _, _, hnil6⟩ := hrcw.cap
    have hBw := HB.out.trans (hB2.mono HSz1.out)
    have hfit : ∀ x ∈ m.mem, -9223372036854775808 ≤ x ∧ x ≤ 9223372036854775807 := by
      obtain ⟨z0, z1, z2, z3, z4, z5, z6, r, k, _, _, _, rfl⟩ := hrow
      intro x hx
      obtain ⟨z, _, rfl⟩ := List.mem_map.1 hx
      exact numV_fit z
    have hbx := L4.boxed_new w2 m (.slice A5 m.mem.length c5) (.slice A6 m.terms.length c6) 87
    unfold msgCells at hbx
    obtain ⟨W3, hW3⟩ : ∃ W3, w2.alloc (.cells #[.int .i64 m.kind, .int .i64 m.e1, .int .i64 m.c1, .int .i64 m.e2, .int .i64 m.c2, .int .i64 m.num, .slice A5 m.mem.length c5, .slice A6 m.terms.length c6] 87) = W3 := ⟨_, rfl⟩
    rw [hW3] at hbx
    have hB23 : Below w2.heap.size w2 W3 := by rw [← hW3]; exact (Below.refl _ w2).alloc (Nat.le_refl _) _
    have hs3 : W3.heap.size = w2.heap.size + 1 := by rw [← hW3]; simp
    have hB3 : Below W0.heap.size W0 W3 := hBw.trans (hB23.mono hBw.size)
    have hMA : ∀ V : World, (∀ q, w.heap.size < q → q < w2.heap.size → V.heap[q]? = w2.heap[q]?) → MsgA V m (.slice A5 m.mem.length c5) (.slice A6 m.terms.length c6) := fun V hV => by
      have hz1 := HSz1.out
      have hz0 := HS0.out
      refine ⟨ints_own (own_same hown (fun q e => hV q (by have := (hown.lt q e).1; omega) (hown.lt q e).2)) hfit, (hrc V ?_).row⟩
      have hz2 := hB2.size
      exact rowC_own (B := W0.heap.size) (own_same HRC.out.2.1 (fun q e => (hV q (by have := (HRC.out.2.1.lt q e).1; omega) (by have := (HRC.out.2.1.lt q e).2; omega)).trans (hB2.block q (HRC.out.2.1.lt q e).2))) HRC.out.2.2.1 HRC.out.2.2.2
    have HMA := Lib.hid hMA
    have HRt := Lib.hid (lright_calls m _ _ W3 (hMA W3 (fun q _ hq => hB23.block q hq)))
    have HB3 := Lib.hid (And.intro hB3 (And.intro hB23 hs3))
    have HBx := Lib.hid hbx
    have HNil6 := Lib.hid hnil6
    obtain ⟨y0, y1, y2, y3, y4, y5, y6, y7⟩ := hbx
    have HRow := Lib.hid hrow
    have HS2 := Lib.hid hB2.size
    have HSzz := Lib.hid hBw.size
    unfold msgCells at HRt ⊢
    clear hrow hown hrc hB2 hrcw hnil6 hBw hfit hB23 hs3 hB3 hMA HM
    cases hok : m.ok with
    | false =>
      rw [hok] at HRt
      have HOk := Lib.hid hok
      clear hok
      go_wp2_with fail
      refine HRt.out.mono ?_
      rintro e w4 ⟨rfl, b4⟩
      obtain ⟨hr2, hbw⟩ := HR0.out w4 (HB3.out.1.trans (b4.mono (HB3.out.1.size)))
      obtain ⟨u1, u2, u3, u4, u5, u6, u7, u8, ⟨e0, d0, f0⟩, ⟨e1, d1, f1⟩, ⟨e2, d2, f2⟩, ⟨e3, d3, f3⟩, ⟨e4, d4, f4⟩, ⟨e5, d5, f5⟩, ⟨e6, d6, f6⟩, ⟨e7, d7, f7⟩, hlast, hBlast, hklast⟩ := L4.store8 (.int .i64 0) (.int .i64 0) (.int .i64 0) (.int .i64 0) (.int .i64 0) (.int .i64 0) (.slice none 0 0) (.slice none 0 0) hr2
      have HL := Lib.hid hlast
      have HF : Hid (UnpackOut w s.data.toList (.returned (.tuple #[zeroMsg, .int .i64 2])) u8) := .inr ⟨rfl, fun ⟨m', hm⟩ => by
        obtain ⟨zs', e, h1, h2⟩ := (HSay.out m').1 hm
        cases e
        rw [msgRow_one h1 HRow.out, HOk.out] at h2
        exact Bool.noConfusion h2, hbw.trans (hBlast.mono (Nat.le_refl _))⟩
      clear b4 hr2 hbw hlast hBlast hklast y0 y1 y2 y3 y4 y5 y6 y7 hW3
      go_wp2
      refine bodyPost_ret (results_both rfl _ _ w.heap.size 87 _ (0, 0) _ rfl HL.out Tryz.underlying87 rfl (by kernel_rfl)) rfl ?_
      exact HF.out
    | true =>
      rw [hok] at HRt
      have HOk := Lib.hid hok
      clear hok
      go_wp2_with fail
      refine HRt.out.mono ?_
      rintro e w4 ⟨rfl, b4⟩
      have hb4 := HB3.out.1.trans (b4.mono (HB3.out.1.size))
      obtain ⟨hr2, hbw⟩ := HR0.out w4 hb4
      obtain ⟨y0', y1', y2', y3', y4', y5', y6', y7'⟩ := L4.Boxed.below HBx.out b4 (by have := HB3.out.2.2; omega)
      obtain ⟨u1, u2, u3, u4, u5, u6, u7, u8, ⟨e0, d0, f0⟩, ⟨e1, d1, f1⟩, ⟨e2, d2, f2⟩, ⟨e3, d3, f3⟩, ⟨e4, d4, f4⟩, ⟨e5, d5, f5⟩, ⟨e6, d6, f6⟩, ⟨e7, d7, f7⟩, hlast, hBlast, hklast⟩ := L4.store8 (.int .i64 m.kind) (.int .i64 m.e1) (.int .i64 m.c1) (.int .i64 m.e2) (.int .i64 m.c2) (.int .i64 m.num) (.slice A5 m.mem.length c5) (.slice A6 m.terms.length c6) hr2
      have HL := Lib.hid hlast
      have HF : Hid (UnpackOut w s.data.toList (.returned (.tuple #[.agg #[.int .i64 m.kind, .int .i64 m.e1, .int .i64 m.c1, .int .i64 m.e2, .int .i64 m.c2, .int .i64 m.num, .slice A5 m.mem.length c5, .slice A6 m.terms.length c6], .int .i64 0])) u8) := by
        refine .inl ⟨m, .slice A5 m.mem.length c5, .slice A6 m.terms.length c6, (HSay.out m).2 ⟨zs, rfl, HRow.out, HOk.out⟩, rfl, HMA.out u8 (fun q hq1 hq2 => ?_), fun n c e => by cases e; exact HNil6.out rfl, hbw.trans (hBlast.mono (Nat.le_refl _))⟩
        obtain ⟨_, k2, k3⟩ := HB3.out
        exact (hklast q (by omega)).trans ((b4.block q (by omega)).trans (k2.block q hq2))
      clear b4 hb4 hr2 hbw hlast hBlast hklast y0 y1 y2 y3 y4 y5 y6 y7 hW3
      go_wp2
      refine bodyPost_ret (results_both rfl _ _ w.heap.size 87 _ (0, 0) _ rfl HL.out Tryz.underlying87 rfl (by kernel_rfl)) rfl ?_
      exact HF.out
  · have hBw := HB.out.trans (hB2.mono HSz1.out)
    have hB3 : Below W0.heap.size W0 (w2.alloc (.cells #[.int .i64 0, .int .i64 0, .int .i64 0, .int .i64 0, .int .i64 0, .int .i64 0, .slice none 0 0, .slice none 0 0] 87)) := hBw.alloc hBw.size _
    obtain ⟨hr2, hbw⟩ := HR0.out _ hB3
    obtain ⟨u1, u2, u3, u4, u5, u6, u7, u8, ⟨e0, d0, f0⟩, ⟨e1, d1, f1⟩, ⟨e2, d2, f2⟩, ⟨e3, d3, f3⟩, ⟨e4, d4, f4⟩, ⟨e5, d5, f5⟩, ⟨e6, d6, f6⟩, ⟨e7, d7, f7⟩, hlast, hBlast, hklast⟩ := L4.store8 (.int .i64 0) (.int .i64 0) (.int .i64 0) (.int .i64 0) (.int .i64 0) (.int .i64 0) (.slice none 0 0) (.slice none 0 0) hr2
    have HL := Lib.hid hlast
    have HF : Hid (UnpackOut w s.data.toList (.returned (.tuple #[zeroMsg, .int .i64 2])) u8) := .inr ⟨rfl, fun ⟨m, hm⟩ => by
      obtain ⟨zs', e, h1, _⟩ := (HSay.out m).1 hm
      cases e
      exact hno ⟨m, h1⟩, hbw.trans (hBlast.mono (Nat.le_refl _))⟩
    unfold zeroMsg at HF ⊢
    clear hB2 hBw hB3 hr2 hbw hlast hBlast hklast hno
    go_wp2
    refine bodyPost_ret (results_both rfl _ _ w.heap.size 87 _ (0, 0) _ rfl HL.out Tryz.underlying87 rfl (by kernel_rfl)) rfl ?_
    exact HF.out
end Go.Proofs.YtiodphkmllcjdaaGreat
end

section
namespace Go.Proofs.YtiodphkmllcjdaaGreat
open Go.ChangeShapes Go.WideShapes Go.ChangeAt Go.RowKit

namespace Tm
theorem beNum_be8n (n : Nat) (h : n < 18446744073709551616) : beNum (be8 n) = n := by
  simp only [beNum, be8, List.foldl_cons, List.foldl_nil, UInt8.toNat_ofNat', Nat.reducePow, Nat.div_one, Nat.zero_mul, Nat.zero_add]
  omega
theorem numL_depth (n : Int) : depthOf (numL n) = 1 := (depth_of_parse (p := numL n) (d := 1) (number_parse n.toNat) (by simp [numL, be8_length])).1
theorem numL_kind (n : Int) : kindOf (numL n) = 117 := by
  unfold kindOf
  rw [if_pos ((right_iff _).2 (by rw [numL_depth]; omega))]
  rfl
theorem deepR_same {zs ys : List (List UInt8)} (h : zs.map depthOf = ys.map depthOf) : deepR zs = deepR ys := by
  have k : ∀ l : List (List UInt8), deepR l = ((l.map depthOf).zipIdx).foldl (fun m p => max m (p.1 + p.2 + 1)) 1 := fun l => by
    unfold deepR
    rw [List.zipIdx_map, List.foldl_map]
    rfl
  rw [k, k, h]
theorem rowL_same : ∀ {zs ys : List (List UInt8)}, zs.map List.length = ys.map List.length → (rowL zs).length = (rowL ys).length
  | [], [], _ => rfl
  | [], _ :: _, h => by simp at h
  | _ :: _, [], h => by simp at h
  | z :: zs, y :: ys, h => by
    simp only [List.map_cons, List.cons.injEq] at h
    have := rowL_same h.2
    rw [rowL_cons, rowL_cons]
    simp
    omega
theorem wrongIn_same {zs ys : List (List UInt8)} (h : zs.map depthOf = ys.map depthOf) : wrongIn zs = wrongIn ys := by
  have k : ∀ l : List (List UInt8), wrongIn l = (l.map depthOf).any (fun d => d == 0) := fun l => by
    unfold wrongIn
    rw [List.any_map]
    rfl
  rw [k, k, h]
theorem putRow_same {zs ys : List (List UInt8)} {t : List UInt8} (h1 : zs.map depthOf = ys.map depthOf) (h2 : zs.map List.length = ys.map List.length) (h : putRow zs = (t, 0)) : putRow ys = (rowL ys, 0) ∧ t.length = (rowL ys).length := by
  obtain ⟨e, k1, k2, k3, k4⟩ := putRow_ok h
  have hl : zs.length = ys.length := by simpa using congrArg List.length h1
  have hr := rowL_same h2
  refine ⟨putRow_mk (by omega) (by rw [← wrongIn_same h1]; exact k2) (by omega) (by rw [← deepR_same h1]; exact k4), by rw [e]; exact hr⟩
end Tm
theorem numV_numL {n : Int} (h0 : 0 ≤ n) (h1 : n ≤ 2147483647) : numV (Tm.numL n) = n := by
  have e : (Tm.valueT (Tm.numL n)).1 = n.toNat := by
    unfold Tm.valueT
    rw [if_pos (.inr (Tm.numL_kind n))]
    show Tm.beNum (Tm.be8 n.toNat) = n.toNat
    exact Tm.beNum_be8n n.toNat (by omega)
  unfold numV
  rw [e, IntKind.wrap_i64]
  omega
theorem Msg.row_says {m : Msg} (h : m.ok = true) : MsgRow m.row m := by
  obtain ⟨h1, h2, h3, _⟩ := Msg.ok_all h
  have hv : ∀ n ∈ m.nums, numV (Tm.numL n) = n := fun n hn => numV_numL (h1 n hn).1 (h1 n hn).2
  have hm : ∀ n ∈ m.head, n ∈ m.nums := fun n hn => List.mem_append.2 (.inl hn)
  refine ⟨Tm.numL m.kind, Tm.numL m.e1, Tm.numL m.c1, Tm.numL m.e2, Tm.numL m.c2, Tm.numL m.num, Tm.numL (m.mem.length : Int), m.mem.map Tm.numL ++ m.terms, m.mem.length, by simp [Msg.row, Msg.nums, Msg.head], ?_, ⟨?_, by simp, ?_⟩, ?_⟩
  · intro z hz
    simp only [List.mem_cons, List.not_mem_nil, or_false] at hz
    rcases hz with rfl | rfl | rfl | rfl | rfl | rfl | rfl <;> exact Tm.numL_kind _
  · exact hv _ (hm _ (by simp [Msg.head]))
  · intro z hz
    rw [List.take_left' (by simp)] at hz
    obtain ⟨n, _, rfl⟩ := List.mem_map.1 hz
    exact Tm.numL_kind n
  · have e1 := hv m.kind (hm _ (by simp [Msg.head]))
    have e2 := hv m.e1 (hm _ (by simp [Msg.head]))
    have e3 := hv m.c1 (hm _ (by simp [Msg.head]))
    have e4 := hv m.e2 (hm _ (by simp [Msg.head]))
    have e5 := hv m.c2 (hm _ (by simp [Msg.head]))
    have e6 := hv m.num (hm _ (by simp [Msg.head]))
    rw [e1, e2, e3, e4, e5, e6, List.take_left' (by simp), List.drop_left' (by simp), List.map_map]
    have e7 : m.mem.map (numV ∘ Tm.numL) = m.mem := by
      conv => rhs; rw [← List.map_id m.mem]
      apply List.map_congr_left
      intro n hn
      exact hv n (List.mem_append.2 (.inr hn))
    rw [e7]
theorem Msg.pack_says {m : Msg} {t : List UInt8} (h : m.pack = (t, 0)) : Says t m := by
  obtain ⟨ho, hp⟩ := Msg.pack_ok h
  exact ⟨m.row, (Tm.take_put hp).2, Msg.row_says ho, ho⟩
theorem says_one {t : List UInt8} {a b : Msg} (ha : Says t a) (hb : Says t b) : a = b := by
  obtain ⟨zs, e1, k1, _⟩ := ha
  obtain ⟨ys, e2, k2, _⟩ := hb
  rw [e1] at e2
  cases e2
  exact msgRow_one k1 k2
/-- With other numbers in their place. -/
def Msg.with3 (m : Msg) (k n e : Int) : Msg := { m with kind := k, num := n, e1 := e }
theorem Msg.pack_with {m : Msg} {t : List UInt8} {k n e : Int} (h : m.pack = (t, 0)) (hk : 0 ≤ k ∧ k ≤ 20) (hn : 0 ≤ n ∧ n ≤ 2147483647) (he : 0 ≤ e ∧ e ≤ 2147483647) : ∃ u, (m.with3 k n e).pack = (u, 0) ∧ t.length = u.length := by
  obtain ⟨ho, hp⟩ := Msg.pack_ok h
  have ho2 : (m.with3 k n e).ok = true := by
    unfold Msg.ok Msg.okHead idB at ho ⊢
    simp only [Bool.and_eq_true, decide_eq_true_eq, withinB_iff, Msg.with3] at ho ⊢
    obtain ⟨⟨⟨⟨⟨⟨k1, k2⟩, ⟨k3, k4⟩, k5, k6⟩, k7⟩, k11, k12⟩, hr⟩, hm⟩ := ho
    exact ⟨⟨⟨⟨⟨hk, he, k5, k6⟩, k7⟩, hn⟩, hr⟩, decide_eq_true hm⟩
  have h1 : m.row.map Tm.depthOf = (m.with3 k n e).row.map Tm.depthOf := by simp [Msg.row, Msg.nums, Msg.head, Msg.with3, Tm.numL_depth]
  have h2 : m.row.map List.length = (m.with3 k n e).row.map List.length := by simp [Msg.row, Msg.nums, Msg.head, Msg.with3, numL_len]
  obtain ⟨q1, q2⟩ := Tm.putRow_same h1 h2 hp
  exact ⟨_, by unfold Msg.pack; rw [if_pos ho2]; exact q1, q2⟩
theorem Msg.with3_eq {m : Msg} {k n e : Int} : m = m.with3 k n e ↔ m.kind = k ∧ m.num = n ∧ m.e1 = e := by
  constructor
  · intro h
    have h1 := congrArg Msg.kind h
    have h2 := congrArg Msg.num h
    have h3 := congrArg Msg.e1 h
    exact ⟨h1, h2, h3⟩
  · rintro ⟨rfl, rfl, rfl⟩
    rfl
end Go.Proofs.YtiodphkmllcjdaaGreat
end

section
namespace Go.Proofs.YtiodphkmllcjdaaGreat
open Go.ChangeShapes Go.WideShapes Go.ChangeAt Go.RowKit

namespace Tm
theorem be8_beNum {l : List UInt8} (h : l.length = 8) : be8 (beNum l) = l := by
  match l, h with
  | [b0, b1, b2, b3, b4, b5, b6, b7], _ =>
    have h0 := b0.toNat_lt
    have h1 := b1.toNat_lt
    have h2 := b2.toNat_lt
    have h3 := b3.toNat_lt
    have h4 := b4.toNat_lt
    have h5 := b5.toNat_lt
    have h6 := b6.toNat_lt
    have h7 := b7.toNat_lt
    simp only [beNum, be8, List.foldl_cons, List.foldl_nil, Nat.zero_mul, Nat.zero_add, List.cons.injEq, and_true]
    have key : ∀ (x : Nat) (b : UInt8), x % 256 = b.toNat → UInt8.ofNat x = b := fun x b e => by
      apply UInt8.toNat_inj.1
      rw [UInt8.toNat_ofNat']
      exact e
    refine ⟨key _ _ ?_, key _ _ ?_, key _ _ ?_, key _ _ ?_, key _ _ ?_, key _ _ ?_, key _ _ ?_, key _ _ ?_⟩ <;> simp only [Nat.reducePow, Nat.div_one] <;> omega
end Tm
theorem numL_numV {z : List UInt8} (hk : Tm.kindOf z = 117) (h0 : 0 ≤ numV z) : Tm.numL (numV z) = z := by
  obtain ⟨hr, hk1⟩ := Tm.kind_right hk (by decide)
  have h9 := Tm.word_long hr (.inr hk1)
  have hv : (Tm.valueT z).1 = Tm.beNum (z.drop 1) := by unfold Tm.valueT; rw [if_pos (.inr hk)]
  have hlt := Tm.beNum_lt (z.drop 1)
  have hl8 : (z.drop 1).length = 8 := by rw [List.length_drop]; omega
  rw [hl8] at hlt
  have e : (numV z).toNat = Tm.beNum (z.drop 1) := by
    unfold numV at h0 ⊢
    rw [hv] at h0 ⊢
    rw [IntKind.wrap_i64] at h0 ⊢
    simp only [Nat.reducePow] at hlt
    omega
  unfold Tm.numL
  rw [e, Tm.be8_beNum hl8]
  match z, h9 with
  | c :: z', _ =>
    have : c = 117 := by simpa using hk1
    rw [this]
    rfl
theorem says_row {zs : List (List UInt8)} {m : Msg} (h : MsgRow zs m) (ho : m.ok = true) : m.row = zs := by
  obtain ⟨h1, _, _, _⟩ := Msg.ok_all ho
  obtain ⟨z0, z1, z2, z3, z4, z5, z6, rest, k, rfl, hk, ⟨hm, hkl, hkn⟩, rfl⟩ := h
  have hp : ∀ n ∈ Msg.nums ⟨numV z0, numV z1, numV z2, numV z3, numV z4, numV z5, (rest.take k).map numV, rest.drop k⟩, 0 ≤ n := fun n hn => (h1 n hn).1
  have hlen : ((rest.take k).map numV).length = k := by simp; omega
  have e : ∀ z, Tm.kindOf z = 117 → 0 ≤ numV z → Tm.numL (numV z) = z := fun z a b => numL_numV a b
  have e6 : Tm.numL ((((rest.take k).map numV).length : Nat) : Int) = z6 := by
    rw [hlen, ← hm]
    exact e z6 (hk z6 (by simp)) (by rw [hm]; omega)
  have em : ((rest.take k).map numV).map Tm.numL = rest.take k := by
    rw [List.map_map]
    conv => rhs; rw [← List.map_id (rest.take k)]
    apply List.map_congr_left
    intro z hz
    exact e z (hkn z hz) (hp _ (by
      unfold Msg.nums
      exact List.mem_append.2 (.inr (List.mem_map.2 ⟨z, hz, rfl⟩))))
  have hh : ∀ n ∈ Msg.head ⟨numV z0, numV z1, numV z2, numV z3, numV z4, numV z5, (rest.take k).map numV, rest.drop k⟩, 0 ≤ n := fun n hn => hp n (List.mem_append.2 (.inl hn))
  unfold Msg.row Msg.nums
  rw [List.map_append]
  show (Msg.head _).map Tm.numL ++ ((rest.take k).map numV).map Tm.numL ++ rest.drop k = _
  rw [em]
  unfold Msg.head at hh ⊢
  simp only [List.map_cons, List.map_nil]
  rw [e6, e z0 (hk z0 (by simp)) (hh _ (by simp)), e z1 (hk z1 (by simp)) (hh _ (by simp)), e z2 (hk z2 (by simp)) (hh _ (by simp)), e z3 (hk z3 (by simp)) (hh _ (by simp)), e z4 (hk z4 (by simp)) (hh _ (by simp)), e z5 (hk z5 (by simp)) (hh _ (by simp))]
  simp
theorem says_pack {t : List UInt8} {m : Msg} (h : Says t m) : m.pack = (t, 0) := by
  obtain ⟨zs, e1, k1, ho⟩ := h
  unfold Msg.pack
  rw [if_pos ho, says_row k1 ho]
  exact Tm.put_take e1

end Go.Proofs.YtiodphkmllcjdaaGreat
end
