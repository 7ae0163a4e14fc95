/- NetLost: of frames that are taken out at any places each comes once, and what is left lies in the order in which it lay. -/
import Derived.Test.YtcdhfkfokckjgaaNtRoom
import Derived.Test.YtcdhfkfokckjgaaNtHeardP
import Derived.Deep.CutBlock
import Derived.Deep.DeepCutAuto
import Derived.Sort.LoopGhostIn
namespace Go.Proofs.Ytcdhfkfokckjgaa.L8
open Go.ChangeShapes Go.WideShapes Go.ChangeAt Go.RowKit Go.Deep

theorem add_off8 (g o j : Nat) : (⟨g, o, none⟩ : Addr).add j = ⟨g, o + j, none⟩ := by
  unfold Addr.add
  split
  · rename_i h; subst h; rfl
  · simp
theorem strs_len (l : List Bytes) : (strs l).length = l.length := by simp [strs]
theorem strs_one (l : List Bytes) : ∀ u ∈ strs l, u.oneCell' = true := by
  intro u hu
  obtain ⟨x, _, rfl⟩ := List.mem_map.1 hu
  rfl
/-- append onto a slice that the call owns, at a step of a region that draws its order. -/
theorem step_append_owned {P : Program} {w : World} {ops : Array Oper} {o : Oper} {a : Act} {K : Act → World → Prop} {Q : Exit → Act → World → Prop} {E : Prop} (hgd : o.guard = none) (s x : Operand) (t : TypeId)
    (ho : o.op = .call { callee := .builtin .append, args := #[s, x], argTypes := #[t, t] })
    (base : Nat) (e : TypeId) (i : TypeInfo) (z : Value) (size bytes : Nat) (ht : P.underlying t = some (.slice e)) (hi : P.info? e = some i) (hz : i.zero = some z)
    (hsize : i.size = size) (hby : i.bytes = bytes) (hzs : z.cells.size = size) (hsz : 0 < size)
    (v : Value) (n : Nat) (xs : List Value) (hs : a.eval s = v) (hown : w.ownsRow base e size v n xs)
    (ad : Addr) (m c : Nat) (news : List Value) (hx : a.eval x = .slice (some ad) m c) (hl : news.length = m * size) (hnews : ∀ j u, news[j]? = some u → w.cell? (ad.add j) = some u) (h1 : ∀ u ∈ news, u.oneCell' = true)
    (h63 : n + m ≤ maxLen) (hbytes : (n + m) * bytes ≤ 140737488355328) (hbase : base ≤ w.heap.size)
    (h : ∀ v' w', w'.ownsRow base e size v' (n + m) (xs ++ news) → w.grownBy w' v.ownBlock → K (a.put o.dst v') w') :
    if Region.wanted o (yielded ops a.tmps) = true then Oper.wp P o a w K Q else E := by
  have hw : Region.wanted o (yielded ops a.tmps) = true := by simp [Region.wanted, hgd]
  rw [if_pos hw]
  obtain ⟨v', w', hr, h2, h3, _⟩ := run_append_own (P := P) w base t o.type e i z size bytes ht hi hz hsize hby hzs hsz v n xs hown ad m c news hl hnews h1 h63 hbytes hbase
  unfold Oper.wp execOp
  simp only [ho, resolve, invoke, builtin, Sem.run_bind, Sem.run_pure, Result.andThen_ok, List.map_toArray, List.map_cons, List.map_nil, hs, hx, hr]
  exact h v' w' h2 h3
/-- One element is cut out: what the two appends read. -/
theorem cut_facts {w7 V1 : World} {B g cap : Nat} {e : TypeId} {vs : List Value} {L at_ : Nat} (hrow : w7.ownsRow B e 1 (.slice (some ⟨g, 0, none⟩) L cap) L vs) (hV1 : Below w7.heap.size w7 V1) :
    (∀ j u, (vs.take at_)[j]? = some u → V1.cell? ((⟨g, 0, none⟩ : Addr).add j) = some u) ∧ (∀ V, V1.grownBy V (some w7.heap.size) → ∀ j u, (vs.drop (at_ + 1))[j]? = some u → V.cell? ((⟨g, at_ + 1, none⟩ : Addr).add j) = some u) := by
  have hgl := (hrow.lt g rfl).2
  have hc : ∀ j u, vs[j]? = some u → w7.cell? ⟨g, j, none⟩ = some u := fun j u hj => by
    have := hrow.cells (g := g) rfl j u hj
    rw [add_zero8] at this
    exact this
  refine ⟨fun j u hu => ?_, fun V hV j u hu => ?_⟩
  · rw [add_zero8]
    have hj := (List.getElem?_eq_some_iff.1 hu).1
    rw [List.getElem?_take_of_lt (by simp at hj; omega)] at hu
    exact (hV1.cell (p := ⟨g, j, none⟩) hgl).trans (hc j u hu)
  · rw [add_off8]
    rw [List.getElem?_drop] at hu
    have h1 := (hV1.cell (p := ⟨g, at_ + 1 + j, none⟩) hgl).trans (hc _ u hu)
    rw [hV.cell_far ⟨g, at_ + 1 + j, none⟩ (by have := hV1.size; simp; omega) (by simp; omega)]
    exact h1
/-- A row of terms lies apart from a net. -/
theorem NtAt.term_not2 {W : World} {B h : Nat} {l : List Dg} {v : Value} {b n : Nat} {hs : List Bytes} (a : NtAt W B h l v b n hs) {B' N : Nat} {u : Value} {ys : List Value} (r : W.ownsRow B' 34 1 u N ys) : ∀ q, u.ownBlock = some q → ¬ NtIn h v b q := by
  intro q hq hn
  rcases r.2 with ⟨e3, _⟩ | ⟨g, cap, cur, e3, _, e4, _⟩
  · rw [e3] at hq; cases hq
  · rw [e3] at hq
    obtain rfl : g = q := by cases hq; rfl
    rcases hn with e | e | e
    · have := a.own
      rw [← e, e4] at this
      simp at this
    · obtain ⟨es, cl, e5⟩ := a.map.block
      rw [← e, e4] at e5
      simp at e5
    · rcases a.row.2 with ⟨e6, _⟩ | ⟨g2, cap2, cur2, e6, _, e7, _⟩
      · rw [e6] at e; cases e
      · rw [e6] at e
        obtain rfl : g2 = g := by cases e; rfl
        rw [e4] at e7
        simp at e7
def dgL (i : Nat) : Dg := ⟨1, 2, numB i⟩
theorem dgL_ok (i : Nat) : (dgL i).ok := ⟨⟨by show (1 : Int) ≤ 1; omega, by show (1 : Int) ≤ 8; omega⟩, ⟨by show (1 : Int) ≤ 2; omega, by show (2 : Int) ≤ 8; omega⟩, numB_right _⟩
theorem info_term8 : (Try.prog.info? 34).map (fun i => (i.zero, i.size, i.bytes)) = some (some (.string ⟨#[]⟩), 1, 16) := by kernel_rfl
def nums8 (ls : List Nat) : List Bytes := ls.map numB
theorem nums8_len (ls : List Nat) : (nums8 ls).length = ls.length := by simp [nums8]
/-- The net and the row of what is left. -/
def LMid (w : World) (B h K : Nat) (ls : List Nat) (n : Nat) (hs : List Bytes) (v8 : Value) (wr : World) : Prop :=
  ∃ v : Value, NtAt wr B h (ls.map dgL) v B n hs ∧ wr.ownsRow B 34 1 v8 ls.length (strs (nums8 ls)) ∧ ls.length ≤ K ∧ Below w.heap.size w wr ∧ B ≤ wr.heap.size
def LFirst (w : World) (B h K k : Nat) (v8 vi : Value) (wr : World) : Prop := ∃ i : Nat, k + i = K ∧ vi = .int .i64 i ∧ LMid w B h K (List.range i) i (nums8 (List.range i)) v8 wr
def LEnd (w : World) (B h K : Nat) (v8 : Value) (wr : World) : Prop := ∃ ls, LMid w B h K ls K (nums8 (List.range K)) v8 wr
def LGo (w : World) (B h K N k : Nat) (v8 vi : Value) (wr : World) : Prop := ∃ j : Nat, k + j = N ∧ vi = .int .i64 j ∧ LEnd w B h K v8 wr

set_option maxRecDepth 100000 in
set_option maxHeartbeats 16000000 in
theorem lost_calls {A : Option Addr} {xs : List Int} {c0 : Nat} {many : Int} (hm : isInt many) (w : World) (hI : IRw w A xs) (hn : xs.length ≤ maxLen) : Calls Try.prog 8 #[.int .i64 many, .slice A xs.length c0] w (L5.One w (.bool true)) := by
  obtain ⟨i0, hi, hz0, hz1, hz2⟩ := info_parts8 info_term8
  have HSh := Lib.hid (shown_calls w)
  have HN := Lib.hid (fun V => New_calls V)
  have HI := Lib.hid hI
  have hK := pickN_lt many (n := 40) (by omega)
  have HP := Lib.hid (fun V => pick_is hm (n := 40) (by omega) (by omega) V)
  generalize pickN many 40 = K at *
  unfold maxLen at hn
  clear hI hm
  go_enter Try.func8, Try.ntmps8
  go_wp2_with fail
  refine HSh.out.mono ?_
  rintro e w1 ⟨rfl, b1⟩
  have HN := Lib.hid (HN.out w1)
  have HB1 := Lib.hid b1
  clear b1 HSh
  go_wp2_with fail
  refine HN.out.mono ?_
  rintro e w2 ⟨rfl, a2, b2⟩
  have HB2 : Hid (Below w.heap.size w w2) := HB1.out.trans (b2.mono HB1.out.size)
  have hw01 : w.heap.size ≤ w1.heap.size := HB1.out.size
  by_cases h60 : 60 < xs.length
  · have j1 : (60 : Int) < (xs.length : Int) := by omega
    clear a2 b2 HN HB1
    go_wp2
    go_ret
    exact ⟨rfl, HB2.out⟩
  have j1 : ¬ (60 : Int) < (xs.length : Int) := by omega
  have hN60 : xs.length ≤ 60 := by omega
  have HP := Lib.hid (HP.out w2)
  have H0 : Hid (LFirst w w1.heap.size (w1.heap.size + 1) K K (.slice none 0 0) (.int .i64 0) w2) := ⟨0, by omega, rfl, _, by simpa [nums8] using a2, ⟨rfl, .inl ⟨rfl, rfl⟩⟩, by simp, HB2.out, b2.size⟩
  clear a2 b2 HN HB1 hn h60
  go_wp2_with fail
  refine HP.out.mono ?_
  rintro e w3 ⟨rfl, rfl⟩
  clear HP
  generalize w1.heap.size = B at *
  obtain ⟨h, hh⟩ : ∃ h, B + 1 = h := ⟨_, rfl⟩
  go_upto_region 7 with fail
  rw [hh] at H0
  clear hh
  go_wp2_with fail
  go_loopg [8, 9] K (fun k v8 v9 wr => LFirst w B h K k v8 v9 wr)
  case atStart => exact H0.out
  clear H0
  case round =>
    obtain ⟨i, hk, rfl, v, ha, hr, hlk, hB, hb⟩ := hrel
    obtain ⟨A8, c8, rfl⟩ := L5.own_slice hr
    by_cases hin : i < K
    · have s1 : (i : Int) < (K : Int) := by omega
      have s2 : (0 : Int) ≤ (i : Int) := by omega
      have s3 : (i : Int) < 18446744073709551616 := by omega
      have hmm := Lib.hid (show gk - 1 < gk by omega)
      have hkk := Lib.hid (show (gk - 1) + (i + 1) = K by omega)
      have HNu := Lib.hid (fun V => number_is (n := i) (by omega) V)
      have HA := Lib.hid ha
      have HR := Lib.hid hr
      have HB := Lib.hid hB
      have hi40 : i < 40 := by omega
      have HS : Hid (∀ V, Below wr.heap.size wr V → Calls Try.prog 16 #[.pointer (some ⟨h, 0, none⟩), .agg #[.int .i64 1, .int .i64 2, .string ⟨(numB i).toArray⟩]] V fun e w' => e = .returned (.int .i64 0) ∧ ∃ v', NtAt w' B h ((List.range (i + 1)).map dgL) v' B (i + 1) (nums8 (List.range (i + 1))) ∧ w'.ownsRow B 34 1 (.slice A8 (List.range i).length c8) (List.range i).length (strs (nums8 (List.range i))) ∧ Below w.heap.size w w' ∧ B ≤ w'.heap.size) := fun V hV => by
        have a' := HA.out.below hV
        have r' := L5.own_below HR.out hV
        refine (send_yes a' (Nat.le_trans hb hV.size) (d := dgL i) (dgL_ok i) (by show (numB _).length ≤ _; rw [numB_len]; simp [maxLen]) (by unfold maxLen; omega) (by simp; omega)).mono ?_
        rintro e w' ⟨rfl, v', k1, k2, k3⟩
        have e1 : layC ((List.range i).map dgL) = 0 := by unfold layC; rw [if_neg (by simp; omega)]
        have e2 : layL ((List.range i).map dgL) (dgL i) = (List.range (i + 1)).map dgL := by unfold layL; rw [if_neg (by simp; omega), List.range_succ]; simp
        have e3 : putH (nums8 (List.range i)) (dgL i).fr = nums8 (List.range (i + 1)) := put_next (by omega)
        rw [e1]
        rw [e2, e3] at k1
        have hbV : Below w.heap.size w V := HB.out.trans (hV.mono HB.out.size)
        exact ⟨rfl, v', k1, L5.own_same r' (fun q e => k2.block q (r'.lt q e).2 (a'.term_not2 r' q e)), Only.below hbV k2 hbV.size (fun q hq => Nat.le_trans hw01 (a'.inlt hq).1), Nat.le_trans hb (Nat.le_trans hV.size k2.size)⟩
      have HNx : Hid (∀ (v : Value) w7 (v' : Value) w8, NtAt w7 B h ((List.range (i + 1)).map dgL) v B (i + 1) (nums8 (List.range (i + 1))) → w7.ownsRow B 34 1 (.slice A8 (List.range i).length c8) (List.range i).length (strs (nums8 (List.range i))) → Below w.heap.size w w7 → B ≤ w7.heap.size → w8.ownsRow B 34 1 v' ((List.range i).length + 1) (strs (nums8 (List.range i)) ++ [.string ⟨(numB i).toArray⟩]) → (w7.alloc (.cells #[.string ⟨(numB i).toArray⟩] 34)).grownBy w8 (Value.slice A8 (List.range i).length c8).ownBlock → LFirst w B h K (gk - 1) v' (.int .i64 ((i : Int) + 1)) w8) := fun v w7 v' w8 m0 m1 m2 m3 k1 k2 => by
        have k4 := L5.grow_trans (World.grownBy_alloc w7 (.cells #[.string ⟨(numB i).toArray⟩] 34) _) k2
        refine ⟨i + 1, hkk.out, rfl, v, m0.same (fun q hq => k4.block q (m0.inlt hq).2 (fun e => m0.term_not2 m1 q e.symm hq)), ?_, by simp; omega, m2.grown k4 m2.size (fun q e => Nat.le_trans hw01 (m1.lt q e).1), Nat.le_trans m3 k4.size⟩
        have e : strs (nums8 (List.range (i + 1))) = strs (nums8 (List.range i)) ++ [.string ⟨(numB i).toArray⟩] := by rw [List.range_succ]; simp [strs, nums8]
        rw [e]
        simpa using k1
      have hli : (List.range i).length = i := by simp
      rw [hli] at HS HNx
      rw [hli]
      clear ha hr hB hk hli HR
      generalize numB i = np at *
      go_wp2_with fail
      refine (HNu.out wr).mono ?_
      rintro e w6 ⟨rfl, b6⟩
      have HS := Lib.hid (HS.out w6 b6)
      clear b6
      go_wp2_with fail
      refine HS.out.mono ?_
      rintro e w7 ⟨rfl, v7, m0, m1, m2, m3⟩
      have M7 := Lib.hid (And.intro m0 (And.intro m1 (And.intro m2 m3)))
      clear m0 m1 m2 m3 HS
      go_wp2_with fail
      refine (HNu.out w7).mono ?_
      rintro e w8 ⟨rfl, b8⟩
      have M8 : Hid (NtAt w8 B h ((List.range (i + 1)).map dgL) v7 B (i + 1) (nums8 (List.range (i + 1))) ∧ w8.ownsRow B 34 1 (.slice A8 i c8) i (strs (nums8 (List.range i))) ∧ Below w.heap.size w w8 ∧ B ≤ w8.heap.size) := ⟨M7.out.1.below b8, L5.own_below M7.out.2.1 b8, M7.out.2.2.1.trans (b8.mono M7.out.2.2.1.size), Nat.le_trans M7.out.2.2.2 b8.size⟩
      have n1 : i + 1 ≤ maxLen := by unfold maxLen; omega
      have n2 : (i + 1) * 16 ≤ 140737488355328 := by omega
      have n3 : ∀ u ∈ [Value.string ⟨np.toArray⟩], u.oneCell' = true := by simp [Value.oneCell']
      have n4 : B ≤ (w8.alloc (.cells #[.string ⟨np.toArray⟩] 34)).heap.size := by have := M8.out.2.2.2; simp; omega
      have HRw := Lib.hid (M8.out.2.1.alloc (.cells #[.string ⟨np.toArray⟩] 34))
      clear b8 M7 s3
      go_wp2_with (at_builtin; refine wpList_append_own_at _ rfl _ _ 49 rfl B 34 i0 _ 1 16 Try.underlying49 hi hz0 hz1 hz2 rfl (by decide) _ _ _ rfl HRw.out ⟨w8.heap.size, 0, none⟩ 1 1 [.string ⟨np.toArray⟩] rfl rfl (cell_one_new _ _ _) n3 n1 n2 n4 ?_; intro v9 w9 hown' hgrow _ _; have HF := Lib.hid (HNx.out v7 w8 v9 w9 M8.out.1 M8.out.2.1 M8.out.2.2.1 M8.out.2.2.2 hown' hgrow); clear hown' hgrow)
      go_roundg (gk - 1)
      case measure => exact hmm.out
      case rel => exact HF.out
    · have s1 : ¬ (i : Int) < (K : Int) := by omega
      obtain rfl : K = i := by omega
      have H1 : Hid (LGo w B h K xs.length xs.length (.slice A8 (List.range K).length c8) (.int .i64 0) wr) := ⟨0, by omega, rfl, List.range K, v, ha, hr, hlk, hB, hb⟩
      clear ha hr hlk hB hb hk hin
      generalize (List.range K).length = lk at *
      go_upto_block 2 with fail
      go_cut [8] (fun v8 wc => LEnd w B h K v8 wc)
      case first =>
        go_wp2_with fail
        go_loopg [8, 10] xs.length (fun k v8 v10 wr => LGo w B h K xs.length k v8 v10 wr)
        case atStart => exact H1.out
        clear H1
        case round =>
          obtain ⟨j, hk, rfl, ls, v, ha, hr, hlk, hB, hb⟩ := hrel
          obtain ⟨A9, c9, rfl⟩ := L5.own_slice hr
          by_cases hjl : j < xs.length ∧ 0 < ls.length
          rotate_left
          · have HF : Hid (LEnd w B h K (.slice A9 ls.length c9) wr) := ⟨ls, v, ha, hr, hlk, hB, hb⟩
            by_cases hjn : j < xs.length
            · have s3 : (j : Int) < (xs.length : Int) := by omega
              have s4 : ¬ (0 : Int) < (ls.length : Int) := by omega
              clear ha hr hlk hB hb hjl hk
              go_wp2_with fail
              go_meet
              case rel => exact HF.out
            · have s3 : ¬ (j : Int) < (xs.length : Int) := by omega
              clear ha hr hlk hB hb hjl hk
              go_wp2_with fail
              go_meet
              case rel => exact HF.out
          obtain ⟨hjn, hl0⟩ := hjl
          obtain ⟨x, hx⟩ : ∃ x, xs[j]? = some x := ⟨_, List.getElem?_eq_getElem hjn⟩
          obtain ⟨ad, rfl, hadb, hc, hxi⟩ := HI.out j x hx
          have c1 : wr.cell? (ad.add j) = some (.int .i64 x) := (hB.cell (p := ad.add j) (by rw [addr_block8]; exact hadb)).trans hc
          have s3 : (j : Int) < (xs.length : Int) := by omega
          have s4 : (0 : Int) < (ls.length : Int) := by omega
          have s5 : (0 : Int) ≤ (j : Int) := by omega
          have HPk := Lib.hid (pick_is hxi (n := ls.length) hl0 (by omega) wr)
          have hq := pickN_lt x (n := ls.length) hl0
          generalize pickN x ls.length = q at *
          obtain ⟨r, hr0⟩ : ∃ r, ls[q]? = some r := ⟨_, List.getElem?_eq_getElem hq⟩
          obtain ⟨g9, c9', e9, hg9, _, hcell⟩ := row_shape_t hr hl0
          simp only [Value.slice.injEq, true_and] at e9
          obtain ⟨rfl, rfl⟩ := e9
          have cq := hcell q (.string ⟨(numB r).toArray⟩) (by simp [strs, nums8, hr0])
          have HT := take_yes ha (i := q) (d := dgL r) (by simp [hr0]) (by simp; omega)
          have e1 : (ls.map dgL).take q ++ (ls.map dgL).drop (q + 1) = (ls.take q ++ ls.drop (q + 1)).map dgL := by simp [List.map_take, List.map_drop]
          unfold TakeYes Ntd at HT
          rw [e1] at HT
          have HT2 : Hid (Calls Try.prog 12 #[.pointer (some ⟨h, 0, none⟩), .int .i64 q] wr fun e w' => e = .returned (.tuple #[.agg #[.int .i64 1, .int .i64 2, .string ⟨(numB r).toArray⟩], .int .i64 0]) ∧ ∃ v', NtAt w' B h ((ls.take q ++ ls.drop (q + 1)).map dgL) v' B K (nums8 (List.range K)) ∧ Only (NtIn h v B) wr w' ∧ ∀ k, NtIn h v' B k → NtIn h v B k ∨ wr.heap.size ≤ k) := HT
          have hmm := Lib.hid (show gk - 1 < gk by omega)
          have hkk := Lib.hid (show (gk - 1) + (j + 1) = xs.length by omega)
          generalize gk - 1 = ko at *
          have HA := Lib.hid ha
          have HR := Lib.hid hr
          have HB := Lib.hid hB
          have hcap9 : ls.length ≤ c9 := by
            rcases hr.2 with ⟨e3, _⟩ | ⟨_, _, _, e3, _, _, h4, _⟩
            · cases e3
            · cases e3; exact h4
          have p1 : (0 : Int) ≤ (q : Int) := by omega
          have p2 : (q : Int) < (ls.length : Int) := by omega
          have hj60 : j ≤ 60 := by omega
          generalize hnp : numB r = np at *
          clear ha hr hB hk hx hc hadb hxi hcell HT e1 hr0 hnp
          go_wp2_with fail
          refine HPk.out.mono ?_
          rintro e w4 ⟨rfl, rfl⟩
          clear HPk c1
          go_wp2_with fail
          refine HT2.out.mono ?_
          rintro e w5 ⟨rfl, v5, a5, o5, n5⟩
          have bC : Below w5.heap.size w5 (w5.alloc (.cells #[.int .i64 1, .int .i64 2, .string ⟨np.toArray⟩] 36)) := (Below.refl _ w5).alloc (Nat.le_refl _) _
          have nb := heap_alloc_new w5 (.cells #[.int .i64 1, .int .i64 2, .string ⟨np.toArray⟩] 36)
          obtain ⟨w6, hw6⟩ : ∃ w6, w5.alloc (.cells #[.int .i64 1, .int .i64 2, .string ⟨np.toArray⟩] 36) = w6 := ⟨_, rfl⟩
          rw [hw6] at bC nb
          have hg5 : g9 < w5.heap.size := Nat.lt_of_lt_of_le hg9 o5.size
          have ob := (bC.block g9 hg5).trans (o5.block g9 hg9 (HA.out.term_not2 HR.out g9 rfl))
          have f2 : w6.cell? ⟨w5.heap.size, 2, none⟩ = some (.string ⟨np.toArray⟩) := blk_cell8 nb
          have f3 : w6.cell? ⟨g9, q, none⟩ = some (.string ⟨np.toArray⟩) := (World.cell?_of_block (w := wr) ob).trans cq
          have HA6 := Lib.hid (a5.below bC)
          have HR6 : Hid (w6.ownsRow B 34 1 (.slice (some ⟨g9, 0, none⟩) ls.length c9) ls.length (strs (nums8 ls))) := L5.own_same HR.out (fun k e => by
            obtain rfl : g9 = k := by cases e; rfl
            exact ob)
          have HB6 : Hid (Below w.heap.size w w6) := by
            have b5 : Below w.heap.size w w5 := Only.below HB.out o5 HB.out.size (fun k hk => Nat.le_trans hw01 (HA.out.inlt hk).1)
            exact b5.trans (bC.mono b5.size)
          have hb6 : B ≤ w6.heap.size := Nat.le_trans hb (Nat.le_trans o5.size bC.size)
          clear a5 o5 n5 bC nb ob HT2 HA HR HB cq hb hg5 hg9
          go_wp2
          go_quiet (fail)
          go_upto_region 19 with (fail)
          obtain ⟨W7, hW7⟩ : ∃ W7, w6.drewN nq = W7 := ⟨_, rfl⟩
          have HA7 : Hid (NtAt W7 B h ((ls.take q ++ ls.drop (q + 1)).map dgL) v5 B K (nums8 (List.range K))) := by rw [← hW7]; exact HA6.out.same fun _ _ => rfl
          have HR7 : Hid (W7.ownsRow B 34 1 (.slice (some ⟨g9, 0, none⟩) ls.length c9) ls.length (strs (nums8 ls))) := by rw [← hW7]; exact HR6.out
          have HB7 : Hid (Below w.heap.size w W7) := by rw [← hW7]; exact L5.below_drewN HB6.out _
          have hb7 : B ≤ W7.heap.size := by rw [← hW7]; exact hb6
          rw [hW7]
          clear hW7 HA6 HR6 HB6 hb6 f2 f3
          go_cut [8] (fun v8 wc => ∃ c, (∃ A, v8 = .slice A (ls.take q ++ ls.drop (q + 1)).length c) ∧ wc.ownsRow B 34 1 v8 (ls.take q ++ ls.drop (q + 1)).length (strs (nums8 (ls.take q ++ ls.drop (q + 1)))) ∧ Below W7.heap.size W7 wc)
          case first =>
            have hV1 : Below W7.heap.size W7 (W7.drew.alloc (.cells #[] 34)) := (Below.refl _ W7).drew.alloc (Nat.le_refl _) _
            have hz1' : W7.heap.size < (W7.drew.alloc (.cells #[] 34)).heap.size := by rw [World.size_alloc]; show W7.heap.size < W7.heap.size + 1; omega
            have HLit : Hid ((W7.drew.alloc (.cells #[] 34)).ownsRow W7.heap.size 34 1 (.slice (some ⟨W7.heap.size, 0, none⟩) 0 0) 0 []) := World.ownsRow_lit (e := 34) (base := W7.heap.size) (size := 1) W7.drew #[] 0 (Nat.le_refl _) (by unfold maxLen; omega) rfl
            have hcut' := cut_facts (at_ := q) HR7.out hV1
            have HN1' := Lib.hid hcut'.1
            have HFar := Lib.hid hcut'.2
            have hvl : (strs (nums8 ls)).length = ls.length := by rw [strs_len, nums8_len]
            have hL1 : Hid (((strs (nums8 ls)).take q).length = q * 1) := by show _ = _; rw [List.length_take, hvl]; omega
            have hL2 : Hid (((strs (nums8 ls)).drop (q + 1)).length = (ls.length - (q + 1)) * 1) := by show _ = _; rw [List.length_drop, hvl]; omega
            have HOne : Hid ((∀ u ∈ (strs (nums8 ls)).take q, u.oneCell' = true) ∧ (∀ u ∈ (strs (nums8 ls)).drop (q + 1), u.oneCell' = true)) := ⟨fun u hu => strs_one _ u (List.mem_of_mem_take hu), fun u hu => strs_one _ u (List.mem_of_mem_drop hu)⟩
            have m1 : Hid (0 + q ≤ maxLen ∧ (0 + q) * 16 ≤ 140737488355328 ∧ q + (ls.length - (q + 1)) ≤ maxLen ∧ (q + (ls.length - (q + 1))) * 16 ≤ 140737488355328) := ⟨by unfold maxLen; omega, by omega, by unfold maxLen; omega, by omega⟩
            have m2 : Hid (W7.heap.size ≤ (W7.drew.alloc (.cells #[] 34)).heap.size) := Nat.le_of_lt hz1'
            have HEnd : Hid (∀ v8 v9 w8 w9, w8.ownsRow W7.heap.size 34 1 v8 q ((strs (nums8 ls)).take q) ∧ (W7.drew.alloc (.cells #[] 34)).grownBy w8 (some W7.heap.size) → w9.ownsRow W7.heap.size 34 1 v9 (q + (ls.length - (q + 1))) ((strs (nums8 ls)).take q ++ (strs (nums8 ls)).drop (q + 1)) ∧ w8.grownBy w9 v8.ownBlock → ∃ c, (∃ A, v9 = .slice A (ls.take q ++ ls.drop (q + 1)).length c) ∧ w9.ownsRow B 34 1 v9 (ls.take q ++ ls.drop (q + 1)).length (strs (nums8 (ls.take q ++ ls.drop (q + 1)))) ∧ Below W7.heap.size W7 w9) := fun v8 v9 w8 w9 k8 k9 => by
              have b8 : Below W7.heap.size W7 w8 := hV1.grown k8.2 (by omega) (fun k e => by cases e; exact Nat.le_refl _)
              have b9 : Below W7.heap.size W7 w9 := b8.grown k9.2 b8.size (fun k e => (k8.1.lt k e).1)
              have e1 : (ls.take q ++ ls.drop (q + 1)).length = q + (ls.length - (q + 1)) := by simp; omega
              have e2 : strs (nums8 (ls.take q ++ ls.drop (q + 1))) = (strs (nums8 ls)).take q ++ (strs (nums8 ls)).drop (q + 1) := by simp [strs, nums8, List.map_take, List.map_drop]
              obtain ⟨A, c, e3⟩ := L5.own_slice k9.1
              refine ⟨c, ⟨A, by rw [e1]; exact e3⟩, ?_, b9⟩
              rw [e1, e2]
              exact ⟨k9.1.1, k9.1.2.imp id (fun ⟨g, cap, cur, a1, a2, a3⟩ => ⟨g, cap, cur, a1, Nat.le_trans hb7 a2, a3⟩)⟩
            have z3 : (q : Int) ≤ (ls.length : Int) := by omega
            have z4 : (q : Int) ≤ (c9 : Int) := by omega
            have z5 : (q : Int) + 1 ≤ (ls.length : Int) := by omega
            have z6 : (ls.length : Int) ≤ (c9 : Int) := by omega
            have z8 : (0 : Int) ≤ (q : Int) + 1 := by omega
            have hwr : IntKind.i64.wrap ((q : Int) + 1) = (q : Int) + 1 := by rw [IntKind.wrap_i64]; omega
            have htn : ((q : Int) + 1).toNat = q + 1 := by omega
            have hHN : Hid (c9 = q + 1 → (strs (nums8 ls)).drop (q + 1) = []) := fun e => List.drop_of_length_le (by rw [hvl]; omega)
            clear hcut' hV1 hz1' hvl HA7 HB7
            by_cases hcap' : c9 = q + 1
            · have HNil := Lib.hid (hHN.out hcap')
              subst hcap'
              have z9 : (q : Int) ≤ (q : Int) + 1 := by omega
              clear hHN
              go_wp2
              go_region_law (first
                  | (refine step_append_owned rfl (.tmp 92) (.tmp 96) 49 rfl W7.heap.size 34 i0 (.string ⟨#[]⟩) 1 16 Try.underlying49 hi hz0 hz1 hz2 rfl (by decide) v8 q ((strs (nums8 ls)).take q) (by simp [Act.eval]) X8.out.1 ⟨g9, 0, none⟩ (ls.length - (q + 1)) 0 ((strs (nums8 ls)).drop (q + 1)) (by first | (simp [Act.eval]; done) | (simp [Act.eval]; omega)) hL2.out (fun j u hu => by rw [HNil.out] at hu; simp at hu) (HOne.out.2) m1.out.2.2.1 m1.out.2.2.2 (Nat.le_trans m2.out X8.out.2.size) ?_
                     intro v9 w9 hown5 hgrow5
                     have X9 : Hid (w9.ownsRow W7.heap.size 34 1 v9 (q + (ls.length - (q + 1))) ((strs (nums8 ls)).take q ++ (strs (nums8 ls)).drop (q + 1)) ∧ w8.grownBy w9 v8.ownBlock) := ⟨hown5, hgrow5⟩
                     clear hown5 hgrow5)
                  | (refine step_append_owned rfl (.tmp 88) (.tmp 91) 49 rfl W7.heap.size 34 i0 (.string ⟨#[]⟩) 1 16 Try.underlying49 hi hz0 hz1 hz2 rfl (by decide) (.slice (some ⟨W7.heap.size, 0, none⟩) 0 0) 0 [] (by simp [Act.eval]) HLit.out ⟨g9, 0, none⟩ q (q + 1) ((strs (nums8 ls)).take q) (by simp [Act.eval]) hL1.out HN1'.out (HOne.out.1) m1.out.1 m1.out.2.1 m2.out ?_
                     intro v8 w8 hown4 hgrow4
                     have X8 : Hid (w8.ownsRow W7.heap.size 34 1 v8 q ((strs (nums8 ls)).take q) ∧ (W7.drew.alloc (.cells #[] 34)).grownBy w8 (some W7.heap.size)) := ⟨by rw [Nat.zero_add] at hown4; exact hown4, hgrow4⟩
                     clear hown4 hgrow4))
              all_goals
                go_wp2_with fail
                go_meet
                case rel => exact HEnd.out _ _ _ _ X8.out X9.out
            · clear hHN
              go_wp2
              go_region_law (first
                  | (refine step_append_owned rfl (.tmp 92) (.tmp 96) 49 rfl W7.heap.size 34 i0 (.string ⟨#[]⟩) 1 16 Try.underlying49 hi hz0 hz1 hz2 rfl (by decide) v8 q ((strs (nums8 ls)).take q) (by simp [Act.eval]) X8.out.1 ⟨g9, q + 1, none⟩ (ls.length - (q + 1)) (c9 - (q + 1)) ((strs (nums8 ls)).drop (q + 1)) (by first | (simp [Act.eval]; done) | (simp [Act.eval]; omega)) hL2.out (HFar.out _ X8.out.2) (HOne.out.2) m1.out.2.2.1 m1.out.2.2.2 (Nat.le_trans m2.out X8.out.2.size) ?_
                     intro v9 w9 hown5 hgrow5
                     have X9 : Hid (w9.ownsRow W7.heap.size 34 1 v9 (q + (ls.length - (q + 1))) ((strs (nums8 ls)).take q ++ (strs (nums8 ls)).drop (q + 1)) ∧ w8.grownBy w9 v8.ownBlock) := ⟨hown5, hgrow5⟩
                     clear hown5 hgrow5)
                  | (refine step_append_owned rfl (.tmp 88) (.tmp 91) 49 rfl W7.heap.size 34 i0 (.string ⟨#[]⟩) 1 16 Try.underlying49 hi hz0 hz1 hz2 rfl (by decide) (.slice (some ⟨W7.heap.size, 0, none⟩) 0 0) 0 [] (by simp [Act.eval]) HLit.out ⟨g9, 0, none⟩ q c9 ((strs (nums8 ls)).take q) (by simp [Act.eval]) hL1.out HN1'.out (HOne.out.1) m1.out.1 m1.out.2.1 m2.out ?_
                     intro v8 w8 hown4 hgrow4
                     have X8 : Hid (w8.ownsRow W7.heap.size 34 1 v8 q ((strs (nums8 ls)).take q) ∧ (W7.drew.alloc (.cells #[] 34)).grownBy w8 (some W7.heap.size)) := ⟨by rw [Nat.zero_add] at hown4; exact hown4, hgrow4⟩
                     clear hown4 hgrow4))
              all_goals
                go_wp2_with fail
                go_meet
                case rel => exact HEnd.out _ _ _ _ X8.out X9.out
          case rest =>
            obtain ⟨XX, rfl⟩ : ∃ z, z = wc := ⟨wc, rfl⟩
            obtain ⟨c10, ⟨A10, hv⟩, hr10, hb10⟩ := hcut
            have hlen' : (ls.take q ++ ls.drop (q + 1)).length ≤ K := by simp; omega
            obtain ⟨ls', hls⟩ : ∃ l, ls.take q ++ ls.drop (q + 1) = l := ⟨_, rfl⟩
            rw [hls] at hv hr10 HA7 hlen'
            subst hv
            have HA10 := Lib.hid (HA7.out.below hb10)
            have HB10 : Hid (Below w.heap.size w XX) := HB7.out.trans (hb10.mono HB7.out.size)
            have hb11 : B ≤ XX.heap.size := Nat.le_trans hb7 hb10.size
            have HR10 := Lib.hid hr10
            have HL := Lie_calls HA10.out (by rw [List.length_map]; omega)
            unfold LieOut at HL
            rw [List.length_map] at HL
            have HL := Lib.hid HL
            clear hr10 hb10 hls HA7 HR7 HB7 hb7 p1 p2 hq s4 hcap9
            go_wp2_with fail
            refine HL.out.mono ?_
            rintro e w11 ⟨v14, rfl, k1, k2⟩
            obtain ⟨A14, c14, rfl⟩ := L5.own_slice k1
            have HD := Lib.hid k1
            have HR11 := Lib.hid (L5.own_below HR10.out k2)
            have HF : Hid (∀ m, LGo w B h K xs.length ko (.slice A10 ls'.length c10) (.int .i64 ((j : Int) + 1)) (w11.drewN m)) := fun m => by
              have hA := HA10.out.below k2
              have hB := HB10.out.trans (k2.mono HB10.out.size)
              exact ⟨j + 1, hkk.out, rfl, ls', v5, hA.same fun _ _ => rfl, HR11.out, hlen', L5.below_drewN hB m, Nat.le_trans hb11 k2.size⟩
            clear k1 k2 HL HA10 HR10 HB10 hb11
            go_wp2_with fail
            go_loopg [15] ls'.length (fun k v15 wy => ∃ j2 m : Nat, k + j2 = ls'.length ∧ v15 = .int .i64 j2 ∧ wy = w11.drewN m)
            case atStart => exact ⟨0, 0, by omega, rfl, rfl⟩
            case round =>
              obtain ⟨j2, m, hkj, rfl, rfl⟩ := hrel
              by_cases hj2 : j2 < ls'.length
              · obtain ⟨r2, hr2⟩ : ∃ r2, ls'[j2]? = some r2 := ⟨_, List.getElem?_eq_getElem hj2⟩
                obtain ⟨g10, c10', e10, _, _, hcell⟩ := row_shape_t HR11.out (by omega)
                simp only [Value.slice.injEq, true_and] at e10
                obtain ⟨rfl, rfl⟩ := e10
                have HD' : w11.ownsRow XX.heap.size 36 3 (.slice A14 ls'.length c14) (ls'.map dgL).length (flat (ls'.map dgL)) := by rw [List.length_map]; exact HD.out
                obtain ⟨g14, c14', e14, _⟩ := dg_shape HD' (by rw [List.length_map]; omega)
                rw [List.length_map] at e14 HD'
                simp only [Value.slice.injEq, true_and] at e14
                obtain ⟨rfl, rfl⟩ := e14
                have HD2 : w11.ownsRow XX.heap.size 36 3 (.slice (some ⟨g14, 0, none⟩) (ls'.map dgL).length c14) (ls'.map dgL).length (flat (ls'.map dgL)) := by rw [List.length_map]; exact HD'
                have cd : w11.cell? ⟨g14, j2 * 3 + 2, none⟩ = some (.string ⟨(numB r2).toArray⟩) := (dg_cells HD2 (i := j2) (d := dgL r2) (by simp [hr2])).2.2
                have cl := hcell j2 (.string ⟨(numB r2).toArray⟩) (by simp [strs, nums8, hr2])
                have hm1 := Lib.hid (show gk - 1 < gk by omega)
                have hm2 := Lib.hid (show (gk - 1) + (j2 + 1) = ls'.length by omega)
                have hj40 : j2 ≤ 60 := by omega
                have s6 : (j2 : Int) < (ls'.length : Int) := by omega
                have s7 : (0 : Int) ≤ (j2 : Int) := by omega
                generalize hnp : numB r2 = np2 at *
                clear hr2 hcell hkj HD' HD2 hnp
                go_wp2
                go_quiet (fail)
                go_wp2
                go_roundg (gk - 1)
                case measure => exact hm1.out
                case rel => exact ⟨j2 + 1, _, hm2.out, rfl, rfl⟩
              · have s6 : ¬ (j2 : Int) < (ls'.length : Int) := by omega
                have HF := Lib.hid (HF.out m)
                clear hkj hj2
                go_wp2
                go_roundg ko
                case measure => exact hmm.out
                case rel => exact HF.out
      case rest =>
        obtain ⟨XX, rfl⟩ : ∃ z, z = wc := ⟨wc, rfl⟩
        obtain ⟨ls, v, ha, hr, hlk, hB, hb⟩ := hcut
        obtain ⟨A9, c9, rfl⟩ := L5.own_slice hr
        have HM := Many_calls ha
        rw [List.length_map] at HM
        have HM := Lib.hid HM
        have HH := Heard_calls ha (by rw [nums8_len]; simp; omega)
        unfold HeardOut at HH
        rw [nums8_len, List.length_range] at HH
        have HH := Lib.hid HH
        have HB := Lib.hid hB
        clear ha hr hB hb H1
        go_wp2_with fail
        refine HM.out.mono ?_
        rintro e w5 ⟨rfl, rfl⟩
        clear HM
        go_wp2_with fail
        refine HH.out.mono ?_
        rintro e w6 ⟨v6, rfl, k1, k2⟩
        obtain ⟨A6, c6, rfl⟩ := L5.own_slice k1
        have HF : Hid (Below w.heap.size w w6) := HB.out.trans (k2.mono HB.out.size)
        clear k1 k2 HH HB
        go_wp2
        go_ret
        exact ⟨rfl, HF.out⟩
end Go.Proofs.Ytcdhfkfokckjgaa.L8
