/- LinkRoom: no more are open than there is room for; what comes to be known is not open any more. -/
import Derived.Test.YthhiapdmibiolaaLkD
section
namespace Go.Proofs.Ythhiapdmibiolaa.L7
open Go.ChangeShapes Go.WideShapes Go.ChangeAt Go.RowKit L6

/-- A row of texts, or of numbers, lies apart from an end. -/
theorem EndAt.not_row {W : World} {x : Blk} {n : Nat} {s : St} (h : EndAt W x n s) {B : Nat} {e : TypeId} {v : Value} {m : Nat} {xs : List Value} (hr : W.ownsRow B e 1 v m xs) (he : e ≠ 70) (he2 : e ≠ 95) {q : Nat} (hq : v.ownBlock = some q) :
    q ≠ x.g ∧ q ≠ x.q ∧ q ≠ x.c ∧ q ≠ x.b := by
  rcases hr.2 with ⟨rfl, _⟩ | ⟨g, cap, cur, rfl, _, h2, _⟩
  · cases hq
  · obtain rfl : g = q := by cases hq; rfl
    obtain ⟨_, _, e1⟩ := h.queue.chan
    obtain ⟨_, _, e2⟩ := h.map.block
    have e3 := h.queue.own
    have e4 := h.own
    refine ⟨?_, ?_, ?_, ?_⟩ <;> rintro rfl
    · rw [h2] at e4; simp at e4; exact he e4.2
    · rw [h2] at e3; simp at e3; exact he2 e3.2
    · rw [h2] at e1; simp at e1
    · rw [h2] at e2; simp at e2
theorem EndAt.row_only {W W' : World} {x : Blk} {n : Nat} {s : St} (h : EndAt W x n s) {B : Nat} {e : TypeId} {v : Value} {m : Nat} {xs : List Value} (hr : W.ownsRow B e 1 v m xs) (he : e ≠ 70) (he2 : e ≠ 95) (ho : Only x.In W W') : W'.ownsRow B e 1 v m xs :=
  L5.own_same hr fun q hq => by
    have k := h.not_row hr he he2 hq
    exact ho.block q (hr.lt q hq).2 (by rintro (e | e | e) <;> simp_all)
theorem EndAt.row_grown {W W' : World} {x : Blk} {n : Nat} {s : St} (h : EndAt W x n s) {B : Nat} {e : TypeId} {v : Value} {m : Nat} {xs : List Value} (hr : W.ownsRow B e 1 v m xs) (he : e ≠ 70) (he2 : e ≠ 95) (hg : W.grownBy W' v.ownBlock) : EndAt W' x n s := by
  have hl := h.lt
  refine h.same fun k hk => hg.block k (by rcases hk with rfl | rfl | rfl | rfl <;> omega) (fun e' => ?_)
  have := h.not_row hr he he2 e'.symm
  rcases hk with rfl | rfl | rfl | rfl <;> simp_all
theorem term_end : 30 ≠ 70 ∧ 30 ≠ 95 := ⟨by decide, by decide⟩
theorem Only.row {F : Nat → Prop} {w W W' : World} {row : Option Nat} (h : Only F w W) (hg : W.grownBy W' row) (hr : ∀ k, row = some k → w.heap.size ≤ k) : Only F w W' :=
  ⟨hg.os.trans h.os, hg.tape.trans h.tape, hg.output.trans h.output, Nat.le_trans h.size hg.size, fun k hk hn => (hg.block k (Nat.lt_of_lt_of_le hk h.size) (fun e => by have := hr k e.symm; omega)).trans (h.block k hk hn)⟩

theorem dataF_len (p q n : Nat) (b : Bytes) : (dataF p q n b).length ≤ 20000 := by unfold dataF; exact frame_len p q 1 n [b]
theorem ackF_len (p q n : Nat) : (ackF p q n).length ≤ 20000 := by unfold ackF; exact frame_len p q 2 n []
def framesR (j : Nat) : List Bytes := (List.range j).map fun i => dataF 1 2 (i + 1) (bodyL i)
theorem framesR_len (j : Nat) : (framesR j).length = j := by simp [framesR]
theorem framesR_succ (j : Nat) : framesR (j + 1) = framesR j ++ [dataF 1 2 (j + 1) (bodyL j)] := by simp [framesR, List.range_succ]
theorem framesR_get {j i : Nat} (h : i < j) : (framesR j)[i]? = some (dataF 1 2 (i + 1) (bodyL i)) := by
  unfold framesR
  rw [List.getElem?_map, List.getElem?_range h]
  rfl
theorem framesR_few (j : Nat) : ∀ f ∈ framesR j, f.length ≤ 20000 := by
  intro f hf
  obtain ⟨i, _, hi⟩ := List.mem_map.1 hf
  rw [← hi]
  exact dataF_len 1 2 (i + 1) (bodyL i)
def sA (j : Nat) : St := ⟨1, 2, j, 0, framesR j, fun _ => none⟩
def sB (i : Nat) : St := ⟨2, 1, 0, i, [], fun _ => none⟩
theorem sA_ok {j : Nat} (h : j ≤ 64) : (sA j).Ok := by
  have h1 : j ≤ 2147483647 := by omega
  have h2 : (framesR j).length ≤ 64 := by rw [framesR_len]; exact h
  have h3 : (framesR j).length ≤ j := by rw [framesR_len]; exact Nat.le_refl _
  have h4 := framesR_few j
  unfold sA
  generalize framesR j = fs at *
  exact ⟨Nat.le_refl 1, (show (1 : Nat) ≤ 8 by omega), (show (1 : Nat) ≤ 2 by omega), (show (2 : Nat) ≤ 8 by omega), h1, Nat.zero_le _, h2, h3, h4, fun n b hb => by simp at hb⟩
theorem send_sA {j : Nat} (h : j < 64) : sendL (sA j) (bodyL j) = ((dataF 1 2 (j + 1) (bodyL j), 0), sA (j + 1)) := by
  rw [sendL_small (sA_ok (by omega)) (small_body _) (by show j < _; omega) (by show (framesR j).length < 64; rw [framesR_len]; exact h)]
  unfold sA
  rw [framesR_succ]
theorem full_sA (c : Int) : sendL (sA 64) (bodyL c) = (([], 5), sA 64) := sendL_full (small_body _) (by show (framesR 64).length = 64; exact framesR_len 64)
theorem take_sB (i : Nat) (c : Int) : dataL (sB i) (i + 1) (bodyL c) = (([bodyL c], ackF 2 1 (i + 1), 0), sB (i + 1)) := dataL_next (s := sB i) rfl (bodyL c)
def sC (j k : Nat) : St := { sA j with opens := (framesR j).drop k }
theorem ack_sA {j k : Nat} (h0 : 0 < k) (h : k ≤ j) : ackL (sA j) k = (0, sC j k) := by
  unfold ackL St.come
  have e : (sA j).opens.length = j := framesR_len j
  have e2 : (sA j).sent = j := rfl
  rw [e, e2, if_neg (by omega), if_neg (by omega)]
  have e3 : k - (j - j) = k := by omega
  rw [e3]
  rfl

def Go1 (w : World) (x y : Blk) (n k : Nat) (v11 v12 : Value) (wr : World) : Prop :=
  ∃ i : Nat, k + i = n ∧ v12 = .int .i64 i ∧ wr.ownsRow w.heap.size 30 1 v11 (min i 64) (strs (framesR (min i 64))) ∧ Two7 wr x y 0 0 (sA (min i 64)) (sB 0) ∧ Below w.heap.size w wr
def Go2 (w : World) (x y : Blk) (j c : Nat) (v11 : Value) (k : Nat) (v16 v17 : Value) (wr : World) : Prop :=
  ∃ (i : Nat) (la : ByteArray), k + i = c ∧ v17 = .int .i64 i ∧ v16 = .string la ∧ Hid (0 < i → la = ⟨(ackF 2 1 i).toArray⟩) ∧ wr.ownsRow w.heap.size 30 1 v11 j (strs (framesR j)) ∧ Two7 wr x y 0 i (sA j) (sB i) ∧ Below w.heap.size w wr

set_option maxRecDepth 100000 in
set_option maxHeartbeats 8000000 in
theorem room_calls {many come : Int} (hm : isInt many) (hc : isInt come) (w : World) : Calls Try.prog 5 #[.int .i64 many, .int .i64 come] w (One w (.bool true)) := by
  obtain ⟨i0, hi, hz0, hz1, hz2⟩ := info_parts info_term
  have HSh := Lib.hid (shown_calls w)
  have HN1 := Lib.hid (fun V => new_calls 1 2 (by omega) (by omega) (by omega) (by omega) (by omega) V)
  have HN2 := Lib.hid (fun V => new_calls 2 1 (by omega) (by omega) (by omega) (by omega) (by omega) V)
  have HP := Lib.hid (fun V => pick_is hm (n := 80) (by omega) (by omega) V)
  have HPc := Lib.hid (fun j (hj : j ≤ 64) V => pick_is hc (n := j + 1) (by omega) (by omega) V)
  have hlt := pickN_lt many (n := 80) (by omega)
  go_enter Try.func5, Try.ntmps5
  go_wp2_with fail
  refine HSh.out.mono ?_
  rintro e w1 ⟨rfl, b1⟩
  have HB1 := Lib.hid b1
  have HN1 := Lib.hid (HN1.out w1)
  clear b1 HSh
  go_wp2_with fail
  refine HN1.out.mono ?_
  rintro e w2 ⟨x, rfl, x2, b2, a2⟩
  have HB2 := Lib.hid (HB1.out.trans (b2.mono HB1.out.size))
  have HX := Lib.hid (And.intro x2 a2)
  have HN2 := Lib.hid (HN2.out w2)
  clear b2 x2 a2 HN1
  go_wp2_with fail
  refine HN2.out.mono ?_
  rintro e w3 ⟨y, rfl, y3, b3, a3⟩
  have HT := Lib.hid (two_new HX.out.1 b3 y3 a3)
  have HB3 := Lib.hid (HB2.out.trans (b3.mono HB2.out.size))
  have HAb : Hid (∀ q, In2 x y q → w.heap.size ≤ q) := fun q hq => by
    have h1 := HX.out.2
    have h2 := HB1.out.size
    have h3 := HB2.out.size
    simp only [Blk.Above] at h1 a3
    rcases hq with (e | e | e) | (e | e | e) <;> omega
  have HP := Lib.hid (HP.out w3)
  clear b3 y3 a3 HN2 HX
  go_wp2_with fail
  refine HP.out.mono ?_
  rintro e w4 ⟨rfl, rfl⟩
  obtain ⟨n, hn⟩ : ∃ n, pickN many 80 = n := ⟨_, rfl⟩
  rw [hn] at hlt ⊢
  have H0 : Hid (Go1 w x y n n (.slice none 0 0) (.int .i64 0) w3) := ⟨0, by omega, rfl, row_nil _ _, HT.out, HB3.out⟩
  clear hn HP HT
  go_wp2
  go_loopg [11, 12] n (fun k v11 v12 wr => Go1 w x y n k v11 v12 wr)
  case atStart => exact H0.out
  case round =>
    obtain ⟨i, hk, rfl, hrow, hT, hB⟩ := hrel
    obtain ⟨A, c, rfl⟩ := L5.own_slice hrow
    by_cases hin : i < n
    · have j1 : (i : Int) < (n : Int) := by omega
      have hBd := body_calls (c := (i : Int)) (by unfold isInt; omega) wr
      have HRow := Lib.hid hrow
      have HTw := Lib.hid hT
      have HB := Lib.hid hB
      have hi79 : i < 80 := by omega
      have hBd := Lib.hid hBd
      have hmeas := Lib.hid (show n - (i + 1) < gk by omega)
      have hmeq := Lib.hid (show n - (i + 1) + (i + 1) = n by omega)
      clear hrow hT hB hk hlt
      go_wp2_with fail
      refine hBd.out.mono ?_
      rintro e w5 ⟨rfl, b5⟩
      have hT5 := HTw.out.below b5
      by_cases h64 : i < 64
      · have hmin : min i 64 = i := by omega
        rw [hmin] at hT5 HRow
        have HSn := send_calls hT5.one (bodyL i) (by have := (small_body (i : Int)).2; unfold maxLen; omega)
        unfold SendOut at HSn
        rw [send_sA h64] at HSn
        have HSn := Lib.hid HSn
        have HT5 := Lib.hid hT5
        have HR5 := Lib.hid (L5.own_below HRow.out b5)
        have HB5 := Lib.hid (HB.out.trans (b5.mono HB.out.size))
        have j64 : (i : Int) < 64 := by omega
        have hmin2 : Hid (min (i + 1) 64 = i + 1) := by show min (i + 1) 64 = i + 1; omega
        rw [hmin]
        clear hT5 b5 hmin hBd
        go_wp2_with fail
        refine HSn.out.mono ?_
        rintro e w6 ⟨rfl, e6, o6⟩
        have HT6 := Lib.hid (HT5.out.left e6 o6)
        have HR6 := Lib.hid (HT5.out.one.row_only HR5.out term_end.1 term_end.2 o6)
        have HB6 : Hid (Below w.heap.size w w6) := Only.below HB5.out o6 HB5.out.size (fun q hq => HAb.out q (.inl hq))
        have hw6 : w.heap.size ≤ w6.heap.size := HB6.out.size
        have HNext : Hid (∀ v7 w7, w7.ownsRow w.heap.size 30 1 v7 (i + 1) (strs (framesR i) ++ [.string ⟨(dataF 1 2 (i + 1) (bodyL i)).toArray⟩]) → (w6.alloc (.cells #[.string ⟨(dataF 1 2 (i + 1) (bodyL i)).toArray⟩] 30)).grownBy w7 (Value.slice A i c).ownBlock → Go1 w x y n (n - (i + 1)) v7 (.int .i64 ((i : Int) + 1)) w7) := fun v7 w7 k1 k2 => by
          have k3 := L5.grow_trans (World.grownBy_alloc w6 (.cells #[.string ⟨(dataF 1 2 (i + 1) (bodyL i)).toArray⟩] 30) _) k2
          have er : strs (framesR (i + 1)) = strs (framesR i) ++ [.string ⟨(dataF 1 2 (i + 1) (bodyL i)).toArray⟩] := by rw [framesR_succ]; simp [strs]
          refine ⟨i + 1, hmeq.out, rfl, by rw [hmin2.out, er]; exact k1, ?_, ?_⟩
          · rw [hmin2.out]
            exact ⟨HT6.out.one.row_grown HR6.out term_end.1 term_end.2 k3, HT6.out.two.row_grown HR6.out term_end.1 term_end.2 k3, HT6.out.g, HT6.out.c, HT6.out.b⟩
          · exact HB6.out.grown k3 hw6 (fun k e => (HR6.out.lt k e).1)
        clear e6 o6 HT5 HR5 HB5 HSn HTw HRow
        go_wp2_with (at_builtin; refine wpList_append_own_at _ rfl _ _ 36 rfl (w.heap.size) 30 i0 _ 1 16 Try.underlying36 hi hz0 hz1 hz2 rfl (by decide) _ _ _ rfl (HR6.out.alloc _) ⟨w6.heap.size, 0, none⟩ 1 1 [.string ⟨(dataF 1 2 (i + 1) (bodyL i)).toArray⟩] rfl rfl (cell_one_new _ _ _) (by simp [Value.oneCell']) (by unfold maxLen; omega) (by omega) (by simp; omega) ?_; intro v7 w7 hown' hgrow hnil hat; have HF := Lib.hid (HNext.out v7 w7 hown' hgrow); clear hown' hgrow hnil hat)
        go_roundg (n - (i + 1))
        case measure => exact hmeas.out
        case rel => exact HF.out
      · have hmin : min i 64 = 64 := by omega
        rw [hmin] at hT5 HRow
        have HSn := send_calls hT5.one (bodyL i) (by have := (small_body (i : Int)).2; unfold maxLen; omega)
        unfold SendOut at HSn
        rw [full_sA] at HSn
        have HSn := Lib.hid HSn
        have HT5 := Lib.hid hT5
        have HR5 := Lib.hid (L5.own_below HRow.out b5)
        have HB5 := Lib.hid (HB.out.trans (b5.mono HB.out.size))
        have j64 : ¬ (i : Int) < 64 := by omega
        have hmin2 : Hid (min (i + 1) 64 = 64) := by show min (i + 1) 64 = 64; omega
        rw [hmin]
        clear hT5 b5 hmin hBd
        go_wp2_with fail
        refine HSn.out.mono ?_
        rintro e w6 ⟨rfl, e6, o6⟩
        have HF : Hid (Go1 w x y n (n - (i + 1)) (.slice A 64 c) (.int .i64 ((i : Int) + 1)) w6) := by
          refine ⟨i + 1, hmeq.out, rfl, ?_, ?_, ?_⟩
          · rw [hmin2.out]; exact HT5.out.one.row_only HR5.out term_end.1 term_end.2 o6
          · rw [hmin2.out]; exact HT5.out.left e6 o6
          · exact Only.below HB5.out o6 HB5.out.size (fun q hq => HAb.out q (.inl hq))
        clear e6 o6 HT5 HR5 HB5 HSn HTw HRow
        go_wp2
        go_roundg (n - (i + 1))
        case measure => exact hmeas.out
        case rel => exact HF.out
    · have j1 : ¬ (i : Int) < (n : Int) := by omega
      obtain rfl : i = n := by omega
      obtain ⟨j, hj⟩ : ∃ j, min i 64 = j := ⟨_, rfl⟩
      rw [hj] at hrow hT ⊢
      have hj64 : j ≤ 64 := by omega
      have HPc := Lib.hid (HPc.out j hj64 wr)
      have hkl := pickN_lt come (n := j + 1) (by omega)
      obtain ⟨kk, hkk⟩ : ∃ kk, pickN come (j + 1) = kk := ⟨_, rfl⟩
      rw [hkk] at HPc hkl
      have H2 : Hid (Go2 w x y j kk (.slice A j c) kk (.string ⟨#[]⟩) (.int .i64 0) wr) := ⟨0, ⟨#[]⟩, by omega, rfl, rfl, fun h => absurd h (by omega), hrow, hT, hB⟩
      clear hrow hT hB hj H0 hk hlt hkk
      go_wp2_with fail
      refine HPc.out.mono ?_
      rintro e w5 ⟨rfl, rfl⟩
      clear HPc
      go_wp2
      go_loopg [16, 17] kk (fun k v16 v17 wr' => Go2 w x y j kk (.slice A j c) k v16 v17 wr')
      case atStart => exact H2.out
      case round =>
        obtain ⟨i, la, hk, rfl, rfl, hla, hrow, hT, hB⟩ := hrel
        by_cases hin : i < kk
        · have j1 : (i : Int) < (kk : Int) := by omega
          have j2 : (0 : Int) ≤ (i : Int) := by omega
          have j3 : (i : Int) < (j : Int) := by omega
          obtain ⟨g, cap, hv, hcell, hgl⟩ := row_slice (ps := framesR j) (by rw [framesR_len]; exact hrow) (by intro e; have := framesR_len j; rw [e] at this; simp at this; omega)
          rw [framesR_len] at hv
          simp only [Value.slice.injEq, true_and] at hv
          obtain ⟨rfl, rfl⟩ := hv
          have hf := hcell i _ (framesR_get (by omega))
          have hfr := data_frame (p := 1) (q := 2) (n := i + 1) (b := bodyL i) (by omega) (by omega) (by omega) (by omega) (by omega) (by omega) (small_body _)
          have HTk := take_data hT.two (f := dataF 1 2 (i + 1) (bodyL i)) (dataF_len _ _ _ _) (by unfold maxLen; omega) hfr.2.2
          rw [take_sB] at HTk
          have HTk := Lib.hid HTk
          have HT := Lib.hid hT
          have HRow := Lib.hid hrow
          have HB := Lib.hid hB
          have hmeas := Lib.hid (show kk - (i + 1) < gk by omega)
          have hmeq := Lib.hid (show kk - (i + 1) + (i + 1) = kk by omega)
          have HBd := Lib.hid (fun V => body_calls (c := (i : Int)) (by unfold isInt; omega) V)
          have j9 : i ≤ 64 := by omega
          clear hT hrow hB hk hcell hgl hfr H2 hj64 hkl
          go_wp2_with fail
          refine HTk.out.mono ?_
          rintro e w6 ⟨v, rfl, r6, e6, o6⟩
          obtain ⟨g6, c6, rfl, hc6, hg6⟩ := row_slice (ps := [bodyL i]) r6 (by simp)
          have hb6 := hc6 0 _ rfl
          have HT6 := Lib.hid (HT.out.right e6 o6)
          have HR6 := Lib.hid (HT.out.two.row_only HRow.out term_end.1 term_end.2 o6)
          have HB6 : Hid (Below w.heap.size w w6) := Only.below HB.out o6 HB.out.size (fun q hq => HAb.out q (.inr hq))
          have hone : (([bodyL i] : List Bytes).length : Int) = 1 := rfl
          have HBd : Hid (∀ V, V.cell? ⟨g6, 0, none⟩ = some (.string ⟨(bodyL (i : Int)).toArray⟩) ∧ Below w6.heap.size w6 V → Calls Try.prog 17 #[.int .i64 (i : Int)] V fun e w' => e = .returned (.string ⟨(bodyL (i : Int)).toArray⟩) ∧ w'.cell? ⟨g6, 0, none⟩ = some (.string ⟨(bodyL (i : Int)).toArray⟩) ∧ Below w6.heap.size w6 w') := fun V hV => by
            refine (HBd.out V).mono ?_
            rintro e w' ⟨rfl, b⟩
            exact ⟨rfl, (b.cell (p := ⟨g6, 0, none⟩) (Nat.lt_of_lt_of_le hg6 hV.2.size)).trans hV.1, hV.2.trans (b.mono hV.2.size)⟩
          have HNext : Hid (∀ V, Below w6.heap.size w6 V → Go2 w x y j kk (.slice (some ⟨g, 0, none⟩) j c) (kk - (i + 1)) (.string ⟨(ackF 2 1 (i + 1)).toArray⟩) (.int .i64 ((i : Int) + 1)) V) := fun V hV => by
            exact ⟨i + 1, _, hmeq.out, rfl, rfl, fun _ => rfl, L5.own_below HR6.out hV, HT6.out.below hV, HB6.out.trans (hV.mono HB6.out.size)⟩
          have hbl : Below w6.heap.size w6 w6.drew := (Below.refl _ _).drew
          clear e6 o6 r6 hc6 HTk HT HRow
          generalize bodyL (i : Int) = bo at *
          go_wp2
          go_region_held3 (fun w' => w'.cell? ⟨g6, 0, none⟩ = some (.string ⟨bo.toArray⟩) ∧ Below w6.heap.size w6 w') ((first | exact ⟨hb6, hbl⟩ | (go_split_ands; refine ⟨?_, ?_⟩ <;> assumption)))
            ((go_at_call 17; refine (HBd.out _ (by first | exact ⟨hb6, hbl⟩ | assumption)).mono ?_; rintro e w7 ⟨rfl, f7, b7⟩))
          have HF := Lib.hid (HNext.out _ b7)
          clear f7 b7 HNext hb6 hbl
          go_wp2
          go_roundg (kk - (i + 1))
          case measure => exact hmeas.out
          case rel => exact HF.out
        · have j1 : ¬ (i : Int) < (kk : Int) := by omega
          obtain rfl : kk = i := by omega
          have hkj : kk ≤ j := by omega
          by_cases hk0 : kk = 0
          · have HT7 : Hid (Two7 wr x y 0 kk (sC j kk) (sB kk)) := by
              have e : sC j kk = sA j := by rw [hk0]; rfl
              show Two7 wr x y 0 kk (sC j kk) (sB kk)
              rw [e]; exact hT
            have HB7 := Lib.hid hB
            have hk0i : ¬ (0 : Int) < (kk : Int) := by omega
            clear hT hB hrow hla hk0 hk H2 hin j1
            have j1 : ¬ (kk : Int) < (kk : Int) := by omega
            have HSt1 := state_calls HT7.out.one
            unfold StateOut at HSt1
            rw [show (sC j kk).sent = j from rfl, show (sC j kk).taken = 0 from rfl] at HSt1
            have HSt1 := Lib.hid HSt1
            go_wp2_with fail
            refine HSt1.out.mono ?_
            rintro e w8 ⟨rfl, q8, rfl⟩
            have HT8 : Hid (Two7 (wr.drewN q8) x y _ _ (sC j kk) (sB kk)) := ⟨HT7.out.one.drewN q8, HT7.out.two.drewN q8, HT7.out.g, HT7.out.c, HT7.out.b⟩
            have HSt2 := state_calls HT8.out.two
            unfold StateOut at HSt2
            rw [show (sB kk).sent = 0 from rfl, show (sB kk).taken = kk from rfl] at HSt2
            have HSt2 := Lib.hid HSt2
            clear HSt1
            go_wp2_with fail
            refine HSt2.out.mono ?_
            rintro e w9 ⟨rfl, q9, rfl⟩
            have HE9 := Lib.hid (HT7.out.one.drewN (q8 + q9))
            have HOp := open_calls HE9.out
            have HAg := again_calls HE9.out
            have hd : (sC j kk).opens.length = j - kk := by show ((framesR j).drop kk).length = _; rw [List.length_drop, framesR_len]
            unfold AgainOut at HAg
            rw [hd] at HOp HAg
            obtain ⟨d, hdd⟩ : ∃ d, j - kk = d := ⟨_, rfl⟩
            rw [hdd] at HOp HAg
            have hdi : ((d : Int) == (j : Int) - (kk : Int)) = true := by rw [beq_iff_eq]; omega
            have HBx : Hid (∀ V', Only x.In (wr.drewN (q8 + q9)) V' → Below w.heap.size w V') := fun V' o => Only.below (L5.below_drewN HB7.out (q8 + q9)) o HB7.out.size (fun q hq => HAb.out q (.inl hq))
            have HOp := Lib.hid HOp
            have HAg := Lib.hid HAg
            have hjj : (kk : Int) ≤ (j : Int) := by omega
            clear hd hdd HSt2 HT8
            go_wp2_with fail
            refine HOp.out.mono ?_
            rintro e w10 ⟨rfl, rfl⟩
            go_wp2_with fail
            refine HAg.out.mono ?_
            rintro e w11 ⟨v, rfl, r11, e11, o11⟩
            obtain ⟨A11, c11, rfl⟩ := L5.own_slice r11
            have HF := Lib.hid (HBx.out w11 o11)
            clear r11 e11 o11 HOp HAg
            go_wp2
            go_ret
            exact ⟨rfl, HF.out⟩
          · have hk0i : (0 : Int) < (kk : Int) := by omega
            have j1 : ¬ (kk : Int) < (kk : Int) := by omega
            have hla' := hla.out (by omega)
            subst hla'
            have HTk := take_ack hT.one (f := ackF 2 1 kk) (ackF_len _ _ _) (by simp [maxLen]) (ack_frame (p := 2) (q := 1) (n := kk) (by omega) (by omega) (by omega) (by omega) (by omega)).2.2
            rw [ack_sA (by omega) hkj] at HTk
            have HTk := Lib.hid HTk
            have HTo := Lib.hid hT
            have HBo := Lib.hid hB
            clear hT hB hrow hla hk0 hk H2 hin
            go_wp2_with fail
            refine HTk.out.mono ?_
            rintro e w7 ⟨v7, rfl, _, e7, o7⟩
            have HT7 := Lib.hid (HTo.out.left e7 o7)
            have HB7 : Hid (Below w.heap.size w w7) := Only.below HBo.out o7 HBo.out.size (fun q hq => HAb.out q (.inl hq))
            clear e7 o7 HTk HTo HBo
            have HSt1 := state_calls HT7.out.one
            unfold StateOut at HSt1
            rw [show (sC j kk).sent = j from rfl, show (sC j kk).taken = 0 from rfl] at HSt1
            have HSt1 := Lib.hid HSt1
            go_wp2_with fail
            refine HSt1.out.mono ?_
            rintro e w8 ⟨rfl, q8, rfl⟩
            have HT8 : Hid (Two7 (w7.drewN q8) x y _ _ (sC j kk) (sB kk)) := ⟨HT7.out.one.drewN q8, HT7.out.two.drewN q8, HT7.out.g, HT7.out.c, HT7.out.b⟩
            have HSt2 := state_calls HT8.out.two
            unfold StateOut at HSt2
            rw [show (sB kk).sent = 0 from rfl, show (sB kk).taken = kk from rfl] at HSt2
            have HSt2 := Lib.hid HSt2
            clear HSt1
            go_wp2_with fail
            refine HSt2.out.mono ?_
            rintro e w9 ⟨rfl, q9, rfl⟩
            have HE9 := Lib.hid (HT7.out.one.drewN (q8 + q9))
            have HOp := open_calls HE9.out
            have HAg := again_calls HE9.out
            have hd : (sC j kk).opens.length = j - kk := by show ((framesR j).drop kk).length = _; rw [List.length_drop, framesR_len]
            unfold AgainOut at HAg
            rw [hd] at HOp HAg
            obtain ⟨d, hdd⟩ : ∃ d, j - kk = d := ⟨_, rfl⟩
            rw [hdd] at HOp HAg
            have hdi : ((d : Int) == (j : Int) - (kk : Int)) = true := by rw [beq_iff_eq]; omega
            have HBx : Hid (∀ V', Only x.In (w7.drewN (q8 + q9)) V' → Below w.heap.size w V') := fun V' o => Only.below (L5.below_drewN HB7.out (q8 + q9)) o HB7.out.size (fun q hq => HAb.out q (.inl hq))
            have HOp := Lib.hid HOp
            have HAg := Lib.hid HAg
            have hjj : (kk : Int) ≤ (j : Int) := by omega
            clear hd hdd HSt2 HT8
            go_wp2_with fail
            refine HOp.out.mono ?_
            rintro e w10 ⟨rfl, rfl⟩
            go_wp2_with fail
            refine HAg.out.mono ?_
            rintro e w11 ⟨v, rfl, r11, e11, o11⟩
            obtain ⟨A11, c11, rfl⟩ := L5.own_slice r11
            have HF := Lib.hid (HBx.out w11 o11)
            clear r11 e11 o11 HOp HAg
            go_wp2
            go_ret
            exact ⟨rfl, HF.out⟩
end Go.Proofs.Ythhiapdmibiolaa.L7
end
