/- Contracts of (*link.End).takeData and Take. Contract of (*link.End).Send. Small frames: they are made, and read back. What layer 7's statements share: pick, body, same, shown; two ends side by side. The chapter's example. LinkRoom: no more are open than there is room for; what comes to be known is not open any more. Rows in layer 7's statements: rows of ints that came in, appends of whole rows, one element cut out of a row. -/
import Derived.Test.YtiodphkmllcjdaaGreatLkC
import Derived.Test.YtiodphkmllcjdaaGreatLkForMe
import Derived.Test.YtiodphkmllcjdaaGreatPartsFnsB
import Derived.Test.YtiodphkmllcjdaaGreatMsgG
import Derived.Test.YtiodphkmllcjdaaGreatLkA
import Derived.Test.YtiodphkmllcjdaaGreatTop
import Derived.Test.YtiodphkmllcjdaaGreatMkG
import Derived.Test.YtiodphkmllcjdaaGreatWord
import Derived.Deep.RegionLaw
import Derived.Laws.AppendOwn
import Derived.Maps.AppendAt
import Derived.ChangeSlices
section
namespace Go.Proofs.YtiodphkmllcjdaaGreat.L7
open Go.ChangeShapes Go.WideShapes Go.ChangeAt Go.RowKit L6

theorem rowA_nil (w : World) : RowA w (.slice none 0 0) [] := ⟨⟨none, 0, rfl, fun j x hx => by simp at hx⟩, by simp, by simp⟩
theorem row_nil (w : World) (B : Nat) : w.ownsRow B 46 1 (.slice none 0 0) 0 (strs []) := ⟨rfl, .inl ⟨rfl, rfl⟩⟩
/-- What an end took: the bodies, the reply, the error. -/
def TookOut (w : World) (x : Blk) (n : Nat) (o : (List Bytes × Bytes × Nat) × St) (e : Ending) (w' : World) : Prop :=
  ∃ v, e = .returned (.tuple #[v, .string ⟨o.1.2.1.toArray⟩, .int .i64 o.1.2.2]) ∧ w'.ownsRow w.heap.size 46 1 v o.1.1.length (strs o.1.1) ∧ EndAt w' x (n + 1) o.2 ∧ Only x.In w w'
theorem row_down {W : World} {B B' : Nat} {e : TypeId} {size n : Nat} {v : Value} {xs : List Value} (h : W.ownsRow B e size v n xs) (hB : B' ≤ B) : W.ownsRow B' e size v n xs := by
  refine ⟨h.1, ?_⟩
  rcases h.2 with hn | ⟨g, cap, cur, rfl, h1, h2⟩
  · exact .inl hn
  · exact .inr ⟨g, cap, cur, rfl, Nat.le_trans hB h1, h2⟩
theorem waitL_two (s : St) (num : Nat) (b : Bytes) : (waitL s num b).1 = 0 ∨ ((waitL s num b).1 = 5 ∨ (waitL s num b).1 = 7) ∧ (waitL s num b).2 = s := by
  unfold waitL
  split
  · exact .inr ⟨.inr rfl, rfl⟩
  · split
    · exact .inr ⟨.inl rfl, rfl⟩
    · split
      · exact .inr ⟨.inr rfl, rfl⟩
      · exact .inl rfl

set_option maxRecDepth 100000 in
set_option maxHeartbeats 2000000 in
theorem data_calls {w : World} {x : Blk} {n : Nat} {s : St} (h : EndAt w x n s) (num : Nat) (hn : num ≤ 2147483647) (b : Bytes) (hb : b.length ≤ 20000) (hnn : n < maxLen) :
    Calls Tryz.prog 36 #[.pointer (some ⟨x.g, 0, none⟩), .int .i64 num, .string ⟨b.toArray⟩] w (TookOut w x n (dataL s num b)) := by
  have HW := Lib.hid (wait_calls h num hn b hnn)
  have hok := dataL_ok h.ok hn hb
  unfold dataL at hok ⊢
  rcases waitL_two s num b with h0 | ⟨h57, hs⟩
  · rw [if_pos h0] at hok ⊢
    have HD : Hid (∀ V, EndRaw V x (n + 1) (waitL s num b).2 → Calls Tryz.prog 62 #[.pointer (some ⟨x.g, 0, none⟩)] V (DrainOut V x (n + 1) (waitL s num b).2)) := fun V hV => by
      obtain ⟨k1, k2, k3, k4⟩ := waitL_ok h0
      refine drain_calls hV (by rw [k4]; exact h.ok.taken) ?_
      rw [k4]
      intro y z hy
      have hy' : putW s.wait num b y = some z := hy
      unfold putW at hy'
      split at hy'
      · rename_i e
        cases hy'
        subst e
        exact ⟨k1, k2, hn, hb⟩
      · have := h.ok.waits y z hy'
        exact ⟨by show s.taken < y; omega, by show y ≤ s.taken + 32; omega, by omega, this.2.2.2⟩
    unfold WaitOut at HW
    rw [h0] at HW
    have HOk := Lib.hid hok
    generalize (waitL s num b).2 = s1 at *
    unfold DrainOut at HD
    generalize drainL s1 = d at *
    have HFr : Hid (∀ V, EndAt V x (n + 1) d.2 → Calls Tryz.prog 40 #[.pointer (some ⟨x.g, 0, none⟩), .int .i64 2, .int .i64 d.2.taken, .slice none 0 0] V (Pair2 V (frameL d.2.me d.2.peer 2 d.2.taken []))) := fun V hV => frame_calls hV 2 d.2.taken _ [] (rowA_nil V) (fun _ _ e => by cases e; rfl)
    have HFin : Hid (∀ v V W, V.ownsRow w.heap.size 46 1 v d.1.length (strs d.1) → EndAt V x (n + 1) d.2 → Only x.In w V → Below V.heap.size V W → TookOut w x n ((d.1, replyL d.2, 0), d.2) (.returned (.tuple #[v, .string ⟨(frameL d.2.me d.2.peer 2 d.2.taken []).1.toArray⟩, .int .i64 0])) W) := fun v V W k1 k2 k3 k4 =>
      ⟨v, rfl, L5.own_below k1 k4, k2.below k4, k3.trans (Only.of_below k4)⟩
    generalize frameL d.2.me d.2.peer 2 d.2.taken [] = fr at *
    clear h h0 hok
    go_enter Tryz.func36, Tryz.ntmps36
    go_wp2_with fail
    refine HW.out.mono ?_
    rintro e w1 ⟨rfl, e1, o1⟩
    have HD := Lib.hid (HD.out w1 e1)
    have HO1 := Lib.hid o1
    clear e1 o1 HW
    go_wp2_with fail
    refine HD.out.mono ?_
    rintro e w2 ⟨v, rfl, r2, e2, o2⟩
    have hE2 := e2.with HOk.out
    have HFr := Lib.hid (HFr.out w2 hE2)
    have m4 := hE2.cells.2.2.2.2.1
    have HF2 := Lib.hid (fun W k => HFin.out v w2 W (row_down r2 HO1.out.size) hE2 (HO1.out.trans o2) k)
    clear r2 e2 o2 hE2 HD HFin
    go_wp2_with fail
    refine HFr.out.mono ?_
    rintro e w3 ⟨rfl, b3⟩
    have HF3 := Lib.hid (HF2.out w3 b3)
    clear b3 HF2
    go_wp2
    go_ret3
    exact HF3.out
  · have hne : (waitL s num b).1 ≠ 0 := by rcases h57 with h | h <;> omega
    rw [if_neg hne] at hok ⊢
    unfold WaitOut at HW
    rw [hs] at HW
    have hne2 : ((((waitL s num b).1 : Nat) : Int) == 0) = false := by rw [beq_eq_false_iff_ne]; omega
    have HFr : Hid (∀ V, EndAt V x (n + 1) s → Calls Tryz.prog 40 #[.pointer (some ⟨x.g, 0, none⟩), .int .i64 2, .int .i64 s.taken, .slice none 0 0] V (Pair2 V (frameL s.me s.peer 2 s.taken []))) := fun V hV => frame_calls hV 2 s.taken _ [] (rowA_nil V) (fun _ _ e => by cases e; rfl)
    have HFin : Hid (∀ V W, EndAt V x (n + 1) s → Only x.In w V → Below V.heap.size V W → TookOut w x n (([], replyL s, (waitL s num b).1), s) (.returned (.tuple #[.slice none 0 0, .string ⟨(frameL s.me s.peer 2 s.taken []).1.toArray⟩, .int .i64 (waitL s num b).1])) W) := fun V W k2 k3 k4 =>
      ⟨_, rfl, row_nil _ _, k2.below k4, k3.trans (Only.of_below k4)⟩
    have HOk := Lib.hid hok
    generalize frameL s.me s.peer 2 s.taken [] = fr at *
    generalize (waitL s num b).1 = er at *
    clear h hs h57 hok hne
    go_enter Tryz.func36, Tryz.ntmps36
    go_wp2_with fail
    refine HW.out.mono ?_
    rintro e w1 ⟨rfl, e1, o1⟩
    have hE1 := e1.with HOk.out
    have HFr := Lib.hid (HFr.out w1 hE1)
    have m4 := hE1.cells.2.2.2.2.1
    have HF2 := Lib.hid (fun W k => HFin.out w1 W hE1 o1 k)
    clear e1 o1 hE1 HW HFin
    go_wp2_with fail
    refine HFr.out.mono ?_
    rintro e w3 ⟨rfl, b3⟩
    have HF3 := Lib.hid (HF2.out w3 b3)
    clear b3 HF2
    go_wp2
    go_ret3
    exact HF3.out

def TakeOut (w : World) (x : Blk) (n : Nat) (s : St) (f : Bytes) (e : Ending) (w' : World) : Prop := ∃ r, ReadsAs s.me s.peer f r ∧ TookOut w x n (takeL s r) e w'
theorem reads_of {me peer : Nat} {f t : Bytes} {er : Nat} (hr : Tm.checkT f peer = (t, er)) (r : Rd) :
    (er ≠ 0 ∧ r = .bad er) ∨ (er = 0 ∧ (∀ m, Says t m → forMe me m = false) ∧ r = .bad 2) ∨ (er = 0 ∧ ∃ m, Says t m ∧ forMe me m = true ∧ r = rdOf m) → ReadsAs me peer f r := by
  unfold ReadsAs
  rw [hr]
  exact id
theorem EndAt.no_string {W : World} {x : Blk} {n : Nat} {s : St} (h : EndAt W x n s) {ad : Addr} {v : ByteArray} (hc : W.cell? ad = some (.string v)) : ¬ x.In ad.block := by
  have e0 := h.own
  obtain ⟨_, _, e1⟩ := h.queue.chan
  obtain ⟨_, _, e2⟩ := h.map.block
  simp only [World.cell?] at hc
  rintro (e | e | e)
  · rw [e, e0] at hc
    dsimp only at hc
    split at hc
    · simp at hc
    · unfold endCells at hc
      generalize ad.off = o at hc
      match o, hc with
      | 0, hc => simp at hc
      | 1, hc => simp at hc
      | 2, hc => simp at hc
      | 3, hc => simp at hc
      | 4, hc => simp at hc
      | 5, hc => simp at hc
      | o + 6, hc => simp at hc
  · rw [e, e1] at hc; simp at hc
  · rw [e, e2] at hc; simp at hc
theorem rdOf_ack {m : Msg} (h : m.kind = 2) : rdOf m = .ack m.num.toNat := by unfold rdOf; rw [if_pos h]
theorem rdOf_data {m : Msg} (h : ¬ m.kind = 2) : rdOf m = .data m.num.toNat (m.terms.getD 0 []) := by unfold rdOf; rw [if_neg h]
theorem forMe_kinds {me : Nat} {m : Msg} (h : forMe me m = true) : (m.kind = 2 ∧ m.terms.length = 0) ∨ (m.kind = 1 ∧ m.terms.length = 1) := by
  unfold forMe at h
  simp only [Bool.and_eq_true, Bool.or_eq_true, decide_eq_true_eq] at h
  rcases h.2 with ⟨a1, a2, _⟩ | ⟨a1, a2⟩
  · exact .inr ⟨a1, a2⟩
  · exact .inl ⟨a1, a2⟩
theorem Only.of_later {F : Nat → Prop} {w V W : World} (h : Below w.heap.size w V) (k : Only F V W) : Only F w W := (Only.of_below h).trans k
theorem tookOut_ack {w V : World} {x : Blk} {n num : Nat} {s : St} {e : Ending} {V' : World} (hb : Below w.heap.size w V) (h : AckOut V x n s num e V') : e = .returned (.int .i64 (ackL s num).1) ∧ TookOut w x n (takeL s (.ack num)) (.returned (.tuple #[.slice none 0 0, .string ⟨#[]⟩, .int .i64 (ackL s num).1])) V' := by
  obtain ⟨rfl, k1, k2⟩ := h
  exact ⟨rfl, _, rfl, row_nil _ _, k1.mono (by omega), Only.of_later hb k2⟩
theorem tookOut_data {w V : World} {x : Blk} {n num : Nat} {s : St} {y : Bytes} {e : Ending} {V' : World} (hb : Below w.heap.size w V) (h : TookOut V x n (dataL s num y) e V') : TookOut w x n (takeL s (.data num y)) e V' := by
  obtain ⟨v, rfl, k1, k2, k3⟩ := h
  exact ⟨v, rfl, row_down k1 hb.size, k2, Only.of_later hb k3⟩
theorem tookOut_bad {w V : World} {x : Blk} {n er : Nat} {s : St} (h : EndAt w x n s) (hb : Below w.heap.size w V) : TookOut w x n (takeL s (.bad er)) (.returned (.tuple #[.slice none 0 0, .string ⟨#[]⟩, .int .i64 er])) V :=
  ⟨_, rfl, row_nil _ _, (h.below hb).mono (by omega), Only.of_below hb⟩

set_option maxRecDepth 100000 in
set_option maxHeartbeats 4000000 in
theorem take_calls {w : World} {x : Blk} {n : Nat} {s : St} (h : EndAt w x n s) (f : Bytes) (hf : f.length ≤ maxLen) (hnn : n < maxLen) :
    Calls Tryz.prog 15 #[.pointer (some ⟨x.g, 0, none⟩), .string ⟨f.toArray⟩] w (TakeOut w x n s f) := by
  obtain ⟨h0, h1, h2, h3, h4, h5⟩ := h.cells
  have HC := Check_calls ⟨f.toArray⟩ s.peer (by rw [size_list]; exact hf) w
  have e0 : (⟨f.toArray⟩ : ByteArray).data.toList = f := by simp
  rw [e0] at HC
  have hlen : (Tm.checkT f s.peer).1.length ≤ 20000 ∨ (Tm.checkT f s.peer).2 ≠ 0 := by
    unfold Tm.checkT
    split
    · exact .inr (by simp)
    · rename_i hk
      split
      · exact .inr (by simp)
      · split
        · exact .inr (by simp)
        · have hk' : Tm.kindOf f = 120 := by simpa using hk
          obtain ⟨k1, k2⟩ := Tm.kind_right hk' (by decide)
          obtain ⟨a, b, hab⟩ := Tm.sign_parts k1 k2
          have := (Tm.ofL_ok k1).2.1 b (by rw [hab]; simp)
          have hfl := Tm.depthOf_short (z := f) (by have := (Tm.right_iff _).1 k1; omega)
          left
          rw [hab]
          show b.length ≤ 20000
          have := this.2.2
          omega
  obtain ⟨⟨t, er⟩, hr⟩ : ∃ r, Tm.checkT f s.peer = r := ⟨_, rfl⟩
  have HRd := Lib.hid (fun r => reads_of (me := s.me) hr r)
  rw [hr] at HC hlen
  have HC := Lib.hid HC
  have HH := Lib.hid h
  by_cases her : er = 0
  case neg =>
    have hne : ((er : Int) != 0) = true := by simp; omega
    have HF : Hid (∀ V, Below w.heap.size w V → TakeOut w x n s f (.returned (.tuple #[.slice none 0 0, .string ⟨#[]⟩, .int .i64 er])) V) := fun V hV =>
      ⟨.bad er, HRd.out _ (.inl ⟨her, rfl⟩), tookOut_bad h hV⟩
    clear h hr e0 hlen her HRd
    go_enter Tryz.func15, Tryz.ntmps15
    go_wp2_with fail
    refine HC.out.mono ?_
    rintro e w1 ⟨rfl, b1⟩
    have HF1 := Lib.hid (HF.out _ b1)
    clear b1
    go_wp2
    go_ret3
    exact HF1.out
  subst her
  have ht : t.length ≤ 20000 := by
    rcases hlen with h | h
    · exact h
    · exact absurd rfl h
  have HU := Lib.hid (fun V => unpack_calls ⟨t.toArray⟩ (by rw [size_list]; unfold maxLen; omega) V)
  have e1 : (⟨t.toArray⟩ : ByteArray).data.toList = t := by simp
  rw [e1] at HU
  have HR2 : Hid ((∀ m, Says t m → forMe s.me m = false) → ReadsAs s.me s.peer f (.bad 2)) := fun k => HRd.out _ (.inr (.inl ⟨rfl, k, rfl⟩))
  have HR3 : Hid (∀ m, Says t m → forMe s.me m = true → ReadsAs s.me s.peer f (rdOf m)) := fun m k1 k2 => HRd.out _ (.inr (.inr ⟨rfl, m, k1, k2, rfl⟩))
  clear hr e0 hlen ht e1 HRd
  have HLt := Lib.hid h.lt
  go_enter Tryz.func15, Tryz.ntmps15
  go_wp2_with fail
  refine HC.out.mono ?_
  rintro e w1 ⟨rfl, b1⟩
  have HB1 := Lib.hid b1
  have HU := Lib.hid (HU.out w1)
  clear b1 h HC
  go_wp2_with fail
  refine HU.out.mono ?_
  rintro e w2 (⟨m, vm, vt, hsay, rfl, hm, hnil, b2⟩ | ⟨rfl, hno, b2⟩)
  · have hB2 := HB1.out.trans (b2.mono HB1.out.size)
    have HFM := Lib.hid (fun V (hV : Below w2.heap.size w2 V) => forMe_calls (HH.out.below (hB2.trans (hV.mono hB2.size))) m vm vt (hm.below hV))
    obtain ⟨mA, mn, mc, rfl⟩ : ∃ A k c, vm = .slice A k c := ⟨_, _, _, hm.mem.reads.choose_spec.choose_spec.1⟩
    obtain ⟨tA, tc, rfl, htA⟩ := hm.terms.reads
    have hbx := L4.boxed_new w2 m (.slice mA mn mc) (.slice tA m.terms.length tc) 87
    have hMA := hm
    unfold msgCells at hbx HFM ⊢
    obtain ⟨V, hV⟩ : ∃ V, w2.alloc (.cells #[.int .i64 m.kind, .int .i64 m.e1, .int .i64 m.c1, .int .i64 m.e2, .int .i64 m.c2, .int .i64 m.num, .slice mA mn mc, .slice tA m.terms.length tc] 87) = V := ⟨_, rfl⟩
    have hB2V : Below w2.heap.size w2 V := by rw [← hV]; exact (Below.refl _ w2).alloc (Nat.le_refl _) _
    have hsV : V.heap.size = w2.heap.size + 1 := by rw [← hV]; simp
    rw [hV] at hbx
    have HFM := Lib.hid (HFM.out V hB2V)
    have HBx := Lib.hid hbx
    obtain ⟨y0, y1, y2, y3, y4, y5, y6, y7⟩ := hbx
    have HBV := Lib.hid (hB2.trans (hB2V.mono hB2.size))
    have HSz := Lib.hid (And.intro hB2V hsV)
    have HSay := Lib.hid hsay
    have HBz := Lib.hid hB2.size
    cases hfm : forMe s.me m with
    | false =>
      rw [hfm] at HFM
      have HF : Hid (∀ V', Below V.heap.size V V' → TakeOut w x n s f (.returned (.tuple #[.slice none 0 0, .string ⟨#[]⟩, .int .i64 2])) V') := fun V' hV' =>
        ⟨.bad 2, HR2.out (fun m' hm' => by rw [says_one hm' HSay.out]; exact hfm), tookOut_bad HH.out (HBV.out.trans (hV'.mono HBV.out.size))⟩
      clear hB2 hB2V hsV hm hnil b2 hsay hMA HU htA hfm
      go_wp2_with fail
      refine HFM.out.mono ?_
      rintro e w3 ⟨rfl, b3⟩
      have HF1 := Lib.hid (HF.out _ b3)
      clear b3 HF
      go_wp2
      go_ret3
      exact HF1.out
    | true =>
      rw [hfm] at HFM
      have HFm := Lib.hid hfm
      clear hB2 hB2V hsV hnil b2 hsay HU hfm
      go_wp2_with fail
      refine HFM.out.mono ?_
      rintro e w3 ⟨rfl, b3⟩
      obtain ⟨q0, q1, q2, q3, q4, q5, q6, q7⟩ := L4.Boxed.below HBx.out b3 (by have := HSz.out.2; omega)
      have HB3 := Lib.hid (HBV.out.trans (b3.mono HBV.out.size))
      obtain ⟨num, hnum⟩ : ∃ num : Nat, m.num = num := ⟨m.num.toNat, by
        obtain ⟨zs, _, _, ho⟩ := HSay.out
        have := (Msg.ok_all ho).1 m.num (List.mem_append.2 (.inl (by simp [Msg.head])))
        omega⟩
      have hnum2 : m.num.toNat = num := by omega
      have hnumb : num ≤ 2147483647 := by
        obtain ⟨zs, _, _, ho⟩ := HSay.out
        have := (Msg.ok_all ho).1 m.num (List.mem_append.2 (.inl (by simp [Msg.head])))
        omega
      rw [hnum] at q5
      rcases forMe_kinds HFm.out with ⟨k2, _⟩ | ⟨k1, k1l⟩
      · have HRr := HR3.out m HSay.out HFm.out
        rw [rdOf_ack k2, hnum2] at HRr
        have HRr := Lib.hid HRr
        have HA := Lib.hid (ack_calls (HH.out.below HB3.out) num hnumb)
        rw [k2] at q0
        clear hm hMA htA b3 y0 y1 y2 y3 y4 y5 y6 y7 HFM hV hnum hnum2 k2 hnumb
        go_wp2_with fail
        refine HA.out.mono ?_
        rintro e w4 hack
        obtain ⟨rfl, hto⟩ := tookOut_ack HB3.out hack
        have HF1 : Hid (TakeOut w x n s f _ w4) := ⟨_, HRr.out, hto⟩
        clear hack hto
        go_wp2
        go_ret3
        exact HF1.out
      · have HRr := HR3.out m HSay.out HFm.out
        rw [rdOf_data (by omega), hnum2] at HRr
        obtain ⟨y, hy⟩ := List.length_eq_one_iff.1 k1l
        rw [hy] at HRr htA
        obtain ⟨ad, rfl, hadb, _, hadc⟩ := htA 0 y rfl
        have hyl : y.length ≤ 20000 := by
          obtain ⟨zs, _, _, ho⟩ := HSay.out
          have k4 := (Msg.ok_all ho).2.2.2
          rw [hy] at k4
          exact Tm.depthOf_short (Tm.wrongIn_cons k4).1
        have HRr : Hid (ReadsAs s.me s.peer f (.data num y)) := HRr
        have HA := Lib.hid (fun V' (hV' : Below w.heap.size w V') => data_calls (HH.out.below hV') num hnumb y hyl hnn)
        rw [k1] at q0
        rw [k1l] at q7
        have c1 : w3.cell? (ad.add 0) = some (.string ⟨y.toArray⟩) := ((HSz.out.1.trans (b3.mono HSz.out.1.size)).cell (p := ad.add 0) (by rw [addr_block]; exact hadb)).trans hadc
        have c2 : w3.cell? ad = some (.string ⟨y.toArray⟩) := by rw [← add_none ad]; exact c1
        have hH3 := HH.out.below HB3.out
        have hnoad := hH3.no_string c2
        have hadz : ad.block < w3.heap.size := by have := HSz.out.2; have := b3.size; omega
        have hbz : w.heap.size ≤ w2.heap.size := HBz.out
        have hmz : w2.heap.size < w3.heap.size := by have := HSz.out.2; have := b3.size; omega
        have hnom : ¬ x.In w2.heap.size := by
          have := HLt.out
          rintro (e | e | e) <;> omega
        have HKeep : Hid (∀ V', Only x.In w3.drew V' → V'.cell? ⟨w2.heap.size, 5, none⟩ = some (.int .i64 num) ∧ V'.cell? ⟨w2.heap.size, 7, none⟩ = some (.slice (some ad) 1 tc) ∧ V'.cell? (ad.add 0) = some (.string ⟨y.toArray⟩) ∧ V'.cell? ad = some (.string ⟨y.toArray⟩)) := fun V' hV' => by
          have m := hV'.block w2.heap.size hmz hnom
          have m2 := hV'.block ad.block hadz hnoad
          have mm : ∀ p : Addr, p.block = w2.heap.size → V'.cell? p = w3.cell? p := fun p hp => World.cell?_of_block (w := w3) (by rw [hp]; exact m)
          have mm2 : ∀ p : Addr, p.block = ad.block → V'.cell? p = w3.cell? p := fun p hp => World.cell?_of_block (w := w3) (by rw [hp]; exact m2)
          exact ⟨(mm _ rfl).trans q5, (mm _ rfl).trans q7, (mm2 _ (addr_block _ _)).trans c1, (mm2 _ rfl).trans c2⟩
        have HA := Lib.hid (HA.out w3.drew HB3.out.drew)
        have HB3d := Lib.hid HB3.out.drew
        clear hm hMA htA b3 y0 y1 y2 y3 y4 y5 y6 y7 HFM hV hnum hnum2 k1 hnumb hadb hadc hyl hH3 hnoad hadz hbz hmz hnom hy k1l
        go_wp2
        refine wp_region_held_drew (S := (fun w' => w'.cell? ⟨w2.heap.size, 5, none⟩ = some (.int .i64 num) ∧ w'.cell? ⟨w2.heap.size, 7, none⟩ = some (.slice (some ad) 1 tc) ∧ w'.cell? (ad.add 0) = some (.string ⟨y.toArray⟩) ∧ w'.cell? ad = some (.string ⟨y.toArray⟩))) (by kernel_rfl) ?_ (fun hHeld => ?_)
        · exact ⟨q5, q7, c1, c2⟩
        refine wpAnyH_take (i := 0) (v := ?_) rfl (by kernel_rfl) (by kernel_rfl) (by kernel_rfl) (fun _ _ _ h => h) (Or.inl ⟨by rfl, ?_⟩) (by assumption) ?_
        rotate_left 1
        · (intro w hSw; (try dsimp only at hSw); go_simp; try with_reducible rfl)
        try simp only [List.getElem_toArray, List.getElem_cons_zero, Act.put, List.setIfInBounds_toArray, List.set_cons_zero, List.set_cons_succ]
        refine wpAnyH_take (i := 1) (v := ?_) rfl (by kernel_rfl) (by kernel_rfl) (by kernel_rfl) (fun _ _ _ h => h) (Or.inl ⟨by rfl, ?_⟩) (by assumption) ?_
        rotate_left 1
        · (intro w hSw; (try dsimp only at hSw); go_simp; try with_reducible rfl)
        try simp only [List.getElem_toArray, List.getElem_cons_zero, List.getElem_cons_succ, Act.put, List.setIfInBounds_toArray, List.set_cons_zero, List.set_cons_succ]
        refine wpAnyH_take (i := 2) (v := ?_) rfl (by kernel_rfl) (by kernel_rfl) (by kernel_rfl) (fun _ _ _ h => h) (Or.inl ⟨by rfl, ?_⟩) (by assumption) ?_
        rotate_left 1
        · (intro w hSw; (try dsimp only at hSw); go_simp; try with_reducible rfl)
        try simp only [List.getElem_toArray, List.getElem_cons_zero, List.getElem_cons_succ, Act.put, List.setIfInBounds_toArray, List.set_cons_zero, List.set_cons_succ]
        refine wpAnyH_take (i := 3) (v := ?_) rfl (by kernel_rfl) (by kernel_rfl) (by kernel_rfl) (fun _ _ _ h => h) (Or.inl ⟨by rfl, ?_⟩) (by assumption) ?_
        rotate_left 1
        · (intro w hSw; (try dsimp only at hSw); go_simp; try with_reducible rfl)
        try simp only [List.getElem_toArray, List.getElem_cons_zero, List.getElem_cons_succ, Act.put, List.setIfInBounds_toArray, List.set_cons_zero, List.set_cons_succ]
        refine wpAnyH_take (i := 4) (v := ?_) rfl (by kernel_rfl) (by kernel_rfl) (by kernel_rfl) (fun _ _ _ h => h) (Or.inl ⟨by rfl, ?_⟩) (by assumption) ?_
        rotate_left 1
        · (intro w hSw; (try dsimp only at hSw); go_simp; try with_reducible rfl)
        try simp only [List.getElem_toArray, List.getElem_cons_zero, List.getElem_cons_succ, Act.put, List.setIfInBounds_toArray, List.set_cons_zero, List.set_cons_succ]
        refine wpAnyH_take (i := 5) (v := ?_) rfl (by kernel_rfl) (by kernel_rfl) (by kernel_rfl) (fun _ _ _ h => h) (Or.inl ⟨by rfl, ?_⟩) (by assumption) ?_
        rotate_left 1
        · (intro w hSw; (try dsimp only at hSw); go_simp; try with_reducible rfl)
        try simp only [List.getElem_toArray, List.getElem_cons_zero, List.getElem_cons_succ, Act.put, List.setIfInBounds_toArray, List.set_cons_zero, List.set_cons_succ]
        refine wpAnyH_take (i := 6) (v := ?_) rfl (by kernel_rfl) (by kernel_rfl) (by kernel_rfl) (fun _ _ _ h => h) (Or.inl ⟨by rfl, ?_⟩) (by assumption) ?_
        rotate_left 1
        · (intro w hSw; (try dsimp only at hSw); go_simp; try with_reducible rfl)
        try simp only [List.getElem_toArray, List.getElem_cons_zero, List.getElem_cons_succ, Act.put, List.setIfInBounds_toArray, List.set_cons_zero, List.set_cons_succ]
        refine wpAnyH_ready (rs := [7]) (by kernel_rfl) (by simp) ?_
        refine AllReadyH.cons rfl (fun K hK => ?_) AllReadyH.nil
        try simp only [List.getElem_toArray, List.getElem_cons_zero, List.getElem_cons_succ]
        (go_simp; go_at_call 36; refine HA.out.mono ?_; rintro e w4 hout; obtain ⟨v, rfl, r4, e4, o4⟩ := hout; have HT := Lib.hid (tookOut_data HB3d.out ⟨v, rfl, r4, e4, o4⟩); have HK4 := Lib.hid (HKeep.out _ o4); clear r4 e4 o4)
        refine hK.out _ _ ?_ (fun hHeld => ?_)
        · exact HK4.out
        clear hK K
        try simp only [List.getElem_toArray, List.getElem_cons_zero, List.getElem_cons_succ, Act.put, List.setIfInBounds_toArray, List.set_cons_zero, List.set_cons_succ]
        refine wpAnyH_take (i := 8) (v := ?_) rfl (by kernel_rfl) (by kernel_rfl) (by kernel_rfl) (fun _ _ _ h => h) (Or.inl ⟨by rfl, ?_⟩) (by assumption) ?_
        rotate_left 1
        · (intro w hSw; (try dsimp only at hSw); go_simp; try with_reducible rfl)
        try simp only [List.getElem_toArray, List.getElem_cons_zero, List.getElem_cons_succ, Act.put, List.setIfInBounds_toArray, List.set_cons_zero, List.set_cons_succ]
        refine wpAnyH_take (i := 9) (v := ?_) rfl (by kernel_rfl) (by kernel_rfl) (by kernel_rfl) (fun _ _ _ h => h) (Or.inl ⟨by rfl, ?_⟩) (by assumption) ?_
        rotate_left 1
        · (intro w hSw; (try dsimp only at hSw); go_simp; try with_reducible rfl)
        try simp only [List.getElem_toArray, List.getElem_cons_zero, List.getElem_cons_succ, Act.put, List.setIfInBounds_toArray, List.set_cons_zero, List.set_cons_succ]
        refine wpAnyH_take (i := 10) (v := ?_) rfl (by kernel_rfl) (by kernel_rfl) (by kernel_rfl) (fun _ _ _ h => h) (Or.inl ⟨by rfl, ?_⟩) (by assumption) ?_
        rotate_left 1
        · (intro w hSw; (try dsimp only at hSw); go_simp; try with_reducible rfl)
        try simp only [List.getElem_toArray, List.getElem_cons_zero, List.getElem_cons_succ, Act.put, List.setIfInBounds_toArray, List.set_cons_zero, List.set_cons_succ]
        refine wpAnyH_take (i := 11) (v := ?_) rfl (by kernel_rfl) (by kernel_rfl) (by kernel_rfl) (fun _ _ _ h => h) (Or.inl ⟨by rfl, ?_⟩) (by assumption) ?_
        rotate_left 1
        · (intro w hSw; (try dsimp only at hSw); go_simp; try with_reducible rfl)
        try simp only [List.getElem_toArray, List.getElem_cons_zero, List.getElem_cons_succ, Act.put, List.setIfInBounds_toArray, List.set_cons_zero, List.set_cons_succ]
        refine wpAnyH_take (i := 12) (v := ?_) rfl (by kernel_rfl) (by kernel_rfl) (by kernel_rfl) (fun _ _ _ h => h) (Or.inl ⟨by rfl, ?_⟩) (by assumption) ?_
        rotate_left 1
        · (intro w hSw; (try dsimp only at hSw); go_simp; try with_reducible rfl)
        try simp only [List.getElem_toArray, List.getElem_cons_zero, List.getElem_cons_succ, Act.put, List.setIfInBounds_toArray, List.set_cons_zero, List.set_cons_succ]
        refine wpAnyH_take (i := 13) (v := ?_) rfl (by kernel_rfl) (by kernel_rfl) (by kernel_rfl) (fun _ _ _ h => h) (Or.inl ⟨by rfl, ?_⟩) (by assumption) ?_
        rotate_left 1
        · (intro w hSw; (try dsimp only at hSw); go_simp; try with_reducible rfl)
        try simp only [List.getElem_toArray, List.getElem_cons_zero, List.getElem_cons_succ, Act.put, List.setIfInBounds_toArray, List.set_cons_zero, List.set_cons_succ]
        refine wpAnyH_done (by kernel_rfl) ?_ _
        have HF1 : Hid (TakeOut w x n s f _ w4) := ⟨_, HRr.out, HT.out⟩
        clear HT HKeep HK4 q0 q1 q2 q3 q4 q5 q6 q7 c1 c2
        go_wp2
        go_ret3
        exact HF1.out
  · have hB2 := HB1.out.trans (b2.mono HB1.out.size)
    have HF : Hid (∀ V, Below w.heap.size w V → TakeOut w x n s f (.returned (.tuple #[.slice none 0 0, .string ⟨#[]⟩, .int .i64 2])) V) := fun V hV =>
      ⟨.bad 2, HR2.out (fun m' hm' => absurd ⟨m', hm'⟩ hno), tookOut_bad HH.out hV⟩
    have HF1 := Lib.hid (HF.out (w2.alloc (.cells #[.int .i64 0, .int .i64 0, .int .i64 0, .int .i64 0, .int .i64 0, .int .i64 0, .slice none 0 0, .slice none 0 0] 87)) (hB2.alloc hB2.size _))
    unfold zeroMsg
    clear b2 hno HU HF hB2
    go_wp2
    go_ret3
    exact HF1.out
end Go.Proofs.YtiodphkmllcjdaaGreat.L7
end

section
namespace Go.Proofs.YtiodphkmllcjdaaGreat.L7
open Go.ChangeShapes Go.WideShapes Go.ChangeAt Go.RowKit L6

def SendOut (w : World) (x : Blk) (n : Nat) (s : St) (body : Bytes) (e : Ending) (w' : World) : Prop :=
  e = .returned (.tuple #[.string ⟨(sendL s body).1.1.toArray⟩, .int .i64 (sendL s body).1.2]) ∧ EndAt w' x n (sendL s body).2 ∧ Only x.In w w'
theorem rowA_one {W : World} {b : Nat} {y : Bytes} {t : TypeId} (h : W.heap[b]? = some (.cells #[.string ⟨y.toArray⟩] t (0, 0))) (hy : y.length ≤ maxLen) : RowA W (.slice (some ⟨b, 0, none⟩) 1 1) [y] := by
  refine ⟨⟨_, _, rfl, fun j x hx => ?_⟩, ?_, by simp [maxLen]⟩
  · refine ⟨⟨b, 0, none⟩, rfl, (Array.getElem?_eq_some_iff.1 h).1, fun h => h, ?_⟩
    match j, hx with
    | 0, hx =>
      simp at hx
      subst hx
      have e : (⟨b, 0, none⟩ : Addr).add 0 = ⟨b, 0, none⟩ := rfl
      rw [e]
      simp only [World.cell?]
      rw [h]
      rfl
    | j + 1, hx => simp at hx
  · intro z hz
    simp only [List.mem_cons, List.not_mem_nil, or_false] at hz
    subst hz
    exact hy
theorem blk_set2 {W : World} {b : Nat} {t : TypeId} {o0 o1 o2 o3 o4 o5 : Value} (h : W.heap[b]? = some (.cells #[o0, o1, o2, o3, o4, o5] t (0, 0))) (v : Value) : (W.setCell ⟨b, 2, none⟩ v).heap[b]? = some (.cells #[o0, o1, v, o3, o4, o5] t (0, 0)) := by
  obtain ⟨hlt, hk⟩ := Array.getElem?_eq_some_iff.1 h
  show (W.heap.modify b _)[b]? = _
  rw [Array.getElem?_eq_getElem (by rw [Array.size_modify]; exact hlt), Array.getElem_modify_self, hk]
  rfl

set_option maxRecDepth 100000 in
set_option maxHeartbeats 2000000 in
theorem send_calls {w : World} {x : Blk} {n : Nat} {s : St} (h : EndAt w x n s) (body : Bytes) (hb : body.length ≤ maxLen) :
    Calls Tryz.prog 17 #[.pointer (some ⟨x.g, 0, none⟩), .string ⟨body.toArray⟩] w (SendOut w x n s body) := by
  have HR := Right_calls ⟨body.toArray⟩ (by rw [size_list]; exact hb) w
  have e0 : (⟨body.toArray⟩ : ByteArray).data.toList = body := by simp
  rw [e0] at HR
  have HR := Lib.hid HR
  have HOk := sendL_ok h.ok body
  unfold SendOut
  unfold sendL at HOk ⊢
  clear e0
  cases hr : Tm.right body with
  | false =>
    rw [hr] at HR
    rw [if_pos rfl]
    have HF : Hid (∀ V, Below w.heap.size w V → EndAt V x n s ∧ Only x.In w V) := fun V hV => ⟨h.below hV, Only.of_below hV⟩
    clear h hb HOk hr
    go_enter Tryz.func17, Tryz.ntmps17
    go_wp2_with fail
    refine HR.out.mono ?_
    rintro e w1 ⟨rfl, b1⟩
    have HF := Lib.hid (HF.out w1 b1)
    clear b1
    go_wp2
    go_ret2
    exact ⟨rfl, HF.out⟩
  | true =>
    rw [hr] at HR
    rw [hr, if_neg (by simp)] at HOk
    rw [if_neg (by simp)]
    have HL : Hid (∀ V, EndAt V x n s → Calls Tryz.prog 26 #[.pointer (some ⟨x.q, 0, none⟩)] V fun e w' => e = .returned (.int .i64 s.opens.length) ∧ V = w') := fun V hV => by
      have := Len_calls hV.queue
      rw [ba_length] at this
      exact this
    by_cases h64 : s.opens.length = 64
    · rw [if_pos h64]
      rw [h64] at HL
      have HH := Lib.hid h
      clear h hb HOk hr h64
      go_enter Tryz.func17, Tryz.ntmps17
      go_wp2_with fail
      refine HR.out.mono ?_
      rintro e w1 ⟨rfl, b1⟩
      have hE := HH.out.below b1
      obtain ⟨_, _, _, m3, _, _⟩ := hE.cells
      have HL := Lib.hid (HL.out w1 hE)
      have HF : Hid (EndAt w1 x n s ∧ Only x.In w w1) := ⟨hE, Only.of_below b1⟩
      clear b1 hE
      go_wp2_with fail
      refine HL.out.mono ?_
      rintro e w2 ⟨rfl, rfl⟩
      go_wp2
      go_ret2
      exact ⟨rfl, HF.out⟩
    · rw [if_neg h64]
      rw [if_neg h64] at HOk
      have h64i : ((s.opens.length : Int) == 64) = false := by rw [beq_eq_false_iff_ne]; omega
      have hop := h.ok.opened
      have hls := h.ok.sent
      have HFr : Hid (∀ V, EndAt V x n s → Calls Tryz.prog 40 #[.pointer (some ⟨x.g, 0, none⟩), .int .i64 1, .int .i64 ((s.sent : Int) + 1), .slice (some ⟨V.heap.size, 0, none⟩) 1 1] (V.alloc (.cells #[.string ⟨body.toArray⟩] 46)) (Pair2 (V.alloc (.cells #[.string ⟨body.toArray⟩] 46)) (frameL s.me s.peer 1 (s.sent + 1) [body]))) := fun V hV =>
        frame_calls (hV.below ((Below.refl _ V).alloc (Nat.le_refl _) _)) 1 (s.sent + 1) _ [body] (rowA_one (World.alloc_heap_new V _) hb) (fun n c e => by cases e)
      have hfl := Lib.hid (frame_len s.me s.peer 1 (s.sent + 1) [body])
      have HH := Lib.hid h
      generalize frameL s.me s.peer 1 (s.sent + 1) [body] = fr at *
      by_cases hf0 : fr.2 = 0
      · rw [if_pos hf0]
        rw [if_pos hf0] at HOk
        have HOk := Lib.hid HOk
        have HPu : Hid (∀ V, EndAt V x n s → Calls Tryz.prog 41 #[.pointer (some ⟨x.q, 0, none⟩), .string ⟨fr.1.toArray⟩] V (Turned V x.q x.c 64 (ba s.opens ++ [⟨fr.1.toArray⟩]) (.int .i64 0))) := fun V hV =>
          Push_room hV.queue (by rw [ba_length]; have := hV.ok.room; omega) _
        have HFin : Hid (∀ V V', Below w.heap.size w V → EndAt V x n s → QAt V' x.q x.c 64 (ba s.opens ++ [⟨fr.1.toArray⟩]) → V.grownBy V' (some x.c) → V'.cell? ⟨x.g, 2, none⟩ = some (.int .i64 s.sent) ∧ V'.frozen? ⟨x.g, 2, none⟩ = false ∧
            EndAt (V'.setCell ⟨x.g, 2, none⟩ (.int .i64 ((s.sent : Int) + 1))) x n { s with sent := s.sent + 1, opens := s.opens ++ [fr.1] } ∧ Only x.In w (V'.setCell ⟨x.g, 2, none⟩ (.int .i64 ((s.sent : Int) + 1)))) := fun V V' hB hV q g => by
          have ha := hV.apart
          have hl := hV.lt
          have ho := (g.block _ hl.1 (fun e => ha.2.1 (Option.some.inj e))).trans hV.own
          have hm := hV.map.same (g.block _ hl.2.2.2 (fun e => ha.2.2.2.2.2 (Option.some.inj e).symm))
          unfold endCells at ho
          refine ⟨by simp only [World.cell?]; rw [ho]; rfl, by simp only [World.frozen?]; rw [ho]; simp, ⟨blk_set2 ho _, ?_, hm.same (Below.heap_setCell _ _ _ _ (fun e => ha.2.2.1 e.symm)), HOk.out⟩, ?_⟩
          · have q' : QAt V' x.q x.c 64 (ba (s.opens ++ [fr.1])) := by rw [ba_append]; exact q
            exact q'.same (Below.heap_setCell _ _ _ _ (fun e => ha.1 e.symm)) (Below.heap_setCell _ _ _ _ (fun e => ha.2.1 e.symm))
          · exact ((Only.of_below hB).trans (Only.of_grown g (.inr (.inl rfl)))).setCell (.inl (.inl rfl)) _
        dsimp only
        unfold Pair2 at HFr
        rw [hf0] at HFr ⊢
        clear h hb hr h64 hop hf0
        go_enter Tryz.func17, Tryz.ntmps17
        go_wp2_with fail
        refine HR.out.mono ?_
        rintro e w1 ⟨rfl, b1⟩
        have HE := Lib.hid (HH.out.below b1)
        have HB1 := Lib.hid b1
        obtain ⟨_, _, m2, m3, _, _⟩ := HE.out.cells
        have HL := Lib.hid (HL.out w1 HE.out)
        have HFr := Lib.hid (HFr.out w1 HE.out)
        clear b1
        go_wp2_with fail
        refine HL.out.mono ?_
        rintro e w2 ⟨rfl, rfl⟩
        go_wp2_with fail
        refine HFr.out.mono ?_
        rintro e w2 ⟨rfl, b2⟩
        have b2' : Below w1.heap.size w1 w2 := ((Below.refl _ w1).alloc (Nat.le_refl _) _).trans (b2.mono (by simp))
        have HE2 := Lib.hid (HE.out.below b2')
        have HB2 := Lib.hid (HB1.out.trans (b2'.mono HB1.out.size))
        obtain ⟨_, _, p2, p3, _, _⟩ := HE2.out.cells
        have HPu := Lib.hid (HPu.out w2 HE2.out)
        clear b2 b2' HFr HL m2 m3
        go_wp2_with fail
        refine HPu.out.mono ?_
        rintro e w3 ⟨rfl, q3, g3⟩
        obtain ⟨k1, k2, k3, k4⟩ := HFin.out w2 w3 HB2.out HE2.out q3 g3
        have HF : Hid (EndAt (w3.setCell ⟨x.g, 2, none⟩ (.int .i64 ((s.sent : Int) + 1))) x n { s with sent := s.sent + 1, opens := s.opens ++ [fr.1] } ∧ Only x.In w (w3.setCell ⟨x.g, 2, none⟩ (.int .i64 ((s.sent : Int) + 1)))) := ⟨k3, k4⟩
        clear q3 g3 k3 k4 HFin HPu
        go_wp2
        go_ret2
        exact ⟨rfl, HF.out⟩
      · rw [if_neg hf0]
        have hf0i : ((fr.2 : Int) == 0) = false := by rw [beq_eq_false_iff_ne]; omega
        clear h hb hr h64 hop HOk hf0
        go_enter Tryz.func17, Tryz.ntmps17
        go_wp2_with fail
        refine HR.out.mono ?_
        rintro e w1 ⟨rfl, b1⟩
        have HE := Lib.hid (HH.out.below b1)
        have HB1 := Lib.hid b1
        obtain ⟨_, _, m2, m3, _, _⟩ := HE.out.cells
        have HL := Lib.hid (HL.out w1 HE.out)
        have HFr := Lib.hid (HFr.out w1 HE.out)
        clear b1
        go_wp2_with fail
        refine HL.out.mono ?_
        rintro e w2 ⟨rfl, rfl⟩
        go_wp2_with fail
        refine HFr.out.mono ?_
        rintro e w2 ⟨rfl, b2⟩
        have b2' : Below w1.heap.size w1 w2 := ((Below.refl _ w1).alloc (Nat.le_refl _) _).trans (b2.mono (by simp))
        have HF : Hid (EndAt w2 x n s ∧ Only x.In w w2) := ⟨HE.out.below b2', Only.of_below (HB1.out.trans (b2'.mono HB1.out.size))⟩
        clear b2 b2' HFr HL m2 m3
        go_wp2
        go_ret2
        exact ⟨rfl, HF.out⟩
end Go.Proofs.YtiodphkmllcjdaaGreat.L7
end

section
namespace Go.Proofs.YtiodphkmllcjdaaGreat.L7
open Go.ChangeShapes Go.WideShapes Go.ChangeAt Go.RowKit

theorem good_right {k m : Nat} {l : Bytes} (h : Tm.Good k m l) : Tm.right l = true := (Tm.right_iff l).2 h.1
theorem good_kind {k m : Nat} {l : Bytes} (h : Tm.Good k m l) : Tm.kindOf l = l.getD 0 0 := by unfold Tm.kindOf; rw [if_pos (good_right h)]
theorem good_priv {p : Nat} (h1 : 1 ≤ p) (h8 : p ≤ 8) : Tm.Good 41 600 (privL p) := (Tm.good_private p h1 h8).mono (k' := 41) (m' := 600) (by omega) (by omega)
theorem sign_good {a b : Bytes} (ha : Tm.Good 41 600 a) (hb : Tm.Good 41 600 b) : Tm.put [120] [a, b] = (120 :: (a ++ b), 0) ∧ Tm.Good 42 20000 (120 :: (a ++ b)) := by
  have h := Tm.put_fine (hd := [120]) (ps := [a, b]) (by simp) (by simp) (by intro p hp; simp at hp; rcases hp with rfl | rfl <;> assumption)
  have h2 : Tm.put [120] [a, b] = (120 :: (a ++ b), 0) := by simpa using h
  exact ⟨h2, (Tm.good_sign (k := 41) h2 ha.2.1 hb.2.1).2.2⟩
theorem priv_inj {p q : Nat} (hp8 : p ≤ 8) (hq8 : q ≤ 8) (h : privL p = privL q) : p = q := by
  unfold privL at h
  simp only [List.cons.injEq, and_true, true_and] at h
  have h2 := congrArg UInt8.toNat h
  rw [UInt8.toNat_ofNat', UInt8.toNat_ofNat'] at h2
  omega
theorem check_yes {p : Nat} (hp : 1 ≤ p) (hp8 : p ≤ 8) {a : Bytes} (ha : Tm.Good 41 600 a) : Tm.checkT (120 :: (privL p ++ a)) (p : Int) = (a, 0) := by
  have hg := good_priv hp hp8
  have h := (sign_good hg ha).2
  unfold Tm.checkT
  rw [good_kind h, Tm.ofL_sign hg.1 ha.1, if_neg (by simp), if_neg (by omega)]
  simp [privL]
theorem check_no {p q : Nat} (hp : 1 ≤ p) (hp8 : p ≤ 8) (hq : 1 ≤ q) (hq8 : q ≤ 8) {a : Bytes} (ha : Tm.Good 41 600 a) (hpq : p ≠ q) : Tm.checkT (120 :: (privL p ++ a)) (q : Int) = ([], 6) := by
  have hg := good_priv hp hp8
  have h := (sign_good hg ha).2
  unfold Tm.checkT
  rw [good_kind h, Tm.ofL_sign hg.1 ha.1, if_neg (by simp), if_neg (by omega), if_pos]
  intro h2
  exact hpq (priv_inj hp8 hq8 h2)
/-- A small body. -/
def SmallB (b : Bytes) : Prop := Tm.depthOf b = 1 ∧ b.length ≤ 20
theorem deepR_flat : ∀ zs : List Bytes, (∀ z ∈ zs, Tm.depthOf z = 1) → Tm.deepR zs ≤ 1 + zs.length
  | [], _ => by rw [Tm.deepR_nil]; simp
  | z :: zs, h => by
    have h1 := h z (by simp)
    have h2 := deepR_flat zs (fun x hx => h x (by simp [hx]))
    rw [Tm.deepR_cons zs (by rw [h1]; decide), h1]
    simp only [List.length_cons]
    omega
theorem rowL_flat : ∀ zs : List Bytes, (∀ z ∈ zs, z.length ≤ 20) → (Tm.rowL zs).length ≤ 9 + 21 * zs.length
  | [], _ => by rw [Tm.rowL_len_nil]; simp
  | z :: zs, h => by
    have h1 := h z (by simp)
    have h2 := rowL_flat zs (fun x hx => h x (by simp [hx]))
    rw [Tm.rowL_cons]
    simp only [List.length_cons, List.length_append]
    omega
theorem wrongIn_flat (zs : List Bytes) (h : ∀ z ∈ zs, Tm.depthOf z = 1) : Tm.wrongIn zs = false := by
  unfold Tm.wrongIn
  rw [List.any_eq_false]
  intro z hz
  rw [h z hz]
  decide
theorem measure_flat (zs : List Bytes) (h : ∀ z ∈ zs, SmallB z) (hl : zs.length ≤ 20) : (Tm.measureL zs).2 = 0 := by
  have k1 := deepR_flat zs (fun z hz => (h z hz).1)
  have k2 := rowL_flat zs (fun z hz => (h z hz).2)
  have k3 := wrongIn_flat zs (fun z hz => (h z hz).1)
  unfold Tm.measureL
  rw [if_neg (by rw [k3]; simp; omega), if_neg (by omega), if_neg (by omega)]
structure Small (q kind n : Nat) (ts : List Bytes) : Prop where
  q1 : 1 ≤ q
  q8 : q ≤ 8
  kind : kind ≤ 20
  num : n ≤ 2147483647
  terms : ∀ z ∈ ts, SmallB z
  few : ts.length ≤ 5
theorem Small.ok {q kind n : Nat} {ts : List Bytes} (h : Small q kind n ts) : (fmsg q kind n ts).ok = true := by
  have h1 := h.q1
  have h2 := h.q8
  have h3 := h.kind
  have h4 := h.num
  unfold Msg.ok Msg.okHead idB fmsg riseB riseB
  simp only [Bool.and_eq_true, decide_eq_true_eq, withinB_iff, and_true]
  have := measure_flat ts h.terms (by have := h.few; omega)
  refine ⟨⟨⟨⟨⟨?_, ?_⟩, ⟨?_, ?_⟩, ?_, ?_⟩, ?_, ?_⟩, ?_⟩, ?_⟩
  all_goals first | omega | exact this | skip
  all_goals first | exact ⟨by omega, by omega⟩ | exact decide_eq_true this | skip
/-- What a small message is packed as. -/
theorem Small.pack {q kind n : Nat} {ts : List Bytes} (h : Small q kind n ts) : ∃ t, (fmsg q kind n ts).pack = (t, 0) ∧ Tm.Good 41 600 t := by
  have hr : ∀ z ∈ (fmsg q kind n ts).row, SmallB z := by
    intro z hz
    unfold Msg.row at hz
    rcases List.mem_append.1 hz with hz | hz
    · obtain ⟨k, _, rfl⟩ := List.mem_map.1 hz
      exact ⟨Tm.numL_depth k, by rw [numL_len]; omega⟩
    · exact h.terms z hz
  have hl : (fmsg q kind n ts).row.length ≤ 15 := by
    have := h.few
    unfold Msg.row Msg.nums Msg.head fmsg
    simp
    omega
  have k1 := deepR_flat _ (fun z hz => (hr z hz).1)
  have k2 := rowL_flat _ (fun z hz => (hr z hz).2)
  have k3 := wrongIn_flat _ (fun z hz => (hr z hz).1)
  have hp := Tm.putRow_mk (zs := (fmsg q kind n ts).row) (by omega) k3 (by omega) (by omega)
  have hright := Tm.row_right _ k3 (by omega) (by omega)
  have hd := Tm.row_deep _ k3 hright
  refine ⟨_, by unfold Msg.pack; rw [if_pos h.ok]; exact hp, ?_, ?_, ?_⟩
  · exact (Tm.right_iff _).1 hright
  · rw [hd]; omega
  · omega
theorem forMe_fmsg {q kind n : Nat} {ts : List Bytes} (h : (kind = 1 ∧ ts.length = 1 ∧ 1 ≤ n) ∨ (kind = 2 ∧ ts.length = 0)) : forMe q (fmsg q kind n ts) = true := by
  unfold forMe fmsg
  simp only [decide_true, Bool.true_and, Bool.or_eq_true, decide_eq_true_eq, and_self]
  rcases h with ⟨rfl, h2, h3⟩ | ⟨rfl, h2⟩
  · exact .inl ⟨rfl, h2, by omega⟩
  · exact .inr ⟨rfl, h2⟩
/-- A small frame, whole. -/
theorem small_frame {p q kind n : Nat} {ts : List Bytes} (hp : 1 ≤ p) (hp8 : p ≤ 8) (h : Small q kind n ts) :
    ∃ t, (fmsg q kind n ts).pack = (t, 0) ∧ Tm.Good 41 600 t ∧ frameL p q kind n ts = (120 :: (privL p ++ t), 0) := by
  obtain ⟨t, h1, h2⟩ := h.pack
  refine ⟨t, h1, h2, ?_⟩
  unfold frameL signL
  rw [h1, if_pos rfl]
  exact (sign_good (good_priv hp hp8) h2).1
theorem small_reads {p q kind n : Nat} {ts : List Bytes} (hp : 1 ≤ p) (hp8 : p ≤ 8) (h : Small q kind n ts) (hk : (kind = 1 ∧ ts.length = 1 ∧ 1 ≤ n) ∨ (kind = 2 ∧ ts.length = 0)) :
    ReadsAs q p (frameL p q kind n ts).1 (rdOf (fmsg q kind n ts)) := by
  obtain ⟨t, h1, h2, h3⟩ := small_frame hp hp8 h
  rw [h3]
  refine .inr (.inr ?_)
  show (Tm.checkT (120 :: (privL p ++ t)) (p : Int)).2 = 0 ∧ ∃ m, Says (Tm.checkT (120 :: (privL p ++ t)) (p : Int)).1 m ∧ _
  rw [check_yes hp hp8 h2]
  exact ⟨rfl, _, Msg.pack_says h1, forMe_fmsg hk, rfl⟩
/-- The frame of a body, of an ack. -/
def dataF (p q n : Nat) (b : Bytes) : Bytes := (frameL p q 1 n [b]).1
def ackF (p q n : Nat) : Bytes := (frameL p q 2 n []).1
theorem data_small {q n : Nat} {b : Bytes} (hq : 1 ≤ q) (hq8 : q ≤ 8) (hn : n ≤ 2147483647) (hb : SmallB b) : Small q 1 n [b] :=
  ⟨hq, hq8, by omega, hn, by intro z hz; simp at hz; subst hz; exact hb, by simp⟩
theorem ack_small {q n : Nat} (hq : 1 ≤ q) (hq8 : q ≤ 8) (hn : n ≤ 2147483647) : Small q 2 n [] := ⟨hq, hq8, by omega, hn, by intro z hz; simp at hz, by simp⟩
theorem data_frame {p q n : Nat} {b : Bytes} (hp : 1 ≤ p) (hp8 : p ≤ 8) (hq : 1 ≤ q) (hq8 : q ≤ 8) (hn1 : 1 ≤ n) (hn : n ≤ 2147483647) (hb : SmallB b) :
    frameL p q 1 n [b] = (dataF p q n b, 0) ∧ dataF p q n b ≠ [] ∧ ReadsAs q p (dataF p q n b) (.data n b) := by
  obtain ⟨t, h1, h2, h3⟩ := small_frame hp hp8 (data_small hq hq8 hn hb)
  refine ⟨by unfold dataF; rw [h3], by unfold dataF; rw [h3]; simp, ?_⟩
  have := small_reads hp hp8 (data_small hq hq8 hn hb) (.inl ⟨rfl, rfl, hn1⟩)
  simp [rdOf, fmsg] at this
  exact this
theorem ack_frame {p q n : Nat} (hp : 1 ≤ p) (hp8 : p ≤ 8) (hq : 1 ≤ q) (hq8 : q ≤ 8) (hn : n ≤ 2147483647) :
    frameL p q 2 n [] = (ackF p q n, 0) ∧ ackF p q n ≠ [] ∧ ReadsAs q p (ackF p q n) (.ack n) := by
  obtain ⟨t, h1, h2, h3⟩ := small_frame hp hp8 (ack_small hq hq8 hn)
  refine ⟨by unfold ackF; rw [h3], by unfold ackF; rw [h3]; simp, ?_⟩
  have := small_reads hp hp8 (ack_small hq hq8 hn) (.inr ⟨rfl, rfl⟩)
  simp [rdOf, fmsg] at this
  exact this
theorem small_num (n : Int) : SmallB (Tm.numL n) := ⟨Tm.numL_depth n, by rw [numL_len]; omega⟩
theorem small_gen : SmallB [103] := ⟨Tm.gen_depth, by simp⟩
theorem small_right {b : Bytes} (h : SmallB b) : Tm.right b = true := (Tm.right_iff _).2 (by rw [h.1]; decide)

/-- Send at a small body. -/
theorem sendL_small {s : St} (h : s.Ok) {b : Bytes} (hb : SmallB b) (hs : s.sent < 2147483647) (hr : s.opens.length < 64) :
    sendL s b = ((dataF s.me s.peer (s.sent + 1) b, 0), { s with sent := s.sent + 1, opens := s.opens ++ [dataF s.me s.peer (s.sent + 1) b] }) := by
  have hf := (data_frame h.me1 h.me8 h.peer1 h.peer8 (n := s.sent + 1) (by omega) (by omega) hb).1
  unfold sendL
  rw [small_right hb, if_neg (by simp), if_neg (by omega), hf, if_pos rfl]
theorem sendL_full {s : St} {b : Bytes} (hb : SmallB b) (hr : s.opens.length = 64) : sendL s b = (([], 5), s) := by
  unfold sendL
  rw [small_right hb, if_neg (by simp), if_pos hr]
theorem dataL_reply {s : St} {n : Nat} {b : Bytes} : (dataL s n b).1.2.1 = ackF s.me s.peer (dataL s n b).2.taken ∧ (dataL s n b).2.me = s.me ∧ (dataL s n b).2.peer = s.peer ∧ (dataL s n b).2.sent = s.sent ∧ (dataL s n b).2.opens = s.opens := by
  unfold dataL
  split
  · rename_i c
    obtain ⟨_, _, _, k4⟩ := waitL_ok c
    rw [k4]
    exact ⟨rfl, rfl, rfl, rfl, rfl⟩
  · exact ⟨rfl, rfl, rfl, rfl, rfl⟩
end Go.Proofs.YtiodphkmllcjdaaGreat.L7
end

section
namespace Go.Proofs.YtiodphkmllcjdaaGreat.L7
open Go.ChangeShapes Go.WideShapes Go.ChangeAt Go.RowKit L6

def isInt (a : Int) : Prop := -9223372036854775808 ≤ a ∧ a ≤ 9223372036854775807
def pickN (c : Int) (n : Nat) : Nat := (if c < 0 then -(c + 1) else c).toNat % n
theorem pickN_lt (c : Int) {n : Nat} (hn : 0 < n) : pickN c n < n := Nat.mod_lt _ hn
set_option maxHeartbeats 400000 in
theorem pick_calls (c : Int) (n : Nat) (h1 : -9223372036854775808 ≤ c) (h2 : c ≤ 9223372036854775807) (hn : 0 < n) (hn2 : n ≤ 1000) (w : World) :
    Calls Tryz.prog 10 #[.int .i64 c, .int .i64 n] w fun e w' => ∃ m : Nat, m < n ∧ m = (if c < 0 then -(c + 1) else c).toNat % n ∧ e = .returned (.int .i64 m) ∧ w = w' := by
  have hz : ((n : Int) == 0) = false := by simp; omega
  have hz2 : ¬ (n : Int) = 0 := by omega
  by_cases hc : c < 0
  · obtain ⟨m, hm⟩ : ∃ m : Nat, -(c + 1) = m := ⟨(-(c + 1)).toNat, by omega⟩
    rw [if_pos hc, hm]
    have k1 : (0 : Int) ≤ (m : Int) := by omega
    have k2 : (m : Int) ≤ 9223372036854775807 := by omega
    have hcc : c = -(m : Int) - 1 := by omega
    have HN := Lib.hid (Nat.mod_lt m hn)
    clear hm
    subst hcc
    go_enter Tryz.func10, Tryz.ntmps10
    go_wp2
    all_goals first | omega | (go_ret; exact ⟨m % n, HN.out, rfl, by simp, rfl⟩)
  · obtain ⟨m, rfl⟩ : ∃ m : Nat, c = m := ⟨c.toNat, by omega⟩
    rw [if_neg hc]
    have HN := Lib.hid (Nat.mod_lt m hn)
    go_enter Tryz.func10, Tryz.ntmps10
    go_wp2
    all_goals first | omega | (go_ret; exact ⟨m % n, HN.out, rfl, by simp, rfl⟩)
theorem pick_is {c : Int} {n : Nat} (hc : isInt c) (hn : 0 < n) (hn2 : n ≤ 1000) (w : World) : Calls Tryz.prog 10 #[.int .i64 c, .int .i64 n] w fun e w' => e = .returned (.int .i64 (pickN c n)) ∧ w = w' := by
  refine (pick_calls c n hc.1 hc.2 hn hn2 w).mono ?_
  rintro e w' ⟨m, _, hm, he, hw⟩
  exact ⟨by rw [he, hm]; rfl, hw⟩
def bodyL (c : Int) : Bytes := Tm.numL (pickN c 1000 : Nat)
theorem small_body (c : Int) : SmallB (bodyL c) := small_num _
set_option maxHeartbeats 400000 in
theorem body_calls {c : Int} (hc : isInt c) (w : World) : Calls Tryz.prog 11 #[.int .i64 c] w (One w (.string ⟨(bodyL c).toArray⟩)) := by
  have HP := Lib.hid (pick_is hc (n := 1000) (by omega) (by omega) w)
  have hlt := pickN_lt c (n := 1000) (by omega)
  have HN := Number_calls (pickN c 1000) (by omega) w
  have e : (⟨(117 :: Tm.be8 (pickN c 1000)).toArray⟩ : ByteArray) = ⟨(bodyL c).toArray⟩ := rfl
  rw [e] at HN
  have HN := Lib.hid HN
  clear e
  generalize bodyL c = r at *
  generalize pickN c 1000 = m at *
  go_enter Tryz.func11, Tryz.ntmps11
  go_wp2_with fail
  refine HP.out.mono ?_
  rintro e w1 ⟨rfl, rfl⟩
  go_wp2_with fail
  refine HN.out.mono ?_
  rintro e w1 ⟨rfl, b1⟩
  go_wp2
  go_ret
  exact ⟨rfl, b1⟩

def SameGo (w : World) (n k : Nat) (v5 : Value) (wr : World) : Prop := ∃ i : Nat, k + i = n ∧ v5 = .int .i64 i ∧ ∃ m, wr = w.drewN m
set_option maxRecDepth 100000 in
set_option maxHeartbeats 1000000 in
theorem same_calls (zs : List ByteArray) (va vb : Value) (w : World) (ha : SRow w va zs) (hb : SRow w vb zs) (hl : zs.length ≤ 100000) : Calls Tryz.prog 18 #[va, vb] w fun e w' => e = .returned (.bool true) ∧ ∃ m, w' = w.drewN m := by
  obtain ⟨A, c, rfl, hka⟩ := ha
  obtain ⟨B, d, rfl, hkb⟩ := hb
  have HA := Lib.hid hka
  have HB := Lib.hid hkb
  clear hka hkb
  go_enter Tryz.func18, Tryz.ntmps18
  go_wp2
  go_loopg [5] zs.length (fun k v5 wr => SameGo w zs.length k v5 wr)
  case atStart => exact ⟨0, rfl, rfl, 0, rfl⟩
  case round =>
    obtain ⟨i, hk, rfl, m, rfl⟩ := hrel
    by_cases hlt : i < zs.length
    · obtain ⟨x, hx⟩ : ∃ x, zs[i]? = some x := ⟨_, List.getElem?_eq_getElem hlt⟩
      obtain ⟨ad, rfl, _, c1⟩ := HA.out i x hx
      obtain ⟨bd, rfl, _, c2⟩ := HB.out i x hx
      have j1 : (i : Int) < (zs.length : Int) := by omega
      have j2 : (0 : Int) ≤ (i : Int) := by omega
      clear hx
      go_wp2
      go_quiet (fail)
      go_wp2
      go_roundg (gk - 1)
      case measure => omega
      case rel => exact ⟨i + 1, by omega, rfl, _, rfl⟩
    · have j1 : ¬ ((i : Int) < (zs.length : Int)) := by omega
      go_wp2
      go_ret
      exact ⟨rfl, _, rfl⟩

/-- Two ends side by side. -/
structure Two7 (W : World) (x y : Blk) (n m : Nat) (s t : St) : Prop where
  one : EndAt W x n s
  two : EndAt W y m t
  g : x.g ≠ y.g
  c : x.c ≠ y.c
  b : x.b ≠ y.b
def In2 (x y : Blk) (k : Nat) : Prop := x.In k ∨ y.In k
theorem Two7.left {W W' : World} {x y : Blk} {n m n' : Nat} {s t s' : St} (h : Two7 W x y n m s t) (k : EndAt W' x n' s') (ho : Only x.In W W') : Two7 W' x y n' m s' t :=
  ⟨k, h.two.other h.one h.c.symm h.g.symm h.b.symm ho, h.g, h.c, h.b⟩
theorem Two7.right {W W' : World} {x y : Blk} {n m m' : Nat} {s t t' : St} (h : Two7 W x y n m s t) (k : EndAt W' y m' t') (ho : Only y.In W W') : Two7 W' x y n m' s t' :=
  ⟨h.one.other h.two h.c h.g h.b ho, k, h.g, h.c, h.b⟩
theorem Two7.below {W W' : World} {x y : Blk} {n m : Nat} {s t : St} (h : Two7 W x y n m s t) (hb : Below W.heap.size W W') : Two7 W' x y n m s t := ⟨h.one.below hb, h.two.below hb, h.g, h.c, h.b⟩
theorem Two7.lt {W : World} {x y : Blk} {n m : Nat} {s t : St} (h : Two7 W x y n m s t) {k : Nat} (hk : In2 x y k) : k < W.heap.size := by
  have h1 := h.one.lt
  have h2 := h.two.lt
  rcases hk with (e | e | e) | (e | e | e) <;> omega
theorem two_new {W V : World} {x y : Blk} {s t : St} (h : EndAt W x 0 s) (hv : Below W.heap.size W V) (k : EndAt V y 0 t) (ha : y.Above W.heap.size) : Two7 V x y 0 0 s t := by
  have hl := h.lt
  simp only [Blk.Above] at ha
  exact ⟨h.below hv, k, by omega, by omega, by omega⟩

/-- The next one comes, and none waits. -/
theorem dataL_next {s : St} (hw : s.wait = fun _ => none) (b : Bytes) : dataL s (s.taken + 1) b = (([b], ackF s.me s.peer (s.taken + 1), 0), { s with taken := s.taken + 1 }) := by
  obtain ⟨me, peer, sent, taken, opens, wait⟩ := s
  dsimp only at hw
  subst hw
  have e1 : waitL ⟨me, peer, sent, taken, opens, fun _ => none⟩ (taken + 1) b = (0, ⟨me, peer, sent, taken, opens, putW (fun _ => none) (taken + 1) b⟩) := by
    unfold waitL
    rw [if_neg (by show ¬ taken + 1 ≤ taken; omega), if_neg (by show ¬ taken + 32 < taken + 1; omega), if_neg (by simp)]
  have e2 : drain 33 taken (putW (fun _ => none) (taken + 1) b) = [b] := by
    unfold drain
    have : putW (fun _ => none) (taken + 1) b (taken + 1) = some b := by unfold putW; rw [if_pos rfl]
    rw [this]
    show b :: drain 32 (taken + 1) _ = [b]
    rw [drain_none (by unfold putW; rw [if_neg (by omega)])]
  have e3 : (fun n => if n ≤ taken + 1 then none else putW (fun _ => none) (taken + 1) b n) = fun _ => none := by
    funext n
    unfold putW
    split
    · rfl
    · split
      · omega
      · rfl
  unfold dataL
  rw [e1, if_pos rfl]
  unfold drainL
  dsimp only
  rw [e2]
  show (([b], replyL ⟨me, peer, sent, taken + 1, opens, fun n => if n ≤ taken + 1 then none else putW (fun _ => none) (taken + 1) b n⟩, 0), (⟨me, peer, sent, taken + 1, opens, fun n => if n ≤ taken + 1 then none else putW (fun _ => none) (taken + 1) b n⟩ : St)) = _
  rw [e3]
  rfl

theorem take_data {w : World} {x : Blk} {n : Nat} {s : St} (h : EndAt w x n s) {f : Bytes} (hf : f.length ≤ 20000) (hnn : n < maxLen) {num : Nat} {b : Bytes} (hr : ReadsAs s.me s.peer f (.data num b)) :
    Calls Tryz.prog 15 #[.pointer (some ⟨x.g, 0, none⟩), .string ⟨f.toArray⟩] w (TookOut w x n (dataL s num b)) := by
  refine (take_calls h f (by unfold maxLen; omega) hnn).mono ?_
  rintro e w' ⟨r, h1, h2⟩
  rw [reads_one h1 hr] at h2
  exact h2
def AckedOut (w : World) (x : Blk) (n : Nat) (a : Nat × St) (e : Ending) (w' : World) : Prop := ∃ v, e = .returned (.tuple #[v, .string ⟨#[]⟩, .int .i64 a.1]) ∧ w'.ownsRow w.heap.size 46 1 v 0 [] ∧ EndAt w' x (n + 1) a.2 ∧ Only x.In w w'
theorem take_ack {w : World} {x : Blk} {n : Nat} {s : St} (h : EndAt w x n s) {f : Bytes} (hf : f.length ≤ 20000) (hnn : n < maxLen) {num : Nat} (hr : ReadsAs s.me s.peer f (.ack num)) :
    Calls Tryz.prog 15 #[.pointer (some ⟨x.g, 0, none⟩), .string ⟨f.toArray⟩] w (AckedOut w x n (ackL s num)) := by
  refine (take_calls h f (by unfold maxLen; omega) hnn).mono ?_
  rintro e w' ⟨r, h1, v, h2, k1, k2, k3⟩
  rw [reads_one h1 hr] at h2 k1 k2
  exact ⟨v, h2, k1, k2, k3⟩
end Go.Proofs.YtiodphkmllcjdaaGreat.L7
end

section
namespace Go.Proofs.YtiodphkmllcjdaaGreat.L7
open Go.ChangeShapes Go.WideShapes Go.ChangeAt Go.RowKit L6

theorem srow_one {W : World} {b : Nat} {y : Bytes} {t : TypeId} (h : W.heap[b]? = some (.cells #[.string ⟨y.toArray⟩] t (0, 0))) : SRow W (.slice (some ⟨b, 0, none⟩) 1 1) (ba [y]) := by
  refine ⟨_, _, rfl, fun j x hx => ⟨⟨b, 0, none⟩, rfl, (Array.getElem?_eq_some_iff.1 h).1, ?_⟩⟩
  match j, hx with
  | 0, hx =>
    simp [ba] at hx
    subst hx
    have e : (⟨b, 0, none⟩ : Addr).add 0 = ⟨b, 0, none⟩ := rfl
    rw [e]
    simp only [World.cell?]
    rw [h]
    rfl
  | j + 1, hx => simp [ba] at hx
theorem srow_row {W : World} {B : Nat} {t : TypeId} {v : Value} {zs : List Bytes} (h : W.ownsRow B t 1 v zs.length (strs zs)) : SRow W v (ba zs) := by
  have e : strV (ba zs) = strs zs := by simp [strV, ba, strs]
  refine SRow.of_own (B := B) (e := t) ?_
  rw [ba_length, e]
  exact h
def send1 : St := ⟨1, 2, 1, 0, [dataF 1 2 1 [103]], fun _ => none⟩
theorem send_shown : sendL (newL 1 2) [103] = ((dataF 1 2 1 [103], 0), send1) :=
  sendL_small (newL_ok (by omega) (by omega) (by omega) (by omega)) small_gen (by simp [newL]) (by simp [newL])
theorem data_shown : dataL (newL 2 1) 1 [103] = (([[103]], ackF 2 1 1, 0), { newL 2 1 with taken := 1 }) := dataL_next (s := newL 2 1) rfl [103]
theorem ack_shown : ackL send1 1 = (0, { send1 with opens := [] }) := rfl

set_option maxRecDepth 100000 in
set_option maxHeartbeats 4000000 in
theorem shown_calls (w : World) : Calls Tryz.prog 5 #[] w (One w (.bool true)) := by
  have hf := data_frame (p := 1) (q := 2) (n := 1) (b := [103]) (by omega) (by omega) (by omega) (by omega) (by omega) (by omega) small_gen
  have ha := ack_frame (p := 2) (q := 1) (n := 1) (by omega) (by omega) (by omega) (by omega) (by omega)
  have hfl : (dataF 1 2 1 [103]).length ≤ 20000 := frame_len _ _ _ _ _
  have hal : (ackF 2 1 1).length ≤ 20000 := frame_len _ _ _ _ _
  have HN1 := Lib.hid (new_calls 1 2 (by omega) (by omega) (by omega) (by omega) (by omega) w)
  have HN2 := Lib.hid (fun V => new_calls 2 1 (by omega) (by omega) (by omega) (by omega) (by omega) V)
  have HS : Hid (∀ V x n, EndAt V x n (newL 1 2) → Calls Tryz.prog 17 #[.pointer (some ⟨x.g, 0, none⟩), .string ⟨#[103]⟩] V fun e w' => e = .returned (.tuple #[.string ⟨(dataF 1 2 1 [103]).toArray⟩, .int .i64 0]) ∧ EndAt w' x n send1 ∧ Only x.In V w') := fun V x n h => by
    have := send_calls h [103] (by simp [maxLen])
    unfold SendOut at this
    rw [send_shown] at this
    exact this
  have HT1 : Hid (∀ V y, EndAt V y 0 (newL 2 1) → Calls Tryz.prog 15 #[.pointer (some ⟨y.g, 0, none⟩), .string ⟨(dataF 1 2 1 [103]).toArray⟩] V fun e w' => ∃ v, e = .returned (.tuple #[v, .string ⟨(ackF 2 1 1).toArray⟩, .int .i64 0]) ∧ SRow w' v (ba [[103]]) ∧ EndAt w' y 1 { newL 2 1 with taken := 1 } ∧ Only y.In V w') := fun V y h => by
    refine (take_data h hfl (by simp [maxLen]) hf.2.2).mono ?_
    rintro e w' hout
    rw [data_shown] at hout
    obtain ⟨v, rfl, k1, k2, k3⟩ := hout
    exact ⟨v, rfl, srow_row k1, k2, k3⟩
  have HT2 : Hid (∀ V x, EndAt V x 0 send1 → Calls Tryz.prog 15 #[.pointer (some ⟨x.g, 0, none⟩), .string ⟨(ackF 2 1 1).toArray⟩] V fun e w' => ∃ v, e = .returned (.tuple #[v, .string ⟨#[]⟩, .int .i64 0]) ∧ EndAt w' x 1 { send1 with opens := [] } ∧ Only x.In V w') := fun V x h => by
    refine (take_ack h hal (by simp [maxLen]) ha.2.2).mono ?_
    rintro e w' hout
    rw [ack_shown] at hout
    obtain ⟨v, rfl, _, k2, k3⟩ := hout
    exact ⟨v, rfl, k2, k3⟩
  clear hf ha hfl hal
  generalize dataF 1 2 1 [103] = f at *
  generalize ackF 2 1 1 = r at *
  go_enter Tryz.func5, Tryz.ntmps5
  go_wp2_with fail
  refine HN1.out.mono ?_
  rintro e w1 ⟨x, rfl, x1, b1, a1⟩
  have HN2 := Lib.hid (HN2.out w1)
  have HX1 := Lib.hid x1
  have HB1 := Lib.hid (And.intro b1 a1)
  clear x1 b1 a1 HN1
  go_wp2_with fail
  refine HN2.out.mono ?_
  rintro e w2 ⟨y, rfl, y1, b2, a2⟩
  have HT := Lib.hid (two_new HX1.out b2 y1 a2)
  have HB2 := Lib.hid (And.intro (HB1.out.1.trans (b2.mono HB1.out.1.size)) a2)
  have HS := Lib.hid (HS.out w2 x 0 HT.out.one)
  have HW1 := Lib.hid HB1.out.1.size
  clear y1 b2 a2 HN2
  go_wp2_with fail
  refine HS.out.mono ?_
  rintro e w3 ⟨rfl, e3, o3⟩
  have HT3 := Lib.hid (HT.out.left e3 o3)
  have HT1 := Lib.hid (HT1.out w3 y HT3.out.two)
  have HO3 : Hid (Only (In2 x y) w2 w3) := o3.mono (fun _ _ h => .inl h)
  clear e3 o3 HS HT
  go_wp2_with fail
  refine HT1.out.mono ?_
  rintro e w4 ⟨v, rfl, r4, e4, o4⟩
  have HT4 := Lib.hid (HT3.out.right e4 o4)
  have HT2 := Lib.hid (HT2.out w4 x HT4.out.one)
  have HR4 := Lib.hid r4
  have HO4 : Hid (Only (In2 x y) w2 w4) := HO3.out.trans (o4.mono (fun _ _ h => .inr h))
  clear e4 o4 r4 HT1 HT3 HO3
  go_wp2_with fail
  refine HT2.out.mono ?_
  rintro e w5 ⟨v', rfl, e5, o5⟩
  have HE5 := Lib.hid (And.intro e5 HB2.out)
  have hr5 : SRow w5 v (ba [[103]]) := by
    obtain ⟨A, c, rfl, k⟩ := HR4.out
    refine ⟨A, c, rfl, fun j z hj => ?_⟩
    obtain ⟨ad, e1, e2, e3⟩ := k j z hj
    exact ⟨ad, e1, Nat.lt_of_lt_of_le e2 o5.size, (World.cell?_of_block (w := w4) (by rw [L6.addr_block]; exact o5.block _ e2 (by have := HT4.out.one.no_string e3; rwa [L6.addr_block] at this))).trans e3⟩
  have HR5 := Lib.hid (fun V (hV : Below w5.heap.size w5 V) => hr5.below hV)
  have b5 : Below w5.heap.size w5 (w5.alloc (.cells #[.string ⟨#[103]⟩] 9)) := (Below.refl _ w5).alloc (Nat.le_refl _) _
  have HSm := Lib.hid (same_calls (ba [[103]]) v (.slice (some ⟨w5.heap.size, 0, none⟩) 1 1) (w5.alloc (.cells #[.string ⟨#[103]⟩] 9)) (hr5.below b5) (srow_one (World.alloc_heap_new w5 _)) (by simp [ba]))
  have HOp : Hid (∀ m, Calls Tryz.prog 9 #[.pointer (some ⟨x.g, 0, none⟩)] ((w5.alloc (.cells #[.string ⟨#[103]⟩] 9)).drewN m) fun e w' => e = .returned (.int .i64 0) ∧ ((w5.alloc (.cells #[.string ⟨#[103]⟩] 9)).drewN m) = w') := fun m => open_calls ((e5.below b5).drewN m)
  have HFin : Hid (∀ m, Below w.heap.size w ((w5.alloc (.cells #[.string ⟨#[103]⟩] 9)).drewN m)) := fun m => by
    have o : Only (In2 x y) w2 w5 := HO4.out.trans (o5.mono (fun _ _ h => .inl h))
    have hx := HB1.out.2
    have hy := HB2.out.2
    have hz := HW1.out
    simp only [Blk.Above] at hx hy
    have k : Below w.heap.size w w5 := Only.below HB2.out.1 o HB2.out.1.size (fun q hq => by rcases hq with (e | e | e) | (e | e | e) <;> omega)
    exact L5.below_drewN (k.alloc k.size _) m
  clear e5 o5 hr5 b5 HT2 HT4 HR4 HO4 HE5
  obtain ⟨V, hV⟩ : ∃ V, w5.alloc (.cells #[.string ⟨#[103]⟩] 9) = V := ⟨_, rfl⟩
  rw [hV] at HSm HOp HFin
  go_wp2_with fail
  refine HSm.out.mono ?_
  rintro e w6 ⟨rfl, q, rfl⟩
  have HOp := Lib.hid (HOp.out q)
  go_wp2_with fail
  refine HOp.out.mono ?_
  rintro e w7 ⟨rfl, rfl⟩
  go_wp2
  go_ret
  exact ⟨rfl, HFin.out q⟩
end Go.Proofs.YtiodphkmllcjdaaGreat.L7
end

section
namespace Go.Proofs.YtiodphkmllcjdaaGreat.L7
open Go.ChangeShapes Go.WideShapes Go.ChangeAt Go.RowKit L6

/-- A row of texts, or of numbers, lies apart from an end. -/
theorem EndAt.not_row {W : World} {x : Blk} {n : Nat} {s : St} (h : EndAt W x n s) {B : Nat} {e : TypeId} {v : Value} {m : Nat} {xs : List Value} (hr : W.ownsRow B e 1 v m xs) (he : e ≠ 77) (he2 : e ≠ 108) {q : Nat} (hq : v.ownBlock = some q) :
    q ≠ x.g ∧ q ≠ x.q ∧ q ≠ x.c ∧ q ≠ x.b := by
  rcases hr.2 with ⟨rfl, _⟩ | ⟨g, cap, cur, rfl, _, h2, _⟩
  · cases hq
  · obtain rfl : g = q := by cases hq; rfl
    obtain ⟨_, _, e1⟩ := h.queue.chan
    obtain ⟨_, _, e2⟩ := h.map.block
    have e3 := h.queue.own
    have e4 := h.own
    refine ⟨?_, ?_, ?_, ?_⟩ <;> rintro rfl
    · rw [h2] at e4; simp at e4; exact he e4.2
    · rw [h2] at e3; simp at e3; exact he2 e3.2
    · rw [h2] at e1; simp at e1
    · rw [h2] at e2; simp at e2
theorem EndAt.row_only {W W' : World} {x : Blk} {n : Nat} {s : St} (h : EndAt W x n s) {B : Nat} {e : TypeId} {v : Value} {m : Nat} {xs : List Value} (hr : W.ownsRow B e 1 v m xs) (he : e ≠ 77) (he2 : e ≠ 108) (ho : Only x.In W W') : W'.ownsRow B e 1 v m xs :=
  L5.own_same hr fun q hq => by
    have k := h.not_row hr he he2 hq
    exact ho.block q (hr.lt q hq).2 (by rintro (e | e | e) <;> simp_all)
theorem EndAt.row_grown {W W' : World} {x : Blk} {n : Nat} {s : St} (h : EndAt W x n s) {B : Nat} {e : TypeId} {v : Value} {m : Nat} {xs : List Value} (hr : W.ownsRow B e 1 v m xs) (he : e ≠ 77) (he2 : e ≠ 108) (hg : W.grownBy W' v.ownBlock) : EndAt W' x n s := by
  have hl := h.lt
  refine h.same fun k hk => hg.block k (by rcases hk with rfl | rfl | rfl | rfl <;> omega) (fun e' => ?_)
  have := h.not_row hr he he2 e'.symm
  rcases hk with rfl | rfl | rfl | rfl <;> simp_all
theorem term_end : 46 ≠ 77 ∧ 46 ≠ 108 := ⟨by decide, by decide⟩
theorem Only.row {F : Nat → Prop} {w W W' : World} {row : Option Nat} (h : Only F w W) (hg : W.grownBy W' row) (hr : ∀ k, row = some k → w.heap.size ≤ k) : Only F w W' :=
  ⟨hg.os.trans h.os, hg.tape.trans h.tape, hg.output.trans h.output, Nat.le_trans h.size hg.size, fun k hk hn => (hg.block k (Nat.lt_of_lt_of_le hk h.size) (fun e => by have := hr k e.symm; omega)).trans (h.block k hk hn)⟩

theorem dataF_len (p q n : Nat) (b : Bytes) : (dataF p q n b).length ≤ 20000 := by unfold dataF; exact frame_len p q 1 n [b]
theorem ackF_len (p q n : Nat) : (ackF p q n).length ≤ 20000 := by unfold ackF; exact frame_len p q 2 n []
def framesR (j : Nat) : List Bytes := (List.range j).map fun i => dataF 1 2 (i + 1) (bodyL i)
theorem framesR_len (j : Nat) : (framesR j).length = j := by simp [framesR]
theorem framesR_succ (j : Nat) : framesR (j + 1) = framesR j ++ [dataF 1 2 (j + 1) (bodyL j)] := by simp [framesR, List.range_succ]
theorem framesR_get {j i : Nat} (h : i < j) : (framesR j)[i]? = some (dataF 1 2 (i + 1) (bodyL i)) := by
  unfold framesR
  rw [List.getElem?_map, List.getElem?_range h]
  rfl
theorem framesR_few (j : Nat) : ∀ f ∈ framesR j, f.length ≤ 20000 := by
  intro f hf
  obtain ⟨i, _, hi⟩ := List.mem_map.1 hf
  rw [← hi]
  exact dataF_len 1 2 (i + 1) (bodyL i)
def sA (j : Nat) : St := ⟨1, 2, j, 0, framesR j, fun _ => none⟩
def sB (i : Nat) : St := ⟨2, 1, 0, i, [], fun _ => none⟩
theorem sA_ok {j : Nat} (h : j ≤ 64) : (sA j).Ok := by
  have h1 : j ≤ 2147483647 := by omega
  have h2 : (framesR j).length ≤ 64 := by rw [framesR_len]; exact h
  have h3 : (framesR j).length ≤ j := by rw [framesR_len]; exact Nat.le_refl _
  have h4 := framesR_few j
  unfold sA
  generalize framesR j = fs at *
  exact ⟨Nat.le_refl 1, (show (1 : Nat) ≤ 8 by omega), (show (1 : Nat) ≤ 2 by omega), (show (2 : Nat) ≤ 8 by omega), h1, Nat.zero_le _, h2, h3, h4, fun n b hb => by simp at hb⟩
theorem send_sA {j : Nat} (h : j < 64) : sendL (sA j) (bodyL j) = ((dataF 1 2 (j + 1) (bodyL j), 0), sA (j + 1)) := by
  rw [sendL_small (sA_ok (by omega)) (small_body _) (by show j < _; omega) (by show (framesR j).length < 64; rw [framesR_len]; exact h)]
  unfold sA
  rw [framesR_succ]
theorem full_sA (c : Int) : sendL (sA 64) (bodyL c) = (([], 5), sA 64) := sendL_full (small_body _) (by show (framesR 64).length = 64; exact framesR_len 64)
theorem take_sB (i : Nat) (c : Int) : dataL (sB i) (i + 1) (bodyL c) = (([bodyL c], ackF 2 1 (i + 1), 0), sB (i + 1)) := dataL_next (s := sB i) rfl (bodyL c)
def sC (j k : Nat) : St := { sA j with opens := (framesR j).drop k }
theorem ack_sA {j k : Nat} (h0 : 0 < k) (h : k ≤ j) : ackL (sA j) k = (0, sC j k) := by
  unfold ackL St.come
  have e : (sA j).opens.length = j := framesR_len j
  have e2 : (sA j).sent = j := rfl
  rw [e, e2, if_neg (by omega), if_neg (by omega)]
  have e3 : k - (j - j) = k := by omega
  rw [e3]
  rfl

def Go1 (w : World) (x y : Blk) (n k : Nat) (v11 v12 : Value) (wr : World) : Prop :=
  ∃ i : Nat, k + i = n ∧ v12 = .int .i64 i ∧ wr.ownsRow w.heap.size 46 1 v11 (min i 64) (strs (framesR (min i 64))) ∧ Two7 wr x y 0 0 (sA (min i 64)) (sB 0) ∧ Below w.heap.size w wr
def Go2 (w : World) (x y : Blk) (j c : Nat) (v11 : Value) (k : Nat) (v16 v17 : Value) (wr : World) : Prop :=
  ∃ (i : Nat) (la : ByteArray), k + i = c ∧ v17 = .int .i64 i ∧ v16 = .string la ∧ Hid (0 < i → la = ⟨(ackF 2 1 i).toArray⟩) ∧ wr.ownsRow w.heap.size 46 1 v11 j (strs (framesR j)) ∧ Two7 wr x y 0 i (sA j) (sB i) ∧ Below w.heap.size w wr

end Go.Proofs.YtiodphkmllcjdaaGreat.L7
end

section
namespace Go.Proofs.YtiodphkmllcjdaaGreat.L7
open Go.ChangeShapes Go.WideShapes Go.ChangeAt Go.RowKit L6

/-- A row of ints, as it lies in memory. -/
def IRow (w : World) (A : Option Addr) (n : Nat) : Prop := ∀ j, j < n → ∃ (ad : Addr) (x : Int), A = some ad ∧ ad.block < w.heap.size ∧ w.cell? (ad.add j) = some (.int .i64 x) ∧ isInt x
theorem IRow.below {w w' : World} {A : Option Addr} {n : Nat} (h : IRow w A n) (hb : Below w.heap.size w w') : IRow w' A n := fun j hj => by
  obtain ⟨ad, x, e, hl, hc, hx⟩ := h j hj
  exact ⟨ad, x, e, Nat.lt_of_lt_of_le hl hb.size, (hb.cell (p := ad.add j) (by rw [L6.addr_block]; exact hl)).trans hc, hx⟩
set_option maxRecDepth 100000 in
theorem open_irow {H : Type} {enc : TypeId × Value → H} {W : World} {base : Nat} {v : Value} {d : DataW H} {ps : List MemPlace}
    (hval : Value.okWide Tryz.prog W .any base 33 v) (h : DataW.Trod enc Tryz.prog W 0 (fun _ => true) true 33 v d ps) : ∃ B : Option Addr × Nat × Nat, v = .slice B.1 B.2.1 B.2.2 ∧ IRow W B.1 B.2.1 ∧ B.2.1 ≤ maxLen := by
  obtain ⟨A, n, c, rfl⟩ := okWide_slice Tryz.underlying33 hval
  obtain ⟨fuel, hf⟩ := h
  rcases open_ints Tryz.underlying33 Tryz.underlying3 (by kernel_rfl) hf with ⟨h0, _⟩ | ⟨a, len, cap, zs, hcs, _, hl, hm, hsl, _, hcell, hsz⟩
  · simp [Value.cells] at h0
    obtain ⟨rfl, rfl, rfl⟩ := h0
    exact ⟨(none, 0, 0), rfl, fun j hj => absurd hj (by simp), Nat.zero_le _⟩
  · simp [Value.cells] at hcs
    obtain ⟨rfl, rfl, rfl⟩ := hcs
    simp only [if_true] at hsl
    refine ⟨(some a, n, c), rfl, fun j hj => ?_, by show n ≤ maxLen; omega⟩
    have hj' : j < n := hj
    have hc2 := hcell j (by omega)
    have hlt := World.block_lt_of_cell? W _ hc2
    rw [L6.addr_block] at hlt
    have hw := L5.i64_of_wf (hsz (zs.getD j 0) (by
      rw [List.getD, List.getElem?_eq_getElem (by omega), Option.getD_some]
      exact List.getElem_mem _))
    exact ⟨a, zs.getD j 0, rfl, hlt, hc2, hw.1, hw.2⟩

/-- Rows of unlike elements lie apart. -/
theorem own_apart {w : World} {B B' : Nat} {e e' : TypeId} {v v' : Value} {n n' : Nat} {xs xs' : List Value} (h : w.ownsRow B e 1 v n xs) (h' : w.ownsRow B' e' 1 v' n' xs') (hne : e ≠ e') : ∀ q, v.ownBlock = some q → v'.ownBlock ≠ some q := by
  intro q hq hq'
  rcases h.2 with ⟨rfl, _⟩ | ⟨g, cap, cur, rfl, _, h1, _⟩
  · cases hq
  · rcases h'.2 with ⟨rfl, _⟩ | ⟨g', cap', cur', rfl, _, h2, _⟩
    · cases hq'
    · cases hq
      cases hq'
      rw [h1] at h2
      cases h2
      exact hne rfl
/-- Another row grew: this one is as it was. -/
theorem own_grown {w w' : World} {B : Nat} {e : TypeId} {v : Value} {n : Nat} {xs : List Value} {row : Option Nat} (h : w.ownsRow B e 1 v n xs) (hg : w.grownBy w' row) (hne : ∀ q, v.ownBlock = some q → row ≠ some q) : w'.ownsRow B e 1 v n xs :=
  L5.own_same h (fun q hq => hg.block q (h.lt q hq).2 (fun e => hne q hq e.symm))
theorem term_string : 46 ≠ 9 := by decide
theorem string_end : 9 ≠ 77 ∧ 9 ≠ 108 := ⟨by decide, by decide⟩
theorem int_end : 3 ≠ 77 ∧ 3 ≠ 108 := ⟨by decide, by decide⟩
theorem term_int : 46 ≠ 3 := by decide

/-- append of a whole row of texts, nil too; where the row lies then. -/
theorem wpList_append_texts_at {P : Program} {w : World} {ops : Array Oper} {rest : List Oper} {o : Oper} {a : Act} {Q : Exit → Act → World → Prop} (hw : Region.wanted o (yielded ops a.tmps) = true) (s x : Operand) (t : TypeId)
    (ho : o.op = .call { callee := .builtin .append, args := #[s, x], argTypes := #[t, t] })
    (base : Nat) (e : TypeId) (i : TypeInfo) (z : Value) (bytes : Nat) (ht : P.underlying t = some (.slice e)) (hi : P.info? e = some i) (hz : i.zero = some z)
    (hsize : i.size = 1) (hby : i.bytes = bytes) (hzs : z.cells.size = 1)
    (v : Value) (n : Nat) (xs : List Value) (hs : a.eval s = v) (hown : w.ownsRow base e 1 v n xs)
    (vx : Value) (zs : List ByteArray) (hx : a.eval x = vx) (hsrc : SIn w vx zs)
    (h63 : n + zs.length ≤ maxLen) (hbytes : (n + zs.length) * bytes ≤ 140737488355328) (hbase : base ≤ w.heap.size)
    (h : ∀ v' w', w'.ownsRow base e 1 v' (n + zs.length) (xs ++ strV zs) → w.grownBy w' v.ownBlock → (v'.ownBlock = v.ownBlock ∨ v'.ownBlock = some w.heap.size) → wpList P ops Q rest (a.put o.dst v') w') :
    wpList P ops Q (o :: rest) a w := by
  obtain ⟨⟨A, c, rfl, hc⟩, hn⟩ := hsrc
  refine wpList_step fun K hK => ?_
  rw [if_pos hw]
  cases A with
  | none =>
    obtain ⟨rfl, h0⟩ := hn _ _ rfl
    obtain rfl : zs = [] := List.length_eq_zero_iff.1 h0
    have hrun := run_append_owned_none (P := P) (w := w) base t o.type e i 1 ht hi v n xs hown
    unfold Oper.wp execOp
    simp only [ho, resolve, invoke, builtin, Sem.run_bind, Sem.run_pure, Result.andThen_ok, List.map_toArray, List.map_cons, List.map_nil, hs, hx, List.length_nil, hrun]
    exact hK _ _ (h v w (by simpa [strV] using hown) (grown_refl _ _) (.inl rfl))
  | some ad =>
    have hnews : ∀ j u, (strV zs)[j]? = some u → w.cell? (ad.add j) = some u := fun j u hu => by
      simp only [strV, List.getElem?_map, Option.map_eq_some_iff] at hu
      obtain ⟨x, hx, rfl⟩ := hu
      obtain ⟨ad', e, _, hcc⟩ := hc j x hx
      cases e
      exact hcc
    obtain ⟨v', w', hr, h2, h3, _, h5⟩ := run_append_own_at (P := P) w base t o.type e i z 1 bytes ht hi hz hsize hby hzs (by decide) v n xs hown ad zs.length c (strV zs) (by simp [strV]) hnews (strV_one zs) h63 hbytes hbase
    unfold Oper.wp execOp
    simp only [ho, resolve, invoke, builtin, Sem.run_bind, Sem.run_pure, Result.andThen_ok, List.map_toArray, List.map_cons, List.map_nil, hs, hx, hr]
    exact hK _ _ (h v' w' h2 h3 h5)
theorem sin_row {W : World} {B : Nat} {t : TypeId} {v : Value} {zs : List Bytes} (h : W.ownsRow B t 1 v zs.length (strs zs)) : SIn W v (ba zs) := by
  refine ⟨srow_row h, fun n c e => ?_⟩
  rcases h.2 with ⟨rfl, h0⟩ | ⟨g, cap, cur, rfl, _⟩
  · cases e; exact ⟨rfl, rfl⟩
  · cases e
theorem strV_ba (zs : List Bytes) : strV (ba zs) = strs zs := by simp [strV, ba, strs]

/-- append onto a slice that the call owns, at a step of a region that draws its order. -/
theorem step_append_owned {P : Program} {w : World} {ops : Array Oper} {o : Oper} {a : Act} {K : Act → World → Prop} {Q : Exit → Act → World → Prop} {E : Prop} (hgd : o.guard = none) (s x : Operand) (t : TypeId)
    (ho : o.op = .call { callee := .builtin .append, args := #[s, x], argTypes := #[t, t] })
    (base : Nat) (e : TypeId) (i : TypeInfo) (z : Value) (size bytes : Nat) (ht : P.underlying t = some (.slice e)) (hi : P.info? e = some i) (hz : i.zero = some z)
    (hsize : i.size = size) (hby : i.bytes = bytes) (hzs : z.cells.size = size) (hsz : 0 < size)
    (v : Value) (n : Nat) (xs : List Value) (hs : a.eval s = v) (hown : w.ownsRow base e size v n xs)
    (ad : Addr) (m c : Nat) (news : List Value) (hx : a.eval x = .slice (some ad) m c) (hl : news.length = m * size) (hnews : ∀ j u, news[j]? = some u → w.cell? (ad.add j) = some u) (h1 : ∀ u ∈ news, u.oneCell' = true)
    (h63 : n + m ≤ maxLen) (hbytes : (n + m) * bytes ≤ 140737488355328) (hbase : base ≤ w.heap.size)
    (h : ∀ v' w', w'.ownsRow base e size v' (n + m) (xs ++ news) → w.grownBy w' v.ownBlock → K (a.put o.dst v') w') :
    if Region.wanted o (yielded ops a.tmps) = true then Oper.wp P o a w K Q else E := by
  have hw : Region.wanted o (yielded ops a.tmps) = true := by simp [Region.wanted, hgd]
  rw [if_pos hw]
  obtain ⟨v', w', hr, h2, h3, _⟩ := run_append_own (P := P) w base t o.type e i z size bytes ht hi hz hsize hby hzs hsz v n xs hown ad m c news hl hnews h1 h63 hbytes hbase
  unfold Oper.wp execOp
  simp only [ho, resolve, invoke, builtin, Sem.run_bind, Sem.run_pure, Result.andThen_ok, List.map_toArray, List.map_cons, List.map_nil, hs, hx, hr]
  exact h v' w' h2 h3
theorem add_zero_at (g j : Nat) : (⟨g, 0, none⟩ : Addr).add j = ⟨g, j, none⟩ := by
  unfold Addr.add
  split
  · rename_i h; subst h; rfl
  · simp
theorem add_off_at (g o j : Nat) : (⟨g, o, none⟩ : Addr).add j = ⟨g, o + j, none⟩ := by
  unfold Addr.add
  split
  · rename_i h; subst h; rfl
  · simp
theorem row_cells {w : World} {B g n cap : Nat} {e : TypeId} {vs : List Value} (h : w.ownsRow B e 1 (.slice (some ⟨g, 0, none⟩) n cap) n vs) : ∀ j u, vs[j]? = some u → w.cell? ⟨g, j, none⟩ = some u := by
  intro j u hj
  have := h.cells (g := g) rfl j u hj
  rw [add_zero_at] at this
  exact this
theorem row_shape {w : World} {B n : Nat} {e : TypeId} {v : Value} {vs : List Value} (h : w.ownsRow B e 1 v n vs) (hn : 0 < n) : ∃ g cap, v = .slice (some ⟨g, 0, none⟩) n cap ∧ g < w.heap.size ∧ n ≤ cap ∧ B ≤ g ∧ vs.length = n := by
  have hl : vs.length = n * 1 := h.1
  have h' := h
  rcases h.2 with ⟨_, h0⟩ | ⟨g, cap, cur, rfl, h2, _, h4, _⟩
  · omega
  · exact ⟨g, cap, rfl, (h'.lt g rfl).2, h4, h2, by omega⟩
/-- One element is cut out: what the two appends read. -/
theorem cut_facts {w7 V1 : World} {B g cap : Nat} {e : TypeId} {vs : List Value} {L at_ : Nat} (hrow : w7.ownsRow B e 1 (.slice (some ⟨g, 0, none⟩) L cap) L vs) (hV1 : Below w7.heap.size w7 V1) :
    (∀ j u, (vs.take at_)[j]? = some u → V1.cell? ((⟨g, 0, none⟩ : Addr).add j) = some u) ∧ (∀ V, V1.grownBy V (some w7.heap.size) → ∀ j u, (vs.drop (at_ + 1))[j]? = some u → V.cell? ((⟨g, at_ + 1, none⟩ : Addr).add j) = some u) := by
  have hgl := (hrow.lt g rfl).2
  have hc := row_cells hrow
  refine ⟨fun j u hu => ?_, fun V hV j u hu => ?_⟩
  · rw [add_zero_at]
    have hj := (List.getElem?_eq_some_iff.1 hu).1
    rw [List.getElem?_take_of_lt (by simp at hj; omega)] at hu
    exact (hV1.cell (p := ⟨g, j, none⟩) hgl).trans (hc j u hu)
  · rw [add_off_at]
    rw [List.getElem?_drop] at hu
    have h1 := (hV1.cell (p := ⟨g, at_ + 1 + j, none⟩) hgl).trans (hc _ u hu)
    rw [hV.cell_far ⟨g, at_ + 1 + j, none⟩ (by have := hV1.size; simp; omega) (by simp; omega)]
    exact h1
end Go.Proofs.YtiodphkmllcjdaaGreat.L7
end
