/- The program's end and the document's, over plain lists: the same answers, whatever is sent and whatever comes. The statements' own net inside the struct 'both': out. The statements' own struct 'both', as it lies in memory: two ends of the program, the document's two, and the net. both.come: a frame comes at one end: the program and the document answer alike. both.come: a frame comes at the other end: the program and the document answer alike. -/
import Derived.Test.YtiodphkmllcjdaaGreatLkRH
import Derived.Test.YtiodphkmllcjdaaGreatLkE
import Derived.Deep.Cut
import Derived.Test.YtiodphkmllcjdaaGreatLkRTake
import Derived.Test.YtiodphkmllcjdaaGreatLkD
section
namespace Go.Proofs.YtiodphkmllcjdaaGreat.L7
open Go.RowKit

/-- What waits: a list of pairs, each number once, as a function above t. -/
structure RelW (t : Nat) (w : Nat → Option Bytes) (l : List (Nat × Bytes)) : Prop where
  mem : ∀ n b, (n, b) ∈ l ↔ (t < n ∧ w n = some b)
  once : (l.map (·.1)).Nodup
theorem widx_rel {t : Nat} {w : Nat → Option Bytes} {l : List (Nat × Bytes)} (h : RelW t w l) {n : Nat} (hn : t < n) : (widx l n = none ↔ w n = none) := by
  constructor
  · intro h0
    cases hw : w n with
    | none => rfl
    | some b => exact absurd rfl (widx_not h0 (n, b) ((h.mem n b).2 ⟨hn, hw⟩))
  · intro h0
    cases hw : widx l n with
    | none => rfl
    | some i =>
      obtain ⟨b, hb⟩ := widx_is hw
      have := ((h.mem n b).1 (List.mem_of_getElem? hb)).2
      rw [h0] at this
      cases this
theorem cutAt_eq (l : List (Nat × Bytes)) (i : Nat) : cutAt l i = l.eraseIdx i := by
  unfold cutAt
  rw [List.eraseIdx_eq_take_drop_succ]
theorem once_at {l : List (Nat × Bytes)} (h : (l.map (·.1)).Nodup) {i j : Nat} {a b : Nat × Bytes} (hi : l[i]? = some a) (hj : l[j]? = some b) (hab : a.1 = b.1) : i = j := by
  have hi' : (l.map (·.1))[i]? = some a.1 := by rw [List.getElem?_map, hi]; rfl
  have hj' : (l.map (·.1))[j]? = some a.1 := by rw [List.getElem?_map, hj, hab]; rfl
  obtain ⟨hil, _⟩ := List.getElem?_eq_some_iff.1 hi'
  have := (List.getElem?_inj hil h).1 (hi'.trans hj'.symm)
  exact this
theorem RelW.cut {t : Nat} {w : Nat → Option Bytes} {l : List (Nat × Bytes)} (h : RelW t w l) {i : Nat} {b : Bytes} (hi : l[i]? = some (t + 1, b)) : RelW (t + 1) w (cutAt l i) := by
  refine ⟨fun n c => ?_, ?_⟩
  · unfold cutAt
    rw [List.mem_append]
    constructor
    · intro hm
      have hml : (n, c) ∈ l := hm.elim List.mem_of_mem_take List.mem_of_mem_drop
      obtain ⟨h1, h2⟩ := (h.mem n c).1 hml
      refine ⟨?_, h2⟩
      by_cases hn : n = t + 1
      · exfalso
        subst hn
        rcases hm with hm | hm
        · obtain ⟨j, hj⟩ := List.mem_iff_getElem?.1 hm
          have hjl := (List.getElem?_eq_some_iff.1 hj).1
          rw [List.length_take] at hjl
          rw [List.getElem?_take_of_lt (by omega)] at hj
          have := once_at h.once hj hi rfl
          omega
        · obtain ⟨j, hj⟩ := List.mem_iff_getElem?.1 hm
          rw [List.getElem?_drop] at hj
          have := once_at h.once hj hi rfl
          omega
      · omega
    · rintro ⟨h1, h2⟩
      have hml := (h.mem n c).2 ⟨by omega, h2⟩
      obtain ⟨j, hj⟩ := List.mem_iff_getElem?.1 hml
      by_cases hji : j < i
      · exact .inl (List.mem_iff_getElem?.2 ⟨j, by rw [List.getElem?_take_of_lt hji]; exact hj⟩)
      · have hne : j ≠ i := by
          intro e
          subst e
          rw [hi] at hj
          cases hj
          omega
        exact .inr (List.mem_iff_getElem?.2 ⟨j - (i + 1), by rw [List.getElem?_drop, show i + 1 + (j - (i + 1)) = j by omega]; exact hj⟩)
  · unfold cutAt
    rw [List.map_append]
    have hsub : (l.take i ++ l.drop (i + 1)).Sublist l := by
      have := List.eraseIdx_sublist l i
      rwa [List.eraseIdx_eq_take_drop_succ] at this
    have := (hsub.map (·.1)).nodup h.once
    rwa [List.map_append] at this
theorem rdrain_is : ∀ (k : Nat) (r : RSt) (w : Nat → Option Bytes), RelW r.taken w r.wait → r.wait.length < k → ∀ j, (drain j r.taken w).length < j → (rdrain k r).1 = drain j r.taken w ∧ (rdrain k r).2.taken = r.taken + (drain j r.taken w).length ∧ RelW (r.taken + (drain j r.taken w).length) w (rdrain k r).2.wait ∧ (rdrain k r).2.me = r.me ∧ (rdrain k r).2.peer = r.peer ∧ (rdrain k r).2.sent = r.sent ∧ (rdrain k r).2.opens = r.opens ∧ (rdrain k r).2.wait.length ≤ r.wait.length
  | 0, r, w, _, hk, _, _ => by omega
  | k + 1, r, w, h, hk, 0, hj => by simp at hj
  | k + 1, r, w, h, hk, j + 1, hj => by
    have hw := widx_rel h (n := r.taken + 1) (by omega)
    unfold rdrain drain at *
    cases hx : widx r.wait (r.taken + 1) with
    | none =>
      have hw0 := hw.1 hx
      rw [hw0]
      exact ⟨rfl, rfl, by simpa using h, rfl, rfl, rfl, rfl, Nat.le_refl _⟩
    | some i =>
      obtain ⟨b, hb⟩ := widx_is hx
      have hwb := ((h.mem _ b).1 (List.mem_of_getElem? hb)).2
      rw [hwb] at hj ⊢
      dsimp only at hj ⊢
      have hil := (List.getElem?_eq_some_iff.1 hb).1
      have hcl := cutAt_len hil
      have hgd : (r.wait.getD i (0, [])).2 = b := by rw [List.getD, hb]; rfl
      obtain ⟨e1, e2, e3, e4, e5, e6, e7, e8⟩ := rdrain_is k { r with taken := r.taken + 1, wait := cutAt r.wait i } w (h.cut hb) (by show (cutAt r.wait i).length < k; omega) j (by simpa using hj)
      refine ⟨?_, ?_, ?_, e4, e5, e6, e7, ?_⟩
      · rw [hgd, e1]
      · rw [e2]
        simp only [List.length_cons]
        omega
      · have ee : r.taken + (b :: drain j (r.taken + 1) w).length = r.taken + 1 + (drain j (r.taken + 1) w).length := by simp only [List.length_cons]; omega
        rw [ee]
        exact e3
      · have e8' : (rdrain k { r with taken := r.taken + 1, wait := cutAt r.wait i }).2.wait.length ≤ (cutAt r.wait i).length := e8
        omega

/-- The program's end says as the document's. -/
structure Sim (s : St) (r : RSt) : Prop where
  me : s.me = r.me
  peer : s.peer = r.peer
  sent : s.sent = r.sent
  taken : s.taken = r.taken
  opens : s.opens = r.opens.map (frI r)
  nums : ∀ (i : Nat) (a : Nat × Bytes), r.opens[i]? = some a → a.1 + r.opens.length = r.sent + 1 + i
  wait : RelW r.taken s.wait r.wait
  high : ∀ n b, s.wait n = some b → r.taken < n
theorem frI_pair (r : RSt) (n : Nat) (b : Bytes) : frI r (n, b) = (frameL r.me r.peer 1 n [b]).1 := rfl
theorem frI_congr {r r' : RSt} (h1 : r.me = r'.me) (h2 : r.peer = r'.peer) : frI r = frI r' := by
  funext a
  unfold frI
  rw [h1, h2]
theorem Sim.new (a b : Nat) : Sim (newL a b) (r0 a b) := ⟨rfl, rfl, rfl, rfl, rfl, fun i a h => by simp [r0] at h, ⟨fun n b => by simp [r0, newL], by simp [r0]⟩, fun n b h => by simp [newL] at h⟩
theorem Sim.len {s : St} {r : RSt} (h : Sim s r) : s.opens.length = r.opens.length := by rw [h.opens, List.length_map]
theorem sim_send {s : St} {r : RSt} (h : Sim s r) (b : Bytes) : (rsend r b).1 = (sendL s b).1 ∧ Sim (sendL s b).2 (rsend r b).2 := by
  unfold rsend sendL
  rw [h.len, h.me, h.peer, h.sent]
  obtain ⟨fr, hfr⟩ : ∃ fr, frameL r.me r.peer 1 (r.sent + 1) [b] = fr := ⟨_, rfl⟩
  have herr : fr.2 ≠ 0 → fr.1 = [] := by rw [← hfr]; exact frame_err
  have hfI : frI r (r.sent + 1, b) = fr.1 := by rw [frI_pair, hfr]
  rw [hfr]
  clear hfr
  by_cases h1 : Tm.right b = false
  · rw [if_pos h1, if_pos h1]; exact ⟨rfl, h⟩
  · rw [if_neg h1, if_neg h1]
    by_cases h2 : r.opens.length = 64
    · rw [if_pos h2, if_pos h2]; exact ⟨rfl, h⟩
    · rw [if_neg h2, if_neg h2]
      by_cases h3 : fr.2 = 0
      · rw [if_pos h3, if_pos h3]
        refine ⟨rfl, rfl, rfl, rfl, h.taken, ?_, ?_, h.wait, h.high⟩
        · dsimp only
          rw [show frI { r with sent := r.sent + 1, opens := r.opens ++ [(r.sent + 1, b)] } = frI r from frI_congr rfl rfl, List.map_append, h.opens]
          rw [List.map_cons, List.map_nil, hfI]
        · intro i a ha
          show a.1 + (r.opens ++ [(r.sent + 1, b)]).length = r.sent + 1 + 1 + i
          rw [List.length_append]
          by_cases hi : i < r.opens.length
          · have := h.nums i a (by rw [← List.getElem?_append_left hi]; exact ha)
            simp only [List.length_singleton]
            omega
          · have hi2 := (List.getElem?_eq_some_iff.1 ha).1
            rw [List.length_append, List.length_singleton] at hi2
            obtain rfl : i = r.opens.length := by omega
            have ha' : (r.opens ++ [(r.sent + 1, b)])[r.opens.length]? = some a := ha
            rw [List.getElem?_append_right (Nat.le_refl _)] at ha'
            simp at ha'
            subst ha'
            simp only [List.length_singleton]
            omega
      · rw [if_neg h3, if_neg h3]
        refine ⟨?_, h⟩
        have hx := herr h3
        obtain ⟨x, e⟩ := fr
        dsimp only at hx
        subst hx
        rfl
theorem above_drop {r : RSt} (hn : ∀ (i : Nat) (a : Nat × Bytes), r.opens[i]? = some a → a.1 + r.opens.length = r.sent + 1 + i) (hl : r.opens.length ≤ r.sent) (n : Nat) : above r.opens n = r.opens.drop (n - (r.sent - r.opens.length)) := by
  have key : ∀ (l : List (Nat × Bytes)) (c : Nat), (∀ (i : Nat) (a : Nat × Bytes), l[i]? = some a → a.1 = c + 1 + i) → l.filter (fun a => decide (n < a.1)) = l.drop (n - c) := by
    intro l
    induction l with
    | nil => intro c _; simp
    | cons a l ih =>
      intro c hc
      have ha := hc 0 a rfl
      have hrec := ih (c + 1) (fun i b hb => by have := hc (i + 1) b (by simpa using hb); omega)
      by_cases h : n < a.1
      · rw [List.filter_cons_of_pos (by simpa using h), hrec, show n - (c + 1) = 0 by omega, show n - c = 0 by omega]
        rfl
      · rw [List.filter_cons_of_neg (by simpa using h), hrec, show n - c = (n - (c + 1)) + 1 by omega]
        rfl
  exact key r.opens (r.sent - r.opens.length) (fun i a ha => by have := hn i a ha; omega)
theorem sim_ack {s : St} {r : RSt} (h : Sim s r) (hok : s.Ok) (n : Nat) : (rack r n).1 = (ackL s n).1 ∧ Sim (ackL s n).2 (rack r n).2 := by
  have hl : r.opens.length ≤ r.sent := by rw [← h.len, ← h.sent]; exact hok.opened
  have hd := above_drop h.nums hl n
  unfold rack ackL St.come
  rw [h.len, h.sent]
  by_cases h1 : r.sent < n
  · rw [if_pos h1, if_pos h1]; exact ⟨rfl, h⟩
  · rw [if_neg h1, if_neg h1, hd, List.length_drop]
    by_cases h2 : n ≤ r.sent - r.opens.length
    · rw [if_pos h2, if_pos (by omega)]; exact ⟨rfl, h⟩
    · rw [if_neg h2, if_neg (by omega)]
      refine ⟨rfl, h.me, h.peer, rfl, h.taken, ?_, ?_, h.wait, h.high⟩
      · dsimp only
        rw [show frI { r with opens := r.opens.drop (n - (r.sent - r.opens.length)) } = frI r from frI_congr rfl rfl, h.opens, List.map_drop]
      · intro i a ha
        show a.1 + (r.opens.drop (n - (r.sent - r.opens.length))).length = r.sent + 1 + i
        have ha' : (r.opens.drop (n - (r.sent - r.opens.length)))[i]? = some a := ha
        rw [List.getElem?_drop] at ha'
        have := h.nums _ a ha'
        rw [List.length_drop]
        have hi := (List.getElem?_eq_some_iff.1 ha').1
        omega
theorem putW_rel {t : Nat} {w : Nat → Option Bytes} {l : List (Nat × Bytes)} (h : RelW t w l) {n : Nat} (b : Bytes) (hn : t < n) (hw : w n = none) : RelW t (putW w n b) (l ++ [(n, b)]) := by
  have hno : ∀ c, (n, c) ∉ l := fun c hc => by
    have := ((h.mem n c).1 hc).2
    rw [hw] at this
    cases this
  refine ⟨fun m c => ?_, ?_⟩
  · rw [List.mem_append, List.mem_singleton, h.mem]
    unfold putW
    by_cases hm : m = n
    · subst hm
      rw [if_pos rfl, hw]
      constructor
      · rintro (⟨_, h2⟩ | h2)
        · cases h2
        · cases h2; exact ⟨hn, rfl⟩
      · rintro ⟨_, h2⟩
        cases h2
        exact .inr rfl
    · rw [if_neg hm]
      constructor
      · rintro (h2 | h2)
        · exact h2
        · cases h2; exact absurd rfl hm
      · exact fun h2 => .inl h2
  · rw [List.map_append, List.nodup_append]
    refine ⟨h.once, by simp, fun x hx y hy => ?_⟩
    obtain ⟨a, ha, rfl⟩ := List.mem_map.1 hx
    simp at hy
    subst hy
    intro e
    exact hno a.2 (by rw [← e]; exact ha)
theorem sim_reply {s : St} {r : RSt} (h1 : s.me = r.me) (h2 : s.peer = r.peer) (h3 : s.taken = r.taken) : replyL s = replyR r := by
  unfold replyL replyR
  rw [h1, h2, h3]
theorem dataL_no {s : St} {n e : Nat} {b : Bytes} (h : waitL s n b = (e, s)) (he : e ≠ 0) : dataL s n b = (([], replyL s, e), s) := by
  unfold dataL
  rw [h, if_neg he]
theorem dataL_yes {s s' : St} {n : Nat} {b : Bytes} (h : waitL s n b = (0, s')) : dataL s n b = (((drainL s').1, replyL (drainL s').2, 0), (drainL s').2) := by
  unfold dataL
  rw [h, if_pos rfl]
theorem sim_data {s : St} {r : RSt} (h : Sim s r) (hok : s.Ok) (n : Nat) (b : Bytes) : (rdata r n b).1 = (dataL s n b).1 ∧ Sim (dataL s n b).2 (rdata r n b).2 ∧ (rdata r n b).2.wait.length ≤ r.wait.length + 1 := by
  have hrep := sim_reply h.me h.peer h.taken
  have ht := h.taken
  by_cases h1 : n ≤ r.taken
  · have hw : waitL s n b = (7, s) := by unfold waitL; rw [if_pos (by omega)]
    rw [dataL_no hw (by decide)]
    unfold rdata
    rw [if_pos (.inl h1), hrep]
    exact ⟨rfl, h, Nat.le_succ _⟩
  · have hx := widx_rel h.wait (n := n) (by omega)
    by_cases h2 : r.taken + 32 < n
    · have hnone : s.wait n = none := by
        cases hw : s.wait n with
        | none => rfl
        | some c => have := (hok.waits n c hw).2.1; omega
      have hw : waitL s n b = (5, s) := by unfold waitL; rw [if_neg (by omega), if_pos (by omega)]
      rw [dataL_no hw (by decide)]
      unfold rdata
      rw [if_neg (by rw [hx.2 hnone]; simp [h1]), if_pos h2, hrep]
      exact ⟨rfl, h, Nat.le_succ _⟩
    · cases hwn : s.wait n with
      | some c =>
        have hs : (widx r.wait n).isSome = true := by
          cases hq : widx r.wait n with
          | none => rw [hx.1 hq] at hwn; cases hwn
          | some i => rfl
        have hw : waitL s n b = (7, s) := by unfold waitL; rw [if_neg (by omega), if_neg (by omega), if_pos (by rw [hwn]; rfl)]
        rw [dataL_no hw (by decide)]
        unfold rdata
        rw [if_pos (.inr hs), hrep]
        exact ⟨rfl, h, Nat.le_succ _⟩
      | none =>
        have hs : ¬ (n ≤ r.taken ∨ (widx r.wait n).isSome = true) := by rw [hx.2 hwn]; simp [h1]
        have hw : waitL s n b = (0, { s with wait := putW s.wait n b }) := by unfold waitL; rw [if_neg (by omega), if_neg (by omega), if_neg (by rw [hwn]; simp)]
        rw [dataL_yes hw]
        unfold rdata
        rw [if_neg hs, if_neg h2]
        have hput := putW_rel h.wait b (by omega) hwn
        have hfew : (drain 33 r.taken (putW s.wait n b)).length < 33 := drain_few (t0 := r.taken) (fun m c hm => by
          unfold putW at hm
          split at hm
          · rename_i e; omega
          · have := (hok.waits m c hm).2.1; omega) (Nat.le_refl _)
        obtain ⟨e1, e2, e3, e4, e5, e6, e7, e8⟩ := rdrain_is (r.wait.length + 2) { r with wait := r.wait ++ [(n, b)] } (putW s.wait n b) hput (by show (r.wait ++ [(n, b)]).length < _; simp) 33 hfew
        dsimp only at e1 e2 e3 e4 e5 e6 e7 e8
        generalize rdrain (r.wait.length + 2) { r with wait := r.wait ++ [(n, b)] } = dr at *
        have hdl : drainL { s with wait := putW s.wait n b } = (drain 33 r.taken (putW s.wait n b), { s with taken := r.taken + (drain 33 r.taken (putW s.wait n b)).length, wait := fun m => if m ≤ r.taken + (drain 33 r.taken (putW s.wait n b)).length then none else putW s.wait n b m }) := by
          unfold drainL
          dsimp only
          rw [ht]
        rw [hdl]
        generalize drain 33 r.taken (putW s.wait n b) = ds at *
        have hsim : Sim { s with taken := r.taken + ds.length, wait := fun m => if m ≤ r.taken + ds.length then none else putW s.wait n b m } dr.2 := by
          refine ⟨h.me.trans e4.symm, h.peer.trans e5.symm, h.sent.trans e6.symm, e2.symm, ?_, ?_, ?_, ?_⟩
          · rw [frI_congr (r' := r) e4 e5, e7]
            exact h.opens
          · intro i a ha
            rw [e7] at ha
            rw [e7, e6]
            exact h.nums i a ha
          · rw [e2]
            refine ⟨fun m c => ?_, e3.once⟩
            rw [e3.mem]
            dsimp only
            constructor
            · rintro ⟨k1, k2⟩
              exact ⟨k1, by rw [if_neg (by omega)]; exact k2⟩
            · rintro ⟨k1, k2⟩
              rw [if_neg (by omega)] at k2
              exact ⟨k1, k2⟩
          · intro m c hm
            rw [e2]
            dsimp only at hm
            split at hm
            · cases hm
            · omega
        refine ⟨?_, hsim, ?_⟩
        · show (dr.1, replyR dr.2, 0) = (ds, replyL _, 0)
          rw [e1, sim_reply hsim.me hsim.peer hsim.taken]
        · show dr.2.wait.length ≤ _
          simpa using e8
theorem sim_take {s : St} {r : RSt} (h : Sim s r) (hok : s.Ok) (rd : Rd) : (rtake r rd).1 = (takeL s rd).1 ∧ Sim (takeL s rd).2 (rtake r rd).2 ∧ (rtake r rd).2.wait.length ≤ r.wait.length + 1 := by
  cases rd with
  | bad e => exact ⟨rfl, h, Nat.le_succ _⟩
  | ack n =>
    obtain ⟨h1, h2⟩ := sim_ack h hok n
    refine ⟨?_, h2, ?_⟩
    · show ([], [], (rack r n).1) = ([], [], (ackL s n).1)
      rw [h1]
    · show (rack r n).2.wait.length ≤ _
      unfold rack
      split
      · exact Nat.le_succ _
      · split <;> exact Nat.le_succ _
  | data n b => exact sim_data h hok n b
end Go.Proofs.YtiodphkmllcjdaaGreat.L7
end

section
namespace Go.Proofs.YtiodphkmllcjdaaGreat.L7.E
open Go.ChangeShapes Go.WideShapes Go.ChangeAt Go.RowKit L6

theorem bfrozen {B : Nat} {w w' : World} (h : Go.RowKit.Below B w w') {b : Nat} (hb : b < B) (j : Nat) : w'.frozen? ⟨b, j, none⟩ = w.frozen? ⟨b, j, none⟩ := World.frozen?_of_block (w := w) (h.block b hb)
/-- One element was cut out of a row, and the row laid into its field. -/
theorem cut_end {V w8 w9 : World} {h i L : Nat} {e t : TypeId} {vs : List Value} {v8 v9 : Value} {cs : Array Value} (hb : V.heap[h]? = some (.cells cs t (0, 0))) (_ : e ≠ t)
    (b8 : w8.ownsRow V.heap.size e 1 v8 i (vs.take i) ∧ (V.drew.alloc (.cells #[] e)).grownBy w8 (some V.heap.size)) (b9 : w9.ownsRow V.heap.size e 1 v9 (i + (L - (i + 1))) (vs.take i ++ vs.drop (i + 1)) ∧ w8.grownBy w9 v8.ownBlock) :
    Go.RowKit.Below V.heap.size V w9 ∧ ∀ j, (w9.setCell ⟨h, j, none⟩ v9).heap[h]? = some (.cells (cs.setIfInBounds j v9) t (0, 0)) ∧ (w9.setCell ⟨h, j, none⟩ v9).ownsRow V.heap.size e 1 v9 (i + (L - (i + 1))) (vs.take i ++ vs.drop (i + 1)) ∧ Only (fun k => k = h) V (w9.setCell ⟨h, j, none⟩ v9) := by
  have hhl : h < V.heap.size := (Array.getElem?_eq_some_iff.1 hb).1
  have c8 : Go.RowKit.Below V.heap.size V w8 := ((Go.RowKit.Below.refl V.heap.size V).drew.alloc (Nat.le_refl _) _).grown b8.2 (by rw [World.size_alloc]; exact Nat.le_succ _) (fun k e => by cases e; exact Nat.le_refl _)
  have c9 : Go.RowKit.Below V.heap.size V w9 := c8.grown b9.2 c8.size (fun k e => (b8.1.lt k e).1)
  refine ⟨c9, fun j => ⟨blk_setj ((c9.block h hhl).trans hb) v9, L5.own_same b9.1 (fun q e => Go.RowKit.Below.heap_setCell _ _ _ _ (by show q ≠ h; have := (b9.1.lt q e).1; omega)), ?_⟩⟩
  exact Only.setCell (F := fun k => k = h) (p := ⟨h, j, none⟩) (Only.of_below c9) (.inl rfl) v9
def OutOut (hd : Hdr) (w : World) (B h : Nat) (tos : List Nat) (fs : List Bytes) (vt vl : Value) (i : Nat) (e : Ending) (w' : World) : Prop :=
  e = .returned (.tuple #[]) ∧ ∃ vt' vl', NetAt hd w' B h (tos.take i ++ tos.drop (i + 1)) (fs.take i ++ fs.drop (i + 1)) vt' vl' ∧ Only (NIn h vt vl) w w' ∧ (∀ q, NIn h vt' vl' q → NIn h vt vl q ∨ w.heap.size ≤ q)
def OutMid (hd : Hdr) (w : World) (B h : Nat) (tos : List Nat) (fs : List Bytes) (vl : Value) (i : Nat) (V : World) : Prop :=
  ∃ vt', V.heap[h]? = some (.cells #[hd.p0, hd.p1, hd.p2, hd.p3, vt', vl] 38 (0, 0)) ∧ V.ownsRow B 3 1 vt' (tos.take i ++ tos.drop (i + 1)).length (nums (tos.take i ++ tos.drop (i + 1))) ∧ V.ownsRow B 46 1 vl fs.length (strs fs) ∧ Only (fun k => k = h) w V ∧ (∀ q, vt'.ownBlock = some q → w.heap.size ≤ q)
theorem own_less {W : World} {base base' : Nat} {e : TypeId} {size n : Nat} {v : Value} {xs : List Value} (h : W.ownsRow base e size v n xs) (hb : base' ≤ base) : W.ownsRow base' e size v n xs :=
  ⟨h.1, h.2.imp id (fun ⟨g, cap, cur, a, b, c⟩ => ⟨g, cap, cur, a, Nat.le_trans hb b, c⟩)⟩
theorem row_only {w V : World} {F : Nat → Prop} {B n : Nat} {e : TypeId} {v : Value} {xs : List Value} (r : w.ownsRow B e 1 v n xs) (o : Only F w V) (hF : ∀ q, v.ownBlock = some q → ¬ F q) : V.ownsRow B e 1 v n xs := L5.own_same r (fun q e => o.block q (r.lt q e).2 (hF q e))
theorem out_mid {hd : Hdr} {w V : World} {B h i L k : Nat} {tos : List Nat} {fs : List Bytes} {vt vl v9 : Value} (n : NetAt hd w B h tos fs vt vl) (hB : B ≤ w.heap.size) (hL : tos.length = L) (hi : i < L) (hk : k + 1 = L)
    (h1 : V.heap[h]? = some (.cells ((#[hd.p0, hd.p1, hd.p2, hd.p3, vt, vl] : Array Value).setIfInBounds 4 v9) 38 (0, 0))) (h2 : V.ownsRow w.heap.size 3 1 v9 k ((nums tos).take i ++ (nums tos).drop (i + 1))) (h3 : Only (fun k => k = h) w V) : OutMid hd w B h tos fs vl i V := by
  have e : nums (tos.take i ++ tos.drop (i + 1)) = (nums tos).take i ++ (nums tos).drop (i + 1) := by simp [nums, List.map_take, List.map_drop]
  have el : (tos.take i ++ tos.drop (i + 1)).length = k := by simp; omega
  refine ⟨v9, h1, ?_, row_only n.l h3 (fun q e e' => n.apart.2.1 (by rw [e, e'])), h3, fun q e => (h2.lt q e).1⟩
  rw [e, el]
  exact own_less h2 hB
theorem out_end {hd : Hdr} {w V V' : World} {B h i k : Nat} {tos : List Nat} {fs : List Bytes} {vt vl vt' v9 : Value} (n : NetAt hd w B h tos fs vt vl) (hB : B ≤ w.heap.size) (hi : i < fs.length) (hk : k + 1 = fs.length)
    (m1 : V.heap[h]? = some (.cells #[hd.p0, hd.p1, hd.p2, hd.p3, vt', vl] 38 (0, 0))) (m2 : V.ownsRow B 3 1 vt' (tos.take i ++ tos.drop (i + 1)).length (nums (tos.take i ++ tos.drop (i + 1)))) (m4 : Only (fun k => k = h) w V) (m5 : ∀ q, vt'.ownBlock = some q → w.heap.size ≤ q)
    (h1 : V'.heap[h]? = some (.cells ((#[hd.p0, hd.p1, hd.p2, hd.p3, vt', vl] : Array Value).setIfInBounds 5 v9) 38 (0, 0))) (h2 : V'.ownsRow V.heap.size 46 1 v9 k ((strs fs).take i ++ (strs fs).drop (i + 1))) (h3 : Only (fun k => k = h) V V') : OutOut hd w B h tos fs vt vl i (.returned (.tuple #[])) V' := by
  have e : strs (fs.take i ++ fs.drop (i + 1)) = (strs fs).take i ++ (strs fs).drop (i + 1) := by simp [strs, List.map_take, List.map_drop]
  have el : (fs.take i ++ fs.drop (i + 1)).length = k := by simp; omega
  have hl := n.len
  refine ⟨rfl, vt', v9, ⟨h1, n.base, row_only m2 h3 (fun q e e' => row_not m2 m1 int_net (by rw [e, e'])), ?_, by simp; omega⟩, (m4.trans (h3.mono ?_)).mono (fun _ _ e => .inl e), ?_⟩
  · rw [e, el]
    exact own_less h2 (Nat.le_trans hB m4.size)
  · exact fun _ _ e => e
  · rintro q (e | e | e)
    · exact .inl (.inl e)
    · exact .inr (m5 q e)
    · exact .inr (Nat.le_trans m4.size (h2.lt q e).1)
set_option maxRecDepth 100000 in
set_option maxHeartbeats 8000000 in
theorem out_calls {hd : Hdr} {w : World} {B h : Nat} {tos : List Nat} {fs : List Bytes} {vt vl : Value} (n : NetAt hd w B h tos fs vt vl) (hB : B ≤ w.heap.size) {i : Nat} (hil : i < fs.length) (hlen : fs.length ≤ 1000000) :
    Calls Tryz.prog 25 #[.pointer (some ⟨h, 4, none⟩), .int .i64 i] w (OutOut hd w B h tos fs vt vl i) := by
  obtain ⟨i0, hi, hz0, hz1, hz2⟩ := info_parts info_term
  obtain ⟨i1, hj, hy0, hy1, hy2⟩ := info_parts info_i4
  have hle := n.len
  have HN := Lib.hid n
  obtain ⟨gl, cl, rfl, hgl1, hgl2, hgl3, hvl2⟩ := row_shape n.l (by omega)
  obtain ⟨g, cf, rfl, hg1, hg2, hg3, hvl1⟩ := row_shape n.to (by omega)
  obtain ⟨hc0, hc0', hf0, hf1'⟩ := n.cells
  have hV := Lib.hid n.own
  have hne := Lib.hid int_net
  have hrow := Lib.hid n.to
  have hone : Hid (∀ u ∈ nums tos, u.oneCell' = true) := fun u hu => by obtain ⟨z, _, rfl⟩ := List.mem_map.1 hu; rfl
  have HB := Lib.hid hB
  clear n hB hg1 hg3 hgl1 hgl3 hvl2
  obtain ⟨L, hL⟩ : ∃ L, tos.length = L := ⟨_, rfl⟩
  have hLi : i < L := by omega
  have hLm : L ≤ 1000000 := by omega
  rw [hL] at hc0 hg2 hvl1 hrow
  have hvl := Lib.hid hvl1
  have HL := Lib.hid hL
  obtain ⟨vs, hvs⟩ : ∃ vs, nums tos = vs := ⟨_, rfl⟩
  rw [hvs] at hrow hone hvl
  have HVs := Lib.hid hvs
  clear hvl1 hL hvs hle
  go_enter Tryz.func25, Tryz.ntmps25
  go_wp2_with fail
  go_cut [] from 4 (fun wc => OutMid hd w B h tos fs (.slice (some ⟨gl, 0, none⟩) fs.length cl) i wc)
  case first =>
    have hhl : h < w.heap.size := (Array.getElem?_eq_some_iff.1 hV.out).1
    have hV1 : Below w.heap.size w (w.drew.alloc (.cells #[] 3)) := (Below.refl _ w).drew.alloc (Nat.le_refl _) _
    have hcA : (w.alloc (.cells #[] 3)).cell? ⟨h, 4, none⟩ = some (.slice (some ⟨g, 0, none⟩) L cf) := (hV1.cell (p := ⟨h, 4, none⟩) hhl).trans hc0
    have HLit : Hid ((w.drew.alloc (.cells #[] 3)).ownsRow w.heap.size 3 1 (.slice (some ⟨w.heap.size, 0, none⟩) 0 0) 0 []) := World.ownsRow_lit (e := 3) (base := w.heap.size) (size := 1) w.drew #[] 0 (Nat.le_refl _) (by unfold maxLen; omega) rfl
    have hcut := cut_facts (at_ := i) hrow.out hV1
    have HN1' := Lib.hid hcut.1
    have HFar := Lib.hid hcut.2
    have hL1 : Hid ((vs.take i).length = i * 1) := by show _ = _; rw [List.length_take, hvl.out]; omega
    have hL2 : Hid ((vs.drop (i + 1)).length = (L - (i + 1)) * 1) := by show _ = _; rw [List.length_drop, hvl.out]; omega
    have HOne : Hid ((∀ u ∈ vs.take i, u.oneCell' = true) ∧ (∀ u ∈ vs.drop (i + 1), u.oneCell' = true)) := ⟨fun u hu => hone.out u (List.mem_of_mem_take hu), fun u hu => hone.out u (List.mem_of_mem_drop hu)⟩
    have m1 : Hid (0 + i ≤ maxLen ∧ (0 + i) * 8 ≤ 140737488355328 ∧ i + (L - (i + 1)) ≤ maxLen ∧ (i + (L - (i + 1))) * 8 ≤ 140737488355328) := ⟨by unfold maxLen; omega, by omega, by unfold maxLen; omega, by omega⟩
    have m2 : Hid (w.heap.size ≤ (w.drew.alloc (.cells #[] 3)).heap.size) := hV1.size
    have z3 : (i : Int) ≤ (L : Int) := by omega
    have z4 : (i : Int) ≤ (cf : Int) := by omega
    have z5 : (i : Int) + 1 ≤ (L : Int) := by omega
    have z6 : (L : Int) ≤ (cf : Int) := by omega
    have z8 : (0 : Int) ≤ (i : Int) + 1 := by omega
    have z0 : (0 : Int) ≤ (i : Int) := by omega
    have hwr : IntKind.i64.wrap ((i : Int) + 1) = (i : Int) + 1 := by rw [IntKind.wrap_i64]; omega
    have htn : ((i : Int) + 1).toNat = i + 1 := by omega
    have hHN : Hid (cf = i + 1 → vs.drop (i + 1) = []) := fun e => List.drop_of_length_le (by rw [hvl.out]; omega)
    clear hcut hV1
    by_cases hcap' : cf = i + 1
    · have HNil := Lib.hid (hHN.out hcap')
      subst hcap'
      have z9 : (i : Int) ≤ (i : Int) + 1 := by omega
      clear hHN
      go_region_law (first
        | (refine step_append_owned rfl (.tmp 12) (.tmp 19) 33 rfl w.heap.size 3 i1 (.int .i64 0) 1 8 Tryz.underlying33 hj hy0 hy1 hy2 rfl (by decide) v8 i (vs.take i) (by simp [Act.eval, Act.put]) X8.out.1 ⟨g, 0, none⟩ (L - (i + 1)) 0 (vs.drop (i + 1)) (by first | (simp [Act.eval, Act.put]; done) | (simp [Act.eval, Act.put]; omega)) hL2.out (fun j u hu => by rw [HNil.out] at hu; simp at hu) HOne.out.2 m1.out.2.2.1 m1.out.2.2.2 (Nat.le_trans m2.out X8.out.2.size) ?_
           intro v9 w9 hown5 hgrow5
           obtain ⟨A9, c9, rfl⟩ := L5.own_slice hown5
           have X9 := Lib.hid (cut_end hV.out hne.out X8.out ⟨hown5, hgrow5⟩)
           have cc9 := (X9.out.1.cell (p := ⟨h, 4, none⟩) hhl).trans hc0
           have cf9 := (bfrozen X9.out.1 hhl 4).trans hf0
           clear hown5 hgrow5)
        | (refine step_append_owned rfl (.tmp 5) (.tmp 11) 33 rfl w.heap.size 3 i1 (.int .i64 0) 1 8 Tryz.underlying33 hj hy0 hy1 hy2 rfl (by decide) (.slice (some ⟨w.heap.size, 0, none⟩) 0 0) 0 [] (by simp [Act.eval, Act.put]) HLit.out ⟨g, 0, none⟩ i (i + 1) (vs.take i) (by simp [Act.eval, Act.put]) hL1.out HN1'.out HOne.out.1 m1.out.1 m1.out.2.1 m2.out ?_
           intro v8 w8 hown4 hgrow4
           have X8 : Hid (w8.ownsRow w.heap.size 3 1 v8 i (vs.take i) ∧ (w.drew.alloc (.cells #[] 3)).grownBy w8 (some w.heap.size)) := ⟨by rw [Nat.zero_add] at hown4; exact hown4, hgrow4⟩
           have cc8 : w8.cell? ⟨h, 4, none⟩ = some (.slice (some ⟨g, 0, none⟩) L (i + 1)) := ((((Below.refl w.heap.size w).drew.alloc (Nat.le_refl _) _).grown hgrow4 (by rw [World.size_alloc]; exact Nat.le_succ _) (fun k e => by cases e; exact Nat.le_refl _)).cell (p := ⟨h, 4, none⟩) hhl).trans hc0
           clear hown4 hgrow4))
      all_goals
        have HMid : Hid (OutMid hd w B h tos fs (.slice (some ⟨gl, 0, none⟩) fs.length cl) i (w9.setCell ⟨h, 4, none⟩ (.slice A9 (i + (L - (i + 1))) c9))) := by
          obtain ⟨x1, x2, x3⟩ := X9.out.2 4
          rw [← HVs.out] at x2
          exact out_mid HN.out HB.out HL.out hLi (by omega) x1 x2 x3
        have e0 : L - (i + 1) = 0 := by omega
        rw [e0, Nat.add_zero] at HMid
        clear e0
        go_wp2
        go_meet
        case rel => exact HMid.out
    · clear hHN
      go_region_law (first
        | (refine step_append_owned rfl (.tmp 12) (.tmp 19) 33 rfl w.heap.size 3 i1 (.int .i64 0) 1 8 Tryz.underlying33 hj hy0 hy1 hy2 rfl (by decide) v8 i (vs.take i) (by simp [Act.eval, Act.put]) X8.out.1 ⟨g, i + 1, none⟩ (L - (i + 1)) (cf - (i + 1)) (vs.drop (i + 1)) (by first | (simp [Act.eval, Act.put]; done) | (simp [Act.eval, Act.put]; omega)) hL2.out (HFar.out _ X8.out.2) HOne.out.2 m1.out.2.2.1 m1.out.2.2.2 (Nat.le_trans m2.out X8.out.2.size) ?_
           intro v9 w9 hown5 hgrow5
           obtain ⟨A9, c9, rfl⟩ := L5.own_slice hown5
           have X9 := Lib.hid (cut_end hV.out hne.out X8.out ⟨hown5, hgrow5⟩)
           have cc9 := (X9.out.1.cell (p := ⟨h, 4, none⟩) hhl).trans hc0
           have cf9 := (bfrozen X9.out.1 hhl 4).trans hf0
           clear hown5 hgrow5)
        | (refine step_append_owned rfl (.tmp 5) (.tmp 11) 33 rfl w.heap.size 3 i1 (.int .i64 0) 1 8 Tryz.underlying33 hj hy0 hy1 hy2 rfl (by decide) (.slice (some ⟨w.heap.size, 0, none⟩) 0 0) 0 [] (by simp [Act.eval, Act.put]) HLit.out ⟨g, 0, none⟩ i cf (vs.take i) (by simp [Act.eval, Act.put]) hL1.out HN1'.out HOne.out.1 m1.out.1 m1.out.2.1 m2.out ?_
           intro v8 w8 hown4 hgrow4
           have X8 : Hid (w8.ownsRow w.heap.size 3 1 v8 i (vs.take i) ∧ (w.drew.alloc (.cells #[] 3)).grownBy w8 (some w.heap.size)) := ⟨by rw [Nat.zero_add] at hown4; exact hown4, hgrow4⟩
           have cc8 : w8.cell? ⟨h, 4, none⟩ = some (.slice (some ⟨g, 0, none⟩) L cf) := ((((Below.refl w.heap.size w).drew.alloc (Nat.le_refl _) _).grown hgrow4 (by rw [World.size_alloc]; exact Nat.le_succ _) (fun k e => by cases e; exact Nat.le_refl _)).cell (p := ⟨h, 4, none⟩) hhl).trans hc0
           clear hown4 hgrow4))
      all_goals
        have HMid : Hid (OutMid hd w B h tos fs (.slice (some ⟨gl, 0, none⟩) fs.length cl) i (w9.setCell ⟨h, 4, none⟩ (.slice A9 (i + (L - (i + 1))) c9))) := by
          obtain ⟨x1, x2, x3⟩ := X9.out.2 4
          rw [← HVs.out] at x2
          exact out_mid HN.out HB.out HL.out hLi (by omega) x1 x2 x3
        go_wp2
        go_meet
        case rel => exact HMid.out
  case rest =>
    obtain ⟨vt', m1, m2, m3, m4, m5⟩ := hcut
    have hV' := Lib.hid m1
    have HM2 := Lib.hid m2
    have HM4 := Lib.hid m4
    have HM5 := Lib.hid m5
    have hrow' := Lib.hid m3
    have hc' : wc.cell? ⟨h, 5, none⟩ = some (.slice (some ⟨gl, 0, none⟩) fs.length cl) := by simp only [World.cell?]; rw [m1]; rfl
    have hf' : wc.frozen? ⟨h, 5, none⟩ = false := by simp only [World.frozen?]; rw [m1]; simp
    clear m1 m2 m3 m4 m5 hc0 hf0 hV hne hrow hone hvl HVs HL hLi hLm hg2
    clear hc0' hf1'
    have hV := hV'
    have hrow := hrow'
    have hc0 := hc'
    have hf0 := hf'
    clear hV' hrow' hc' hf'
    have hne := Lib.hid term_net
    have hone : Hid (∀ u ∈ strs fs, u.oneCell' = true) := fun u hu => by obtain ⟨z, _, rfl⟩ := List.mem_map.1 hu; rfl
    obtain ⟨M, hM⟩ : ∃ M, fs.length = M := ⟨_, rfl⟩
    have hLi : i < M := by omega
    have hLm : M ≤ 1000000 := by omega
    have hg2 : M ≤ cl := by omega
    have hvl : Hid ((strs fs).length = M) := by show _ = _; rw [← hM]; simp [strs]
    rw [hM] at hc0 hrow
    have HM := Lib.hid hM
    obtain ⟨us, hus⟩ : ∃ us, strs fs = us := ⟨_, rfl⟩
    rw [hus] at hrow hone hvl
    have HUs := Lib.hid hus
    clear hM hus hlen hgl2
    have hhl : h < wc.heap.size := (Array.getElem?_eq_some_iff.1 hV.out).1
    have hV1 : Below wc.heap.size wc (wc.drew.alloc (.cells #[] 46)) := (Below.refl _ wc).drew.alloc (Nat.le_refl _) _
    have hcA : (wc.alloc (.cells #[] 46)).cell? ⟨h, 5, none⟩ = some (.slice (some ⟨gl, 0, none⟩) M cl) := (hV1.cell (p := ⟨h, 5, none⟩) hhl).trans hc0
    have HLit : Hid ((wc.drew.alloc (.cells #[] 46)).ownsRow wc.heap.size 46 1 (.slice (some ⟨wc.heap.size, 0, none⟩) 0 0) 0 []) := World.ownsRow_lit (e := 46) (base := wc.heap.size) (size := 1) wc.drew #[] 0 (Nat.le_refl _) (by unfold maxLen; omega) rfl
    have hcut := cut_facts (at_ := i) hrow.out hV1
    have HN1' := Lib.hid hcut.1
    have HFar := Lib.hid hcut.2
    have hL1 : Hid ((us.take i).length = i * 1) := by show _ = _; rw [List.length_take, hvl.out]; omega
    have hL2 : Hid ((us.drop (i + 1)).length = (M - (i + 1)) * 1) := by show _ = _; rw [List.length_drop, hvl.out]; omega
    have HOne : Hid ((∀ u ∈ us.take i, u.oneCell' = true) ∧ (∀ u ∈ us.drop (i + 1), u.oneCell' = true)) := ⟨fun u hu => hone.out u (List.mem_of_mem_take hu), fun u hu => hone.out u (List.mem_of_mem_drop hu)⟩
    have m1 : Hid (0 + i ≤ maxLen ∧ (0 + i) * 16 ≤ 140737488355328 ∧ i + (M - (i + 1)) ≤ maxLen ∧ (i + (M - (i + 1))) * 16 ≤ 140737488355328) := ⟨by unfold maxLen; omega, by omega, by unfold maxLen; omega, by omega⟩
    have m2 : Hid (wc.heap.size ≤ (wc.drew.alloc (.cells #[] 46)).heap.size) := hV1.size
    have z3 : (i : Int) ≤ (M : Int) := by omega
    have z4 : (i : Int) ≤ (cl : Int) := by omega
    have z5 : (i : Int) + 1 ≤ (M : Int) := by omega
    have z6 : (M : Int) ≤ (cl : Int) := by omega
    have z8 : (0 : Int) ≤ (i : Int) + 1 := by omega
    have z0 : (0 : Int) ≤ (i : Int) := by omega
    have hwr : IntKind.i64.wrap ((i : Int) + 1) = (i : Int) + 1 := by rw [IntKind.wrap_i64]; omega
    have htn : ((i : Int) + 1).toNat = i + 1 := by omega
    have hHN : Hid (cl = i + 1 → us.drop (i + 1) = []) := fun e => List.drop_of_length_le (by rw [hvl.out]; omega)
    clear hcut hV1
    by_cases hcap' : cl = i + 1
    · have HNil := Lib.hid (hHN.out hcap')
      subst hcap'
      have z9 : (i : Int) ≤ (i : Int) + 1 := by omega
      clear hHN
      go_wp2
      go_region_law (first
        | (refine step_append_owned rfl (.tmp 31) (.tmp 38) 34 rfl wc.heap.size 46 i0 (.string ⟨#[]⟩) 1 16 Tryz.underlying34 hi hz0 hz1 hz2 rfl (by decide) v8 i (us.take i) (by simp [Act.eval, Act.put]) X8.out.1 ⟨gl, 0, none⟩ (M - (i + 1)) 0 (us.drop (i + 1)) (by first | (simp [Act.eval, Act.put]; done) | (simp [Act.eval, Act.put]; omega)) hL2.out (fun j u hu => by rw [HNil.out] at hu; simp at hu) HOne.out.2 m1.out.2.2.1 m1.out.2.2.2 (Nat.le_trans m2.out X8.out.2.size) ?_
           intro v9 w9 hown5 hgrow5
           obtain ⟨A9, c9, rfl⟩ := L5.own_slice hown5
           have X9 := Lib.hid (cut_end hV.out hne.out X8.out ⟨hown5, hgrow5⟩)
           have cc9 := (X9.out.1.cell (p := ⟨h, 5, none⟩) hhl).trans hc0
           have cf9 := (bfrozen X9.out.1 hhl 5).trans hf0
           clear hown5 hgrow5)
        | (refine step_append_owned rfl (.tmp 24) (.tmp 30) 34 rfl wc.heap.size 46 i0 (.string ⟨#[]⟩) 1 16 Tryz.underlying34 hi hz0 hz1 hz2 rfl (by decide) (.slice (some ⟨wc.heap.size, 0, none⟩) 0 0) 0 [] (by simp [Act.eval, Act.put]) HLit.out ⟨gl, 0, none⟩ i (i + 1) (us.take i) (by simp [Act.eval, Act.put]) hL1.out HN1'.out HOne.out.1 m1.out.1 m1.out.2.1 m2.out ?_
           intro v8 w8 hown4 hgrow4
           have X8 : Hid (w8.ownsRow wc.heap.size 46 1 v8 i (us.take i) ∧ (wc.drew.alloc (.cells #[] 46)).grownBy w8 (some wc.heap.size)) := ⟨by rw [Nat.zero_add] at hown4; exact hown4, hgrow4⟩
           have cc8 : w8.cell? ⟨h, 5, none⟩ = some (.slice (some ⟨gl, 0, none⟩) M (i + 1)) := ((((Below.refl wc.heap.size wc).drew.alloc (Nat.le_refl _) _).grown hgrow4 (by rw [World.size_alloc]; exact Nat.le_succ _) (fun k e => by cases e; exact Nat.le_refl _)).cell (p := ⟨h, 5, none⟩) hhl).trans hc0
           clear hown4 hgrow4))
      all_goals
        have HF : Hid (OutOut hd w B h tos fs (.slice (some ⟨g, 0, none⟩) tos.length cf) (.slice (some ⟨gl, 0, none⟩) fs.length (i + 1)) i (.returned (.tuple #[])) (w9.setCell ⟨h, 5, none⟩ (.slice A9 (i + (M - (i + 1))) c9))) := by
          obtain ⟨x1, x2, x3⟩ := X9.out.2 5
          rw [← HUs.out] at x2
          exact out_end HN.out HB.out hil (by have := HM.out; omega) hV.out HM2.out HM4.out HM5.out x1 x2 x3
        have e0 : M - (i + 1) = 0 := by omega
        rw [e0, Nat.add_zero] at HF
        clear e0
        go_wp2
        refine bodyPost_end (results_none rfl _ _ _) rfl ?_
        exact HF.out
    · clear hHN
      go_wp2
      go_region_law (first
        | (refine step_append_owned rfl (.tmp 31) (.tmp 38) 34 rfl wc.heap.size 46 i0 (.string ⟨#[]⟩) 1 16 Tryz.underlying34 hi hz0 hz1 hz2 rfl (by decide) v8 i (us.take i) (by simp [Act.eval, Act.put]) X8.out.1 ⟨gl, i + 1, none⟩ (M - (i + 1)) (cl - (i + 1)) (us.drop (i + 1)) (by first | (simp [Act.eval, Act.put]; done) | (simp [Act.eval, Act.put]; omega)) hL2.out (HFar.out _ X8.out.2) HOne.out.2 m1.out.2.2.1 m1.out.2.2.2 (Nat.le_trans m2.out X8.out.2.size) ?_
           intro v9 w9 hown5 hgrow5
           obtain ⟨A9, c9, rfl⟩ := L5.own_slice hown5
           have X9 := Lib.hid (cut_end hV.out hne.out X8.out ⟨hown5, hgrow5⟩)
           have cc9 := (X9.out.1.cell (p := ⟨h, 5, none⟩) hhl).trans hc0
           have cf9 := (bfrozen X9.out.1 hhl 5).trans hf0
           clear hown5 hgrow5)
        | (refine step_append_owned rfl (.tmp 24) (.tmp 30) 34 rfl wc.heap.size 46 i0 (.string ⟨#[]⟩) 1 16 Tryz.underlying34 hi hz0 hz1 hz2 rfl (by decide) (.slice (some ⟨wc.heap.size, 0, none⟩) 0 0) 0 [] (by simp [Act.eval, Act.put]) HLit.out ⟨gl, 0, none⟩ i cl (us.take i) (by simp [Act.eval, Act.put]) hL1.out HN1'.out HOne.out.1 m1.out.1 m1.out.2.1 m2.out ?_
           intro v8 w8 hown4 hgrow4
           have X8 : Hid (w8.ownsRow wc.heap.size 46 1 v8 i (us.take i) ∧ (wc.drew.alloc (.cells #[] 46)).grownBy w8 (some wc.heap.size)) := ⟨by rw [Nat.zero_add] at hown4; exact hown4, hgrow4⟩
           have cc8 : w8.cell? ⟨h, 5, none⟩ = some (.slice (some ⟨gl, 0, none⟩) M cl) := ((((Below.refl wc.heap.size wc).drew.alloc (Nat.le_refl _) _).grown hgrow4 (by rw [World.size_alloc]; exact Nat.le_succ _) (fun k e => by cases e; exact Nat.le_refl _)).cell (p := ⟨h, 5, none⟩) hhl).trans hc0
           clear hown4 hgrow4))
      all_goals
        have HF : Hid (OutOut hd w B h tos fs (.slice (some ⟨g, 0, none⟩) tos.length cf) (.slice (some ⟨gl, 0, none⟩) fs.length cl) i (.returned (.tuple #[])) (w9.setCell ⟨h, 5, none⟩ (.slice A9 (i + (M - (i + 1))) c9))) := by
          obtain ⟨x1, x2, x3⟩ := X9.out.2 5
          rw [← HUs.out] at x2
          exact out_end HN.out HB.out hil (by have := HM.out; omega) hV.out HM2.out HM4.out HM5.out x1 x2 x3
        go_wp2
        refine bodyPost_end (results_none rfl _ _ _) rfl ?_
        exact HF.out
end Go.Proofs.YtiodphkmllcjdaaGreat.L7.E
end

section
namespace Go.Proofs.YtiodphkmllcjdaaGreat.L7
open Go.ChangeShapes Go.WideShapes Go.ChangeAt Go.RowKit L6

def ptrAt (g : Nat) : Value := .pointer (some ⟨g, 0, none⟩)
/-- Where all lies: each block belongs to one of five. -/
structure Tags (z : Nat) (vt vl : Value) (x y : Blk) (gx : Nat) (vox vwx : Value) (gy : Nat) (voy vwy : Value) (T : Nat → Nat) : Prop where
  net : ∀ k, E.NIn z vt vl k → T k = 0
  one : ∀ k, In4 x k → T k = 1
  two : ∀ k, In4 y k → T k = 2
  ref : ∀ k, RIn gx vox vwx k → T k = 3
  fer : ∀ k, RIn gy voy vwy k → T k = 4
structure BothAt (W : World) (B z : Nat) (x y : Blk) (gx gy n m : Nat) (s t : St) (rx ry : RSt) (vox vwx voy vwy : Value) (tos : List Nat) (fs : List Bytes) (vt vl : Value) : Prop where
  net : E.NetAt ⟨ptrAt x.g, ptrAt y.g, ptrAt gx, ptrAt gy⟩ W B z tos fs vt vl
  one : EndAt W x n s
  two : EndAt W y m t
  ref : RefAt W B gx rx vox vwx
  fer : RefAt W B gy ry voy vwy
  tags : ∃ T, Tags z vt vl x y gx vox vwx gy voy vwy T
  base : B ≤ W.heap.size
  ax : x.Above B
  ay : y.Above B
theorem EndAt.in4 {W : World} {x : Blk} {n : Nat} {s : St} (h : EndAt W x n s) {k : Nat} (hk : In4 x k) : k < W.heap.size := by
  have := h.lt
  rcases hk with rfl | rfl | rfl | rfl <;> omega
theorem RefAt.inlt {W : World} {B g : Nat} {r : RSt} {vo vw : Value} (h : RefAt W B g r vo vw) {k : Nat} (hk : RIn g vo vw k) : k < W.heap.size := by
  rcases hk with rfl | e | e
  · exact h.lt
  · exact (h.opens.lt k e).2
  · exact (h.wait.lt k e).2
theorem EndAt.keep {W W' : World} {x : Blk} {n : Nat} {s : St} (h : EndAt W x n s) (hs : ∀ k, In4 x k → W'.heap[k]? = W.heap[k]?) : EndAt W' x n s := h.same (fun k hk => hs k hk)
theorem RefAt.keep {W W' : World} {B g : Nat} {r : RSt} {vo vw : Value} (h : RefAt W B g r vo vw) (hs : ∀ k, RIn g vo vw k → W'.heap[k]? = W.heap[k]?) : RefAt W' B g r vo vw := h.same (hs g (.inl rfl)) (fun q e => hs q (.inr (.inl e))) (fun q e => hs q (.inr (.inr e)))
section
variable {W W' : World} {B z : Nat} {x y : Blk} {gx gy n m : Nat} {s t : St} {rx ry : RSt} {vox vwx voy vwy : Value} {tos : List Nat} {fs : List Bytes} {vt vl : Value}
theorem BothAt.below (h : BothAt W B z x y gx gy n m s t rx ry vox vwx voy vwy tos fs vt vl) (hb : Below W.heap.size W W') : BothAt W' B z x y gx gy n m s t rx ry vox vwx voy vwy tos fs vt vl :=
  ⟨h.net.below hb, h.one.below hb, h.two.below hb, h.ref.below hb, h.fer.below hb, h.tags, Nat.le_trans h.base hb.size, h.ax, h.ay⟩
/-- The net has changed. -/
theorem BothAt.nets (h : BothAt W B z x y gx gy n m s t rx ry vox vwx voy vwy tos fs vt vl) {T : List Nat} {F : List Bytes} {vt' vl' : Value} (hn : E.NetAt ⟨ptrAt x.g, ptrAt y.g, ptrAt gx, ptrAt gy⟩ W' B z T F vt' vl') (ho : Only (E.NIn z vt vl) W W') (hf : ∀ q, E.NIn z vt' vl' q → E.NIn z vt vl q ∨ W.heap.size ≤ q) : BothAt W' B z x y gx gy n m s t rx ry vox vwx voy vwy T F vt' vl' := by
  obtain ⟨U, hU⟩ := h.tags
  refine ⟨hn, h.one.keep (fun k hk => ho.block k (h.one.in4 hk) (fun e => ?_)), h.two.keep (fun k hk => ho.block k (h.two.in4 hk) (fun e => ?_)), h.ref.keep (fun k hk => ho.block k (h.ref.inlt hk) (fun e => ?_)), h.fer.keep (fun k hk => ho.block k (h.fer.inlt hk) (fun e => ?_)), ⟨fun k => if k < W.heap.size then U k else 0, ?_, ?_, ?_, ?_, ?_⟩, Nat.le_trans h.base ho.size, h.ax, h.ay⟩
  · have h1 := hU.net k e; have h2 := hU.one k hk; omega
  · have h1 := hU.net k e; have h2 := hU.two k hk; omega
  · have h1 := hU.net k e; have h2 := hU.ref k hk; omega
  · have h1 := hU.net k e; have h2 := hU.fer k hk; omega
  · intro k hk
    split
    · rename_i hlt
      rcases hf k hk with e | e
      · exact hU.net k e
      · omega
    · rfl
  · intro k hk; rw [if_pos (h.one.in4 hk)]; exact hU.one k hk
  · intro k hk; rw [if_pos (h.two.in4 hk)]; exact hU.two k hk
  · intro k hk; rw [if_pos (h.ref.inlt hk)]; exact hU.ref k hk
  · intro k hk; rw [if_pos (h.fer.inlt hk)]; exact hU.fer k hk
/-- One end of the program's has changed. -/
theorem BothAt.left (h : BothAt W B z x y gx gy n m s t rx ry vox vwx voy vwy tos fs vt vl) {n' : Nat} {s' : St} (he : EndAt W' x n' s') (ho : Only x.In W W') : BothAt W' B z x y gx gy n' m s' t rx ry vox vwx voy vwy tos fs vt vl := by
  obtain ⟨U, hU⟩ := h.tags
  have hx : ∀ k, x.In k → U k = 1 := fun k hk => hU.one k (In4.of hk)
  refine ⟨h.net.same (fun k hk => ho.block k (h.net.inlt hk).2 (fun e => ?_)), he, h.two.keep (fun k hk => ho.block k (h.two.in4 hk) (fun e => ?_)), h.ref.keep (fun k hk => ho.block k (h.ref.inlt hk) (fun e => ?_)), h.fer.keep (fun k hk => ho.block k (h.fer.inlt hk) (fun e => ?_)), ⟨U, hU⟩, Nat.le_trans h.base ho.size, h.ax, h.ay⟩
  · have h1 := hx k e; have h2 := hU.net k hk; omega
  · have h1 := hx k e; have h2 := hU.two k hk; omega
  · have h1 := hx k e; have h2 := hU.ref k hk; omega
  · have h1 := hx k e; have h2 := hU.fer k hk; omega
theorem BothAt.right (h : BothAt W B z x y gx gy n m s t rx ry vox vwx voy vwy tos fs vt vl) {m' : Nat} {t' : St} (he : EndAt W' y m' t') (ho : Only y.In W W') : BothAt W' B z x y gx gy n m' s t' rx ry vox vwx voy vwy tos fs vt vl := by
  obtain ⟨U, hU⟩ := h.tags
  have hx : ∀ k, y.In k → U k = 2 := fun k hk => hU.two k (In4.of hk)
  refine ⟨h.net.same (fun k hk => ho.block k (h.net.inlt hk).2 (fun e => ?_)), h.one.keep (fun k hk => ho.block k (h.one.in4 hk) (fun e => ?_)), he, h.ref.keep (fun k hk => ho.block k (h.ref.inlt hk) (fun e => ?_)), h.fer.keep (fun k hk => ho.block k (h.fer.inlt hk) (fun e => ?_)), ⟨U, hU⟩, Nat.le_trans h.base ho.size, h.ax, h.ay⟩
  · have h1 := hx k e; have h2 := hU.net k hk; omega
  · have h1 := hx k e; have h2 := hU.one k hk; omega
  · have h1 := hx k e; have h2 := hU.ref k hk; omega
  · have h1 := hx k e; have h2 := hU.fer k hk; omega
/-- One end of the document's has changed. -/
theorem BothAt.refs (h : BothAt W B z x y gx gy n m s t rx ry vox vwx voy vwy tos fs vt vl) {r' : RSt} {vo' vw' : Value} (hr : RefAt W' B gx r' vo' vw') (ho : Only (RIn gx vox vwx) W W') (h1 : Fresh W vox vo') (h2 : Fresh W vwx vw') : BothAt W' B z x y gx gy n m s t r' ry vo' vw' voy vwy tos fs vt vl := by
  obtain ⟨U, hU⟩ := h.tags
  refine ⟨h.net.same (fun k hk => ho.block k (h.net.inlt hk).2 (fun e => ?_)), h.one.keep (fun k hk => ho.block k (h.one.in4 hk) (fun e => ?_)), h.two.keep (fun k hk => ho.block k (h.two.in4 hk) (fun e => ?_)), hr, h.fer.keep (fun k hk => ho.block k (h.fer.inlt hk) (fun e => ?_)), ⟨fun k => if k < W.heap.size then U k else 3, ?_, ?_, ?_, ?_, ?_⟩, Nat.le_trans h.base ho.size, h.ax, h.ay⟩
  · have h1 := hU.ref k e; have h2 := hU.net k hk; omega
  · have h1 := hU.ref k e; have h2 := hU.one k hk; omega
  · have h1 := hU.ref k e; have h2 := hU.two k hk; omega
  · have h1 := hU.ref k e; have h2 := hU.fer k hk; omega
  · intro k hk; rw [if_pos (h.net.inlt hk).2]; exact hU.net k hk
  · intro k hk; rw [if_pos (h.one.in4 hk)]; exact hU.one k hk
  · intro k hk; rw [if_pos (h.two.in4 hk)]; exact hU.two k hk
  · intro k hk
    split
    · rename_i hlt
      rcases hk with rfl | e | e
      · exact hU.ref _ (.inl rfl)
      · rcases h1 k e with e' | e'
        · exact hU.ref k (.inr (.inl e'))
        · omega
      · rcases h2 k e with e' | e'
        · exact hU.ref k (.inr (.inr e'))
        · omega
    · rfl
  · intro k hk; rw [if_pos (h.fer.inlt hk)]; exact hU.fer k hk
theorem BothAt.fers (h : BothAt W B z x y gx gy n m s t rx ry vox vwx voy vwy tos fs vt vl) {r' : RSt} {vo' vw' : Value} (hr : RefAt W' B gy r' vo' vw') (ho : Only (RIn gy voy vwy) W W') (h1 : Fresh W voy vo') (h2 : Fresh W vwy vw') : BothAt W' B z x y gx gy n m s t rx r' vox vwx vo' vw' tos fs vt vl := by
  obtain ⟨U, hU⟩ := h.tags
  refine ⟨h.net.same (fun k hk => ho.block k (h.net.inlt hk).2 (fun e => ?_)), h.one.keep (fun k hk => ho.block k (h.one.in4 hk) (fun e => ?_)), h.two.keep (fun k hk => ho.block k (h.two.in4 hk) (fun e => ?_)), h.ref.keep (fun k hk => ho.block k (h.ref.inlt hk) (fun e => ?_)), hr, ⟨fun k => if k < W.heap.size then U k else 4, ?_, ?_, ?_, ?_, ?_⟩, Nat.le_trans h.base ho.size, h.ax, h.ay⟩
  · have h1 := hU.fer k e; have h2 := hU.net k hk; omega
  · have h1 := hU.fer k e; have h2 := hU.one k hk; omega
  · have h1 := hU.fer k e; have h2 := hU.two k hk; omega
  · have h1 := hU.fer k e; have h2 := hU.ref k hk; omega
  · intro k hk; rw [if_pos (h.net.inlt hk).2]; exact hU.net k hk
  · intro k hk; rw [if_pos (h.one.in4 hk)]; exact hU.one k hk
  · intro k hk; rw [if_pos (h.two.in4 hk)]; exact hU.two k hk
  · intro k hk; rw [if_pos (h.ref.inlt hk)]; exact hU.ref k hk
  · intro k hk
    split
    · rename_i hlt
      rcases hk with rfl | e | e
      · exact hU.fer _ (.inl rfl)
      · rcases h1 k e with e' | e'
        · exact hU.fer k (.inr (.inl e'))
        · omega
      · rcases h2 k e with e' | e'
        · exact hU.fer k (.inr (.inr e'))
        · omega
    · rfl
theorem BothAt.lows (h : BothAt W B z x y gx gy n m s t rx ry vox vwx voy vwy tos fs vt vl) : (∀ k, E.NIn z vt vl k → B ≤ k) ∧ (∀ k, x.In k → B ≤ k) ∧ (∀ k, y.In k → B ≤ k) ∧ (∀ k, RIn gx vox vwx k → B ≤ k) ∧ (∀ k, RIn gy voy vwy k → B ≤ k) := by
  obtain ⟨a1, a2, a3, a4⟩ := h.ax
  obtain ⟨b1, b2, b3, b4⟩ := h.ay
  refine ⟨fun k hk => (h.net.inlt hk).1, fun k hk => ?_, fun k hk => ?_, fun k hk => ?_, fun k hk => ?_⟩
  · rcases hk with rfl | rfl | rfl <;> assumption
  · rcases hk with rfl | rfl | rfl <;> assumption
  · rcases hk with rfl | e | e
    · exact h.ref.base
    · exact (h.ref.opens.lt k e).1
    · exact (h.ref.wait.lt k e).1
  · rcases hk with rfl | e | e
    · exact h.fer.base
    · exact (h.fer.opens.lt k e).1
    · exact (h.fer.wait.lt k e).1
/-- The struct's six cells. -/
theorem BothAt.cells (h : BothAt W B z x y gx gy n m s t rx ry vox vwx voy vwy tos fs vt vl) : W.cell? ⟨z, 0, none⟩ = some (ptrAt x.g) ∧ W.cell? ⟨z, 1, none⟩ = some (ptrAt y.g) ∧ W.cell? ⟨z, 2, none⟩ = some (ptrAt gx) ∧ W.cell? ⟨z, 3, none⟩ = some (ptrAt gy) ∧ W.cell? ⟨z, 4, none⟩ = some vt ∧ W.cell? ⟨z, 5, none⟩ = some vl := by
  have e := h.net.own
  refine ⟨?_, ?_, ?_, ?_, ?_, ?_⟩ <;> (simp only [World.cell?]; rw [e]; rfl)
end
end Go.Proofs.YtiodphkmllcjdaaGreat.L7
end

section
namespace Go.Proofs.YtiodphkmllcjdaaGreat.L7
open Go.ChangeShapes Go.WideShapes Go.ChangeAt Go.RowKit L6

theorem BothAt.highs {W : World} {B z : Nat} {x y : Blk} {gx gy n m : Nat} {s t : St} {rx ry : RSt} {vox vwx voy vwy : Value} {tos : List Nat} {fs : List Bytes} {vt vl : Value} (h : BothAt W B z x y gx gy n m s t rx ry vox vwx voy vwy tos fs vt vl) : (∀ k, E.NIn z vt vl k → k < W.heap.size) ∧ (∀ k, x.In k → k < W.heap.size) ∧ (∀ k, y.In k → k < W.heap.size) ∧ (∀ k, RIn gx vox vwx k → k < W.heap.size) ∧ (∀ k, RIn gy voy vwy k → k < W.heap.size) :=
  ⟨fun _ hk => (h.net.inlt hk).2, fun _ hk => h.one.in4 (In4.of hk), fun _ hk => h.two.in4 (In4.of hk), fun _ hk => h.ref.inlt hk, fun _ hk => h.fer.inlt hk⟩
theorem takeL_short (s : St) (rd : Rd) : (takeL s rd).1.2.1.length ≤ 20000 := by
  cases rd with
  | bad e => exact Nat.zero_le _
  | ack n => exact Nat.zero_le _
  | data n b =>
    show (dataL s n b).1.2.1.length ≤ _
    unfold dataL
    split
    · exact frame_len _ _ _ _ _
    · exact frame_len _ _ _ _ _
theorem rdrain_opens : ∀ (k : Nat) (r : RSt), (rdrain k r).2.opens = r.opens
  | 0, _ => rfl
  | k + 1, r => by
    unfold rdrain
    split
    · rfl
    · exact rdrain_opens k _
theorem rtake_opens (r : RSt) (rd : Rd) : ∀ a ∈ (rtake r rd).2.opens, a ∈ r.opens := by
  intro a ha
  cases rd with
  | bad e => exact ha
  | ack n =>
    have ha' : a ∈ (rack r n).2.opens := ha
    unfold rack at ha'
    split at ha'
    · exact ha'
    · split at ha'
      · exact ha'
      · exact (List.mem_filter.1 ha').1
  | data n b =>
    have ha' : a ∈ (rdata r n b).2.opens := ha
    unfold rdata at ha'
    split at ha'
    · exact ha'
    · split at ha'
      · exact ha'
      · rw [rdrain_opens] at ha'
        exact ha'
theorem rdrain_sent : ∀ (k : Nat) (r : RSt), (rdrain k r).2.sent = r.sent
  | 0, _ => rfl
  | k + 1, r => by
    unfold rdrain
    split
    · rfl
    · exact rdrain_sent k _
theorem rtake_sent (r : RSt) (rd : Rd) : (rtake r rd).2.sent = r.sent := by
  cases rd with
  | bad e => rfl
  | ack n =>
    show (rack r n).2.sent = _
    unfold rack
    split
    · rfl
    · split <;> rfl
  | data n b =>
    show (rdata r n b).2.sent = _
    unfold rdata
    split
    · rfl
    · split
      · rfl
      · exact rdrain_sent _ _
theorem takeL_few (s : St) (rd : Rd) : (takeL s rd).1.1.length ≤ 33 := by
  cases rd with
  | bad e => exact Nat.zero_le _
  | ack n => exact Nat.zero_le _
  | data n b =>
    show (dataL s n b).1.1.length ≤ _
    unfold dataL
    split
    · exact drain_len _ _ _
    · exact Nat.zero_le _
theorem rdrain_who : ∀ (k : Nat) (r : RSt), (rdrain k r).2.me = r.me ∧ (rdrain k r).2.peer = r.peer
  | 0, r => ⟨rfl, rfl⟩
  | k + 1, r => by
    unfold rdrain
    split
    · exact ⟨rfl, rfl⟩
    · exact rdrain_who k _
theorem rtake_who (r : RSt) (rd : Rd) : (rtake r rd).2.me = r.me ∧ (rtake r rd).2.peer = r.peer := by
  cases rd with
  | bad e => exact ⟨rfl, rfl⟩
  | ack n =>
    show (rack r n).2.me = r.me ∧ (rack r n).2.peer = r.peer
    unfold rack
    split
    · exact ⟨rfl, rfl⟩
    · split <;> exact ⟨rfl, rfl⟩
  | data n b =>
    show (rdata r n b).2.me = r.me ∧ (rdata r n b).2.peer = r.peer
    unfold rdata
    split
    · exact ⟨rfl, rfl⟩
    · split
      · exact ⟨rfl, rfl⟩
      · exact rdrain_who _ _
theorem rsend_who (r : RSt) (b : Bytes) : (rsend r b).2.me = r.me ∧ (rsend r b).2.peer = r.peer := by
  unfold rsend
  split
  · exact ⟨rfl, rfl⟩
  · split
    · exact ⟨rfl, rfl⟩
    · split <;> exact ⟨rfl, rfl⟩
/-- Both answer alike: what holds between the acts. -/
structure Alike (s t : St) (rx ry : RSt) (fs : List Bytes) (n m c : Nat) : Prop where
  one : Sim s rx
  two : Sim t ry
  few : ∀ f ∈ fs, f.length ≤ 20000
  w1 : rx.wait.length ≤ c
  w2 : ry.wait.length ≤ c
  n1 : n ≤ c
  n2 : m ≤ c
  s1 : rx.sent ≤ c
  s2 : ry.sent ≤ c
  b1 : ∀ a ∈ rx.opens, a.2.length ≤ 100
  b2 : ∀ a ∈ ry.opens, a.2.length ≤ 100
  who : rx.me = 1 ∧ rx.peer = 2
/-- What an act leaves: true, and all as it should be. -/
def DidOut (w : World) (B z : Nat) (x y : Blk) (gx gy len c : Nat) (e : Ending) (w' : World) : Prop :=
  e = .returned (.bool true) ∧ Below B w w' ∧ ∃ n m s t rx ry vox vwx voy vwy tos fs vt vl, BothAt w' B z x y gx gy n m s t rx ry vox vwx voy vwy tos fs vt vl ∧ Alike s t rx ry fs n m c ∧ fs.length ≤ len ∧ ∀ k ∈ tos, k = 1 ∨ k = 2
set_option maxRecDepth 100000 in
set_option maxHeartbeats 8000000 in
theorem come_one {w : World} {B z : Nat} {x y : Blk} {gx gy n m : Nat} {s t : St} {rx ry : RSt} {vox vwx voy vwy : Value} {tos : List Nat} {fs : List Bytes} {vt vl : Value} {c : Nat} (h : BothAt w B z x y gx gy n m s t rx ry vox vwx voy vwy tos fs vt vl) (hf : Alike s t rx ry fs n m c) (ht : ∀ k ∈ tos, k = 1 ∨ k = 2) (hc : c ≤ 400) (hfl : fs.length ≤ 100000) (f : Bytes) (hfs : f.length ≤ 20000) :
    Calls Tryz.prog 24 #[.pointer (some ⟨z, 0, none⟩), .int .i64 1, .string ⟨f.toArray⟩] w (DidOut w B z x y gx gy (fs.length + 1) (c + 1)) := by
  obtain ⟨z0, z1, z2, z3, z4, z5⟩ := h.cells
  unfold ptrAt at z0 z1 z2 z3
  have HT := Lib.hid (take_calls h.one f (by unfold maxLen; omega) (by have := hf.n1; unfold maxLen; omega))
  have HH := Lib.hid h
  have HF := Lib.hid hf
  have HTo := Lib.hid ht
  have hok := h.one.ok
  have HRT : Hid (∀ V, RefAt V B gx rx vox vwx → B ≤ V.heap.size → Calls Tryz.prog 45 #[.pointer (some ⟨gx, 0, none⟩), .string ⟨f.toArray⟩] V (RTakeOut V B gx rx vox vwx f)) := fun V hV hBV =>
    rtake_calls hV hBV (by rw [← hf.one.me]; exact hok.me1) (by rw [← hf.one.me]; exact hok.me8) (by rw [← hf.one.peer]; exact hok.peer8) (by rw [← hf.one.len]; exact hok.room) (by have := hf.w1; omega) (by rw [← hf.one.taken]; exact hok.taken) f (by unfold maxLen; omega)
  clear h hf ht
  go_enter Tryz.func24, Tryz.ntmps24
  go_wp2_with fail
  refine HT.out.mono ?_
  rintro e w1 ⟨rd, hrd, v9, rfl, r9, e9, o9⟩
  have hsim := sim_take HF.out.one hok rd
  have h1 := HH.out.left e9 o9
  have HO1 := Lib.hid o9
  have HR9 := Lib.hid r9
  have HC := Lib.hid (HRT.out w1 h1.ref (Nat.le_trans HH.out.base o9.size))
  have H1 := Lib.hid h1
  have HRd := Lib.hid hrd
  have HSim := Lib.hid hsim
  obtain ⟨z0, z1, z2, z3, z4, z5⟩ := h1.cells
  clear r9 e9 o9 h1 hrd hsim HT HRT
  go_wp2_with fail
  refine HC.out.mono ?_
  rintro e w2 ⟨rd', hrd', v12, vo', vw', rfl, r12, f12, o12, q1, q2⟩
  obtain rfl : rd = rd' := by
    refine reads_one HRd.out ?_
    rw [HF.out.one.me, HF.out.one.peer]
    exact hrd'
  rw [HSim.out.1] at r12
  rw [HSim.out.1]
  have h2 := H1.out.refs f12 o12 q1 q2
  have HB2 := Lib.hid (Only.below (Only.below (Below.refl B w) HO1.out HH.out.base HH.out.lows.2.1) o12 (Nat.le_trans HH.out.base HO1.out.size) HH.out.lows.2.2.2.1)
  obtain ⟨rep, hrep⟩ : ∃ rep, (takeL s rd).1.2.1 = rep := ⟨_, rfl⟩
  obtain ⟨er, her⟩ : ∃ er, (takeL s rd).1.2.2 = er := ⟨_, rfl⟩
  obtain ⟨ls, hls⟩ : ∃ ls, (takeL s rd).1.1 = ls := ⟨_, rfl⟩
  have hreplen : rep.length ≤ 20000 := by rw [← hrep]; exact takeL_short s rd
  have hls33 : ls.length ≤ 1000 := by rw [← hls]; exact Nat.le_trans (takeL_few s rd) (by decide)
  have HR9 := HR9.out
  rw [hls] at HR9 r12
  rw [hrep, her]
  have r9' : w2.ownsRow w.heap.size 46 1 v9 ls.length (strs ls) := row_only HR9 o12 (fun q e e' => by
    have k1 := (HR9.lt q e).1
    have k2 := HH.out.ref.inlt e'
    omega)
  have hbA : Below w2.heap.size w2 (w2.alloc (.cells #[.string ⟨rep.toArray⟩] 46)) := (Below.refl _ w2).alloc (Nat.le_refl _) _
  have hsr := srow_one (World.alloc_heap_new w2 (.cells #[.string ⟨rep.toArray⟩] 46))
  have hA := h2.below hbA
  have HAdd := Lib.hid (E.add_calls hA.net hA.base 2 [rep] hsr (fun ad e e' => by
    cases e
    have := (h2.net.inlt e').2
    exact Nat.lt_irrefl _ this) (by simp; omega))
  have H2 := Lib.hid (And.intro h2 (And.intro hA hbA))
  have HRows := Lib.hid (And.intro r9' r12)
  have HSz := Lib.hid (And.intro HO1.out.size o12.size)
  have HAl := Lib.hid (And.intro hreplen hls33)
  obtain ⟨z0, z1, z2, z3, z4, z5⟩ := h2.cells
  clear r9' r12 h2 hA hbA hsr f12 o12 hrd' q1 q2 HC HR9 hreplen hls33
  go_wp2_with fail
  refine HAdd.out.mono ?_
  rintro e w4 ⟨rfl, vt', vl', hn4, o4, hf4⟩
  have h4 := H2.out.2.1.nets hn4 o4 hf4
  have hszA : w.heap.size ≤ w2.heap.size := Nat.le_trans HSz.out.1 HSz.out.2
  have hB4 : Below B w w4 := Only.below (HB2.out.trans (H2.out.2.2.mono (Nat.le_trans HH.out.base hszA))) o4 H2.out.2.1.base HH.out.lows.1
  have hfs4 : (fs ++ E.laid [rep]).length ≤ fs.length + 1 := by
    rw [List.length_append]
    have : (E.laid [rep]).length ≤ 1 := by unfold E.laid; exact Nat.le_trans (List.length_filter_le _ _) (by simp)
    omega
  have hal : Alike (takeL s rd).2 t (rtake rx rd).2 ry (fs ++ E.laid [rep]) (n + 1) m (c + 1) := by
    obtain ⟨a1, a2, a3, a4, a5, a6, a7, t1, t2, a8, a9, a10⟩ := HF.out
    have hw := HSim.out.2.2
    refine ⟨HSim.out.2.1, a2, ?_, by omega, by omega, by omega, by omega, by rw [rtake_sent]; omega, by omega, fun a ha => a8 a (rtake_opens _ _ a ha), a9, (rtake_who _ _).1.trans a10.1, (rtake_who _ _).2.trans a10.2⟩
    intro g hg
    rcases List.mem_append.1 hg with hg | hg
    · exact a3 g hg
    · have hm : g ∈ [rep] := (List.mem_filter.1 hg).1
      rw [List.mem_singleton] at hm
      rw [hm]
      exact HAl.out.1
  have htos : ∀ k ∈ tos ++ E.tosOf 2 [rep], k = 1 ∨ k = 2 := by
    intro k hk
    rcases List.mem_append.1 hk with hk | hk
    · exact HTo.out k hk
    · unfold E.tosOf at hk
      obtain ⟨_, _, rfl⟩ := List.mem_map.1 hk
      exact .inr rfl
  have HFin : Hid (∀ k, DidOut w B z x y gx gy (fs.length + 1) (c + 1) (.returned (.bool true)) (w4.drewN k)) := fun k =>
    ⟨rfl, L5.below_drewN hB4 k, _, _, _, _, _, _, _, _, _, _, _, _, _, _, h4.below (L5.below_drewN (Below.refl _ _) k), hal, hfs4, htos⟩
  have hnot : ∀ q, w.heap.size ≤ q → ¬ E.NIn z vt vl q := fun q hq e' => by
    have := (HH.out.net.inlt e').2
    omega
  have r9'' : w4.ownsRow w.heap.size 46 1 v9 ls.length (strs ls) := row_only (L5.own_below HRows.out.1 H2.out.2.2) o4 (fun q e => hnot q (HRows.out.1.lt q e).1)
  have r12'' : w4.ownsRow w1.heap.size 9 1 v12 ls.length (strs ls) := row_only (L5.own_below HRows.out.2 H2.out.2.2) o4 (fun q e => hnot q (Nat.le_trans HSz.out.1 (HRows.out.2.lt q e).1))
  have HS := Lib.hid (same_calls (ba ls) v9 v12 w4 (srow_row r9'') (srow_row r12'') (by rw [ba_length]; have := HAl.out.2; omega))
  clear h4 hB4 hfs4 hal htos hnot r9'' r12'' hn4 o4 hf4 H2 HRows HB2 HAdd z0 z1 z2 z3 z4 z5 hrep her hls
  go_wp2_with fail
  refine HS.out.mono ?_
  rintro e w5 ⟨rfl, k, rfl⟩
  have HF2 := Lib.hid (HFin.out k)
  clear HFin HS
  go_wp2
  go_ret
  exact HF2.out
end Go.Proofs.YtiodphkmllcjdaaGreat.L7
end

section
namespace Go.Proofs.YtiodphkmllcjdaaGreat.L7
open Go.ChangeShapes Go.WideShapes Go.ChangeAt Go.RowKit L6

set_option maxRecDepth 100000 in
set_option maxHeartbeats 8000000 in
theorem come_two {w : World} {B z : Nat} {x y : Blk} {gx gy n m : Nat} {s t : St} {rx ry : RSt} {vox vwx voy vwy : Value} {tos : List Nat} {fs : List Bytes} {vt vl : Value} {c : Nat} (h : BothAt w B z x y gx gy n m s t rx ry vox vwx voy vwy tos fs vt vl) (hf : Alike s t rx ry fs n m c) (ht : ∀ k ∈ tos, k = 1 ∨ k = 2) (hc : c ≤ 400) (hfl : fs.length ≤ 100000) (f : Bytes) (hfs : f.length ≤ 20000) :
    Calls Tryz.prog 24 #[.pointer (some ⟨z, 0, none⟩), .int .i64 2, .string ⟨f.toArray⟩] w (DidOut w B z x y gx gy (fs.length + 1) (c + 1)) := by
  obtain ⟨z0, z1, z2, z3, z4, z5⟩ := h.cells
  unfold ptrAt at z0 z1 z2 z3
  have HT := Lib.hid (take_calls h.two f (by unfold maxLen; omega) (by have := hf.n2; unfold maxLen; omega))
  have HH := Lib.hid h
  have HF := Lib.hid hf
  have HTo := Lib.hid ht
  have hok := h.two.ok
  have HRT : Hid (∀ V, RefAt V B gy ry voy vwy → B ≤ V.heap.size → Calls Tryz.prog 45 #[.pointer (some ⟨gy, 0, none⟩), .string ⟨f.toArray⟩] V (RTakeOut V B gy ry voy vwy f)) := fun V hV hBV =>
    rtake_calls hV hBV (by rw [← hf.two.me]; exact hok.me1) (by rw [← hf.two.me]; exact hok.me8) (by rw [← hf.two.peer]; exact hok.peer8) (by rw [← hf.two.len]; exact hok.room) (by have := hf.w2; omega) (by rw [← hf.two.taken]; exact hok.taken) f (by unfold maxLen; omega)
  clear h hf ht
  go_enter Tryz.func24, Tryz.ntmps24
  go_wp2_with fail
  refine HT.out.mono ?_
  rintro e w1 ⟨rd, hrd, v9, rfl, r9, e9, o9⟩
  have hsim := sim_take HF.out.two hok rd
  have h1 := HH.out.right e9 o9
  have HO1 := Lib.hid o9
  have HR9 := Lib.hid r9
  have HC := Lib.hid (HRT.out w1 h1.fer (Nat.le_trans HH.out.base o9.size))
  have H1 := Lib.hid h1
  have HRd := Lib.hid hrd
  have HSim := Lib.hid hsim
  obtain ⟨z0, z1, z2, z3, z4, z5⟩ := h1.cells
  clear r9 e9 o9 h1 hrd hsim HT HRT
  go_wp2_with fail
  refine HC.out.mono ?_
  rintro e w2 ⟨rd', hrd', v12, vo', vw', rfl, r12, f12, o12, q1, q2⟩
  obtain rfl : rd = rd' := by
    refine reads_one HRd.out ?_
    rw [HF.out.two.me, HF.out.two.peer]
    exact hrd'
  rw [HSim.out.1] at r12
  rw [HSim.out.1]
  have h2 := H1.out.fers f12 o12 q1 q2
  have HB2 := Lib.hid (Only.below (Only.below (Below.refl B w) HO1.out HH.out.base HH.out.lows.2.2.1) o12 (Nat.le_trans HH.out.base HO1.out.size) HH.out.lows.2.2.2.2)
  obtain ⟨rep, hrep⟩ : ∃ rep, (takeL t rd).1.2.1 = rep := ⟨_, rfl⟩
  obtain ⟨er, her⟩ : ∃ er, (takeL t rd).1.2.2 = er := ⟨_, rfl⟩
  obtain ⟨ls, hls⟩ : ∃ ls, (takeL t rd).1.1 = ls := ⟨_, rfl⟩
  have hreplen : rep.length ≤ 20000 := by rw [← hrep]; exact takeL_short t rd
  have hls33 : ls.length ≤ 1000 := by rw [← hls]; exact Nat.le_trans (takeL_few t rd) (by decide)
  have HR9 := HR9.out
  rw [hls] at HR9 r12
  rw [hrep, her]
  have r9' : w2.ownsRow w.heap.size 46 1 v9 ls.length (strs ls) := row_only HR9 o12 (fun q e e' => by
    have k1 := (HR9.lt q e).1
    have k2 := HH.out.fer.inlt e'
    omega)
  have hbA : Below w2.heap.size w2 (w2.alloc (.cells #[.string ⟨rep.toArray⟩] 46)) := (Below.refl _ w2).alloc (Nat.le_refl _) _
  have hsr := srow_one (World.alloc_heap_new w2 (.cells #[.string ⟨rep.toArray⟩] 46))
  have hA := h2.below hbA
  have HAdd := Lib.hid (E.add_calls hA.net hA.base 1 [rep] hsr (fun ad e e' => by
    cases e
    have := (h2.net.inlt e').2
    exact Nat.lt_irrefl _ this) (by simp; omega))
  have H2 := Lib.hid (And.intro h2 (And.intro hA hbA))
  have HRows := Lib.hid (And.intro r9' r12)
  have HSz := Lib.hid (And.intro HO1.out.size o12.size)
  have HAl := Lib.hid (And.intro hreplen hls33)
  obtain ⟨z0, z1, z2, z3, z4, z5⟩ := h2.cells
  clear r9' r12 h2 hA hbA hsr f12 o12 hrd' q1 q2 HC HR9 hreplen hls33
  go_wp2_with fail
  refine HAdd.out.mono ?_
  rintro e w4 ⟨rfl, vt', vl', hn4, o4, hf4⟩
  have h4 := H2.out.2.1.nets hn4 o4 hf4
  have hszA : w.heap.size ≤ w2.heap.size := Nat.le_trans HSz.out.1 HSz.out.2
  have hB4 : Below B w w4 := Only.below (HB2.out.trans (H2.out.2.2.mono (Nat.le_trans HH.out.base hszA))) o4 H2.out.2.1.base HH.out.lows.1
  have hfs4 : (fs ++ E.laid [rep]).length ≤ fs.length + 1 := by
    rw [List.length_append]
    have : (E.laid [rep]).length ≤ 1 := by unfold E.laid; exact Nat.le_trans (List.length_filter_le _ _) (by simp)
    omega
  have hal : Alike s (takeL t rd).2 rx (rtake ry rd).2 (fs ++ E.laid [rep]) n (m + 1) (c + 1) := by
    obtain ⟨a1, a2, a3, a4, a5, a6, a7, t1, t2, a8, a9, a10⟩ := HF.out
    have hw := HSim.out.2.2
    refine ⟨a1, HSim.out.2.1, ?_, by omega, by omega, by omega, by omega, by omega, by rw [rtake_sent]; omega, a8, fun a ha => a9 a (rtake_opens _ _ a ha), a10⟩
    intro g hg
    rcases List.mem_append.1 hg with hg | hg
    · exact a3 g hg
    · have hm : g ∈ [rep] := (List.mem_filter.1 hg).1
      rw [List.mem_singleton] at hm
      rw [hm]
      exact HAl.out.1
  have htos : ∀ k ∈ tos ++ E.tosOf 1 [rep], k = 1 ∨ k = 2 := by
    intro k hk
    rcases List.mem_append.1 hk with hk | hk
    · exact HTo.out k hk
    · unfold E.tosOf at hk
      obtain ⟨_, _, rfl⟩ := List.mem_map.1 hk
      exact .inl rfl
  have HFin : Hid (∀ k, DidOut w B z x y gx gy (fs.length + 1) (c + 1) (.returned (.bool true)) (w4.drewN k)) := fun k =>
    ⟨rfl, L5.below_drewN hB4 k, _, _, _, _, _, _, _, _, _, _, _, _, _, _, h4.below (L5.below_drewN (Below.refl _ _) k), hal, hfs4, htos⟩
  have hnot : ∀ q, w.heap.size ≤ q → ¬ E.NIn z vt vl q := fun q hq e' => by
    have := (HH.out.net.inlt e').2
    omega
  have r9'' : w4.ownsRow w.heap.size 46 1 v9 ls.length (strs ls) := row_only (L5.own_below HRows.out.1 H2.out.2.2) o4 (fun q e => hnot q (HRows.out.1.lt q e).1)
  have r12'' : w4.ownsRow w1.heap.size 9 1 v12 ls.length (strs ls) := row_only (L5.own_below HRows.out.2 H2.out.2.2) o4 (fun q e => hnot q (Nat.le_trans HSz.out.1 (HRows.out.2.lt q e).1))
  have HS := Lib.hid (same_calls (ba ls) v9 v12 w4 (srow_row r9'') (srow_row r12'') (by rw [ba_length]; have := HAl.out.2; omega))
  clear h4 hB4 hfs4 hal htos hnot r9'' r12'' hn4 o4 hf4 H2 HRows HB2 HAdd z0 z1 z2 z3 z4 z5 hrep her hls
  go_wp2_with fail
  refine HS.out.mono ?_
  rintro e w5 ⟨rfl, k, rfl⟩
  have HF2 := Lib.hid (HFin.out k)
  clear HFin HS
  go_wp2
  go_ret
  exact HF2.out
end Go.Proofs.YtiodphkmllcjdaaGreat.L7
end
