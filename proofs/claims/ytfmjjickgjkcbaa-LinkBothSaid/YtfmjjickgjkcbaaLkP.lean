/- LinkOrder, pure: what is taken is the beginning of what was sent. LinkOrder, pure: when all that lies in the net has come, nothing is open. LinkOrder, pure: what lies in the net. LinkOrder: one frame comes. The statements' acts, as they lie in memory. (Made by tools/genacts.py.) LinkOrder: all that is known between two acts, and how each act keeps it. LinkOrder: what each call leaves of all that is known. -/
import Derived.Test.YtfmjjickgjkcbaaLkO
section
namespace Go.Proofs.Ytfmjjickgjkcbaa.L7
open Go.ChangeShapes Go.WideShapes Go.ChangeAt Go.RowKit L6

/-- The frames behind the c-th. -/
def openF (sent : List Bytes) (c : Nat) : List Bytes := ((List.range sent.length).map fun i => dataF 1 2 (i + 1) (sent.getD i [])).drop c
theorem openF_len (sent : List Bytes) (c : Nat) : (openF sent c).length = sent.length - c := by simp [openF]
theorem openF_drop (sent : List Bytes) (c k : Nat) : (openF sent c).drop k = openF sent (c + k) := by simp [openF]
theorem openF_get {sent : List Bytes} {c i : Nat} {b : Bytes} (h : sent[c + i]? = some b) : (openF sent c)[i]? = some (dataF 1 2 (c + i + 1) b) := by
  have hl := (List.getElem?_eq_some_iff.1 h).1
  simp [openF, List.getElem?_drop, List.getElem?_map, List.getElem?_range hl, h]
theorem range_more (g : Nat → Bytes → Bytes) (sent : List Bytes) (b : Bytes) : (List.range (sent.length + 1)).map (fun i => g i ((sent ++ [b]).getD i [])) = (List.range sent.length).map (fun i => g i (sent.getD i [])) ++ [g sent.length b] := by
  rw [List.range_succ, List.map_append]
  have e1 : (List.range sent.length).map (fun i => g i ((sent ++ [b]).getD i [])) = (List.range sent.length).map (fun i => g i (sent.getD i [])) := by
    apply List.map_congr_left
    intro i hi
    rw [List.mem_range] at hi
    rw [List.getD_eq_getElem?_getD, List.getD_eq_getElem?_getD, List.getElem?_append_left hi]
  rw [e1]
  simp
theorem openF_more (sent : List Bytes) (b : Bytes) {c : Nat} (hc : c ≤ sent.length) : openF (sent ++ [b]) c = openF sent c ++ [dataF 1 2 (sent.length + 1) b] := by
  have e : (sent ++ [b]).length = sent.length + 1 := by simp
  unfold openF
  rw [e, range_more (fun i b => dataF 1 2 (i + 1) b) sent b, List.drop_append_of_le_length (by rw [List.length_map, List.length_range]; exact hc)]
theorem openF_mem {sent : List Bytes} {c : Nat} {f : Bytes} (h : f ∈ openF sent c) : ∃ n b, sent[n]? = some b ∧ f = dataF 1 2 (n + 1) b := by
  have h' := List.mem_of_mem_drop h
  rw [List.mem_map] at h'
  obtain ⟨i, hi, rfl⟩ := h'
  rw [List.mem_range] at hi
  exact ⟨i, sent[i], List.getElem?_eq_getElem hi, by simp [hi]⟩
theorem drain_sent {sent : List Bytes} {k T : Nat} {w : Nat → Option Bytes} (h : ∀ n b, w n = some b → T < n → sent[n - 1]? = some b) : drain k T w = (sent.drop T).take (drain k T w).length := by
  apply List.ext_getElem?
  intro i
  by_cases hi : i < (drain k T w).length
  · rw [List.getElem?_take_of_lt hi, List.getElem?_drop]
    have h1 := drain_get k T w i hi
    rw [List.getElem?_eq_getElem hi] at h1 ⊢
    have := h _ _ h1 (by omega)
    rw [show T + 1 + i - 1 = T + i by omega] at this
    exact this.symm
  · rw [List.getElem?_eq_none (by omega), List.getElem?_eq_none (by simp; omega)]
theorem drain_within {sent : List Bytes} {k T : Nat} {w : Nat → Option Bytes} (h : ∀ n b, w n = some b → T < n → sent[n - 1]? = some b) (hT : T ≤ sent.length) : T + (drain k T w).length ≤ sent.length := by
  have e := congrArg List.length (drain_sent (k := k) h)
  simp only [List.length_take, List.length_drop] at e
  omega
structure Ordr (sent : List Bytes) (s t : St) : Prop where
  me : s.me = 1 ∧ s.peer = 2 ∧ t.me = 2 ∧ t.peer = 1
  snt : s.sent = sent.length
  small : ∀ b ∈ sent, SmallB b
  come : ∃ c, c ≤ t.taken ∧ s.opens = openF sent c
  taken : t.taken ≤ sent.length
  wait : ∀ n b, t.wait n = some b → t.taken < n ∧ sent[n - 1]? = some b
/-- What may lie in the net. -/
def FrOk (sent : List Bytes) (taken to : Nat) (f : Bytes) : Prop := (to = 2 ∧ ∃ n b, sent[n]? = some b ∧ f = dataF 1 2 (n + 1) b) ∨ (to = 1 ∧ ∃ k, k ≤ taken ∧ f = ackF 2 1 k)
theorem FrOk.more {sent : List Bytes} {taken taken' to : Nat} {f : Bytes} (h : FrOk sent taken to f) (l : List Bytes) (ht : taken ≤ taken') : FrOk (sent ++ l) taken' to f := by
  rcases h with ⟨e, n, b, h1, h2⟩ | ⟨e, k, h1, h2⟩
  · exact .inl ⟨e, n, b, by rw [List.getElem?_append_left (List.getElem?_eq_some_iff.1 h1).1]; exact h1, h2⟩
  · exact .inr ⟨e, k, by omega, h2⟩
theorem Ordr.ack {sent : List Bytes} {s t : St} (h : Ordr sent s t) {k : Nat} (hk : k ≤ t.taken) : Ordr sent (ackL s k).2 t := by
  obtain ⟨c, h1, h2⟩ := h.come
  have ht := h.taken
  have hs := h.snt
  have hc : s.come = c := by unfold St.come; rw [h2, openF_len, hs]; omega
  unfold ackL
  split
  · exact h
  · split
    · exact h
    · refine ⟨h.me, hs, h.small, ⟨k, hk, ?_⟩, ht, h.wait⟩
      show s.opens.drop (k - s.come) = _
      rename_i a1 a2
      rw [h2, openF_drop, hc, show c + (k - c) = k by omega]
theorem Ordr.data {sent : List Bytes} {s t : St} (h : Ordr sent s t) (hok : t.Ok) {n : Nat} {b : Bytes} (hb : sent[n]? = some b) :
    Ordr sent s (dataL t (n + 1) b).2 ∧ t.taken ≤ (dataL t (n + 1) b).2.taken ∧ sent.take (dataL t (n + 1) b).2.taken = sent.take t.taken ++ (dataL t (n + 1) b).1.1 ∧ (n = t.taken → t.taken < (dataL t (n + 1) b).2.taken) := by
  have hl := (List.getElem?_eq_some_iff.1 hb).1
  unfold dataL
  split
  · rename_i c
    obtain ⟨k1, k2, k3, k4⟩ := waitL_ok c
    rw [k4]
    have hw : ∀ x y, putW t.wait (n + 1) b x = some y → t.taken < x ∧ sent[x - 1]? = some y := by
      intro x y hx
      unfold putW at hx
      split at hx
      · rename_i e
        cases hx
        subst e
        exact ⟨k1, hb⟩
      · exact h.wait x y hx
    have hd := drain_sent (k := 33) (T := t.taken) (w := putW t.wait (n + 1) b) (fun x y e _ => (hw x y e).2)
    have hi := drain_within (k := 33) (T := t.taken) (w := putW t.wait (n + 1) b) (fun x y e _ => (hw x y e).2) h.taken
    refine ⟨⟨h.me, h.snt, h.small, ?_, hi, ?_⟩, ?_, ?_, ?_⟩
    · obtain ⟨c, h1, h2⟩ := h.come
      exact ⟨c, Nat.le_trans h1 (Nat.le_add_right _ _), h2⟩
    · intro x y hx
      have hx' : (if x ≤ t.taken + (drain 33 t.taken (putW t.wait (n + 1) b)).length then none else putW t.wait (n + 1) b x) = some y := hx
      split at hx'
      · simp at hx'
      · rename_i a
        exact ⟨by show t.taken + (drain 33 t.taken (putW t.wait (n + 1) b)).length < x; omega, (hw x y hx').2⟩
    · exact Nat.le_add_right _ _
    · show sent.take (t.taken + _) = sent.take t.taken ++ drain 33 t.taken (putW t.wait (n + 1) b)
      rw [List.take_add]
      congr 1
      exact hd.symm
    · intro e
      show t.taken < t.taken + (drain 33 t.taken (putW t.wait (n + 1) b)).length
      subst e
      have e1 : putW t.wait (t.taken + 1) b (t.taken + 1) = some b := by unfold putW; rw [if_pos rfl]
      unfold drain
      rw [e1]
      simp
  · refine ⟨h, Nat.le_refl _, by simp, fun e => ?_⟩
    rename_i c
    exfalso
    apply c
    unfold waitL
    have hn : t.wait (n + 1) = none := by
      cases hw : t.wait (n + 1) with
      | none => rfl
      | some y => have := (hok.waits _ _ hw).1; omega
    rw [if_neg (by omega), if_neg (by omega), hn]
    rfl
theorem Ordr.start : Ordr [] (newL 1 2) (newL 2 1) := ⟨⟨rfl, rfl, rfl, rfl⟩, rfl, by simp, ⟨0, Nat.le_refl _, rfl⟩, by simp [newL], by simp [newL]⟩
theorem Ordr.send {sent : List Bytes} {s t : St} (h : Ordr sent s t) (hok : s.Ok) {b : Bytes} (hb : SmallB b) (hs : s.sent < 2147483647) (hr : s.opens.length < 64) :
    (sendL s b).1 = (dataF 1 2 (sent.length + 1) b, 0) ∧ Ordr (sent ++ [b]) (sendL s b).2 t := by
  obtain ⟨m1, m2, m3, m4⟩ := h.me
  obtain ⟨c, h1, h2⟩ := h.come
  have e := sendL_small hok hb hs hr
  have e0 := h.snt
  rw [m1, m2, e0] at e
  rw [e]
  refine ⟨rfl, ⟨⟨rfl, rfl, m3, m4⟩, by simp, ?_, ⟨c, h1, ?_⟩, by have := h.taken; simp; omega, fun n y hn => ?_⟩⟩
  · intro y hy
    rcases List.mem_append.1 hy with hy | hy
    · exact h.small y hy
    · simp at hy
      rw [hy]
      exact hb
  · show s.opens ++ _ = _
    rw [h2, openF_more _ _ (Nat.le_trans h1 h.taken)]
  · obtain ⟨k1, k2⟩ := h.wait n y hn
    exact ⟨k1, by rw [List.getElem?_append_left (List.getElem?_eq_some_iff.1 k2).1]; exact k2⟩
/-- An ack of all that was sent has come: nothing is open. -/
theorem Ordr.ack_all {sent : List Bytes} {s t : St} (h : Ordr sent s t) (ht : t.taken = sent.length) : (ackL s sent.length).2.opens = [] := by
  obtain ⟨c, h1, h2⟩ := h.come
  have hs := h.snt
  have hl := h.taken
  have hc : s.come = c := by unfold St.come; rw [h2, openF_len, hs]; omega
  unfold ackL
  rw [if_neg (by omega)]
  split
  · show s.opens = []
    rw [h2]
    exact List.eq_nil_of_length_eq_zero (by rw [openF_len]; omega)
  · show s.opens.drop _ = []
    rw [h2, openF_drop, hc]
    exact List.eq_nil_of_length_eq_zero (by rw [openF_len]; omega)
end Go.Proofs.Ytfmjjickgjkcbaa.L7
end

section
namespace Go.Proofs.Ytfmjjickgjkcbaa.L7
open Go.ChangeShapes Go.WideShapes Go.ChangeAt Go.RowKit L6

def toTwo (l : List Bytes) : List (Nat × Bytes) := l.map fun f => (2, f)
/-- Nothing is open, or the ack of all is under way, or all that is missed is, in its order. -/
def Jn (sent : List Bytes) (s t : St) (net : List (Nat × Bytes)) : Prop :=
  s.opens = [] ∨ (t.taken = sent.length ∧ (1, ackF 2 1 sent.length) ∈ net) ∨ ∃ c, c < sent.length ∧ c ≤ t.taken ∧ (toTwo (openF sent c)).Sublist net
theorem openF_cons {sent : List Bytes} {c : Nat} (h : c < sent.length) : openF sent c = dataF 1 2 (c + 1) sent[c] :: openF sent (c + 1) := by
  have h1 := openF_get (sent := sent) (c := c) (i := 0) (b := sent[c]) (List.getElem?_eq_getElem h)
  rw [← openF_drop sent c 1]
  match ho : openF sent c, h1 with
  | [], h1 => simp at h1
  | y :: l, h1 =>
    simp only [List.getElem?_cons_zero, Option.some.injEq] at h1
    rw [h1]
    rfl
set_option maxRecDepth 100000 in
theorem data_inj {n c : Nat} {b b' : Bytes} (hn : n < 2147483647) (hc : c < 2147483647) (hb : SmallB b) (hb' : SmallB b') (h : dataF 1 2 (n + 1) b = dataF 1 2 (c + 1) b') : n = c := by
  have h1 := (data_frame (p := 1) (q := 2) (n := n + 1) (b := b) (by omega) (by omega) (by omega) (by omega) (by omega) (by omega) hb).2.2
  have h2 := (data_frame (p := 1) (q := 2) (n := c + 1) (b := b') (by omega) (by omega) (by omega) (by omega) (by omega) (by omega) hb').2.2
  rw [← h] at h2
  have e := (Rd.data.inj (reads_one h1 h2)).1
  clear h h1 h2
  omega
set_option maxRecDepth 100000 in
theorem ack_inj {n c : Nat} (hn : n ≤ 2147483647) (hc : c ≤ 2147483647) (h : ackF 2 1 n = ackF 2 1 c) : n = c := by
  have h1 := (ack_frame (p := 2) (q := 1) (n := n) (by omega) (by omega) (by omega) (by omega) (by omega)).2.2
  have h2 := (ack_frame (p := 2) (q := 1) (n := c) (by omega) (by omega) (by omega) (by omega) (by omega)).2.2
  rw [← h] at h2
  exact Rd.ack.inj (reads_one h1 h2)
theorem Jn.data {sent : List Bytes} {s t : St} {net : List (Nat × Bytes)} {n : Nat} {b : Bytes} (h : Ordr sent s t) (hok : t.Ok) (hl : sent.length < 2147483647) (hb : sent[n]? = some b)
    (hj : Jn sent s t ((2, dataF 1 2 (n + 1) b) :: net)) : Jn sent s (dataL t (n + 1) b).2 (net ++ [(1, (dataL t (n + 1) b).1.2.1)]) := by
  obtain ⟨k1, k2, _, k4⟩ := h.data hok hb
  have hn := (List.getElem?_eq_some_iff.1 hb).1
  have hr := (dataL_reply (s := t) (n := n + 1) (b := b)).1
  rw [h.me.2.2.1, h.me.2.2.2] at hr
  have ht' := k1.taken
  rw [hr]
  generalize dataL t (n + 1) b = o at *
  rcases hj with e | ⟨e, hm⟩ | ⟨c, h1, h2, h3⟩
  · exact .inl e
  · right
    left
    have e' : o.2.taken = sent.length := by omega
    rcases List.mem_cons.1 hm with hm | hm
    · have := (Prod.mk.inj hm).1
      omega
    · exact ⟨e', List.mem_append.2 (.inl hm)⟩
  · have h0 := h3
    rw [openF_cons h1] at h3
    rcases List.sublist_cons_iff.1 h3 with h3 | ⟨r, h3, h4⟩
    · exact .inr (.inr ⟨c, h1, by omega, by rw [openF_cons h1]; exact h3.trans (List.sublist_append_left _ _)⟩)
    · have h3' : (2, dataF 1 2 (c + 1) sent[c]) :: toTwo (openF sent (c + 1)) = (2, dataF 1 2 (n + 1) b) :: r := h3
      have e1 := (List.cons.inj h3').1
      have e2 := (List.cons.inj h3').2
      have e3 : c = n := data_inj (by omega) (by omega) (h.small _ (List.getElem_mem h1)) (h.small _ (List.mem_of_getElem? hb)) (Prod.mk.inj e1).2
      subst e3
      have e4 : c + 1 ≤ o.2.taken := by
        by_cases e : c = t.taken
        · have := k4 e
          omega
        · omega
      by_cases e5 : c + 1 < sent.length
      · exact .inr (.inr ⟨c + 1, e5, e4, by rw [e2]; exact h4.trans (List.sublist_append_left _ _)⟩)
      · right
        left
        have e6 : o.2.taken = sent.length := by omega
        refine ⟨e6, ?_⟩
        rw [e6]
        simp
theorem Jn.ack {sent : List Bytes} {s t : St} {net : List (Nat × Bytes)} {k : Nat} (h : Ordr sent s t) (hl : sent.length < 2147483647) (hk : k ≤ t.taken)
    (hj : Jn sent s t ((1, ackF 2 1 k) :: net)) : Jn sent (ackL s k).2 t net := by
  have ht := h.taken
  rcases hj with e | ⟨e, hm⟩ | ⟨c, h1, h2, h3⟩
  · left
    unfold ackL
    split
    · exact e
    · split
      · exact e
      · show s.opens.drop _ = []
        rw [e]; simp
  · rcases List.mem_cons.1 hm with hm | hm
    · left
      have e' : sent.length = k := ack_inj (by omega) (by omega) (Prod.mk.inj hm).2
      rw [← e']
      exact h.ack_all e
    · exact .inr (.inl ⟨e, hm⟩)
  · refine .inr (.inr ⟨c, h1, h2, ?_⟩)
    rw [openF_cons h1] at h3 ⊢
    rcases List.sublist_cons_iff.1 h3 with h3 | ⟨r, h3, _⟩
    · exact h3
    · have := congrArg List.head? h3
      simp [toTwo] at this
/-- All has come: nothing is open, and all was taken. -/
theorem Jn.done {sent : List Bytes} {s t : St} (h : Ordr sent s t) (hj : Jn sent s t []) : s.opens = [] ∧ t.taken = sent.length := by
  have ho : s.opens = [] := by
    rcases hj with e | ⟨_, hm⟩ | ⟨c, h1, _, h3⟩
    · exact e
    · simp at hm
    · have := List.eq_nil_of_sublist_nil h3
      rw [openF_cons h1] at this
      simp [toTwo] at this
  obtain ⟨c, h1, h2⟩ := h.come
  have h3 := congrArg List.length h2
  rw [ho, openF_len] at h3
  have := h.taken
  simp at h3
  exact ⟨ho, by omega⟩
/-- All that is open was sent again. -/
theorem Jn.again {sent : List Bytes} {s t : St} {net : List (Nat × Bytes)} (h : Ordr sent s t) : Jn sent s t (net ++ toTwo s.opens) := by
  obtain ⟨c, h1, h2⟩ := h.come
  by_cases hc : c < sent.length
  · exact .inr (.inr ⟨c, hc, h1, by rw [h2]; exact List.sublist_append_right _ _⟩)
  · left
    rw [h2]
    exact List.eq_nil_of_length_eq_zero (by rw [openF_len]; omega)
end Go.Proofs.Ytfmjjickgjkcbaa.L7
end

section
namespace Go.Proofs.Ytfmjjickgjkcbaa.L7
open Go.ChangeShapes Go.WideShapes Go.ChangeAt Go.RowKit L6

def NetOk (sent : List Bytes) (taken : Nat) (tos : List Nat) (fs : List Bytes) : Prop := tos.length = fs.length ∧ ∀ p ∈ tos.zip fs, FrOk sent taken p.1 p.2
theorem NetOk.nil (sent : List Bytes) (taken : Nat) : NetOk sent taken [] [] := ⟨rfl, by simp⟩
theorem NetOk.more {sent : List Bytes} {taken taken' : Nat} {tos : List Nat} {fs : List Bytes} (h : NetOk sent taken tos fs) (l : List Bytes) (ht : taken ≤ taken') : NetOk (sent ++ l) taken' tos fs :=
  ⟨h.1, fun p hp => (h.2 p hp).more l ht⟩
theorem NetOk.later {sent : List Bytes} {taken taken' : Nat} {tos : List Nat} {fs : List Bytes} (h : NetOk sent taken tos fs) (ht : taken ≤ taken') : NetOk sent taken' tos fs := by
  have := h.more [] ht
  rwa [List.append_nil] at this
theorem take_zip7 : ∀ (k : Nat) (a : List Nat) (b : List Bytes), (a.zip b).take k = (a.take k).zip (b.take k)
  | 0, _, _ => by simp
  | k + 1, [], _ => by simp
  | k + 1, a :: al, [] => by simp
  | k + 1, a :: al, b :: bs => by simp [take_zip7 k al bs]
theorem drop_zip7 : ∀ (k : Nat) (a : List Nat) (b : List Bytes), (a.zip b).drop k = (a.drop k).zip (b.drop k)
  | 0, _, _ => by simp
  | k + 1, [], _ => by simp
  | k + 1, a :: al, [] => by simp
  | k + 1, a :: al, b :: bs => by simp [drop_zip7 k al bs]
theorem zip_cut {tos : List Nat} {fs : List Bytes} (h : tos.length = fs.length) (k : Nat) : (tos.take k ++ tos.drop (k + 1)).zip (fs.take k ++ fs.drop (k + 1)) = (tos.zip fs).take k ++ (tos.zip fs).drop (k + 1) := by
  rw [List.zip_append (by simp [h]), take_zip7, drop_zip7]
theorem NetOk.cut {sent : List Bytes} {taken : Nat} {tos : List Nat} {fs : List Bytes} (h : NetOk sent taken tos fs) (k : Nat) : NetOk sent taken (tos.take k ++ tos.drop (k + 1)) (fs.take k ++ fs.drop (k + 1)) := by
  refine ⟨by simp [h.1], fun p hp => ?_⟩
  rw [zip_cut h.1] at hp
  rcases List.mem_append.1 hp with hp | hp
  · exact h.2 p (List.mem_of_mem_take hp)
  · exact h.2 p (List.mem_of_mem_drop hp)
theorem zip_laid {tos : List Nat} {fs : List Bytes} (h : tos.length = fs.length) (to : Nat) (l : List Bytes) : (tos ++ tosOf to l).zip (fs ++ laid l) = tos.zip fs ++ (laid l).map fun f => (to, f) := by
  rw [List.zip_append h]
  congr 1
  have e : ∀ m : List Bytes, (m.map fun _ => to).zip m = m.map fun f => (to, f) := by
    intro m
    induction m with
    | nil => rfl
    | cons a m ih => simpa using ih
  exact e _
theorem NetOk.add {sent : List Bytes} {taken : Nat} {tos : List Nat} {fs : List Bytes} (h : NetOk sent taken tos fs) {to : Nat} {l : List Bytes} (hl : ∀ f ∈ laid l, FrOk sent taken to f) : NetOk sent taken (tos ++ tosOf to l) (fs ++ laid l) := by
  refine ⟨by simp [h.1, tosOf], fun p hp => ?_⟩
  rw [zip_laid h.1] at hp
  rcases List.mem_append.1 hp with hp | hp
  · exact h.2 p hp
  · obtain ⟨f, hf, rfl⟩ := List.mem_map.1 hp
    exact hl f hf
theorem NetOk.get {sent : List Bytes} {taken : Nat} {tos : List Nat} {fs : List Bytes} (h : NetOk sent taken tos fs) {k to : Nat} {f : Bytes} (hf : fs[k]? = some f) (hto : tos[k]? = some to) : FrOk sent taken to f :=
  h.2 (to, f) (List.mem_of_getElem? (i := k) (by rw [List.getElem?_zip_eq_some]; exact ⟨hto, hf⟩))
theorem NetOk.at {sent : List Bytes} {taken : Nat} {tos : List Nat} {fs : List Bytes} (h : NetOk sent taken tos fs) {k : Nat} (hk : k < fs.length) : ∃ to f, fs[k]? = some f ∧ tos[k]? = some to ∧ FrOk sent taken to f := by
  have h1 : fs[k]? = some fs[k] := List.getElem?_eq_getElem hk
  have h2 : tos[k]? = some (tos[k]'(by rw [h.1]; exact hk)) := List.getElem?_eq_getElem _
  exact ⟨_, _, h1, h2, h.get h1 h2⟩
/-- How many frames may still come: a data frame counts twice. -/
def weight (net : List (Nat × Bytes)) : Nat := (net.map fun p => if p.1 = 2 then 2 else 1).sum
theorem weight_cons (p : Nat × Bytes) (net : List (Nat × Bytes)) : weight (p :: net) = (if p.1 = 2 then 2 else 1) + weight net := by simp [weight]
theorem weight_append (a b : List (Nat × Bytes)) : weight (a ++ b) = weight a + weight b := by simp [weight]
theorem weight_le (a : List (Nat × Bytes)) : weight a ≤ 2 * a.length := by
  induction a with
  | nil => simp [weight]
  | cons p a ih =>
    rw [weight_cons, List.length_cons]
    split <;> omega
end Go.Proofs.Ytfmjjickgjkcbaa.L7
end

section
namespace Go.Proofs.Ytfmjjickgjkcbaa.L7
open Go.ChangeShapes Go.WideShapes Go.ChangeAt Go.RowKit L6

theorem weight_cut : ∀ {l : List (Nat × Bytes)} {k : Nat} {p : Nat × Bytes}, l[k]? = some p → weight l = weight (l.take k ++ l.drop (k + 1)) + (if p.1 = 2 then 2 else 1)
  | [], k, p, h => by simp at h
  | a :: l, 0, p, h => by
    simp at h
    subst h
    rw [weight_cons]
    simp
    omega
  | a :: l, k + 1, p, h => by
    have := weight_cut (l := l) (k := k) (p := p) (by simpa using h)
    rw [weight_cons, this]
    simp only [List.take_succ_cons, List.drop_succ_cons, List.cons_append]
    rw [weight_cons]
    omega
structure Come (w : World) (B h : Nat) (x y : Blk) (sent : List Bytes) (n m : Nat) (s t : St) (tos : List Nat) (fs : List Bytes) (vt vl : Value) (k : Nat) (l : List Bytes) (n' m' : Nat) (s' t' : St) (T : List Nat) (F : List Bytes) (vt' vl' : Value) (w' : World) : Prop where
  net : Net7 w' B h x y n' m' s' t' T F vt' vl'
  ord : Ordr sent s' t'
  ok : NetOk sent t'.taken T F
  got : sent.take t'.taken = sent.take t.taken ++ l
  more : t.taken ≤ t'.taken
  count : n' + m' = n + m + 1
  len : F.length ≤ fs.length
  less : weight (T.zip F) < weight (tos.zip fs)
  end_ : k = 0 → Jn sent s t (tos.zip fs) → Jn sent s' t' (T.zip F)
  only : Only (All7 h vt vl x y) w w'
  fresh : ∀ q, NIn h vt' vl' q → NIn h vt vl q ∨ w.heap.size ≤ q
def CameOut (w : World) (B h : Nat) (x y : Blk) (sent : List Bytes) (n m : Nat) (s t : St) (tos : List Nat) (fs : List Bytes) (vt vl : Value) (k : Nat) (e : Ending) (w' : World) : Prop :=
  ∃ v l n' m' s' t' T F vt' vl', e = .returned v ∧ w'.ownsRow w.heap.size 37 1 v l.length (strs l) ∧ Come w B h x y sent n m s t tos fs vt vl k l n' m' s' t' T F vt' vl' w'
theorem zip_head {tos : List Nat} {fs : List Bytes} {to : Nat} {f : Bytes} (hf : fs[0]? = some f) (hto : tos[0]? = some to) : tos.zip fs = (to, f) :: (tos.zip fs).drop 1 := by
  match tos, fs, hf, hto with
  | a :: tos, b :: fs, hf, hto =>
    simp at hf hto
    rw [hf, hto]
    rfl
theorem read_data {n : Nat} {b : Bytes} (hn : n < 2147483647) (hb : SmallB b) : ReadsAs 2 1 (dataF 1 2 (n + 1) b) (.data (n + 1) b) := (data_frame (by omega) (by omega) (by omega) (by omega) (by omega) (by omega) hb).2.2
theorem read_ack {n : Nat} (hn : n ≤ 2147483647) : ackF 2 1 n ≠ [] ∧ ReadsAs 1 2 (ackF 2 1 n) (.ack n) := (ack_frame (by omega) (by omega) (by omega) (by omega) hn).2
set_option maxHeartbeats 1000000 in
theorem came_calls {w : World} {B h : Nat} {x y : Blk} {sent : List Bytes} {n m : Nat} {s t : St} {tos : List Nat} {fs : List Bytes} {vt vl : Value} (z : Net7 w B h x y n m s t tos fs vt vl) (o : Ordr sent s t) (no : NetOk sent t.taken tos fs) (hB : B ≤ w.heap.size)
    {k : Nat} (hk : k < fs.length) (hlen : fs.length ≤ 100000) (hn : n < maxLen) (hm : m < maxLen) (hl : sent.length < 2147483647) :
    Calls Try.prog 12 #[.pointer (some ⟨h, 0, none⟩), .int .i64 k, .pointer (some ⟨x.g, 0, none⟩), .pointer (some ⟨y.g, 0, none⟩)] w (CameOut w B h x y sent n m s t tos fs vt vl k) := by
  obtain ⟨to, f, h1, h2, h3⟩ := no.at hk
  obtain ⟨m1, m2, m3, m4⟩ := o.me
  have htk := o.taken
  have hz : (tos.zip fs)[k]? = some (to, f) := by rw [List.getElem?_zip_eq_some]; exact ⟨h2, h1⟩
  have hw := weight_cut hz
  unfold FrOk at h3
  rcases h3 with ⟨e1, i, b, hb, e2⟩ | ⟨e1, i, hi, e2⟩
  · rw [e1] at h2 hz hw
    have hil := (List.getElem?_eq_some_iff.1 hb).1
    have hr := read_data (n := i) (b := b) (by omega) (o.small _ (List.mem_of_getElem? hb))
    have hr' : ReadsAs t.me t.peer f (.data (i + 1) b) := by rw [m3, m4, e2]; exact hr
    refine (comes_two z hB hk hlen h1 h2 (by rw [e2]; exact dataF_len _ _ _ _) hm hr').mono ?_
    rintro e w' ⟨v, rfl, r1, vt', vl', r2, r3, r4⟩
    obtain ⟨d1, d2, d3, d4⟩ := o.data z.two.two.ok hb
    have hre := (dataL_reply (s := t) (n := i + 1) (b := b)).1
    rw [m3, m4] at hre
    have hne := (read_ack (n := (dataL t (i + 1) b).2.taken) (by have := d1.taken; omega)).1
    have hla : laid [(dataL t (i + 1) b).1.2.1] = [(dataL t (i + 1) b).1.2.1] := by
      rw [hre]
      simp [laid, hne]
    have hzip := (zip_laid (no.cut k).1 1 [(dataL t (i + 1) b).1.2.1])
    rw [zip_cut no.1, hla] at hzip
    refine ⟨v, _, _, _, _, _, _, _, vt', vl', rfl, r1, r2, d1, ?_, d3, d2, by omega, ?_, ?_, ?_, r3, r4⟩
    · refine ((no.cut k).later d2).add ?_
      rw [hla]
      intro f hf
      simp only [List.mem_cons, List.not_mem_nil, or_false] at hf
      rw [hf, hre]
      exact .inr ⟨rfl, _, Nat.le_refl _, rfl⟩
    · rw [hla]
      simp
      omega
    · rw [hla, hzip, weight_append]
      simp only [weight, List.map_cons, List.map_nil, List.sum_cons, List.sum_nil] at hw ⊢
      simp at hw ⊢
      omega
    · rintro rfl hj
      rw [hla, hzip]
      rw [zip_head h1 h2, e2] at hj
      have := Jn.data o z.two.two.ok hl hb hj
      simpa using this
  · rw [e1] at h2 hz hw
    have hr := (ack_frame (p := 2) (q := 1) (n := i) (by omega) (by omega) (by omega) (by omega) (by omega)).2.2
    have hr' : ReadsAs s.me s.peer f (.ack i) := by rw [m1, m2, e2]; exact hr
    refine (comes_one z hB hk hlen h1 h2 (by rw [e2]; exact ackF_len _ _ _) hn hr').mono ?_
    rintro e w' ⟨rfl, vt', vl', r2, r3, r4⟩
    refine ⟨_, [], _, _, _, _, _, _, vt', vl', rfl, World.ownsRow_nil _ _ _ _, r2, o.ack hi, no.cut k, by simp, Nat.le_refl _, by omega, ?_, ?_, ?_, r3, r4⟩
    · simp
      omega
    · rw [zip_cut no.1]
      simp at hw
      omega
    · rintro rfl hj
      rw [zip_cut no.1]
      rw [zip_head h1 h2, e2] at hj
      have := Jn.ack o hl hi hj
      simpa using this
end Go.Proofs.Ytfmjjickgjkcbaa.L7
end

section
namespace Go.Proofs.Ytfmjjickgjkcbaa.L7
open Go.ChangeShapes Go.WideShapes Go.ChangeAt Go.RowKit Go.Deep L6

theorem add_add (a : Addr) (i j : Nat) : (a.add i).add j = a.add (i + j) := by
  unfold Addr.add
  by_cases hi : i = 0
  · subst hi; simp
  · by_cases hj : j = 0
    · subst hj; simp
    · rw [if_neg hi, if_neg hj, if_neg (by omega)]
      simp
      omega
/-- Acts in memory. -/
def Acts (w : World) (A : Option Addr) (n : Nat) : Prop := ∀ i, i < n → ∃ (ad : Addr) (o0 : Int) (o1 : Int) (s2 : ByteArray), A = some ad ∧ ad.block < w.heap.size ∧ (isInt o0 ∧ isInt o1) ∧ w.cell? (ad.add (i * 3)) = some (.int .i64 o0) ∧ w.cell? ⟨(ad.add (i * 3)).block, (ad.add (i * 3)).off + 1, none⟩ = some (.int .i64 o1) ∧ w.cell? ⟨(ad.add (i * 3)).block, (ad.add (i * 3)).off + 2, none⟩ = some (.string s2)
theorem Acts.below {w w' : World} {A : Option Addr} {n : Nat} (h : Acts w A n) (hb : Below w.heap.size w w') : Acts w' A n := fun i hi => by
  obtain ⟨ad, o0, o1, s2, e, hl, hx, c0, c1, c2⟩ := h i hi
  have hlb : (ad.add (i * 3)).block < w.heap.size := by rw [addr_block]; exact hl
  exact ⟨ad, o0, o1, s2, e, Nat.lt_of_lt_of_le hl hb.size, hx, (hb.cell (p := ad.add (i * 3)) hlb).trans c0, (hb.cell (p := ⟨(ad.add (i * 3)).block, (ad.add (i * 3)).off + 1, none⟩) hlb).trans c1, (hb.cell (p := ⟨(ad.add (i * 3)).block, (ad.add (i * 3)).off + 2, none⟩) hlb).trans c2⟩
set_option maxRecDepth 100000 in
theorem act_cells {H : Type} {enc : TypeId × Value → H} {w : World} {base : Nat} {sp : Nat → Bool} {held : Bool} {fuel : Nat} {cs : List Value} {x : DataW H × List MemPlace}
    (h : DataW.trod enc Try.prog w base sp held fuel 36 cs = some x) : ∃ (o0 : Int) (o1 : Int) (s2 : ByteArray), cs = [.int .i64 o0, .int .i64 o1, .string s2] ∧ (isInt o0 ∧ isInt o1) := by
  obtain ⟨ys, n, _, _, hlen, hyl, hf⟩ := DataW.trod_struct Try.underlying36 h
  have hc4 : Try.prog.cellsOf 36 = 3 := by kernel_rfl
  have hci : Try.prog.cellsOf 3 = 1 := by kernel_rfl
  have hcs : Try.prog.cellsOf 9 = 1 := by kernel_rfl
  rw [hc4] at hlen
  match cs, hlen with
  | [v0, v1, v2], _ =>
    have f0 := hf 0 _ rfl
    have s0 : DataW.trod enc Try.prog w base sp held n 3 [v0] = ys[0]? := by
      have h9 : ([v0, v1, v2].drop 0).take (Try.prog.cellsOf 3) = [v0] := by rw [hci]; rfl
      rw [← h9]; exact f0
    have f1 := hf 1 _ rfl
    have s1 : DataW.trod enc Try.prog w base sp held n 3 [v1] = ys[1]? := by
      have h9 : ([v0, v1, v2].drop 1).take (Try.prog.cellsOf 3) = [v1] := by rw [hci]; rfl
      rw [← h9]; exact f1
    have f2 := hf 2 _ rfl
    have s2 : DataW.trod enc Try.prog w base sp held n 9 [v2] = ys[2]? := by
      have h9 : ([v0, v1, v2].drop 2).take (Try.prog.cellsOf 9) = [v2] := by rw [hcs]; rfl
      rw [← h9]; exact f2
    have g : ∀ k, k < 3 → ∃ y, ys[k]? = some y := fun k hk => ⟨_, List.getElem?_eq_getElem (by rw [hyl]; exact hk)⟩
    obtain ⟨y0, e0⟩ := g 0 (by omega)
    obtain ⟨y1, e1⟩ := g 1 (by omega)
    obtain ⟨y2, e2⟩ := g 2 (by omega)
    obtain ⟨n0, q0, _, w0⟩ := DataW.trod_int Try.underlying3 (s0.trans e0)
    obtain ⟨n1, q1, _, w1⟩ := DataW.trod_int Try.underlying3 (s1.trans e1)
    obtain ⟨n2, q2, _, w2⟩ := DataW.trod_string Try.underlying9 (s2.trans e2)
    simp at q0 q1 q2
    subst q0 q1 q2
    exact ⟨n0, n1, n2, rfl, L5.i64_of_wf w0, L5.i64_of_wf w1⟩

set_option maxRecDepth 100000 in
theorem open_acts {H : Type} {enc : TypeId × Value → H} {W : World} {base : Nat} {v : Value} {d : DataW H} {ps : List MemPlace} (hval : Value.okWide Try.prog W .any base 22 v)
    (h : DataW.Trod enc Try.prog W 0 (fun _ => true) true 22 v d ps) : ∃ A n c, v = .slice A n c ∧ Acts W A n ∧ n ≤ maxLen := by
  obtain ⟨A, n, c, rfl⟩ := okWide_slice Try.underlying22 hval
  obtain ⟨fuel, hf⟩ := h
  rcases open_slice Try.underlying22 hf with ⟨h0, _⟩ | ⟨a, len, cap, m, nn, D, Pl, hcs, hb, hl, hm, hmm, hx, hi⟩
  · simp [Value.cells] at h0
    obtain ⟨rfl, rfl, rfl⟩ := h0
    exact ⟨none, 0, 0, rfl, fun i hi => absurd hi (by omega), Nat.zero_le _⟩
  · simp [Value.cells] at hcs
    obtain ⟨rfl, rfl, rfl⟩ := hcs
    refine ⟨some a, n, c, rfl, fun i hin => ?_, by omega⟩
    obtain ⟨cs', hc, ht⟩ := hi i (by rw [hmm]; simp; omega)
    obtain ⟨o0, o1, s2, rfl, r0⟩ := act_cells ht
    have hc4 : Try.prog.cellsOf 36 = 3 := by kernel_rfl
    rw [hc4] at hc
    obtain ⟨_, _, hat⟩ := World.cells?_some hc
    have hat2 : ∀ j, j < 3 → W.cell? (a.add (i * 3 + j)) = [Value.int .i64 o0, Value.int .i64 o1, Value.string s2][j]? := by
      intro j hj
      rw [← add_add]
      exact hat j hj
    have b0 := hat2 0 (by omega)
    have hlt := World.block_lt_of_cell? W _ b0
    rw [addr_block] at hlt
    have b1 := hat2 1 (by omega)
    rw [← add_add] at b1
    have b2 := hat2 2 (by omega)
    rw [← add_add] at b2
    exact ⟨a, o0, o1, s2, rfl, hlt, r0, b0, b1, b2⟩
end Go.Proofs.Ytfmjjickgjkcbaa.L7
end

section
namespace Go.Proofs.Ytfmjjickgjkcbaa.L7
open Go.ChangeShapes Go.WideShapes Go.ChangeAt Go.RowKit L6

theorem string_net : 9 ≠ 32 := by decide
theorem string_int : 9 ≠ 3 := by decide
theorem strs_append (a b : List Bytes) : strs (a ++ b) = strs a ++ strs b := by simp [strs]
/-- A row that grew is no row of the net's: the net is as it was. -/
theorem Net7.grown {W W' : World} {B h : Nat} {x y : Blk} {n m : Nat} {s t : St} {tos : List Nat} {fs : List Bytes} {vt vl : Value} (z : Net7 W B h x y n m s t tos fs vt vl) {row : Option Nat} (hg : W.grownBy W' row) (hn : ∀ q, row = some q → ¬ (NIn h vt vl q ∨ In4 x q ∨ In4 y q)) : Net7 W' B h x y n m s t tos fs vt vl := by
  have l1 := z.two.one.lt
  have l2 := z.two.two.lt
  refine ⟨z.net.same (fun k hk => hg.block k (z.net.inlt hk).2 (fun e => hn k e.symm (.inl hk))), ⟨z.two.one.same (fun k hk => hg.block k (by omega) (fun e => hn k e.symm (.inr (.inl hk)))), z.two.two.same (fun k hk => hg.block k (by omega) (fun e => hn k e.symm (.inr (.inr hk)))), z.two.g, z.two.c, z.two.b⟩, z.apart⟩
/-- What is known between two acts. -/
structure Ost (w : World) (h : Nat) (x y : Blk) (row sent : List Bytes) (n m : Nat) (s t : St) (tos : List Nat) (fs : List Bytes) (vt vl vs vg : Value) (wr : World) : Prop where
  z : Net7 wr w.heap.size h x y n m s t tos fs vt vl
  o : Ordr sent s t
  no : NetOk sent t.taken tos fs
  snt : wr.ownsRow w.heap.size 9 1 vs row.length (strs row)
  got : wr.ownsRow w.heap.size 37 1 vg t.taken (strs (sent.take t.taken))
  ap : ∀ q, vg.ownBlock = some q → vl.ownBlock ≠ some q
  below : Below w.heap.size w wr
  above : x.Above w.heap.size ∧ y.Above w.heap.size
section
variable {w wr w' : World} {h : Nat} {x y : Blk} {row sent : List Bytes} {n m : Nat} {s t : St} {tos : List Nat} {fs : List Bytes} {vt vl vs vg : Value}
theorem Ost.gotNot (a : Ost w h x y row sent n m s t tos fs vt vl vs vg wr) : ∀ q, vg.ownBlock = some q → ¬ (NIn h vt vl q ∨ In4 x q ∨ In4 y q) := by
  intro q e
  have k1 := a.z.two.one.not_row a.got term_end.1 term_end.2 e
  have k2 := a.z.two.two.not_row a.got term_end.1 term_end.2 e
  rintro ((e' | e' | e') | e' | e')
  · exact row_not a.got a.z.net.own term_net (by rw [e, e'])
  · exact own_apart a.got a.z.net.to term_int q e e'
  · exact a.ap q e e'
  · unfold In4 at e'; omega
  · unfold In4 at e'; omega
theorem Ost.sntNot (a : Ost w h x y row sent n m s t tos fs vt vl vs vg wr) : ∀ q, vs.ownBlock = some q → ¬ (NIn h vt vl q ∨ In4 x q ∨ In4 y q) := by
  intro q e
  have k1 := a.z.two.one.not_row a.snt string_end.1 string_end.2 e
  have k2 := a.z.two.two.not_row a.snt string_end.1 string_end.2 e
  rintro ((e' | e' | e') | e' | e')
  · exact row_not a.snt a.z.net.own string_net (by rw [e, e'])
  · exact own_apart a.snt a.z.net.to string_int q e e'
  · exact own_apart a.snt a.z.net.l (fun e => term_string e.symm) q e e'
  · unfold In4 at e'; omega
  · unfold In4 at e'; omega
theorem all7_in {q : Nat} (hq : All7 h vt vl x y q) : NIn h vt vl q ∨ In4 x q ∨ In4 y q := by
  rcases hq with e | e | e
  · exact .inl e
  · exact .inr (.inl (In4.of e))
  · exact .inr (.inr (In4.of e))
theorem Ost.size (a : Ost w h x y row sent n m s t tos fs vt vl vs vg wr) : w.heap.size ≤ wr.heap.size := a.below.size
theorem Ost.all (a : Ost w h x y row sent n m s t tos fs vt vl vs vg wr) {q : Nat} (hq : All7 h vt vl x y q) : w.heap.size ≤ q := by
  obtain ⟨k1, k2⟩ := a.above
  unfold Blk.Above at k1 k2
  rcases hq with e | (e | e | e) | (e | e | e)
  · exact (a.z.net.inlt e).1
  all_goals omega
theorem Ost.next (a : Ost w h x y row sent n m s t tos fs vt vl vs vg wr) (b : Below wr.heap.size wr w') : Ost w h x y row sent n m s t tos fs vt vl vs vg w' :=
  ⟨a.z.below b, a.o, a.no, L5.own_below a.snt b, L5.own_below a.got b, a.ap, a.below.trans (b.mono a.below.size), a.above⟩
theorem Ost.onet (a : Ost w h x y row sent n m s t tos fs vt vl vs vg wr) {T : List Nat} {F : List Bytes} {vt' vl' : Value} (o : NetAt w' w.heap.size h T F vt' vl') (only : Only (NIn h vt vl) wr w') (hin : ∀ q, NIn h vt' vl' q → NIn h vt vl q ∨ wr.heap.size ≤ q) (no : NetOk sent t.taken T F) :
    Ost w h x y row sent n m s t T F vt' vl' vs vg w' := by
  refine ⟨a.z.cut o only hin, a.o, no, L5.own_same a.snt (fun q e => only.block q (a.snt.lt q e).2 (fun e' => a.sntNot q e (.inl e'))), L5.own_same a.got (fun q e => only.block q (a.got.lt q e).2 (fun e' => a.gotNot q e (.inl e'))), fun q e e' => ?_, Only.below a.below only a.size (fun q e => (a.z.net.inlt e).1), a.above⟩
  rcases hin q (.inr (.inr e')) with c | c
  · exact a.gotNot q e (.inl c)
  · have := (a.got.lt q e).2
    omega
theorem Ost.one (a : Ost w h x y row sent n m s t tos fs vt vl vs vg wr) {n' : Nat} {s' : St} (l : List Bytes) (e : EndAt w' x n' s') (only : Only x.In wr w') (o : Ordr (sent ++ l) s' t) :
    Ost w h x y row (sent ++ l) n' m s' t tos fs vt vl vs vg w' := by
  refine ⟨a.z.left e only, o, a.no.more l (Nat.le_refl _), a.z.two.one.row_only a.snt string_end.1 string_end.2 only, ?_, a.ap, Only.below a.below only a.size (fun q e => a.all (.inr (.inl e))), a.above⟩
  rw [List.take_append_of_le_length a.o.taken]
  exact a.z.two.one.row_only a.got term_end.1 term_end.2 only
theorem Ost.one0 (a : Ost w h x y row sent n m s t tos fs vt vl vs vg wr) {n' : Nat} {s' : St} (e : EndAt w' x n' s') (only : Only x.In wr w') (o : Ordr sent s' t) :
    Ost w h x y row sent n' m s' t tos fs vt vl vs vg w' := by
  have := a.one [] e only (by rw [List.append_nil]; exact o)
  rwa [List.append_nil] at this
theorem Ost.rowed (a : Ost w h x y row sent n m s t tos fs vt vl vs vg wr) {b : Bytes} {vs' : Value} (hr : w'.ownsRow w.heap.size 9 1 vs' (row.length + 1) (strs row ++ [.string ⟨b.toArray⟩])) (hg : wr.grownBy w' vs.ownBlock) :
    Ost w h x y (row ++ [b]) sent n m s t tos fs vt vl vs' vg w' := by
  refine ⟨a.z.grown hg a.sntNot, a.o, a.no, ?_, own_grown a.got hg (fun q e e' => own_apart a.got a.snt term_string q e e'), a.ap, a.below.grown hg a.size (fun k e => (a.snt.lt k e).1), a.above⟩
  rw [strs_append, List.length_append]
  exact hr
theorem Ost.came (a : Ost w h x y row sent n m s t tos fs vt vl vs vg wr) {k : Nat} {l : List Bytes} {n' m' : Nat} {s' t' : St} {T : List Nat} {F : List Bytes} {vt' vl' : Value} {V : World}
    (c : Come wr w.heap.size h x y sent n m s t tos fs vt vl k l n' m' s' t' T F vt' vl' V) :
    V.ownsRow w.heap.size 37 1 vg t.taken (strs (sent.take t.taken)) ∧ ∀ vg', w'.ownsRow w.heap.size 37 1 vg' (t.taken + l.length) (strs (sent.take t.taken) ++ strs l) → V.grownBy w' vg.ownBlock → (vg'.ownBlock = vg.ownBlock ∨ vg'.ownBlock = some V.heap.size) →
      Ost w h x y row sent n' m' s' t' T F vt' vl' vs vg' w' := by
  have hV : V.ownsRow w.heap.size 37 1 vg t.taken (strs (sent.take t.taken)) := L5.own_same a.got (fun q e => c.only.block q (a.got.lt q e).2 (fun e' => a.gotNot q e (all7_in e')))
  have hVs : V.ownsRow w.heap.size 9 1 vs row.length (strs row) := L5.own_same a.snt (fun q e => c.only.block q (a.snt.lt q e).2 (fun e' => a.sntNot q e (all7_in e')))
  have hVb : Below w.heap.size w V := Only.below a.below c.only a.size (fun q e => a.all e)
  refine ⟨hV, fun vg' hr hg hat => ?_⟩
  have htk : t'.taken = t.taken + l.length := by
    have h1 := congrArg List.length c.got
    rw [List.length_take, List.length_append, List.length_take] at h1
    have h2 := a.o.taken
    have h3 := c.ord.taken
    omega
  have hnot : ∀ q, vg.ownBlock = some q → ¬ NIn h vt' vl' q := fun q e e' => by
    rcases c.fresh q e' with c1 | c1
    · exact a.gotNot q e (.inl c1)
    · have := (a.got.lt q e).2
      omega
  have hz : Net7 w' w.heap.size h x y n' m' s' t' T F vt' vl' := c.net.grown hg (fun q e => by
    rintro (e' | e')
    · exact hnot q e e'
    · exact a.gotNot q e (.inr e'))
  refine ⟨hz, c.ord, c.ok, own_grown hVs hg (fun q e e' => own_apart hV hVs term_string q e' e), ?_, fun q e e' => ?_, hVb.grown hg hVb.size (fun k e => (hV.lt k e).1), a.above⟩
  · rw [c.got, htk, strs_append]
    exact hr
  · rcases hat with d | d
    · exact hnot q (by rw [← d]; exact e) (.inr (.inr e'))
    · rw [d] at e
      cases e
      have := (c.net.net.inlt (k := V.heap.size) (.inr (.inr e'))).2
      omega
end
end Go.Proofs.Ytfmjjickgjkcbaa.L7
end

section
namespace Go.Proofs.Ytfmjjickgjkcbaa.L7
open Go.ChangeShapes Go.WideShapes Go.ChangeAt Go.RowKit L6

section
variable {w wr : World} {h : Nat} {x y : Blk} {row sent : List Bytes} {n m : Nat} {s t : St} {tos : List Nat} {fs : List Bytes} {vt vl vs vg : Value}
def AddO (w : World) (h : Nat) (x y : Blk) (row sent : List Bytes) (n m : Nat) (s t : St) (T : List Nat) (F : List Bytes) (vs vg : Value) (e : Ending) (w' : World) : Prop :=
  e = .returned (.tuple #[]) ∧ ∃ vt' vl', Ost w h x y row sent n m s t T F vt' vl' vs vg w'
theorem Ost.add (a : Ost w h x y row sent n m s t tos fs vt vl vs vg wr) (to : Nat) {Az : Option Addr} {cz : Nat} (zs : List Bytes) (hz : SRow wr (.slice Az zs.length cz) (ba zs)) (hzn : ∀ ad, Az = some ad → ¬ NIn h vt vl ad.block) (hlen : fs.length + zs.length ≤ 1000000) (hok : ∀ f ∈ laid zs, FrOk sent t.taken to f) :
    Calls Try.prog 10 #[.pointer (some ⟨h, 0, none⟩), .int .i64 to, .slice Az zs.length cz] wr (AddO w h x y row sent n m s t (tos ++ tosOf to zs) (fs ++ laid zs) vs vg) := by
  refine (add_calls a.z.net a.size to zs hz hzn hlen).mono ?_
  rintro e w' ⟨rfl, vt', vl', o, only, hin⟩
  exact ⟨rfl, vt', vl', a.onet o only hin (a.no.add hok)⟩
theorem laid_len (zs : List Bytes) : (laid zs).length ≤ zs.length := by unfold laid; exact List.length_filter_le _ _
/-- One frame, in a block of its own, is added. -/
theorem Ost.add_one (a : Ost w h x y row sent n m s t tos fs vt vl vs vg wr) (to : Nat) {f : Bytes} (hlen : fs.length ≤ 100000) (hok : FrOk sent t.taken to f) :
    Calls Try.prog 10 #[.pointer (some ⟨h, 0, none⟩), .int .i64 to, .slice (some ⟨wr.heap.size, 0, none⟩) 1 1] (wr.alloc (.cells #[.string ⟨f.toArray⟩] 37)) (AddO w h x y row sent n m s t (tos ++ tosOf to [f]) (fs ++ laid [f]) vs vg) := by
  have bA : Below wr.heap.size wr (wr.alloc (.cells #[.string ⟨f.toArray⟩] 37)) := (Below.refl _ wr).alloc (Nat.le_refl _) _
  refine (a.next bA).add to [f] (srow_one (heap_alloc_new wr _)) (fun ad e hn => by cases e; exact absurd (a.z.net.inlt hn).2 (by simp)) (by simp; omega) (fun g hg => ?_)
  have := (List.mem_filter.1 hg).1
  simp only [List.mem_cons, List.not_mem_nil, or_false] at this
  rw [this]
  exact hok
theorem Ost.add_one_drew (a : Ost w h x y row sent n m s t tos fs vt vl vs vg wr) (to : Nat) {f : Bytes} (hlen : fs.length ≤ 100000) (hok : FrOk sent t.taken to f) :
    Calls Try.prog 10 #[.pointer (some ⟨h, 0, none⟩), .int .i64 to, .slice (some ⟨wr.heap.size, 0, none⟩) 1 1] (wr.drew.alloc (.cells #[.string ⟨f.toArray⟩] 37)) (AddO w h x y row sent n m s t (tos ++ tosOf to [f]) (fs ++ laid [f]) vs vg) :=
  (a.next (w' := wr.drew) (Below.refl _ wr).drew).add_one to hlen hok
def AgainO (w : World) (h : Nat) (x y : Blk) (row sent : List Bytes) (n m : Nat) (s t : St) (tos : List Nat) (fs : List Bytes) (vt vl vs vg : Value) (e : Ending) (w' : World) : Prop :=
  ∃ A c, e = .returned (.slice A s.opens.length c) ∧ Ost w h x y row sent n m s t tos fs vt vl vs vg w' ∧
    Calls Try.prog 10 #[.pointer (some ⟨h, 0, none⟩), .int .i64 2, .slice A s.opens.length c] w' (AddO w h x y row sent n m s t (tos ++ tosOf 2 s.opens) (fs ++ laid s.opens) vs vg)
theorem Ost.again (a : Ost w h x y row sent n m s t tos fs vt vl vs vg wr) (hlen : fs.length ≤ 100000) :
    Calls Try.prog 11 #[.pointer (some ⟨x.g, 0, none⟩)] wr (AgainO w h x y row sent n m s t tos fs vt vl vs vg) := by
  refine (again_calls a.z.two.one).mono ?_
  rintro e w' ⟨v, rfl, r1, r2, r3⟩
  have hS := srow_row r1
  have a' := a.one0 r2 r3 a.o
  have h64 := a.z.two.one.ok.room
  have hf : ∀ f ∈ laid s.opens, FrOk sent t.taken 2 f := fun f hf => by
    have := (List.mem_filter.1 hf).1
    obtain ⟨c, _, e⟩ := a.o.come
    rw [e] at this
    obtain ⟨i, b, h1, h2⟩ := openF_mem this
    exact .inl ⟨rfl, i, b, h1, h2⟩
  obtain ⟨A, c, rfl⟩ := L5.own_slice r1
  refine ⟨A, c, rfl, a', a'.add 2 s.opens hS (fun ad e hn => ?_) (by omega) hf⟩
  have hlt := (a.z.net.inlt hn).2
  rcases r1.2 with ⟨e1, _⟩ | ⟨g, cap, cur, e1, e2, _⟩
  · simp only [Value.slice.injEq] at e1
    rw [e1.1] at e; cases e
  · simp only [Value.slice.injEq] at e1
    rw [e1.1] at e
    cases e
    have : g < wr.heap.size := hlt
    omega
def OutO (w : World) (h : Nat) (x y : Blk) (row sent : List Bytes) (n m : Nat) (s t : St) (T : List Nat) (F : List Bytes) (vs vg : Value) (e : Ending) (w' : World) : Prop :=
  e = .returned (.tuple #[]) ∧ ∃ vt' vl', Ost w h x y row sent n m s t T F vt' vl' vs vg w'
theorem Ost.out (a : Ost w h x y row sent n m s t tos fs vt vl vs vg wr) {k : Nat} (hk : k < fs.length) (hlen : fs.length ≤ 100000) :
    Calls Try.prog 13 #[.pointer (some ⟨h, 0, none⟩), .int .i64 k] wr (OutO w h x y row sent n m s t (tos.take k ++ tos.drop (k + 1)) (fs.take k ++ fs.drop (k + 1)) vs vg) := by
  refine (out_calls a.z.net a.size hk (by omega)).mono ?_
  rintro e w' ⟨rfl, vt', vl', o, only, hin⟩
  exact ⟨rfl, vt', vl', a.onet o only hin (a.no.cut k)⟩
theorem Ost.comes (a : Ost w h x y row sent n m s t tos fs vt vl vs vg wr) {k : Nat} (hk : k < fs.length) (hlen : fs.length ≤ 100000) (hn : n < maxLen) (hm : m < maxLen) (hl : sent.length < 2147483647) :
    Calls Try.prog 12 #[.pointer (some ⟨h, 0, none⟩), .int .i64 k, .pointer (some ⟨x.g, 0, none⟩), .pointer (some ⟨y.g, 0, none⟩)] wr (CameOut wr w.heap.size h x y sent n m s t tos fs vt vl k) :=
  came_calls a.z a.o a.no a.size hk hlen hn hm hl
theorem Ost.sends (a : Ost w h x y row sent n m s t tos fs vt vl vs vg wr) {b : Bytes} (hb : SmallB b) (hl : sent.length < 2147483647) (h64 : s.opens.length < 64) :
    (sendL s b).1 = (dataF 1 2 (sent.length + 1) b, 0) ∧ ∀ w', EndAt w' x n (sendL s b).2 → Only x.In wr w' → Ost w h x y row (sent ++ [b]) n m (sendL s b).2 t tos fs vt vl vs vg w' := by
  obtain ⟨h1, h2⟩ := a.o.send a.z.two.one.ok hb (by rw [a.o.snt]; exact hl) h64
  exact ⟨h1, fun w' e o => a.one [b] e o h2⟩
/-- The frame that was just sent may lie in the net. -/
theorem frok_new (sent : List Bytes) (b : Bytes) (k : Nat) : FrOk (sent ++ [b]) k 2 (dataF 1 2 (sent.length + 1) b) := .inl ⟨rfl, sent.length, b, by simp, rfl⟩
end
/-- What is known between two rounds. -/
def OMid (w : World) (h : Nat) (x y : Blk) (i : Nat) (vs vg : Value) (wr : World) : Prop :=
  ∃ sent n m s t tos fs vt vl, Ost w h x y sent sent n m s t tos fs vt vl vs vg wr ∧ n + m ≤ i ∧ sent.length ≤ i ∧ fs.length ≤ 464
def OGo (w : World) (h : Nat) (x y : Blk) (n0 k : Nat) (vs vg vi : Value) (wr : World) : Prop := ∃ i : Nat, k + i = n0 ∧ vi = .int .i64 i ∧ OMid w h x y i vs vg wr
theorem open_laid {sent : List Bytes} {s t : St} (o : Ordr sent s t) (hl : sent.length < 2147483647) : laid s.opens = s.opens := by
  unfold laid
  rw [List.filter_eq_self]
  intro f hf
  obtain ⟨c, _, e⟩ := o.come
  rw [e] at hf
  obtain ⟨i, b, h1, h2⟩ := openF_mem hf
  have hil := (List.getElem?_eq_some_iff.1 h1).1
  have hne := (data_frame (p := 1) (q := 2) (n := i + 1) (b := b) (by omega) (by omega) (by omega) (by omega) (by omega) (by omega) (o.small _ (List.mem_of_getElem? h1))).2.1
  rw [h2]
  simp [hne]
def OGo2 (w : World) (h : Nat) (x y : Blk) (vs : Value) (k : Nat) (vg vi : Value) (wr : World) : Prop :=
  ∃ (j : Nat) (sent : List Bytes) (n m : Nat) (s t : St) (tos : List Nat) (fs : List Bytes) (vt vl : Value), k + j = 5 ∧ vi = .int .i64 j ∧ Ost w h x y sent sent n m s t tos fs vt vl vs vg wr ∧ n + m ≤ 120 + 2000 * j ∧ sent.length ≤ 120 ∧ fs.length ≤ 464 ∧ (j = 0 ∨ (s.opens = [] ∧ t.taken = sent.length))
def OGo3 (w : World) (h : Nat) (x y : Blk) (vs : Value) (j : Nat) (sent : List Bytes) (k : Nat) (vg : Value) (wr : World) : Prop :=
  ∃ (n m : Nat) (s t : St) (tos : List Nat) (fs : List Bytes) (vt vl : Value), Ost w h x y sent sent n m s t tos fs vt vl vs vg wr ∧ weight (tos.zip fs) ≤ k ∧ n + m + weight (tos.zip fs) ≤ 120 + 2000 * (j + 1) ∧ fs.length ≤ 600 ∧ Jn sent s t (tos.zip fs)
/-- All that is open was sent again: what is asked of the rounds that follow. -/
theorem again_go {w wr w8 : World} {h : Nat} {x y : Blk} {sent : List Bytes} {n m : Nat} {s t : St} {tos : List Nat} {fs : List Bytes} {vt vl vs vg vt' vl' : Value} {j : Nat} (a : Ost w h x y sent sent n m s t tos fs vt vl vs vg wr) (hnm : n + m ≤ 120 + 2000 * j) (hsl : sent.length ≤ 120) (hfl : fs.length ≤ 464)
    (a8 : Ost w h x y sent sent n m s t (tos ++ tosOf 2 s.opens) (fs ++ laid s.opens) vt' vl' vs vg w8) : OGo3 w h x y vs j sent 1100 vg w8 := by
  have hw := weight_le ((tos ++ tosOf 2 s.opens).zip (fs ++ laid s.opens))
  have h64 := a.z.two.one.ok.room
  have hl := laid_len s.opens
  have hz : ((tos ++ tosOf 2 s.opens).zip (fs ++ laid s.opens)).length ≤ (fs ++ laid s.opens).length := by rw [List.length_zip]; exact Nat.min_le_right _ _
  rw [List.length_append] at hz
  refine ⟨n, m, s, t, _, _, vt', vl', a8, by omega, by omega, by rw [List.length_append]; omega, ?_⟩
  rw [zip_laid a.no.1, open_laid a.o (by omega)]
  exact Jn.again a.o
/-- One more came. -/
theorem came_go {w wr w7 w8 : World} {h : Nat} {x y : Blk} {sent : List Bytes} {n m : Nat} {s t : St} {tos : List Nat} {fs : List Bytes} {vt vl vs vg : Value} {j k : Nat} (a : Ost w h x y sent sent n m s t tos fs vt vl vs vg wr) (hk : weight (tos.zip fs) ≤ k) (hn : n + m + weight (tos.zip fs) ≤ 120 + 2000 * (j + 1)) (hfl : fs.length ≤ 600) (hj : Jn sent s t (tos.zip fs))
    {l : List Bytes} {n' m' : Nat} {s' t' : St} {T : List Nat} {F : List Bytes} {vt' vl' vg' : Value} (c : Come wr w.heap.size h x y sent n m s t tos fs vt vl 0 l n' m' s' t' T F vt' vl' w7)
    (k1 : w8.ownsRow w.heap.size 37 1 vg' (t.taken + (ba l).length) (strs (sent.take t.taken) ++ strV (ba l))) (k2 : w7.grownBy w8 vg.ownBlock) (k3 : vg'.ownBlock = vg.ownBlock ∨ vg'.ownBlock = some w7.heap.size) : OGo3 w h x y vs j sent (k - 1) vg' w8 := by
  have h1 := c.less
  have h2 := c.count
  have h3 := c.len
  rw [ba_length, strV_ba] at k1
  exact ⟨n', m', s', t', T, F, vt', vl', (a.came c).2 vg' k1 k2 k3, by omega, by omega, by omega, c.end_ rfl hj⟩
/-- Nothing lies about any more. -/
theorem done_go {w wr : World} {h : Nat} {x y : Blk} {sent : List Bytes} {n m : Nat} {s t : St} {tos : List Nat} {fs : List Bytes} {vt vl vs vg : Value} {j k : Nat} (a : Ost w h x y sent sent n m s t tos fs vt vl vs vg wr) (hn : n + m + weight (tos.zip fs) ≤ 120 + 2000 * (j + 1)) (hs : sent.length ≤ 120) (hj : Jn sent s t (tos.zip fs)) (hf : fs.length = 0) (hk : k + (j + 1) = 5) :
    OGo2 w h x y vs k vg (.int .i64 ((j : Int) + 1)) wr := by
  have e : fs = [] := List.length_eq_zero_iff.1 hf
  have hz : tos.zip fs = [] := by rw [e]; simp
  rw [hz] at hj
  exact ⟨j + 1, sent, n, m, s, t, tos, fs, vt, vl, hk, rfl, a, by omega, hs, by omega, .inr (Jn.done a.o hj)⟩
/-- What is taken is the beginning of what was sent: both rows, as they are compared. -/
theorem Ost.begins {w wr : World} {h : Nat} {x y : Blk} {sent : List Bytes} {n m : Nat} {s t : St} {tos : List Nat} {fs : List Bytes} {vt vl vs vg : Value} (a : Ost w h x y sent sent n m s t tos fs vt vl vs vg wr) (hl : sent.length ≤ 100000) :
    ∃ As cs Ag cg, vs = .slice As sent.length cs ∧ vg = .slice Ag t.taken cg ∧ t.taken ≤ sent.length ∧ sent.length ≤ cs ∧ t.taken ≤ cs ∧
      ∀ V, Below wr.heap.size wr V → Calls Try.prog 14 #[.slice Ag t.taken cg, .slice As t.taken cs] V fun e w' => e = .returned (.bool true) ∧ ∃ m, w' = V.drewN m := by
  obtain ⟨As, cs, rfl⟩ := L5.own_slice a.snt
  obtain ⟨Ag, cg, rfl⟩ := L5.own_slice a.got
  have htk := a.o.taken
  have hcs : sent.length ≤ cs := by
    rcases a.snt.2 with ⟨e1, h0⟩ | ⟨g, cap, cur, e1, _, _, h4, _⟩
    · simp only [Value.slice.injEq] at e1; omega
    · simp only [Value.slice.injEq] at e1; omega
  have hgl : (sent.take t.taken).length = t.taken := by rw [List.length_take]; omega
  refine ⟨As, cs, Ag, cg, rfl, rfl, htk, hcs, by omega, fun V hV => ?_⟩
  have g1 := L5.own_below a.got hV
  have g2 := L5.own_below a.snt hV
  have r1 : SRow V (.slice Ag t.taken cg) (ba (sent.take t.taken)) := srow_row (zs := sent.take t.taken) (by rw [hgl]; exact g1)
  have r2 := srow_row g2
  have r3 : SRow V (.slice As t.taken cs) (ba (sent.take t.taken)) := by
    obtain ⟨A', c', e, k⟩ := r2
    simp only [Value.slice.injEq] at e
    obtain ⟨rfl, _, rfl⟩ := e
    refine ⟨As, cs, by rw [ba_length, hgl], fun j z hj => ?_⟩
    have hjl := (List.getElem?_eq_some_iff.1 hj).1
    rw [ba_length, hgl] at hjl
    refine k j z ?_
    rw [← hj]
    unfold ba
    rw [List.map_take, List.getElem?_take_of_lt hjl]
  exact same_calls _ _ _ V r1 r3 (by rw [ba_length, hgl]; omega)
end Go.Proofs.Ytfmjjickgjkcbaa.L7
end
