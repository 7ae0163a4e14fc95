/- Layer 7, pure: frames, what a frame says, an end's acts. The map of what waits: keyed by numbers, a text each. An end in memory; contracts of link.New, Again, Open, State. Contract of (*link.End).frame: a frame, or what is wrong with it. -/
import Derived.Test.YtiodphkmllcjdaaGreatMsgG
import Derived.Test.YtiodphkmllcjdaaGreatInG
import Derived.Test.YtiodphkmllcjdaaGreatWBase
import Derived.Maps.OwnSet
import Derived.Test.YtiodphkmllcjdaaGreatQG
import Derived.Test.YtiodphkmllcjdaaGreatOfG
section
namespace Go.Proofs.YtiodphkmllcjdaaGreat.L7
open Go.ChangeShapes Go.WideShapes Go.ChangeAt Go.RowKit

abbrev Bytes := List UInt8
def privL (p : Nat) : Bytes := [105, UInt8.ofNat p]
def fmsg (q kind n : Nat) (ts : List Bytes) : Msg := ⟨kind, 0, 0, 0, 0, n, [(q : Int)], ts⟩
def signL (p : Nat) (r : Bytes × Nat) : Bytes × Nat := if r.2 = 0 then Tm.put [120] [privL p, r.1] else ([], r.2)
/-- A frame of p to q, or what is wrong with it. -/
def frameL (p q kind n : Nat) (ts : List Bytes) : Bytes × Nat := signL p (fmsg q kind n ts).pack

/-- What a frame says to an end. -/
inductive Rd where
  | bad (e : Nat)
  | ack (n : Nat)
  | data (n : Nat) (b : Bytes)
def forMe (me : Nat) (m : Msg) : Bool :=
  decide (m.mem = [(me : Int)]) && decide (m.e1 = 0 ∧ m.c1 = 0 ∧ m.e2 = 0 ∧ m.c2 = 0) && (decide (m.kind = 1 ∧ m.terms.length = 1 ∧ 1 ≤ m.num) || decide (m.kind = 2 ∧ m.terms.length = 0))
def rdOf (m : Msg) : Rd := if m.kind = 2 then .ack m.num.toNat else .data m.num.toNat (m.terms.getD 0 [])
def ReadsAs (me peer : Nat) (f : Bytes) (r : Rd) : Prop :=
  ((Tm.checkT f peer).2 ≠ 0 ∧ r = .bad (Tm.checkT f peer).2) ∨
  ((Tm.checkT f peer).2 = 0 ∧ (∀ m, Says (Tm.checkT f peer).1 m → forMe me m = false) ∧ r = .bad 2) ∨
  ((Tm.checkT f peer).2 = 0 ∧ ∃ m, Says (Tm.checkT f peer).1 m ∧ forMe me m = true ∧ r = rdOf m)
theorem reads_one {me peer : Nat} {f : Bytes} {r r' : Rd} (h : ReadsAs me peer f r) (h' : ReadsAs me peer f r') : r = r' := by
  rcases h with ⟨h1, rfl⟩ | ⟨h1, h2, rfl⟩ | ⟨h1, m, h2, h3, rfl⟩ <;> rcases h' with ⟨k1, rfl⟩ | ⟨k1, k2, rfl⟩ | ⟨k1, m', k2, k3, rfl⟩
  · rfl
  · exact absurd k1 h1
  · exact absurd k1 h1
  · exact absurd h1 k1
  · rfl
  · rw [h2 _ k2] at k3; exact Bool.noConfusion k3
  · exact absurd h1 k1
  · rw [k2 _ h2] at h3; exact Bool.noConfusion h3
  · rw [says_one h2 k2]

/-- An end: what was sent, what is open (frames), up to where all was taken, what waits. -/
structure St where
  me : Nat
  peer : Nat
  sent : Nat
  taken : Nat
  opens : List Bytes
  wait : Nat → Option Bytes
structure St.Ok (s : St) : Prop where
  me1 : 1 ≤ s.me
  me8 : s.me ≤ 8
  peer1 : 1 ≤ s.peer
  peer8 : s.peer ≤ 8
  sent : s.sent ≤ 2147483647
  taken : s.taken ≤ 2147483647
  room : s.opens.length ≤ 64
  opened : s.opens.length ≤ s.sent
  few : ∀ f ∈ s.opens, f.length ≤ 20000
  waits : ∀ n b, s.wait n = some b → s.taken + 1 < n ∧ n ≤ s.taken + 32 ∧ n ≤ 2147483647 ∧ b.length ≤ 20000
def newL (me peer : Nat) : St := ⟨me, peer, 0, 0, [], fun _ => none⟩
def St.come (s : St) : Nat := s.sent - s.opens.length
def sendL (s : St) (body : Bytes) : (Bytes × Nat) × St :=
  if Tm.right body = false then (([], 1), s)
  else if s.opens.length = 64 then (([], 5), s)
  else if (frameL s.me s.peer 1 (s.sent + 1) [body]).2 = 0 then (frameL s.me s.peer 1 (s.sent + 1) [body], { s with sent := s.sent + 1, opens := s.opens ++ [(frameL s.me s.peer 1 (s.sent + 1) [body]).1] })
  else (frameL s.me s.peer 1 (s.sent + 1) [body], s)
def ackL (s : St) (n : Nat) : Nat × St :=
  if s.sent < n then (1, s) else if n ≤ s.come then (7, s) else (0, { s with opens := s.opens.drop (n - s.come) })
def drain : Nat → Nat → (Nat → Option Bytes) → List Bytes
  | 0, _, _ => []
  | k + 1, t, w => match w (t + 1) with
    | none => []
    | some b => b :: drain k (t + 1) w
def putW (w : Nat → Option Bytes) (n : Nat) (b : Bytes) : Nat → Option Bytes := fun x => if x = n then some b else w x
/-- What waits is taken, as long as the next one does. -/
def drainL (s : St) : List Bytes × St := (drain 33 s.taken s.wait, { s with taken := s.taken + (drain 33 s.taken s.wait).length, wait := fun n => if n ≤ s.taken + (drain 33 s.taken s.wait).length then none else s.wait n })
def waitL (s : St) (n : Nat) (b : Bytes) : Nat × St :=
  if n ≤ s.taken then (7, s) else if s.taken + 32 < n then (5, s) else if (s.wait n).isSome = true then (7, s) else (0, { s with wait := putW s.wait n b })
def replyL (s : St) : Bytes := (frameL s.me s.peer 2 s.taken []).1
def dataL (s : St) (n : Nat) (b : Bytes) : (List Bytes × Bytes × Nat) × St :=
  if (waitL s n b).1 = 0 then (((drainL (waitL s n b).2).1, replyL (drainL (waitL s n b).2).2, 0), (drainL (waitL s n b).2).2)
  else (([], replyL s, (waitL s n b).1), s)
def takeL (s : St) : Rd → (List Bytes × Bytes × Nat) × St
  | .bad e => (([], [], e), s)
  | .ack n => (([], [], (ackL s n).1), (ackL s n).2)
  | .data n b => dataL s n b

theorem fmsg_len {q kind n : Nat} {ts : List Bytes} {t : Bytes} (h : (fmsg q kind n ts).pack = (t, 0)) : t.length ≤ 20000 := by
  obtain ⟨_, h2⟩ := Msg.pack_ok h
  obtain ⟨e, _, _, k, _⟩ := Tm.putRow_ok h2
  rw [e]; exact k
theorem put_len (hd : Bytes) (ps : List Bytes) : (Tm.put hd ps).1.length ≤ 20000 := by
  unfold Tm.put
  split
  · simp
  · split
    · simp
    · split
      · simp
      · rename_i h1 _
        simp only [List.length_append] at *
        omega
theorem frame_len (p q kind n : Nat) (ts : List Bytes) : (frameL p q kind n ts).1.length ≤ 20000 := by
  unfold frameL signL
  split
  · exact put_len _ _
  · simp
theorem drain_len : ∀ (k t : Nat) (w : Nat → Option Bytes), (drain k t w).length ≤ k
  | 0, _, _ => by simp [drain]
  | k + 1, t, w => by
    unfold drain
    split
    · simp
    · have := drain_len k (t + 1) w
      simp; omega
theorem drain_get : ∀ (k t : Nat) (w : Nat → Option Bytes) (i : Nat), i < (drain k t w).length → w (t + 1 + i) = (drain k t w)[i]?
  | 0, _, _, i, h => by simp [drain] at h
  | k + 1, t, w, i, h => by
    unfold drain at h ⊢
    split at h
    · simp at h
    · rename_i b hb
      cases i with
      | zero => simpa using hb
      | succ i =>
        have := drain_get k (t + 1) w i (by simpa using h)
        simp only [List.getElem?_cons_succ]
        rw [← this]
        congr 1
        omega
theorem drain_end : ∀ (k t : Nat) (w : Nat → Option Bytes), (drain k t w).length < k → w (t + 1 + (drain k t w).length) = none
  | 0, _, _, h => by simp at h
  | k + 1, t, w, h => by
    unfold drain at h ⊢
    split at h
    · rename_i hb
      simpa using hb
    · rename_i b hb
      have := drain_end k (t + 1) w (by simpa using h)
      simp only [List.length_cons]
      rw [← this]
      congr 1
      omega
theorem drain_none {k t : Nat} {w : Nat → Option Bytes} (h : w (t + 1) = none) : drain k t w = [] := by
  cases k with
  | zero => rfl
  | succ k => unfold drain; rw [h]
theorem drain_one : ∀ (k t : Nat) (w w' : Nat → Option Bytes), (∀ n, t < n → w n = w' n) → drain k t w = drain k t w'
  | 0, _, _, _, _ => rfl
  | k + 1, t, w, w', h => by
    unfold drain
    rw [h (t + 1) (by omega)]
    split
    · rfl
    · rw [drain_one k (t + 1) w w' (fun n hn => h n (by omega))]
theorem drain_more : ∀ (k j t : Nat) (w : Nat → Option Bytes), (drain k t w).length < k → k ≤ j → drain j t w = drain k t w
  | 0, _, _, _, h, _ => by simp at h
  | k + 1, 0, _, _, _, h => by omega
  | k + 1, j + 1, t, w, h, hj => by
    unfold drain at h ⊢
    split at h
    · rfl
    · rename_i b hb
      rw [drain_more k j (t + 1) w (by simpa using h) (by omega)]
/-- What waits lies within 32: the drain comes to its end. -/
theorem drain_few {t t0 : Nat} {w : Nat → Option Bytes} (h : ∀ n b, w n = some b → n ≤ t0 + 32) (ht : t0 ≤ t) : (drain 33 t w).length < 33 := by
  have h1 := drain_len 33 t w
  by_cases c : (drain 33 t w).length = 33
  · have h2 := drain_get 33 t w 32 (by omega)
    rw [List.getElem?_eq_getElem (by omega)] at h2
    have := h _ _ h2
    omega
  · omega

theorem waitL_ok {s : St} {n : Nat} {b : Bytes} (h0 : (waitL s n b).1 = 0) :
    s.taken < n ∧ n ≤ s.taken + 32 ∧ s.wait n = none ∧ (waitL s n b).2 = { s with wait := putW s.wait n b } := by
  unfold waitL at h0 ⊢
  split at h0
  · simp at h0
  · split at h0
    · simp at h0
    · split at h0
      · simp at h0
      · rename_i c1 c2 c3
        rw [if_neg c1, if_neg c2, if_neg c3]
        refine ⟨by omega, by omega, ?_, rfl⟩
        cases hw : s.wait n with
        | none => rfl
        | some x => rw [hw] at c3; simp at c3
theorem drainL_ok {s : St} (h1 : s.me ≤ 8 ∧ s.peer ≤ 8 ∧ 1 ≤ s.me ∧ 1 ≤ s.peer ∧ s.sent ≤ 2147483647 ∧ s.taken ≤ 2147483647 ∧ s.opens.length ≤ 64 ∧ s.opens.length ≤ s.sent ∧ ∀ f ∈ s.opens, f.length ≤ 20000)
    (hw : ∀ n b, s.wait n = some b → s.taken < n ∧ n ≤ s.taken + 32 ∧ n ≤ 2147483647 ∧ b.length ≤ 20000) : (drainL s).2.Ok := by
  obtain ⟨a1, a2, a3, a4, a5, a6, a7, a8, a9⟩ := h1
  have hf := drain_few (t := s.taken) (fun n b e => (hw n b e).2.1) (Nat.le_refl _)
  refine ⟨a3, a1, a4, a2, a5, ?_, a7, a8, a9, ?_⟩
  · show s.taken + (drain 33 s.taken s.wait).length ≤ 2147483647
    by_cases c : (drain 33 s.taken s.wait).length = 0
    · omega
    · have h2 := drain_get 33 s.taken s.wait ((drain 33 s.taken s.wait).length - 1) (by omega)
      rw [List.getElem?_eq_getElem (by omega)] at h2
      have := hw _ _ h2
      omega
  · intro n b hn
    have hn' : (if n ≤ s.taken + (drain 33 s.taken s.wait).length then none else s.wait n) = some b := hn
    split at hn'
    · simp at hn'
    · rename_i c
      obtain ⟨k1, k2, k3, k4⟩ := hw n b hn'
      have he := drain_end 33 s.taken s.wait hf
      refine ⟨?_, ?_, k3, k4⟩
      · show s.taken + (drain 33 s.taken s.wait).length + 1 < n
        by_cases e : n = s.taken + 1 + (drain 33 s.taken s.wait).length
        · rw [← e, hn'] at he; simp at he
        · omega
      · show n ≤ s.taken + (drain 33 s.taken s.wait).length + 32
        omega
theorem dataL_ok {s : St} (h : s.Ok) {n : Nat} {b : Bytes} (hn : n ≤ 2147483647) (hb : b.length ≤ 20000) : (dataL s n b).2.Ok := by
  unfold dataL
  split
  · rename_i c
    obtain ⟨k1, k2, k3, k4⟩ := waitL_ok c
    rw [k4]
    refine drainL_ok ⟨h.me8, h.peer8, h.me1, h.peer1, h.sent, h.taken, h.room, h.opened, h.few⟩ ?_
    intro x y hx
    have hx' : putW s.wait n b x = some y := hx
    unfold putW at hx'
    split at hx'
    · rename_i e
      cases hx'
      subst e
      exact ⟨k1, k2, hn, hb⟩
    · have := h.waits x y hx'
      exact ⟨by show s.taken < x; omega, by show x ≤ s.taken + 32; omega, by omega, this.2.2.2⟩
  · exact h
theorem ackL_ok {s : St} (h : s.Ok) (n : Nat) : (ackL s n).2.Ok := by
  unfold ackL
  split
  · exact h
  · split
    · exact h
    · have h1 := h.room
      have h2 := h.opened
      refine ⟨h.me1, h.me8, h.peer1, h.peer8, h.sent, h.taken, ?_, ?_, ?_, h.waits⟩
      · simp; omega
      · simp; omega
      · intro f hf; exact h.few f (List.mem_of_mem_drop hf)
theorem frame_num {p q kind n : Nat} {ts : List Bytes} (h : (frameL p q kind n ts).2 = 0) : n ≤ 2147483647 := by
  unfold frameL signL at h
  obtain ⟨⟨t, e⟩, hr⟩ : ∃ r, (fmsg q kind n ts).pack = r := ⟨_, rfl⟩
  rw [hr] at h
  by_cases c4 : e = 0
  · subst c4
    have ho := (Msg.pack_ok hr).1
    have := (Msg.ok_all ho).1 (n : Nat) (List.mem_append.2 (.inl (by simp [Msg.head, fmsg])))
    omega
  · rw [if_neg c4] at h
    exact absurd h c4
theorem sendL_ok {s : St} (h : s.Ok) (b : Bytes) : (sendL s b).2.Ok := by
  unfold sendL
  have hn := frame_num (p := s.me) (q := s.peer) (kind := 1) (n := s.sent + 1) (ts := [b])
  have hl := frame_len s.me s.peer 1 (s.sent + 1) [b]
  generalize frameL s.me s.peer 1 (s.sent + 1) [b] = r at *
  split
  · exact h
  · split
    · exact h
    · split
      · rename_i c1 c2 c3
        have h1 := h.room
        have h2 := h.opened
        refine ⟨h.me1, h.me8, h.peer1, h.peer8, hn c3, h.taken, ?_, ?_, ?_, h.waits⟩
        · simp; omega
        · simp; omega
        · intro f hf
          rcases List.mem_append.1 hf with hf | hf
          · exact h.few f hf
          · simp only [List.mem_cons, List.not_mem_nil, or_false] at hf
            rw [hf]
            exact hl
      · exact h
theorem newL_ok {me peer : Nat} (h1 : 1 ≤ me) (h2 : me ≤ 8) (h3 : 1 ≤ peer) (h4 : peer ≤ 8) : (newL me peer).Ok :=
  ⟨h1, h2, h3, h4, by simp [newL], by simp [newL], by simp [newL], by simp [newL], by simp [newL], fun n b hb => by simp [newL] at hb⟩
/-- What a frame says is bounded. -/
def Rd.Fit : Rd → Prop
  | .bad _ => True
  | .ack n => n ≤ 2147483647
  | .data n b => 1 ≤ n ∧ n ≤ 2147483647 ∧ b.length ≤ 20000 ∧ Tm.right b = true
theorem reads_fit {me peer : Nat} {f : Bytes} {r : Rd} (h : ReadsAs me peer f r) : r.Fit := by
  rcases h with ⟨h1, rfl⟩ | ⟨h1, h2, rfl⟩ | ⟨h1, m, h2, h3, rfl⟩
  · trivial
  · trivial
  · obtain ⟨zs, _, _, ho⟩ := h2
    obtain ⟨k1, _, _, k4⟩ := Msg.ok_all ho
    have k := k1 m.num (List.mem_append.2 (.inl (by simp [Msg.head])))
    unfold rdOf
    split
    · show m.num.toNat ≤ 2147483647
      omega
    · rename_i c
      unfold forMe at h3
      simp only [Bool.and_eq_true, Bool.or_eq_true, decide_eq_true_eq] at h3
      rcases h3.2 with ⟨a1, a2, a3⟩ | ⟨a1, a2⟩
      · show 1 ≤ m.num.toNat ∧ m.num.toNat ≤ 2147483647 ∧ (m.terms.getD 0 []).length ≤ 20000 ∧ Tm.right (m.terms.getD 0 []) = true
        match ht : m.terms, a2 with
        | [b], _ =>
          rw [ht] at k4
          have hd := (Tm.wrongIn_cons k4).1
          refine ⟨by omega, by omega, ?_, ?_⟩
          · show b.length ≤ 20000
            exact Tm.depthOf_short hd
          · exact (Tm.right_iff _).2 hd
      · exact absurd a1 c
theorem takeL_ok {s : St} (h : s.Ok) {r : Rd} (hr : r.Fit) : (takeL s r).2.Ok := by
  cases r with
  | bad e => exact h
  | ack n => exact ackL_ok h n
  | data n b => exact dataL_ok h hr.2.1 hr.2.2.1
end Go.Proofs.YtiodphkmllcjdaaGreat.L7
end

section
namespace Go.Proofs.YtiodphkmllcjdaaGreat.L7
open Go.ChangeShapes Go.WideShapes Go.ChangeAt Go.RowKit
open Go.Maps (Keyed)
open Go.ChangeMaps Go.MapKept

def heldV (v : Value) : Option (DataW Value × List MemPlace) := some (.held v, [])
def earlyV (b : Bytes) : Value := .agg #[.string ⟨b.toArray⟩]
theorem keyed_int : Keyed Tryz.prog 3 := Maps.int_keyed Tryz.underlying3
theorem key_int {k : Nat} (hk : k ≤ 4294967296) : keyOf Tryz.prog 3 (.int .i64 (k : Int)) = some (.int .i64 (k : Int)) := by
  refine Maps.keyOf_int_mk Tryz.underlying3 ?_
  have hx : (-9223372036854775808 : Int) ≤ k ∧ (k : Int) ≤ 9223372036854775807 := by omega
  simpa [Lit.wf, IntKind.min, IntKind.max, IntKind.signed, IntKind.bits] using hx
theorem lit_int (k : Int) : WideAt.IsKeyLit (.int .i64 k) := by simp [WideAt.IsKeyLit]

/-- What waits, in memory. -/
def MapI (W : World) (b n : Nat) (F : Nat → Option Bytes) : Prop :=
  ∃ D : DataW Value, W.ownsMap Tryz.prog 3 heldV b n D ∧ ∀ (k : Nat) (z : DataW Value), D.atKey (.int .i64 (k : Int)) z = match F k with | some v => .held (earlyV v) | none => z

theorem MapI.made (W : World) : MapI (W.alloc (.map #[] 0)) W.heap.size 0 (fun _ => none) :=
  ⟨.map [], World.ownsMap_made W _ _ _, fun k z => by simp [DataW.atKey]⟩
theorem MapI.lt {W : World} {b n : Nat} {F : Nat → Option Bytes} (h : MapI W b n F) : b < W.heap.size := by
  obtain ⟨D, h1, h2⟩ := h
  exact h1.lt
theorem MapI.same {W W' : World} {b n : Nat} {F : Nat → Option Bytes} (h : MapI W b n F) (hb : W'.heap[b]? = W.heap[b]?) : MapI W' b n F := by
  obtain ⟨D, ⟨es, clock, h1, h2⟩, h3⟩ := h
  exact ⟨D, ⟨es, clock, hb.trans h1, h2⟩, h3⟩
theorem MapI.block {W : World} {b n : Nat} {F : Nat → Option Bytes} (h : MapI W b n F) : ∃ es clock, W.heap[b]? = some (.map es clock) := by
  obtain ⟨D, ⟨es, clock, h1, _⟩, _⟩ := h
  exact ⟨es, clock, h1⟩
def lookV (o : Option Bytes) : Value := .tuple #[earlyV (o.getD []), .bool o.isSome]
theorem zero_early (W : World) : (zeroValue 158).run Tryz.prog W = .ok (.agg #[.string ⟨#[]⟩]) W := by kernel_rfl
theorem MapI.look {W : World} {b n : Nat} {F : Nat → Option Bytes} (h : MapI W b n F) {k : Nat} (hk : k ≤ 4294967296) :
    (Instr.lookup 75 (.map (some b)) (.int .i64 (k : Int)) true).run Tryz.prog W = .ok (lookV (F k)) W := by
  obtain ⟨D, h1, h2⟩ := h
  obtain ⟨v, ps, hrun, hv⟩ := h1.look_ok keyed_int Tryz.underlying75 (zero_early W) (zd := .held (.agg #[.string ⟨#[]⟩])) (zp := []) rfl (key_int hk)
  rw [hrun]
  have h3 := h2 k
  simp only [heldV, Option.some.injEq, Prod.mk.injEq] at hv
  unfold lookV
  cases hF : F k with
  | none =>
    simp only [hF] at h3
    rw [h3] at hv
    rw [Maps.has_false_of_atKey h3]
    have h4 := hv.1
    simp at h4
    rw [h4]
    rfl
  | some u =>
    simp only [hF] at h3
    rw [h3] at hv
    rw [Maps.has_true_of_atKey h3]
    have h4 := hv.1
    simp at h4
    rw [h4]
    rfl
theorem MapI.set {W : World} {b n : Nat} {F : Nat → Option Bytes} (h : MapI W b n F) (hn : n < maxLen) {k : Nat} (hk : k ≤ 4294967296) (v : Bytes) :
    ∃ W', (Instr.mapUpdate 75 (.map (some b)) (.int .i64 (k : Int)) (earlyV v)).run Tryz.prog W = .ok () W' ∧ MapI W' b (n + 1) (putW F k v) ∧ W.grownBy W' (some b) ∧ W'.heap.size = W.heap.size := by
  obtain ⟨D, h1, h2⟩ := h
  obtain ⟨W', hrun, h3, h4⟩ := h1.store keyed_int Tryz.underlying75 hn (key_int hk) (d := .held (earlyV v)) (ps := []) rfl
  refine ⟨W', hrun, ⟨_, h3, fun x z => ?_⟩, h4.grown, ?_⟩
  · unfold putW
    by_cases hx : x = k
    · subst hx
      rw [Maps.atKey_put_same h1.isMap (lit_int _), if_pos rfl]
    · rw [Maps.atKey_put_other (by simp only [ne_eq, Lit.int.injEq, true_and]; omega), h2 x z, if_neg hx]
  · obtain ⟨es, clock, es', clock', _, rfl⟩ := h4
    simp [setBlock]
def dropW (F : Nat → Option Bytes) (k : Nat) : Nat → Option Bytes := fun x => if x = k then none else F x
theorem MapI.drop {W : World} {b n : Nat} {F : Nat → Option Bytes} (h : MapI W b n F) {k : Nat} (hk : k ≤ 4294967296) (ty : TypeId) :
    ∃ W', (Builtin.delete_ #[75, 3] ty #[.map (some b), .int .i64 (k : Int)]).run Tryz.prog W = .ok (.tuple #[]) W' ∧ MapI W' b n (dropW F k) ∧ W.grownBy W' (some b) ∧ W'.heap.size = W.heap.size := by
  obtain ⟨D, h1, h2⟩ := h
  obtain ⟨W', hrun, h3, h4⟩ := h1.drop keyed_int Tryz.underlying75 (key_int hk) ty
  refine ⟨W', hrun, ⟨_, h3, fun x z => ?_⟩, h4.grown, ?_⟩
  · unfold dropW
    by_cases hx : x = k
    · subst hx
      rw [Maps.atKey_del_same, if_pos rfl]
    · rw [Maps.atKey_del_other (by simp only [ne_eq, Lit.int.injEq, true_and]; omega), h2 x z, if_neg hx]
  · obtain ⟨es, clock, es', clock', _, rfl⟩ := h4
    simp [setBlock]
end Go.Proofs.YtiodphkmllcjdaaGreat.L7
end

section
namespace Go.Proofs.YtiodphkmllcjdaaGreat.L7
open Go.ChangeShapes Go.WideShapes Go.ChangeAt Go.RowKit L6

/-- An end's blocks: its own, the queue's, the channel, the map. -/
structure Blk where
  g : Nat
  q : Nat
  c : Nat
  b : Nat
def Blk.In (x : Blk) (k : Nat) : Prop := k = x.g ∨ k = x.c ∨ k = x.b
def Blk.Above (x : Blk) (B : Nat) : Prop := B ≤ x.g ∧ B ≤ x.q ∧ B ≤ x.c ∧ B ≤ x.b
def ba (l : List Bytes) : List ByteArray := l.map fun x => ⟨x.toArray⟩
theorem ba_length (l : List Bytes) : (ba l).length = l.length := by simp [ba]
theorem ba_append (l r : List Bytes) : ba (l ++ r) = ba l ++ ba r := by simp [ba]
theorem ba_drop (l : List Bytes) (n : Nat) : ba (l.drop n) = (ba l).drop n := by simp [ba]
def endCells (x : Blk) (s : St) : Array Value := #[.int .i64 s.me, .int .i64 s.peer, .int .i64 s.sent, .pointer (some ⟨x.q, 0, none⟩), .int .i64 s.taken, .map (some x.b)]
structure EndAt (W : World) (x : Blk) (n : Nat) (s : St) : Prop where
  own : W.heap[x.g]? = some (.cells (endCells x s) 77 (0, 0))
  queue : QAt W x.q x.c 64 (ba s.opens)
  map : MapI W x.b n s.wait
  ok : s.Ok

/-- All that lay there, but for these blocks, is as it was. -/
structure Only (F : Nat → Prop) (w w' : World) : Prop where
  os : w'.os = w.os
  tape : w'.tape = w.tape
  output : w'.output = w.output
  size : w.heap.size ≤ w'.heap.size
  block : ∀ k, k < w.heap.size → ¬ F k → w'.heap[k]? = w.heap[k]?
theorem Only.refl (F : Nat → Prop) (w : World) : Only F w w := ⟨rfl, rfl, rfl, Nat.le_refl _, fun _ _ _ => rfl⟩
theorem Only.trans {F : Nat → Prop} {a b c : World} (h : Only F a b) (k : Only F b c) : Only F a c :=
  ⟨k.os.trans h.os, k.tape.trans h.tape, k.output.trans h.output, Nat.le_trans h.size k.size, fun q hq hr => (k.block q (Nat.lt_of_lt_of_le hq h.size) hr).trans (h.block q hq hr)⟩
theorem Only.mono {F G : Nat → Prop} {a b : World} (h : Only F a b) (hi : ∀ k, k < a.heap.size → F k → G k) : Only G a b := ⟨h.os, h.tape, h.output, h.size, fun k hk hn => h.block k hk (fun hf => hn (hi k hk hf))⟩
theorem Only.of_below {F : Nat → Prop} {a b : World} (h : Below a.heap.size a b) : Only F a b := ⟨h.os, h.tape, h.output, h.size, fun k hk _ => h.block k hk⟩
theorem Only.of_grown {F : Nat → Prop} {a b : World} {r : Nat} (h : a.grownBy b (some r)) (hr : F r) : Only F a b := ⟨h.os, h.tape, h.output, h.size, fun k hk hn => h.block k hk (fun e => hn (by cases e; exact hr))⟩
theorem Only.of_grown_none {F : Nat → Prop} {a b : World} (h : a.grownBy b none) : Only F a b := ⟨h.os, h.tape, h.output, h.size, fun k hk _ => h.block k hk (by simp)⟩
theorem Only.below {F : Nat → Prop} {a b c : World} {B : Nat} (h : Below B a b) (k : Only F b c) (hB : B ≤ b.heap.size) (hF : ∀ q, F q → B ≤ q) : Below B a c :=
  ⟨k.os.trans h.os, k.tape.trans h.tape, k.output.trans h.output, Nat.le_trans h.size k.size, fun q hq => (k.block q (Nat.lt_of_lt_of_le hq hB) (fun hf => by have := hF q hf; omega)).trans (h.block q hq)⟩
theorem Only.drewN {F : Nat → Prop} {a b : World} (h : Only F a b) (n : Nat) : Only F a (b.drewN n) := ⟨h.os, h.tape, h.output, h.size, h.block⟩
theorem Only.setCell {F : Nat → Prop} {a b : World} (h : Only F a b) {p : Addr} (hp : F p.block ∨ a.heap.size ≤ p.block) (u : Value) : Only F a (b.setCell p u) :=
  ⟨h.os, h.tape, h.output, by simpa using h.size, fun k hk hn => by
    rw [RowKit.Below.heap_setCell _ _ _ _ (fun e => by subst e; rcases hp with hp | hp; exact hn hp; omega)]
    exact h.block k hk hn⟩
theorem Only.alloc {F : Nat → Prop} {a b : World} (h : Only F a b) (o : Obj) : Only F a (b.alloc o) :=
  h.trans (Only.of_below ((Below.refl _ b).alloc (Nat.le_refl _) _))

theorem EndAt.lt {W : World} {x : Blk} {n : Nat} {s : St} (h : EndAt W x n s) : x.g < W.heap.size ∧ x.q < W.heap.size ∧ x.c < W.heap.size ∧ x.b < W.heap.size :=
  ⟨(Array.getElem?_eq_some_iff.1 h.own).1, h.queue.lt.1, h.queue.lt.2, h.map.lt⟩
theorem EndAt.apart {W : World} {x : Blk} {n : Nat} {s : St} (h : EndAt W x n s) : x.g ≠ x.q ∧ x.g ≠ x.c ∧ x.g ≠ x.b ∧ x.q ≠ x.c ∧ x.q ≠ x.b ∧ x.c ≠ x.b := by
  obtain ⟨s1, r1, e1⟩ := h.queue.chan
  obtain ⟨es, clock, e2⟩ := h.map.block
  have e3 := h.queue.own
  have e4 := h.own
  refine ⟨?_, ?_, ?_, ?_, ?_, ?_⟩ <;> intro e
  · rw [e, e3] at e4; simp [endCells] at e4
  · rw [e, e1] at e4; simp at e4
  · rw [e, e2] at e4; simp at e4
  · rw [e, e1] at e3; simp at e3
  · rw [e, e2] at e3; simp at e3
  · rw [e, e2] at e1; simp at e1
theorem EndAt.same {W W' : World} {x : Blk} {n : Nat} {s : St} (h : EndAt W x n s) (hs : ∀ k, k = x.g ∨ k = x.q ∨ k = x.c ∨ k = x.b → W'.heap[k]? = W.heap[k]?) : EndAt W' x n s :=
  ⟨(hs x.g (by simp)).trans h.own, h.queue.same (hs _ (by simp)) (hs _ (by simp)), h.map.same (hs _ (by simp)), h.ok⟩
theorem EndAt.below {W W' : World} {x : Blk} {n : Nat} {s : St} (h : EndAt W x n s) (hb : Below W.heap.size W W') : EndAt W' x n s :=
  h.same fun k hk => hb.block k (by have := h.lt; rcases hk with rfl | rfl | rfl | rfl <;> omega)
theorem EndAt.drewN {W : World} {x : Blk} {n : Nat} {s : St} (h : EndAt W x n s) (m : Nat) : EndAt (W.drewN m) x n s := h.same fun _ _ => rfl
theorem EndAt.drew {W : World} {x : Blk} {n : Nat} {s : St} (h : EndAt W x n s) : EndAt W.drew x n s := h.same fun _ _ => rfl
/-- Another end's acts leave this one as it was. -/
theorem EndAt.other {W W' : World} {x y : Blk} {n m : Nat} {s t : St} (h : EndAt W x n s) (h' : EndAt W y m t) (hc : x.c ≠ y.c) (hg : x.g ≠ y.g) (hb : x.b ≠ y.b) (ho : Only y.In W W') : EndAt W' x n s := by
  obtain ⟨s1, r1, e1⟩ := h.queue.chan
  obtain ⟨s2, r2, e2⟩ := h'.queue.chan
  obtain ⟨_, _, e3⟩ := h.map.block
  obtain ⟨_, _, e4⟩ := h'.map.block
  have e5 := h.queue.own
  have e6 := h.own
  have e7 := h'.own
  have hl := h.lt
  refine h.same fun k hk => ho.block k (by rcases hk with rfl | rfl | rfl | rfl <;> omega) ?_
  rintro (e | e | e)
  · rcases hk with rfl | rfl | rfl | rfl
    · exact hg e
    · rw [e, e7] at e5; simp [endCells] at e5
    · rw [e, e7] at e1; simp at e1
    · rw [e, e7] at e3; simp at e3
  · rcases hk with rfl | rfl | rfl | rfl
    · rw [e, e2] at e6; simp at e6
    · rw [e, e2] at e5; simp at e5
    · exact hc e
    · rw [e, e2] at e3; simp at e3
  · rcases hk with rfl | rfl | rfl | rfl
    · rw [e, e4] at e6; simp at e6
    · rw [e, e4] at e5; simp at e5
    · rw [e, e4] at e1; simp at e1
    · exact hb e
theorem EndAt.cells {W : World} {x : Blk} {n : Nat} {s : St} (h : EndAt W x n s) : W.cell? ⟨x.g, 0, none⟩ = some (.int .i64 s.me) ∧ W.cell? ⟨x.g, 1, none⟩ = some (.int .i64 s.peer) ∧ W.cell? ⟨x.g, 2, none⟩ = some (.int .i64 s.sent) ∧ W.cell? ⟨x.g, 3, none⟩ = some (.pointer (some ⟨x.q, 0, none⟩)) ∧ W.cell? ⟨x.g, 4, none⟩ = some (.int .i64 s.taken) ∧ W.cell? ⟨x.g, 5, none⟩ = some (.map (some x.b)) := by
  have e := h.own
  refine ⟨?_, ?_, ?_, ?_, ?_, ?_⟩ <;> (simp only [World.cell?]; rw [e]; rfl)

set_option maxHeartbeats 400000 in
theorem isProcess_calls (p : Int) (w : World) : Calls Tryz.prog 37 #[.int .i64 p] w fun e w' => e = .returned (.bool (decide (1 ≤ p ∧ p ≤ 8))) ∧ w = w' := by
  by_cases h1 : 1 ≤ p
  · by_cases h2 : p ≤ 8
    · rw [decide_eq_true (And.intro h1 h2)]
      go_enter Tryz.func37, Tryz.ntmps37
      go_wp2
      go_ret
      exact ⟨rfl, rfl⟩
    · rw [decide_eq_false (fun h => h2 h.2)]
      go_enter Tryz.func37, Tryz.ntmps37
      go_wp2
      go_ret
      exact ⟨rfl, rfl⟩
  · rw [decide_eq_false (fun h => h1 h.1)]
    go_enter Tryz.func37, Tryz.ntmps37
    go_wp2
    go_ret
    exact ⟨rfl, rfl⟩

def NewNo (w : World) (e : Ending) (w' : World) : Prop := e = .returned (.tuple #[.pointer none, .int .i64 1]) ∧ w = w'
set_option maxHeartbeats 1000000 in
theorem new_no (me peer : Int) (h : ¬ (1 ≤ me ∧ me ≤ 8 ∧ 1 ≤ peer ∧ peer ≤ 8 ∧ me ≠ peer)) (w : World) : Calls Tryz.prog 16 #[.int .i64 me, .int .i64 peer] w (NewNo w) := by
  have H1 := isProcess_calls me w
  have H2 := isProcess_calls peer w
  by_cases h1 : 1 ≤ me ∧ me ≤ 8
  · rw [decide_eq_true h1] at H1
    by_cases h2 : 1 ≤ peer ∧ peer ≤ 8
    · rw [decide_eq_true h2] at H2
      have h3 : me = peer := by omega
      subst h3
      have H1 := Lib.hid H1
      clear h h1 h2 H2
      go_enter Tryz.func16, Tryz.ntmps16
      go_wp2_with (go_at_call 37; refine H1.out.mono ?_; rintro e w1 ⟨rfl, rfl⟩)
      go_ret2
      exact ⟨rfl, rfl⟩
    · rw [decide_eq_false h2] at H2
      have H1 := Lib.hid H1
      have H2 := Lib.hid H2
      clear h h1 h2
      go_enter Tryz.func16, Tryz.ntmps16
      go_wp2_with fail
      refine H1.out.mono ?_
      rintro e w1 ⟨rfl, rfl⟩
      go_wp2_with fail
      refine H2.out.mono ?_
      rintro e w1 ⟨rfl, rfl⟩
      go_wp2
      go_ret2
      exact ⟨rfl, rfl⟩
  · rw [decide_eq_false h1] at H1
    have H1 := Lib.hid H1
    clear h h1 H2
    go_enter Tryz.func16, Tryz.ntmps16
    go_wp2_with fail
    refine H1.out.mono ?_
    rintro e w1 ⟨rfl, rfl⟩
    go_wp2
    go_ret2
    exact ⟨rfl, rfl⟩

def NewYes (w : World) (a b : Nat) (e : Ending) (w' : World) : Prop := ∃ x : Blk, e = .returned (.tuple #[.pointer (some ⟨x.g, 0, none⟩), .int .i64 0]) ∧ EndAt w' x 0 (newL a b) ∧ Below w.heap.size w w' ∧ x.Above w.heap.size
set_option maxHeartbeats 1000000 in
theorem new_calls (a b : Nat) (ha : 1 ≤ a) (ha8 : a ≤ 8) (hb : 1 ≤ b) (hb8 : b ≤ 8) (hab : a ≠ b) (w : World) : Calls Tryz.prog 16 #[.int .i64 a, .int .i64 b] w (NewYes w a b) := by
  have H1 := isProcess_calls a w
  have H2 := isProcess_calls b w
  rw [decide_eq_true (by omega)] at H1 H2
  have H1 := Lib.hid H1
  have H2 := Lib.hid H2
  have HQ := Lib.hid (New_calls 64 w)
  have hq : ((a : Int) == (b : Int)) = false := by simp; omega
  have HO := Lib.hid (newL_ok ha ha8 hb hb8)
  clear ha ha8 hb hb8 hab
  go_enter Tryz.func16, Tryz.ntmps16
  go_wp2_with fail
  refine H1.out.mono ?_
  rintro e w1 ⟨rfl, rfl⟩
  go_wp2_with fail
  refine H2.out.mono ?_
  rintro e w1 ⟨rfl, rfl⟩
  go_wp2_with fail
  refine HQ.out.mono ?_
  rintro e w1 ⟨_, hyes⟩
  obtain ⟨rfl, hqa, hb, hz⟩ := hyes 64 rfl (by omega) (by omega)
  have hfin : Hid (NewYes w a b (.returned (.tuple #[.pointer (some ⟨w1.heap.size + 1, 0, none⟩), .int .i64 0])) ((w1.alloc (.map #[] 0)).alloc (.cells #[.int .i64 a, .int .i64 b, .int .i64 0, .pointer (some ⟨w.heap.size + 1, 0, none⟩), .int .i64 0, .map (some w1.heap.size)] 77))) := by
    have b1 : Below w1.heap.size w1 ((w1.alloc (.map #[] 0)).alloc (.cells #[.int .i64 a, .int .i64 b, .int .i64 0, .pointer (some ⟨w.heap.size + 1, 0, none⟩), .int .i64 0, .map (some w1.heap.size)] 77)) := ((Below.refl _ w1).alloc (Nat.le_refl _) _).alloc (by simp) _
    refine ⟨⟨w1.heap.size + 1, w.heap.size + 1, w.heap.size, w1.heap.size⟩, rfl, ⟨?_, ?_, ?_, HO.out⟩, hb.trans (b1.mono (by omega)), ?_⟩
    · have := World.alloc_heap_new (w1.alloc (.map #[] 0)) (.cells #[.int .i64 a, .int .i64 b, .int .i64 0, .pointer (some ⟨w.heap.size + 1, 0, none⟩), .int .i64 0, .map (some w1.heap.size)] 77)
      rw [World.size_alloc] at this
      exact this
    · exact hqa.below b1
    · exact (MapI.made w1).same (Below.heap_alloc _ _ _ (by simp))
    · simp only [Blk.Above]; omega
  clear hyes hqa hb hz HO
  have hmm := @run_makeMap Tryz.prog
  go_wp2
  go_ret2
  exact hfin.out

set_option maxHeartbeats 400000 in
theorem open_calls {w : World} {x : Blk} {n : Nat} {s : St} (h : EndAt w x n s) : Calls Tryz.prog 9 #[.pointer (some ⟨x.g, 0, none⟩)] w fun e w' => e = .returned (.int .i64 s.opens.length) ∧ w = w' := by
  obtain ⟨h0, h1, h2, h3, h4, h5⟩ := h.cells
  have HL := Lib.hid (Len_calls h.queue)
  rw [ba_length] at HL
  clear h
  go_enter Tryz.func9, Tryz.ntmps9
  go_wp2_with fail
  refine HL.out.mono ?_
  rintro e w1 ⟨rfl, rfl⟩
  go_wp2
  go_ret
  exact ⟨rfl, rfl⟩

def StateOut (w : World) (s : St) (e : Ending) (w' : World) : Prop := e = .returned (.tuple #[.int .i64 s.sent, .int .i64 s.taken]) ∧ ∃ m, w' = w.drewN m
set_option maxHeartbeats 400000 in
theorem state_calls {w : World} {x : Blk} {n : Nat} {s : St} (h : EndAt w x n s) : Calls Tryz.prog 8 #[.pointer (some ⟨x.g, 0, none⟩)] w (StateOut w s) := by
  obtain ⟨h0, h1, h2, h3, h4, h5⟩ := h.cells
  clear h
  go_enter Tryz.func8, Tryz.ntmps8
  go_wp2
  go_quiet (fail)
  go_wp2
  go_ret2
  exact ⟨rfl, _, rfl⟩

def AgainOut (w : World) (x : Blk) (n : Nat) (s : St) (e : Ending) (w' : World) : Prop :=
  ∃ v, e = .returned v ∧ w'.ownsRow w.heap.size 46 1 v s.opens.length (strs s.opens) ∧ EndAt w' x n s ∧ Only x.In w w'
set_option maxHeartbeats 400000 in
theorem again_calls {w : World} {x : Blk} {n : Nat} {s : St} (h : EndAt w x n s) : Calls Tryz.prog 22 #[.pointer (some ⟨x.g, 0, none⟩)] w (AgainOut w x n s) := by
  obtain ⟨h0, h1, h2, h3, h4, h5⟩ := h.cells
  have HR := Lib.hid (Rest_calls h.queue (by rw [ba_length]; exact h.ok.room) (by omega))
  have HF : Hid (∀ (w' : World) v, w'.ownsRow w.heap.size 46 1 v (ba s.opens).length (strV (ba s.opens)) → QAt w' x.q x.c 64 (ba s.opens) → w.grownBy w' (some x.c) → AgainOut w x n s (.returned v) w') := by
    intro w' v k1 k2 k3
    have e : strV (ba s.opens) = strs s.opens := by simp [strV, ba, strs]
    rw [ba_length, e] at k1
    have hl := h.lt
    have ha := h.apart
    exact ⟨v, rfl, k1, ⟨(k3.block _ hl.1 (fun e => ha.2.1 (Option.some.inj e))).trans h.own, k2, h.map.same (k3.block _ hl.2.2.2 (fun e => ha.2.2.2.2.2 (Option.some.inj e).symm)), h.ok⟩, Only.of_grown k3 (.inr (.inl rfl))⟩
  clear h
  go_enter Tryz.func22, Tryz.ntmps22
  go_wp2_with fail
  refine HR.out.mono ?_
  rintro e w1 ⟨v, rfl, k1, k2, k3⟩
  have HF' := Lib.hid (HF.out _ _ k1 k2 k3)
  clear k1 k2 k3 HF
  go_wp2
  go_ret
  exact HF'.out
end Go.Proofs.YtiodphkmllcjdaaGreat.L7
end

section
namespace Go.Proofs.YtiodphkmllcjdaaGreat.L7
open Go.ChangeShapes Go.WideShapes Go.ChangeAt Go.RowKit L6

theorem ints_one {W : World} {b : Nat} {y : Int} {t : TypeId} (h : W.heap[b]? = some (.cells #[.int .i64 y] t (0, 0))) (h1 : -9223372036854775808 ≤ y) (h2 : y ≤ 9223372036854775807) : IntsA W (.slice (some ⟨b, 0, none⟩) 1 1) [y] := by
  refine ⟨⟨_, _, rfl, fun j x hx => ?_⟩, ?_, by simp [maxLen]⟩
  · refine ⟨⟨b, 0, none⟩, rfl, (Array.getElem?_eq_some_iff.1 h).1, ?_⟩
    match j, hx with
    | 0, hx =>
      simp at hx
      subst hx
      have e : (⟨b, 0, none⟩ : Addr).add 0 = ⟨b, 0, none⟩ := rfl
      rw [e]
      simp only [World.cell?]
      rw [h]
      rfl
    | j + 1, hx => simp at hx
  · intro x hx
    simp only [List.mem_cons, List.not_mem_nil, or_false] at hx
    subst hx
    exact ⟨h1, h2⟩

set_option maxRecDepth 100000 in
set_option maxHeartbeats 1000000 in
theorem frame_calls {w : World} {x : Blk} {n : Nat} {s : St} (h : EndAt w x n s) (kind num : Nat) (vt : Value) (ts : List Bytes) (ht : RowA w vt ts) (hnil : ∀ n c, vt = .slice none n c → c = 0) :
    Calls Tryz.prog 40 #[.pointer (some ⟨x.g, 0, none⟩), .int .i64 kind, .int .i64 num, vt] w (Pair2 w (frameL s.me s.peer kind num ts)) := by
  obtain ⟨h0, h1, h2, h3, h4, h5⟩ := h.cells
  have hok := h.ok
  have hl := h.lt
  have b1 : Below w.heap.size w (w.alloc (.cells #[.int .i64 s.peer] 3)) := (Below.refl _ w).alloc (Nat.le_refl _) _
  have hP := lpack_calls (fmsg s.peer kind num ts) (.slice (some ⟨w.heap.size, 0, none⟩) 1 1) vt (w.alloc (.cells #[.int .i64 s.peer] 3))
    ⟨ints_one (World.alloc_heap_new w _) (by omega) (by have := hok.peer8; omega), ht.below b1⟩ hnil
  have HPv := Lib.hid (fun W => Private_calls s.me (by have := hok.me1; omega) (by have := hok.me8; omega) W)
  have hpr : ∀ c : Nat, (⟨#[105, UInt8.ofNat ((c : Int)).toNat]⟩ : ByteArray) = ⟨(privL c).toArray⟩ := fun c => rfl
  rw [hpr] at HPv
  have HSg : Hid (∀ (t : Bytes), t.length ≤ 20000 → ∀ W, Calls Tryz.prog 14 #[.string ⟨(privL s.me).toArray⟩, .string ⟨t.toArray⟩] W (Pair2 W (Tm.put [120] [privL s.me, t]))) := fun t ht W => by
    have := Sign_calls ⟨(privL s.me).toArray⟩ ⟨t.toArray⟩ (by rw [size_list]; simp [privL, maxLen]) (by rw [size_list]; unfold maxLen; omega) W
    simpa using this
  have HC : Hid (∀ V : World, Below w.heap.size w V → V.cell? ⟨x.g, 0, none⟩ = some (.int .i64 s.me)) := fun V hV => (hV.cell (p := ⟨x.g, 0, none⟩) hl.1).trans h0
  unfold frameL signL
  obtain ⟨⟨t, er⟩, hr⟩ : ∃ r, (fmsg s.peer kind num ts).pack = r := ⟨_, rfl⟩
  have hshort := Lib.hid (fun (e : er = 0) => fmsg_len (t := t) (hr.trans (by rw [e])))
  rw [hr] at hP ⊢
  have HP := Lib.hid hP
  have HB := Lib.hid b1
  unfold msgCells fmsg at HP
  generalize privL s.me = pv at *
  obtain ⟨vA, vn, vc, rfl⟩ : ∃ A n c, vt = .slice A n c := ⟨_, _, _, ht.reads.choose_spec.choose_spec.1⟩
  clear h hP hr hpr ht hok b1
  by_cases her : er = 0
  · subst her
    have hshort := Lib.hid (hshort.out rfl)
    have HSg := Lib.hid (HSg.out t hshort.out)
    rw [if_pos rfl]
    obtain ⟨⟨u, er⟩, hr⟩ : ∃ r, Tm.put [120] [pv, t] = r := ⟨_, rfl⟩
    rw [hr] at HSg
    show Calls _ _ _ _ (Pair2 w (Tm.put [120] [pv, t]))
    rw [hr]
    clear hr hshort
    go_enter Tryz.func40, Tryz.ntmps40
    go_wp2_with fail
    refine HP.out.mono ?_
    rintro e w1 ⟨rfl, b1⟩
    have HB1 := Lib.hid (HB.out.trans (b1.mono HB.out.size))
    have k0 := HC.out w1 HB1.out
    clear b1 HC
    go_wp2_with fail
    refine (HPv.out _).mono ?_
    rintro e w2 ⟨rfl, b2⟩
    have HB2 := Lib.hid (HB1.out.trans (b2.mono HB1.out.size))
    clear b2
    go_wp2_with fail
    refine (HSg.out _).mono ?_
    rintro e w3 ⟨rfl, b3⟩
    have HB3 := Lib.hid (HB2.out.trans (b3.mono HB2.out.size))
    clear b3
    go_wp2
    go_ret2
    exact ⟨rfl, HB3.out⟩
  · rw [if_neg her]
    have hne : ((er : Int) != 0) = true := by simp; omega
    clear HSg HPv hshort her
    go_enter Tryz.func40, Tryz.ntmps40
    go_wp2_with fail
    refine HP.out.mono ?_
    rintro e w1 ⟨rfl, b1⟩
    have HB1 := Lib.hid (HB.out.trans (b1.mono HB.out.size))
    clear b1
    go_wp2
    go_ret2
    exact ⟨rfl, HB1.out⟩
end Go.Proofs.YtiodphkmllcjdaaGreat.L7
end
