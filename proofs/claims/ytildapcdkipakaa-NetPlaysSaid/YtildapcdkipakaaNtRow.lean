/- A net in memory: its row of datagrams, three cells each, and the map of what was heard. -/
import Derived.Test.YtildapcdkipakaaWBase
import Derived.Test.YtildapcdkipakaaTop
import Derived.Maps.OwnSet
import Derived.Sort.KeysCollected
namespace Go.Proofs.Ytildapcdkipakaa.L8
open Go.ChangeShapes Go.WideShapes Go.ChangeAt Go.RowKit Go.Deep
open Go.Maps (Keyed has)

abbrev Bytes := List UInt8
def isInt (a : Int) : Prop := -9223372036854775808 ≤ a ∧ a ≤ 9223372036854775807
/-- A datagram. -/
structure Dg where
  src : Int
  dst : Int
  fr : Bytes
def Dg.cells (d : Dg) : List Value := [.int .i64 d.src, .int .i64 d.dst, .string ⟨d.fr.toArray⟩]
def Dg.val (d : Dg) : Value := .agg #[.int .i64 d.src, .int .i64 d.dst, .string ⟨d.fr.toArray⟩]
def flat (l : List Dg) : List Value := (l.map Dg.cells).flatten
theorem flat_nil : flat [] = [] := rfl
theorem flat_cons (d : Dg) (l : List Dg) : flat (d :: l) = d.cells ++ flat l := by simp [flat]
theorem flat_append (a b : List Dg) : flat (a ++ b) = flat a ++ flat b := by simp [flat]
theorem flat_one (d : Dg) : flat [d] = d.cells := by simp [flat]
theorem flat_len (l : List Dg) : (flat l).length = l.length * 3 := by
  induction l with
  | nil => rfl
  | cons d l ih => rw [flat_cons, List.length_append, ih]; simp [Dg.cells]; omega
theorem flat_get : ∀ {l : List Dg} {i : Nat} {d : Dg}, l[i]? = some d → ∀ j, j < 3 → (flat l)[i * 3 + j]? = d.cells[j]?
  | [], i, d, h => by simp at h
  | a :: l, 0, d, h => by
    simp at h
    subst h
    intro j hj
    rw [flat_cons, List.getElem?_append_left (by simp [Dg.cells]; omega)]
    congr 1
    omega
  | a :: l, i + 1, d, h => by
    intro j hj
    rw [flat_cons, List.getElem?_append_right (by simp [Dg.cells]; omega)]
    have := flat_get (l := l) (i := i) (d := d) (by simpa using h) j hj
    rw [← this]
    congr 1
    simp [Dg.cells]
    omega
theorem flat_take : ∀ (l : List Dg) (i : Nat), (flat l).take (i * 3) = flat (l.take i)
  | [], i => by simp [flat]
  | d :: l, 0 => by simp [flat]
  | d :: l, i + 1 => by
    rw [flat_cons, List.take_append, List.take_succ_cons, flat_cons, ← flat_take l i]
    have h1 : d.cells.length = 3 := rfl
    rw [List.take_of_length_le (by rw [h1]; omega), h1, show (i + 1) * 3 - 3 = i * 3 by omega]
theorem flat_drop : ∀ (l : List Dg) (i : Nat), (flat l).drop (i * 3) = flat (l.drop i)
  | [], i => by simp [flat]
  | d :: l, 0 => by simp [flat]
  | d :: l, i + 1 => by
    rw [flat_cons, List.drop_append, List.drop_succ_cons, ← flat_drop l i]
    have h1 : d.cells.length = 3 := rfl
    rw [List.drop_of_length_le (by rw [h1]; omega), h1, show (i + 1) * 3 - 3 = i * 3 by omega]
    simp
theorem flat_one_cell (l : List Dg) : ∀ u ∈ flat l, u.oneCell' = true := by
  intro u hu
  obtain ⟨cs, hcs, h⟩ := List.mem_flatten.1 hu
  obtain ⟨d, _, rfl⟩ := List.mem_map.1 hcs
  simp only [Dg.cells, List.mem_cons, List.not_mem_nil, or_false] at h
  rcases h with rfl | rfl | rfl <;> rfl

/-- What was heard, in memory: the map's keys, each once. -/
def heldE (v : Value) : Option (DataW Value × List MemPlace) := some (.held v, [])
theorem keyed_term : Keyed Try.prog 34 := Maps.string_keyed Try.underlying34
theorem key_term {k : Bytes} (hk : k.length ≤ maxLen) : keyOf Try.prog 34 (.string ⟨k.toArray⟩) = some (.string k) := by
  have h := WideMaps.keyOf_string_mk (P := Try.prog) Try.underlying34 (s := ⟨k.toArray⟩) (by show k.toArray.size ≤ _; simpa using hk)
  simpa using h
def MapH (W : World) (b n : Nat) (hs : List Bytes) : Prop :=
  ∃ D : DataW Value, W.ownsMap Try.prog 34 heldE b n D ∧ hs.Nodup ∧ ∀ x, x ∈ hs ↔ has D (.string x) = true
def putH (hs : List Bytes) (k : Bytes) : List Bytes := if k ∈ hs then hs else hs ++ [k]
theorem putH_nodup {hs : List Bytes} (h : hs.Nodup) (k : Bytes) : (putH hs k).Nodup := by
  unfold putH
  split
  · exact h
  · rename_i c
    exact List.nodup_append.2 ⟨h, by simp, fun a ha b hb e => by simp at hb; subst hb; subst e; exact c ha⟩
theorem mem_putH {hs : List Bytes} {k x : Bytes} : x ∈ putH hs k ↔ x ∈ hs ∨ x = k := by
  unfold putH
  split
  · rename_i c
    exact ⟨.inl, fun h => h.elim id (fun e => by rw [e]; exact c)⟩
  · simp
theorem MapH.made (W : World) : MapH (W.alloc (.map #[] 0)) W.heap.size 0 [] :=
  ⟨.map [], World.ownsMap_made W _ _ _, List.nodup_nil, fun x => by simp [Maps.has]⟩
theorem MapH.lt {W : World} {b n : Nat} {hs : List Bytes} (h : MapH W b n hs) : b < W.heap.size := by
  obtain ⟨D, h1, _⟩ := h
  exact h1.lt
theorem MapH.same {W W' : World} {b n : Nat} {hs : List Bytes} (h : MapH W b n hs) (hb : W'.heap[b]? = W.heap[b]?) : MapH W' b n hs := by
  obtain ⟨D, ⟨es, clock, h1, h2⟩, h3⟩ := h
  exact ⟨D, ⟨es, clock, hb.trans h1, h2⟩, h3⟩
theorem MapH.block {W : World} {b n : Nat} {hs : List Bytes} (h : MapH W b n hs) : ∃ es clock, W.heap[b]? = some (.map es clock) := by
  obtain ⟨D, ⟨es, clock, h1, _⟩, _⟩ := h
  exact ⟨es, clock, h1⟩
theorem MapH.set {W : World} {b n : Nat} {hs : List Bytes} (h : MapH W b n hs) (hn : n < maxLen) {k : Bytes} (hk : k.length ≤ maxLen) (v : Value) :
    ∃ W', (Instr.mapUpdate 74 (.map (some b)) (.string ⟨k.toArray⟩) v).run Try.prog W = .ok () W' ∧ MapH W' b (n + 1) (putH hs k) ∧ W.grownBy W' (some b) := by
  obtain ⟨D, h1, h2, h3⟩ := h
  obtain ⟨W', hrun, k3, k4⟩ := h1.update keyed_term Try.underlying74 hn (key_term hk) (d := .held v) (ps := []) rfl
  refine ⟨W', hrun, ⟨_, k3, putH_nodup h2 k, fun x => ?_⟩, k4⟩
  rw [mem_putH]
  by_cases hx : x = k
  · subst hx
    rw [Maps.has_put_same h1.isMap (by simp [WideAt.IsKeyLit])]
    simp
  · rw [Maps.has_put_other (by simpa using hx), ← h3 x]
    simp [hx]
/-- A net in memory. -/
structure NtAt (W : World) (B h : Nat) (l : List Dg) (v : Value) (b n : Nat) (hs : List Bytes) : Prop where
  own : W.heap[h]? = some (.cells #[v, .map (some b)] 76 (0, 0))
  base : B ≤ h ∧ B ≤ b
  row : W.ownsRow B 36 3 v l.length (flat l)
  map : MapH W b n hs
def NtIn (h : Nat) (v : Value) (b k : Nat) : Prop := k = h ∨ k = b ∨ v.ownBlock = some k
theorem NtAt.lt {W : World} {B h : Nat} {l : List Dg} {v : Value} {b n : Nat} {hs : List Bytes} (a : NtAt W B h l v b n hs) : h < W.heap.size := (Array.getElem?_eq_some_iff.1 a.own).1
theorem NtAt.inlt {W : World} {B h : Nat} {l : List Dg} {v : Value} {b n : Nat} {hs : List Bytes} (a : NtAt W B h l v b n hs) {k : Nat} (hk : NtIn h v b k) : B ≤ k ∧ k < W.heap.size := by
  rcases hk with rfl | rfl | e
  · exact ⟨a.base.1, a.lt⟩
  · exact ⟨a.base.2, a.map.lt⟩
  · exact a.row.lt k e
theorem NtAt.same {W W' : World} {B h : Nat} {l : List Dg} {v : Value} {b n : Nat} {hs : List Bytes} (a : NtAt W B h l v b n hs) (hs' : ∀ k, NtIn h v b k → W'.heap[k]? = W.heap[k]?) : NtAt W' B h l v b n hs :=
  ⟨(hs' h (.inl rfl)).trans a.own, a.base, L5.own_same a.row (fun q e => hs' q (.inr (.inr e))), a.map.same (hs' b (.inr (.inl rfl)))⟩
theorem NtAt.below {W W' : World} {B h : Nat} {l : List Dg} {v : Value} {b n : Nat} {hs : List Bytes} (a : NtAt W B h l v b n hs) (hb : Below W.heap.size W W') : NtAt W' B h l v b n hs := a.same fun k hk => hb.block k (a.inlt hk).2
theorem NtAt.cells {W : World} {B h : Nat} {l : List Dg} {v : Value} {b n : Nat} {hs : List Bytes} (a : NtAt W B h l v b n hs) : W.cell? ⟨h, 0, none⟩ = some v ∧ W.cell? ⟨h, 1, none⟩ = some (.map (some b)) ∧ W.frozen? ⟨h, 0, none⟩ = false := by
  have e := a.own
  refine ⟨?_, ?_, ?_⟩
  · simp only [World.cell?]; rw [e]; rfl
  · simp only [World.cell?]; rw [e]; rfl
  · simp only [World.frozen?]; rw [e]; simp
theorem NtAt.apart {W : World} {B h : Nat} {l : List Dg} {v : Value} {b n : Nat} {hs : List Bytes} (a : NtAt W B h l v b n hs) : h ≠ b ∧ v.ownBlock ≠ some h ∧ v.ownBlock ≠ some b := by
  obtain ⟨es, clock, e1⟩ := a.map.block
  have e2 := a.own
  refine ⟨fun e => ?_, fun e => ?_, fun e => ?_⟩
  · rw [e, e1] at e2; simp at e2
  · rcases a.row.2 with ⟨e3, _⟩ | ⟨g, cap, cur, e3, _, e4, _⟩
    · rw [e3] at e; cases e
    · rw [e3] at e
      obtain rfl : g = h := by cases e; rfl
      rw [e2] at e4
      simp at e4
  · rcases a.row.2 with ⟨e3, _⟩ | ⟨g, cap, cur, e3, _, e4, _⟩
    · rw [e3] at e; cases e
    · rw [e3] at e
      obtain rfl : g = b := by cases e; rfl
      rw [e1] at e4
      simp at e4
theorem NtAt.reown {W W' : World} {B h : Nat} {l : List Dg} {v : Value} {b n : Nat} {hs : List Bytes} (a : NtAt W B h l v b n hs) {n' : Nat} {hs' : List Bytes} (m : MapH W' b n' hs') (hg : W.grownBy W' (some b)) : NtAt W' B h l v b n' hs' := by
  obtain ⟨p1, p2, p3⟩ := a.apart
  refine ⟨(hg.block h a.lt (fun e => p1 (by cases e; rfl))).trans a.own, a.base, L5.own_same a.row (fun q e => hg.block q (a.row.lt q e).2 (fun e' => p3 (by rw [e, ← e']))), m⟩
end Go.Proofs.Ytildapcdkipakaa.L8
